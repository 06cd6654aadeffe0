/- A thing is written, and read: the laws' own write and read. -/
import Derived.Test.YthhlgjedgbdgcaaWTh
namespace Go.Proofs.Ythhlgjedgbdgcaa
open Go.RowKit

/-- The bytes of a thing. -/
def wthing (x : Tg) : List Nat := if x.kind = 1 then Vy.enc x.n.toNat else if x.kind = 2 then Wr.wbool (decide (x.n = 1)) else if x.kind = 3 then Wr.wnums x.l else []
/-- The greatest of numbers. -/
def top (l : List Int) : Int := l.foldl max 0
/-- A thing is read: is it that one? -/
def rthing (s : Wr.St) (x : Tg) : Bool × Wr.St :=
  if x.kind = 1 then (decide ((Wr.num s x.n.toNat).1 = x.n.toNat), (Wr.num s x.n.toNat).2)
  else if x.kind = 2 then (decide ((Wr.num s 1).1 = 1) == decide (x.n = 1), (Wr.num s 1).2)
  else if x.kind = 3 then (decide (ns (Wr.nums s x.l.length (top x.l).toNat).1 = x.l), (Wr.nums s x.l.length (top x.l).toNat).2)
  else (true, s)

theorem WPost.unalloc {l : List Nat} {S : Nat → Prop} {g : Nat} {w w' : World} {e : Ending} {o : Obj} (h : WPost l S g (w.alloc o) e w') : WPost l S g w e w' := by
  obtain ⟨he, S', h1, h2, h3⟩ := h
  refine ⟨he, S', h1, ((Fr.refl S w).alloc o).same h2, fun k hk => ?_⟩
  rcases h3 k hk with h | h
  · exact .inl h
  · simp at h; exact .inr (by omega)
theorem WPost.none {l : List Nat} {S : Nat → Prop} {g : Nat} {w : World} {o : Obj} (h : Wtr w S g l) : WPost l S g w (.returned (.tuple #[])) (w.alloc o) :=
  ⟨rfl, S, h.alloc o, (Fr.refl S w).alloc o, fun _ h => .inl h⟩

set_option maxRecDepth 100000 in
set_option maxHeartbeats 1000000 in
theorem write_any (x : Tg) (Ax : Option Addr) (c : Nat) (l : List Nat) (S : Nat → Prop) (g : Nat) (w : World) (B : Nat) (h : Wtr w S g l) (hr : Rd w B Ax (ins x.l)) (hB : B ≤ w.heap.size) (hS : ∀ k, S k → B ≤ k)
    (hx : 0 ≤ x.n ∧ x.l.length ≤ 40 ∧ ∀ n ∈ x.l, 0 ≤ n) (hn : x.n < 9223372036854775808) (hxs : ∀ n ∈ x.l, n < 9223372036854775808) (hl : l.length ≤ 10000000000) :
    Calls Try.prog 9 #[.pointer (some ⟨g, 0, none⟩), .agg (x.cells Ax c)] w (WPost (l ++ wthing x) S g w) := by
  obtain ⟨xk, xn, xl, xe⟩ := x
  simp only at hr hx hn hxs
  obtain ⟨hx0, hx40, hxp⟩ := hx
  obtain ⟨n, rfl⟩ : ∃ n : Nat, xn = (n : Int) := ⟨xn.toNat, by omega⟩
  have HW := Lib.hid h
  have HWA := Lib.hid (h.alloc (.cells #[.int .i64 xk, .int .i64 n, .slice Ax xl.length c, .int .i64 xe] 32))
  have HRA := Lib.hid (hr.alloc hB (.cells #[.int .i64 xk, .int .i64 n, .slice Ax xl.length c, .int .i64 xe] 32))
  have HS := Lib.hid hS
  have HX : Hid (∀ n ∈ xl, 0 ≤ n ∧ n < 9223372036854775808) := fun n hn => ⟨hxp n hn, hxs n hn⟩
  clear h hr hS hxp hxs
  unfold Tg.cells
  simp only
  by_cases h1 : xk = 1
  · have HE : Hid (wthing ⟨xk, n, xl, xe⟩ = Vy.enc n) := by unfold wthing; rw [if_pos h1]; exact rfl
    subst h1
    go_enter Try.func9, Try.ntmps9
    go_wp2_with fail
    refine (wnum_any n l S g _ HWA.out (by omega) (by omega)).mono ?_
    rintro e w1 h1
    have h2 := h1.unalloc
    obtain ⟨rfl, _⟩ := h1
    have H2 := Lib.hid h2; clear h2
    go_wp2_with fail
    go_end0
    rw [HE.out]; exact H2.out
  · have h1' : (xk == 1) = false := by simpa using h1
    by_cases h2 : xk = 2
    · have HE : Hid (wthing ⟨xk, n, xl, xe⟩ = Wr.wbool (decide ((n : Int) = 1))) := by unfold wthing; rw [if_neg h1, if_pos h2]; exact rfl
      subst h2
      go_enter Try.func9, Try.ntmps9
      go_wp2_with fail
      rw [show ((n : Int) == 1) = decide ((n : Int) = 1) from rfl]
      refine (wbool_any (decide ((n : Int) = 1)) l S g _ HWA.out (by omega)).mono ?_
      rintro e w1 h1
      have h2 := h1.unalloc
      obtain ⟨rfl, _⟩ := h1
      have H2 := Lib.hid h2; clear h2
      go_wp2_with fail
      go_end0
      rw [HE.out]; exact H2.out
    · have h2' : (xk == 2) = false := by simpa using h2
      by_cases h3 : xk = 3
      · have HE : Hid (wthing ⟨xk, n, xl, xe⟩ = Wr.wnums xl) := by unfold wthing; rw [if_neg h1, if_neg h2, if_pos h3]; exact rfl
        subst h3
        go_enter Try.func9, Try.ntmps9
        go_wp2_with fail
        refine (wnums_any Ax xl.length c xl l S g _ B HWA.out rfl (by omega) HRA.out (by simp; omega) (HRA.out.notin HS.out) HX.out (by omega)).mono ?_
        rintro e w1 h1
        have h2 := h1.unalloc
        obtain ⟨rfl, _⟩ := h1
        have H2 := Lib.hid h2; clear h2
        go_wp2_with fail
        go_end0
        rw [HE.out]; exact H2.out
      · have h3' : (xk == 3) = false := by simpa using h3
        have HE : Hid (wthing ⟨xk, n, xl, xe⟩ = []) := by unfold wthing; rw [if_neg h1, if_neg h2, if_neg h3]; exact rfl
        clear h1 h2 h3
        go_enter Try.func9, Try.ntmps9
        go_wp2_with fail
        go_end0
        rw [HE.out, List.append_nil]; exact WPost.none HW.out

theorem int_is (n m : Nat) : ((n : Int) == (m : Int)) = decide (n = m) := by rw [Bool.eq_iff_iff]; simp; omega
theorem RPost.unalloc {v : Value} {s : Wr.St} {B g : Nat} {w w' : World} {e : Ending} {o : Obj} (h : RPost v s B g (w.alloc o) e w') : RPost v s B g w e w' := ⟨h.1, h.2.1, ((Fr.refl _ w).alloc o).same h.2.2⟩
theorem top_snoc (l : List Int) {k : Nat} (h : k < l.length) : top (l.take (k + 1)) = max (top (l.take k)) l[k] := by
  unfold top; rw [List.take_succ_eq_append_getElem h, List.foldl_append]; rfl
theorem fold_le : ∀ (l : List Int) (a : Int), a ≤ l.foldl max a
  | [], a => Int.le_refl a
  | n :: l, a => by have := fold_le l (max a n); rw [List.foldl_cons]; omega
theorem fold_lt : ∀ (l : List Int) (a : Int) (_ : ∀ n ∈ l, n < 9223372036854775808), a < 9223372036854775808 → l.foldl max a < 9223372036854775808
  | [], _, _, ha => ha
  | n :: l, a, h, ha => by have := h n (by simp); exact fold_lt l (max a n) (fun m hm => h m (by simp [hm])) (by omega)
theorem fold_ge : ∀ (l : List Int) (a : Int), ∀ n ∈ l, n ≤ l.foldl max a
  | [], _, n, h => by simp at h
  | m :: l, a, n, h => by
    rw [List.foldl_cons]
    rcases List.mem_cons.1 h with rfl | h
    · have := fold_le l (max a n); omega
    · exact fold_ge l (max a m) n h
theorem top_pos (l : List Int) : 0 ≤ top l := fold_le l 0
theorem top_lt (l : List Int) (h : ∀ n ∈ l, n < 9223372036854775808) : top l < 9223372036854775808 := fold_lt l 0 h (by decide)
theorem le_top (l : List Int) : ∀ n ∈ l, n ≤ top l := fold_ge l 0

set_option maxRecDepth 100000 in
set_option maxHeartbeats 2000000 in
theorem read_any (x : Tg) (Ax : Option Addr) (c : Nat) (s : Wr.St) (B g : Nat) (w : World) (B' : Nat) (h : Rdr w B g s) (hr : Rd w B' Ax (ins x.l)) (hB : B' ≤ w.heap.size) (hg : B' ≤ g)
    (hx : 0 ≤ x.n ∧ x.l.length ≤ 40 ∧ ∀ n ∈ x.l, 0 ≤ n) (hn : x.n < 9223372036854775808) (hxs : ∀ n ∈ x.l, n < 9223372036854775808) :
    Calls Try.prog 27 #[.pointer (some ⟨g, 0, none⟩), .agg (x.cells Ax c)] w (RPost (.bool (rthing s x).1) (rthing s x).2 B g w) := by
  obtain ⟨xk, xn, xl, xe⟩ := x
  simp only at hr hx hn hxs
  obtain ⟨hx0, hx40, hxp⟩ := hx
  obtain ⟨n, rfl⟩ : ∃ n : Nat, xn = (n : Int) := ⟨xn.toNat, by omega⟩
  have hlt := h.lt
  have HW := Lib.hid h
  have HWA := Lib.hid (h.alloc (.cells #[.int .i64 xk, .int .i64 n, .slice Ax xl.length c, .int .i64 xe] 32))
  have HRA := Lib.hid (hr.alloc hB (.cells #[.int .i64 xk, .int .i64 n, .slice Ax xl.length c, .int .i64 xe] 32))
  have HK := Lib.hid (Bk.new w 32 #[.int .i64 xk, .int .i64 n, .slice Ax xl.length c, .int .i64 xe])
  have HX : Hid (∀ n ∈ xl, 0 ≤ n ∧ n < 9223372036854775808) := fun n hn => ⟨hxp n hn, hxs n hn⟩
  clear h hr hxp hxs
  unfold Tg.cells
  simp only
  by_cases h1 : xk = 1
  · have HE : Hid (rthing s ⟨xk, n, xl, xe⟩ = (decide ((Wr.num s n).1 = n), (Wr.num s n).2)) := by unfold rthing; rw [if_pos h1]; exact rfl
    subst h1
    go_enter Try.func27, Try.ntmps27
    go_wp2_with fail
    go_region_held3 (fun w' => w'.cell? ⟨w.heap.size, 1, none⟩ = some (.int .i64 n)) (first | exact HK.out.cell 1 | exact hc9) (first
      | (go_at_call 15; ((with_reducible refine (num_any B g s n _ HWA.out.drew (by omega)).mono ?_); rintro e w1 ⟨rfl, hr1, hf1⟩; have HR1 := Lib.hid hr1; have HF1 := Lib.hid hf1.undrew; have hc9 : w1.cell? ⟨w.heap.size, 1, none⟩ = some (.int .i64 n) := ((HK.out.fr hf1.undrew (by omega)).cell 1); clear hr1 hf1)))
    go_wp2_with fail
    go_ret
    refine ⟨?_, by rw [HE.out]; exact HR1.out, ((Fr.refl _ w).alloc _).same HF1.out⟩
    rw [HE.out, ← int_is]; rfl
  · have h1' : (xk == 1) = false := by simpa using h1
    by_cases h2 : xk = 2
    · have HE : Hid (rthing s ⟨xk, n, xl, xe⟩ = (decide ((Wr.num s 1).1 = 1) == decide ((n : Int) = 1), (Wr.num s 1).2)) := by unfold rthing; rw [if_neg h1, if_pos h2]; exact rfl
      subst h2
      go_enter Try.func27, Try.ntmps27
      go_wp2_with fail
      go_region_held3 (fun w' => w'.cell? ⟨w.heap.size, 1, none⟩ = some (.int .i64 n)) (first | exact HK.out.cell 1 | exact hc9) (first
        | (go_at_call 17; ((with_reducible refine (bool_any B g s _ HWA.out.drew).mono ?_); rintro e w1 ⟨rfl, hr1, hf1⟩; have HR1 := Lib.hid hr1; have HF1 := Lib.hid hf1.undrew; have hc9 : w1.cell? ⟨w.heap.size, 1, none⟩ = some (.int .i64 n) := ((HK.out.fr hf1.undrew (by omega)).cell 1); clear hr1 hf1)))
      go_wp2_with fail
      go_ret
      refine ⟨?_, by rw [HE.out]; exact HR1.out, ((Fr.refl _ w).alloc _).same HF1.out⟩
      rw [HE.out]; rfl
    · have h2' : (xk == 2) = false := by simpa using h2
      by_cases h3 : xk = 3
      · have HE : Hid (rthing s ⟨xk, n, xl, xe⟩ = (decide (ns (Wr.nums s xl.length (top xl).toNat).1 = xl), (Wr.nums s xl.length (top xl).toNat).2)) := by unfold rthing; rw [if_neg h1, if_neg h2, if_pos h3]; exact rfl
        subst h3
        have htop : top xl < 9223372036854775808 := top_lt xl fun n hn => (HX.out n hn).2
        go_enter Try.func27, Try.ntmps27
        go_wp2_with fail
        go_loop [5, 32] (fun t i => ∃ k : Nat, k ≤ xl.length ∧ i = .int .i64 k ∧ t = .int .i64 (top (xl.take k))) (fun _ i => xl.length - (intOf i).toNat)
        case atStart => exact ⟨0, Nat.zero_le _, rfl, rfl⟩
        case round =>
          obtain ⟨k, hk, rfl, rfl⟩ := hrel
          by_cases hlt : k < xl.length
          · obtain ⟨bx, ox, rfl, _, hcx⟩ := HRA.out.int hlt
            have HS := Lib.hid (top_snoc xl hlt)
            generalize xl[k] = m at *
            generalize top (xl.take k) = t at *
            go_wp2_with fail
            go_round
            case rel => exact ⟨k + 1, by omega, by go_num, by rw [HS.out]; congr 1; split <;> omega⟩
            case measure => simp [intOf]; omega
          · have et : top (xl.take k) = top xl := by rw [List.take_of_length_le (by omega)]
            have hp := top_pos xl
            obtain ⟨tn, htn⟩ : ∃ tn : Nat, top xl = (tn : Int) := ⟨(top xl).toNat, by omega⟩
            rw [htn] at htop
            have HT : Hid ((top xl).toNat = tn) := by unfold Hid; omega
            have hnl := Wr.nums_len s xl.length tn
            rw [et, htn]
            clear et htn hp
            go_wp2_with fail
            go_region_held3 (fun w' => w'.cell? ⟨w.heap.size, 2, none⟩ = some (.slice Ax xl.length c)) (first | exact HK.out.cell 2 | exact hc9) (first
              | (go_at_call 19; ((with_reducible refine (nums_any B g s xl.length tn _ HWA.out.drew (by omega) (by omega)).mono ?_); rintro e w1 ⟨v1, rfl, ho1, hr1, hf1⟩; obtain ⟨A1, c1, hv1, _⟩ := own_slice ho1; subst hv1; have HO1 := Lib.hid ho1; have HR1 := Lib.hid hr1; have HF1 := Lib.hid hf1.undrew; have HRX : Hid (Rd w1 B' Ax (ins xl)) := HRA.out.below (hf1.undrew.below (by simp; omega) (fun k hk => by omega)); have hs1 : B' ≤ w1.heap.size := Nat.le_trans hB (Nat.le_trans (by simp) hf1.undrew.size); have hc9 : w1.cell? ⟨w.heap.size, 2, none⟩ = some (.slice Ax xl.length c) := ((HK.out.fr hf1.undrew (by omega)).cell 2); clear hr1 hf1 ho1))
              | (go_at_call 18; ((with_reducible refine (isame_any A1 Ax _ xl.length c1 c (ns (Wr.nums s xl.length tn).1) xl _ w1.heap.size (by rw [ns_len]) rfl (by omega) (Rd.own HO1.out) (HRX.out.more hs1)).mono ?_); rintro e w2 ⟨rfl, q, rfl⟩)))
            go_wp2_with fail
            go_ret
            refine ⟨?_, ?_, ?_⟩
            · rw [HE.out, HT.out]; rfl
            · rw [HE.out, HT.out]; exact HR1.out.drewN q
            · exact (((Fr.refl _ w).alloc _).same HF1.out).drewN q
      · have h3' : (xk == 3) = false := by simpa using h3
        have HE : Hid (rthing s ⟨xk, n, xl, xe⟩ = (true, s)) := by unfold rthing; rw [if_neg h1, if_neg h2, if_neg h3]; exact rfl
        clear h1 h2 h3
        go_enter Try.func27, Try.ntmps27
        go_wp2_with fail
        go_ret
        exact ⟨by rw [HE.out]; rfl, by rw [HE.out]; exact HW.out.alloc _, (Fr.refl _ w).alloc _⟩
end Go.Proofs.Ythhlgjedgbdgcaa
