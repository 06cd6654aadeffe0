/- WireBack: what is written is read; bytes that are cut go wrong, and so does a byte behind. -/
import Derived.Test.YthhlgjedgbdgcaaWReads
namespace Go.Proofs.Ythhlgjedgbdgcaa
open Go.RowKit

theorem ns_nat : ∀ (l : List Int) (_ : ∀ n ∈ l, 0 ≤ n), ns (l.map Int.toNat) = l
  | [], _ => rfl
  | n :: l, h => by
    have h1 := h n (by simp)
    have h2 := ns_nat l fun m hm => h m (by simp [hm])
    show (n.toNat : Int) :: ns (l.map Int.toNat) = n :: l
    rw [h2, Int.toNat_of_nonneg h1]
theorem look_top {x : Tg} (h : Look x) : ∀ n ∈ x.l, 0 ≤ n ∧ n < 9223372036854775808 ∧ n.toNat ≤ (top x.l).toNat := fun n hn =>
  ⟨h.1.2.2 n hn, h.2.2 n hn, by have := le_top x.l n hn; omega⟩
/-- A thing is read as it was written. -/
theorem rthing_back (x : Tg) (h : Look x) (r : List Nat) : rthing ⟨wthing x ++ r, 0⟩ x = (true, ⟨r, 0⟩) := by
  unfold rthing wthing
  by_cases h1 : x.kind = 1
  · have hn := h.2.1
    have h0 := h.1.1
    simp only [if_pos h1]
    rw [Wr.num_enc x.n.toNat x.n.toNat (by omega) (Nat.le_refl _) r]
    simp
  · simp only [if_neg h1]
    by_cases h2 : x.kind = 2
    · simp only [if_pos h2]
      by_cases hn : x.n = 1
      · have e : Wr.wbool (decide (x.n = 1)) = Vy.enc 1 := by rw [decide_eq_true hn]; exact Wr.enc_one.symm
        rw [e, Wr.num_enc 1 1 (by decide) (Nat.le_refl _) r]
        simp [hn]
      · have e : Wr.wbool (decide (x.n = 1)) = Vy.enc 0 := by rw [decide_eq_false hn]; exact Wr.enc_zero.symm
        rw [e, Wr.num_enc 0 1 (by decide) (by decide) r]
        simp [hn]
    · simp only [if_neg h2]
      by_cases h3 : x.kind = 3
      · have hl := h.1.2.1
        simp only [if_pos h3]
        rw [Wr.nums_enc x.l (top x.l).toNat (by omega) (look_top h) r]
        simp only [Prod.mk.injEq, and_true, decide_eq_true_eq]
        exact ns_nat x.l h.1.2.2
      · simp only [if_neg h3, List.nil_append]
/-- A thing that is cut is too short. -/
theorem rthing_cut (x : Tg) (h : Look x) (k : Nat) (hk : k < (wthing x).length) : (rthing ⟨(wthing x).take k, 0⟩ x).2 = ⟨[], 3⟩ := by
  unfold rthing
  unfold wthing at hk ⊢
  by_cases h1 : x.kind = 1
  · have hn := h.2.1
    have h0 := h.1.1
    simp only [if_pos h1] at hk ⊢
    rw [Wr.num_cut x.n.toNat x.n.toNat k (by omega) hk]
  · simp only [if_neg h1] at hk ⊢
    by_cases h2 : x.kind = 2
    · simp only [if_pos h2] at hk ⊢
      by_cases hn : x.n = 1
      · have e : Wr.wbool (decide (x.n = 1)) = Vy.enc 1 := by rw [decide_eq_true hn]; exact Wr.enc_one.symm
        rw [e] at hk ⊢
        rw [Wr.num_cut 1 1 k (by decide) hk]
      · have e : Wr.wbool (decide (x.n = 1)) = Vy.enc 0 := by rw [decide_eq_false hn]; exact Wr.enc_zero.symm
        rw [e] at hk ⊢
        rw [Wr.num_cut 0 1 k (by decide) hk]
    · simp only [if_neg h2] at hk ⊢
      by_cases h3 : x.kind = 3
      · have hl := h.1.2.1
        simp only [if_pos h3] at hk ⊢
        exact Wr.nums_cut x.l (top x.l).toNat k (by omega) (look_top h) hk
      · simp only [if_neg h3] at hk
        simp at hk
theorem rthing_bad {s : Wr.St} (h : s.e ≠ 0) (x : Tg) : (rthing s x).2 = s := by
  unfold rthing
  by_cases h1 : x.kind = 1
  · rw [if_pos h1, Wr.num_bad h]
  · rw [if_neg h1]
    by_cases h2 : x.kind = 2
    · rw [if_pos h2, Wr.num_bad h]
    · rw [if_neg h2]
      by_cases h3 : x.kind = 3
      · rw [if_pos h3]
        have e := Wr.num_bad h x.l.length
        show (Wr.nums s x.l.length (top x.l).toNat).2 = s
        rw [Wr.nums_none (by rw [e]; exact h), e]
      · rw [if_neg h3]
/-- Things are read, one behind the other. -/
def rall (s : Wr.St) (ts : List Tg) : Wr.St := ts.foldl (fun s x => (rthing s x).2) s
theorem rall_bad {s : Wr.St} (h : s.e ≠ 0) : ∀ ts : List Tg, rall s ts = s
  | [] => rfl
  | x :: ts => by
    show rall (rthing s x).2 ts = s
    rw [rthing_bad h x]
    exact rall_bad h ts
theorem rall_next (s : Wr.St) {ts : List Tg} {k : Nat} (h : k < ts.length) : rall s (ts.take (k + 1)) = (rthing (rall s (ts.take k)) ts[k]).2 := by
  unfold rall
  rw [List.take_succ_eq_append_getElem h, List.foldl_append]
  rfl
/-- Bytes that are cut go wrong. -/
theorem rall_cut : ∀ (ts : List Tg) (_ : ∀ x ∈ ts, Look x) (k : Nat), k < (ts.flatMap wthing).length → rall ⟨(ts.flatMap wthing).take k, 0⟩ ts = ⟨[], 3⟩
  | [], _, k, hk => by simp at hk
  | x :: ts, h, k, hk => by
    rw [List.flatMap_cons, List.length_append] at hk
    rw [List.flatMap_cons]
    show rall (rthing ⟨(wthing x ++ ts.flatMap wthing).take k, 0⟩ x).2 ts = _
    rcases Wr.take_two (wthing x) (ts.flatMap wthing) k with ⟨h1, h2⟩ | ⟨h1, h2⟩
    · rw [h2, rthing_cut x (h x (by simp)) k h1]
      exact rall_bad (by decide) ts
    · rw [h2, rthing_back x (h x (by simp))]
      exact rall_cut ts (fun y hy => h y (by simp [hy])) _ (by omega)
/-- What is left to be read behind the first k things. -/
def rest (ts : List Tg) (k : Nat) : List Nat := (ts.drop k).flatMap wthing
theorem rest_next {ts : List Tg} {k : Nat} (h : k < ts.length) : rest ts k = wthing ts[k] ++ rest ts (k + 1) := by
  unfold rest
  rw [List.drop_eq_getElem_cons h, List.flatMap_cons]
theorem wthing_byte (x : Tg) (h : Look x) : ∀ c ∈ wthing x, c < 256 := by
  intro c hc
  unfold wthing at hc
  by_cases h1 : x.kind = 1
  · rw [if_pos h1] at hc
    have := h.2.1
    exact Vy.enc_byte x.n.toNat (by omega) c hc
  · rw [if_neg h1] at hc
    by_cases h2 : x.kind = 2
    · rw [if_pos h2] at hc
      simp only [Wr.wbool, List.mem_singleton] at hc
      rw [hc]; split <;> omega
    · rw [if_neg h2] at hc
      by_cases h3 : x.kind = 3
      · rw [if_pos h3] at hc
        unfold Wr.wnums at hc
        have hl := h.1.2.1
        rcases List.mem_append.1 hc with h4 | h4
        · exact Vy.enc_byte _ (by omega) c h4
        · obtain ⟨n, hn, hm⟩ := List.mem_flatMap.1 h4
          have := h.2.2 n hn
          exact Vy.enc_byte _ (by omega) c hm
      · rw [if_neg h3] at hc; simp at hc
theorem things_byte (ts : List Tg) (h : ∀ x ∈ ts, Look x) : ∀ c ∈ ts.flatMap wthing, c < 256 := fun c hc => by
  obtain ⟨x, hx, hm⟩ := List.mem_flatMap.1 hc
  exact wthing_byte x (h x hx) c hm

/-- A reader of the law's own. -/
def Own1 (w : World) (g : Nat) (s : Wr.St) (wr : World) : Prop := Rdr wr g g s ∧ w.heap.size ≤ g ∧ Bl w wr
theorem Own1.rd {w wr : World} {g : Nat} {s : Wr.St} (h : Own1 w g s wr) : Rdr wr g g s := h.1
theorem Own1.b {w wr : World} {g : Nat} {s : Wr.St} (h : Own1 w g s wr) : Bl w wr := h.2.2
theorem Own1.le {w wr : World} {g : Nat} {s : Wr.St} (h : Own1 w g s wr) : w.heap.size ≤ g := h.2.1
theorem Own1.alloc {w wr : World} {g : Nat} {s : Wr.St} (h : Own1 w g s wr) (o : Obj) : Own1 w g s (wr.alloc o) := ⟨h.1.alloc o, h.2.1, h.2.2.alloc o⟩
theorem Own1.next {w wr w1 : World} {g : Nat} {s s' : Wr.St} {v : Value} {e : Ending} (h : Own1 w g s wr) (hp : RPost v s' g g wr e w1) : Own1 w g s' w1 := ⟨hp.2.1, h.2.1, h.2.2.fr hp.2.2 fun i hi e => by have := h.2.1; omega⟩
/-- Two readers of the law's own, and a row of bytes. -/
def Own2 (w : World) (g g' : Nat) (s s' : Wr.St) (v : Value) (l : List Nat) (wr : World) : Prop :=
  Own1 w g s wr ∧ Own1 w g' s' wr ∧ g ≠ g' ∧ wr.ownsRow w.heap.size 5 1 v l.length (bys l)
section
variable {w wr w1 : World} {g g' : Nat} {s s' t : Wr.St} {v u : Value} {l : List Nat} {e : Ending}
theorem Own2.one (h : Own2 w g g' s s' v l wr) : Own1 w g s wr := h.1
theorem Own2.two (h : Own2 w g g' s s' v l wr) : Own1 w g' s' wr := h.2.1
theorem Own2.row (h : Own2 w g g' s s' v l wr) : wr.ownsRow w.heap.size 5 1 v l.length (bys l) := h.2.2.2
theorem Own2.alloc (h : Own2 w g g' s s' v l wr) (o : Obj) : Own2 w g g' s s' v l (wr.alloc o) := ⟨h.1.alloc o, h.2.1.alloc o, h.2.2.1, h.2.2.2.alloc o⟩
theorem Own2.next1 (h : Own2 w g g' s s' v l wr) (hp : RPost u t g g wr e w1) : Own2 w g g' t s' v l w1 :=
  ⟨h.1.next hp, ⟨h.2.1.1.fr hp.2.2 (fun e => h.2.2.1 e.symm) h.1.1.noByte, h.2.1.2.1, (h.1.next hp).2.2⟩, h.2.2.1, own_fr h.2.2.2 hp.2.2 fun k hk e => h.1.1.row h.2.2.2 (by decide) (by rw [hk, e])⟩
theorem Own2.next2 (h : Own2 w g g' s s' v l wr) (hp : RPost u t g' g' wr e w1) : Own2 w g g' s t v l w1 :=
  ⟨⟨h.1.1.fr hp.2.2 h.2.2.1 h.2.1.1.noByte, h.1.2.1, (h.2.1.next hp).2.2⟩, h.2.1.next hp, h.2.2.1, own_fr h.2.2.2 hp.2.2 fun k hk e => h.2.1.1.row h.2.2.2 (by decide) (by rw [hk, e])⟩
end

set_option maxRecDepth 100000 in
set_option maxHeartbeats 4000000 in
theorem wireBack_any (A : Option Addr) (len cap : Nat) (ts : List Tg) (cut : Int) (w : World) (hlen : len = ts.length) (hmax : len ≤ 9223372036854775807) (hr : Tgs w w.heap.size A ts)
    (h63 : ∀ x ∈ ts, x.n < 9223372036854775808 ∧ ∀ n ∈ x.l, n < 9223372036854775808) :
    Calls Try.prog 5 #[.slice A len cap, .int .i64 cut] w fun e w' => e = .returned (.bool true) ∧ Bl w w' := by
  obtain ⟨i0, hi, hz0, hz1, hz2⟩ := info_parts byte_info
  have HL := Lib.hid hlen; clear hlen
  have HA := Lib.hid hr; clear hr
  have H63 := Lib.hid h63; clear h63
  cases hlg : lg ts with
  | true =>
    have HG := Lib.hid hlg; clear hlg
    go_enter Try.func5, Try.ntmps5
    go_wp2_with fail
    refine (awake_any _).mono ?_
    rintro e w1 ⟨rfl, hb1⟩
    have HB1 := Lib.hid hb1; clear hb1
    go_wp2_with fail
    refine (large_any A len cap ts _ w.heap.size HL.out hmax (HA.out.below HB1.out) HB1.out.size).mono ?_
    rintro e w2 ⟨rfl, hb2⟩
    have HB2 := Lib.hid (HB1.out.trans hb2); clear hb2
    rw [HG.out]
    go_wp2_with fail
    go_ret
    exact ⟨rfl, HB2.out⟩
  | false =>
    have HG := Lib.hid hlg
    obtain ⟨h40, hfine⟩ := lg_false hlg
    have HLook : Hid (∀ x ∈ ts, Look x) := fun x hx => ⟨hfine x hx, H63.out x hx⟩
    have HLen := Lib.hid (wths_len ts fun x hx => (hfine x hx).2.1)
    have hl40 : len ≤ 40 := by have := HL.out; omega
    clear hlg h40 hfine
    go_enter Try.func5, Try.ntmps5
    go_wp2_with fail
    refine (awake_any _).mono ?_
    rintro e w1 ⟨rfl, hb1⟩
    have HB1 := Lib.hid hb1; clear hb1
    go_wp2_with fail
    refine (large_any A len cap ts _ w.heap.size HL.out hmax (HA.out.below HB1.out) HB1.out.size).mono ?_
    rintro e w2 ⟨rfl, hb2⟩
    have HB2 := Lib.hid (HB1.out.trans hb2); clear hb2
    rw [HG.out]
    have hs2 : w.heap.size ≤ w2.heap.size := HB2.out.size
    have H0 : Hid (Wtr (w2.alloc (.cells #[.slice none 0 0] 28)) (fun k => k = w2.heap.size) w2.heap.size (wths ts 0)) := by
      have e0 : wths ts 0 = [] := by simp [wths]
      unfold Hid
      rw [e0]
      exact Wtr.new w2
    have H0S : Hid (∀ j, (fun k => k = w2.heap.size) j → w.heap.size ≤ j) := fun j hj => by have hj : j = w2.heap.size := hj; omega
    have H0B := Lib.hid (HB2.out.alloc (.cells #[.slice none 0 0] 28))
    go_wp2_with fail
    go_loopw [24] (fun i wr => ∃ (k : Nat) (S : Nat → Prop), k ≤ len ∧ i = .int .i64 k ∧ Hid (Wtr wr S w2.heap.size (wths ts k)) ∧ Hid (∀ j, S j → w.heap.size ≤ j) ∧ Hid (Bl w wr)) (fun i _ => len - (intOf i).toNat)
    case atStart => exact ⟨0, _, Nat.zero_le _, rfl, H0, H0S, H0B⟩
    case round =>
      obtain ⟨k, S, hk, rfl, HW, HS, HB⟩ := hrel
      by_cases hlt : k < len
      · have hj : k < ts.length := by have := HL.out; omega
        have hwr : w.heap.size ≤ wr.heap.size := HB.out.size
        obtain ⟨b, off, Ax, c, rfl, hbB, hrx, hc0, hc1, hc2, hc3⟩ := (HA.out.below HB.out).at_ hj
        have HNext := Lib.hid (wths_next hj)
        have HLk := Lib.hid (HLook.out _ (List.getElem_mem hj))
        have HRX := Lib.hid hrx
        have hlk := HLen.out k
        generalize hx : ts[k] = x at *
        obtain ⟨xk, xn, xl, xe⟩ := x
        simp only at hc0 hc1 hc2 hc3
        clear hrx hj hx
        have hWA := Lib.hid (HW.out.alloc (.cells #[.int .i64 xk, .int .i64 xn, .slice Ax xl.length c, .int .i64 xe] 32))
        have hRA := Lib.hid (HRX.out.alloc hwr (.cells #[.int .i64 xk, .int .i64 xn, .slice Ax xl.length c, .int .i64 xe] 32))
        go_wp2_with fail
        refine (write_any ⟨xk, xn, xl, xe⟩ Ax c (wths ts k) S w2.heap.size _ w.heap.size hWA.out hRA.out (by simp; omega) HS.out HLk.out.1 HLk.out.2.1 HLk.out.2.2 (by omega)).mono ?_
        rintro e w3 hp
        obtain ⟨rfl, S3, hw3, hf3, hs3⟩ := hp
        rw [← HNext.out] at hw3
        have HW3 := Lib.hid hw3
        have HS3 : Hid (∀ j, S3 j → w.heap.size ≤ j) := fun j hj => by
          rcases hs3 j hj with h | h
          · exact HS.out j h
          · exact Nat.le_trans hwr (Nat.le_trans (by simp) h)
        have HB3 : Hid (Bl w w3) := (HB.out.alloc _).fr hf3 fun i hi h => by have := HS.out i h; omega
        clear hw3 hf3 hs3
        go_wp2_with fail
        go_roundw
        case rel => exact ⟨k + 1, S3, by omega, by go_num, HW3, HS3, HB3⟩
        case measure => simp [intOf]; omega
      · have hlk := HLen.out k
        have HW' : Hid (Wtr wr S w2.heap.size (ts.flatMap wthing)) := by
          have h := HW.out
          unfold wths at h
          rw [List.take_of_length_le (by have := HL.out; omega)] at h
          exact h
        have hbl : (ts.flatMap wthing).length ≤ 20000 := by
          have h := hlk
          unfold wths at h
          rw [List.take_of_length_le (by have := HL.out; omega)] at h
          omega
        have HByte := Lib.hid (things_byte ts HLook.out)
        clear hlk HW
        go_wp2_with fail
        refine (wbytes_any (ts.flatMap wthing) S w2.heap.size _ HW'.out (by omega)).mono ?_
        rintro e w3 ⟨A3, n3, c3, rfl, hn3, hc3, hown3, hb3⟩
        have HB3 : Hid (Bl w w3) := HB.out.trans hb3
        have HN3 := Lib.hid hn3
        have hn3b : n3 ≤ 20000 := by omega
        have HO3 : Hid (w3.ownsRow w.heap.size 5 1 (.slice A3 n3 c3) n3 (bys (ts.flatMap wthing))) := own_base hown3 fun k hk => Nat.le_trans HB.out.size (hown3.lt k hk).1
        clear hn3 hown3 hb3
        go_wp2_with fail
        refine (new_any A3 n3 c3 (ts.flatMap wthing) _ w3.heap.size HN3.out (by omega) (Rd.own HO3.out) HByte.out).mono ?_
        rintro e w4 ⟨g4, rfl, hg4, hr4, hb4⟩
        have HB4 : Hid (Bl w w4) := HB3.out.trans hb4
        have HO4 := Lib.hid (own_bl HO3.out hb4)
        have HR4 : Hid (Own1 w g4 ⟨ts.flatMap wthing, 0⟩ w4) := ⟨hr4, Nat.le_trans HB3.out.size hg4, HB4.out⟩
        have hs4 : w.heap.size ≤ w4.heap.size := HB4.out.size
        have own0 : Hid ((w4.alloc (.cells #[] 5)).ownsRow w4.heap.size 5 1 (.slice (some ⟨w4.heap.size, 0, none⟩) 0 0) 0 []) := World.ownsRow_lit (base := w4.heap.size) (e := 5) (size := 1) w4 #[] 0 (Nat.le_refl _) (by simp [maxLen]) rfl
        clear hr4 hb4
        go_wp2_with (first
          | (at_builtin
             refine wpList_append_rd _ rfl (.tmp 36) (.tmp 37) 26 rfl w4.heap.size 5 i0 (.int .u8 0) 1 Try.underlying26 hi hz0 hz1 hz2 rfl _ _ _ rfl own0.out w4.heap.size A3 n3 c3 (bys (ts.flatMap wthing)) rfl ((Rd.own HO4.out).alloc (Nat.le_refl _) _) ((bys_len _).trans HN3.out.symm) (bys_one _) (by simp only [maxLen]; omega) (by omega) (by simp) ?_
             intro v5 w5 hown5 hg5 _
             have HO5 := Lib.hid hown5
             have HB5 : Hid (Bl w4 w5) := ((Bl.refl w4).alloc _).grown hg5 fun k h => by injection h with h; rw [← h]; exact Nat.le_refl _
             clear hown5 hg5)
          | (at_builtin
             refine wpList_append_rd _ rfl (.tmp 38) (.tmp 39) 26 rfl w4.heap.size 5 i0 (.int .u8 0) 1 Try.underlying26 hi hz0 hz1 hz2 rfl _ _ _ rfl (HO5.out.alloc _) (w5.heap.size + 1) (some ⟨w5.heap.size, 0, none⟩) 1 1 (bys [0]) rfl (Rd.fresh w5 #[.int .u8 0] 5 (bys [0]) w5.heap.size _ rfl (Nat.lt_succ_self _) rfl) rfl (bys_one _) (by simp only [maxLen]; omega) (by omega) (Nat.le_trans HB5.out.size (by simp)) ?_
             intro v6 w6 hown6 hg6 _
             have HB6 : Hid (Bl w4 w6) := (HB5.out.alloc _).grown hg6 fun k h => (HO5.out.lt k h).1
             obtain ⟨A6, c6, hv6, _⟩ := own_slice hown6
             subst hv6
             have HO6 := Lib.hid hown6
             clear hown6 hg6)
          | fail)
        have HRd6 : Hid (Rd w6 w6.heap.size A6 (bys (ts.flatMap wthing ++ [0]))) := by
          have h := Rd.own HO6.out
          unfold Hid
          rw [bys_append]
          simpa using h
        have HByte2 : Hid (∀ c ∈ ts.flatMap wthing ++ [0], c < 256) := fun c hc => by
          rcases List.mem_append.1 hc with h | h
          · exact HByte.out c h
          · simp at h; omega
        refine (new_any A6 _ c6 (ts.flatMap wthing ++ [0]) _ w6.heap.size (by rw [List.length_append, ← HN3.out, List.length_singleton]) (by omega) HRd6.out HByte2.out).mono ?_
        rintro e w7 ⟨g7, rfl, hg7, hr7, hb7⟩
        have HB7 : Hid (Bl w4 w7) := HB6.out.trans hb7
        have HK0 : Hid (Own2 w g4 g7 ⟨rest ts 0, 0⟩ ⟨rest ts 0 ++ [0], 0⟩ (.slice A3 n3 c3) (ts.flatMap wthing) w7) := by
          have h1 := HR4.out.rd.lt
          have h2 := HB6.out.size
          refine ⟨⟨HR4.out.rd.bl HB7.out, HR4.out.le, HR4.out.b.trans HB7.out⟩, ⟨hr7, by omega, HR4.out.b.trans HB7.out⟩, by omega, ?_⟩
          rw [← HN3.out]
          exact own_bl HO4.out HB7.out
        clear hr7 hb7 HRd6 HByte2 HO6 HB6 HB5 HO5 own0
        go_wp2_with fail
        go_loopw [44] (fun i wr => ∃ k : Nat, k ≤ len ∧ i = .int .i64 k ∧ Hid (Own2 w g4 g7 ⟨rest ts k, 0⟩ ⟨rest ts k ++ [0], 0⟩ (.slice A3 n3 c3) (ts.flatMap wthing) wr)) (fun i _ => len - (intOf i).toNat)
        case atStart => exact ⟨0, Nat.zero_le _, rfl, HK0⟩
        case round =>
          obtain ⟨k, hk, rfl, HK⟩ := hrel
          by_cases hlt : k < len
          · have hj : k < ts.length := by have := HL.out; omega
            have hwr2 : w.heap.size ≤ wr.heap.size := HK.out.one.b.size
            obtain ⟨b, off, Ax, c, rfl, hbB, hrx, hc0, hc1, hc2, hc3⟩ := (HA.out.below HK.out.one.b).at_ hj
            have HNext := Lib.hid (rest_next hj)
            have HLk := Lib.hid (HLook.out _ (List.getElem_mem hj))
            have HRX := Lib.hid hrx
            generalize hx : ts[k] = x at *
            have HBack1 := Lib.hid (rthing_back x HLk.out (rest ts (k + 1)))
            have HBack2 := Lib.hid (rthing_back x HLk.out (rest ts (k + 1) ++ [0]))
            obtain ⟨xk, xn, xl, xe⟩ := x
            simp only at hc0 hc1 hc2 hc3
            clear hrx hj hx
            have HKA : Hid (Own2 w g4 g7 ⟨wthing ⟨xk, xn, xl, xe⟩ ++ rest ts (k + 1), 0⟩ ⟨wthing ⟨xk, xn, xl, xe⟩ ++ (rest ts (k + 1) ++ [0]), 0⟩ (.slice A3 n3 c3) (ts.flatMap wthing) (wr.alloc (.cells #[.int .i64 xk, .int .i64 xn, .slice Ax xl.length c, .int .i64 xe] 32))) := by
              have h := HK.out.alloc (.cells #[.int .i64 xk, .int .i64 xn, .slice Ax xl.length c, .int .i64 xe] 32)
              rw [HNext.out, List.append_assoc] at h
              exact h
            have hRA := Lib.hid (HRX.out.alloc hwr2 (.cells #[.int .i64 xk, .int .i64 xn, .slice Ax xl.length c, .int .i64 xe] 32))
            have HBk := Lib.hid (Bk.new wr 32 #[.int .i64 xk, .int .i64 xn, .slice Ax xl.length c, .int .i64 xe])
            have hg41 : g4 < wr.heap.size := HK.out.one.rd.lt
            have hg71 : g7 < wr.heap.size := HK.out.two.rd.lt
            have hg40 : w.heap.size ≤ g4 := HK.out.one.le
            have hg70 : w.heap.size ≤ g7 := HK.out.two.le
            go_wp2_with fail
            refine (read_any ⟨xk, xn, xl, xe⟩ Ax c _ g4 g4 _ w.heap.size HKA.out.one.rd hRA.out (by simp; omega) hg40 HLk.out.1 HLk.out.2.1 HLk.out.2.2).mono ?_
            rw [HBack1.out]
            rintro e w8 hp
            have hk8 := HKA.out.next1 hp
            obtain ⟨rfl, _, hf8⟩ := hp
            have HK8 := Lib.hid hk8
            have HBk8 := Lib.hid (HBk.out.fr hf8 (by omega))
            have hd0 : w8.cell? ⟨wr.heap.size, 0, none⟩ = some (.int .i64 xk) := HBk8.out.cell 0
            have hd1 : w8.cell? ⟨wr.heap.size, 1, none⟩ = some (.int .i64 xn) := HBk8.out.cell 1
            have hd2 : w8.cell? ⟨wr.heap.size, 2, none⟩ = some (.slice Ax xl.length c) := HBk8.out.cell 2
            have hd3 : w8.cell? ⟨wr.heap.size, 3, none⟩ = some (.int .i64 xe) := HBk8.out.cell 3
            have HR8 := Lib.hid (hRA.out.below (hf8.below (by simp; omega) (fun j hj => by omega)))
            have hs8 : w.heap.size ≤ w8.heap.size := hk8.one.b.size
            clear hk8 hf8 hc0 hc1 hc2 hc3
            go_wp2_with fail
            refine (read_any ⟨xk, xn, xl, xe⟩ Ax c _ g7 g7 _ w.heap.size HK8.out.two.rd HR8.out hs8 hg70 HLk.out.1 HLk.out.2.1 HLk.out.2.2).mono ?_
            rw [HBack2.out]
            rintro e w9 hp
            have hk9 := HK8.out.next2 hp
            obtain ⟨rfl, _, _⟩ := hp
            have HK9 := Lib.hid hk9
            clear hk9
            go_wp2_with fail
            go_roundw
            case rel => exact ⟨k + 1, by omega, by go_num, HK9⟩
            case measure => simp [intOf]; omega
          · have HE : Hid (rest ts k = []) := by unfold Hid rest; rw [List.drop_of_length_le (by have := HL.out; omega)]; rfl
            have HK1 : Hid (Rdr wr g4 g4 ⟨[], 0⟩) := by have h := HK.out.one.rd; rw [HE.out] at h; exact h
            have HK2 : Hid (Rdr wr g7 g7 ⟨[0], 0⟩) := by have h := HK.out.two.rd; rw [HE.out] at h; exact h
            have HBw := Lib.hid HK.out.one.b
            have HOw : Hid (wr.ownsRow w.heap.size 5 1 (.slice A3 n3 c3) n3 (bys (ts.flatMap wthing))) := by have h := HK.out.row; rw [← HN3.out] at h; exact h
            clear HK HE
            go_wp2_with fail
            refine (end_any g4 g4 _ _ HK1.out).mono ?_
            rintro e w' ⟨rfl, rfl⟩
            rw [show Wr.fin ⟨[], 0⟩ = 0 from rfl]
            go_wp2_with fail
            refine (left_any g4 g4 _ _ HK1.out).mono ?_
            rintro e w' ⟨rfl, rfl⟩
            go_wp2_with fail
            refine (end_any g7 g7 _ _ HK2.out).mono ?_
            rintro e w' ⟨rfl, rfl⟩
            rw [show Wr.fin ⟨[0], 0⟩ = 4 from rfl]
            go_wp2_with fail
            refine (left_any g7 g7 _ _ HK2.out).mono ?_
            rintro e w' ⟨rfl, rfl⟩
            by_cases hcut : cut < 0
            · go_wp2_with fail
              go_ret
              exact ⟨rfl, HBw.out⟩
            · obtain ⟨cu, rfl⟩ : ∃ cu : Nat, cut = (cu : Int) := ⟨cut.toNat, by omega⟩
              by_cases hcu : n3 ≤ cu
              · go_wp2_with fail
                go_ret
                exact ⟨rfl, HBw.out⟩
              · have HCut : Hid (rall ⟨(ts.flatMap wthing).take cu, 0⟩ ts = ⟨[], 3⟩) := rall_cut ts HLook.out cu (by have := HN3.out; omega)
                have hci : (0 : Int) ≤ (cu : Int) := by omega
                have hcj : (cu : Int) ≤ (c3 : Int) := by omega
                have HT : Hid (Rd wr wr.heap.size A3 (bys ((ts.flatMap wthing).take cu))) := by unfold Hid; rw [bys_take]; exact (Rd.own HOw.out).take cu
                go_wp2_with fail
                refine (new_any A3 cu c3 ((ts.flatMap wthing).take cu) _ wr.heap.size (by have := HN3.out; rw [List.length_take]; omega) (by omega) HT.out (fun c hc => HByte.out c (List.mem_of_mem_take hc))).mono ?_
                rintro e wA ⟨gA, rfl, hgA, hrA, hbA⟩
                have HK0 : Hid (Own1 w gA (rall ⟨(ts.flatMap wthing).take cu, 0⟩ (ts.take 0)) wA) := ⟨by rw [List.take_zero]; exact hrA, Nat.le_trans HBw.out.size hgA, HBw.out.trans hbA⟩
                clear hrA hbA HT HOw HK1 HK2 hcut
                go_wp2_with fail
                go_loopw [91] (fun i wr => ∃ k : Nat, k ≤ len ∧ i = .int .i64 k ∧ Hid (Own1 w gA (rall ⟨(ts.flatMap wthing).take cu, 0⟩ (ts.take k)) wr)) (fun i _ => len - (intOf i).toNat)
                case atStart => exact ⟨0, Nat.zero_le _, rfl, HK0⟩
                case round =>
                  obtain ⟨k, hk, rfl, HK⟩ := hrel
                  by_cases hlt : k < len
                  · have hj : k < ts.length := by have := HL.out; omega
                    have hwr2 : w.heap.size ≤ wr.heap.size := HK.out.b.size
                    obtain ⟨b, off, Ax, c, rfl, hbB, hrx, hc0, hc1, hc2, hc3⟩ := (HA.out.below HK.out.b).at_ hj
                    have HNext := Lib.hid (rall_next ⟨(ts.flatMap wthing).take cu, 0⟩ hj)
                    have HLk := Lib.hid (HLook.out _ (List.getElem_mem hj))
                    have HRX := Lib.hid hrx
                    generalize hx : ts[k] = x at *
                    obtain ⟨xk, xn, xl, xe⟩ := x
                    simp only at hc0 hc1 hc2 hc3
                    clear hrx hj hx
                    have HKA := Lib.hid (HK.out.alloc (.cells #[.int .i64 xk, .int .i64 xn, .slice Ax xl.length c, .int .i64 xe] 32))
                    have hRA := Lib.hid (HRX.out.alloc hwr2 (.cells #[.int .i64 xk, .int .i64 xn, .slice Ax xl.length c, .int .i64 xe] 32))
                    have hgA0 : w.heap.size ≤ gA := HK.out.le
                    go_wp2_with fail
                    refine (read_any ⟨xk, xn, xl, xe⟩ Ax c _ gA gA _ w.heap.size HKA.out.rd hRA.out (by simp; omega) hgA0 HLk.out.1 HLk.out.2.1 HLk.out.2.2).mono ?_
                    rintro e w8 hp
                    have hk8 := HKA.out.next hp
                    obtain ⟨rfl, _, _⟩ := hp
                    rw [← HNext.out] at hk8
                    have HK8 := Lib.hid hk8
                    clear hk8
                    go_wp2_with fail
                    go_roundw
                    case rel => exact ⟨k + 1, by omega, by go_num, HK8⟩
                    case measure => simp [intOf]; omega
                  · have HR : Hid (Rdr wr gA gA ⟨[], 3⟩) := by
                      have h := HK.out.rd
                      rw [show ts.take k = ts from List.take_of_length_le (by have := HL.out; omega), HCut.out] at h
                      exact h
                    go_wp2_with fail
                    refine (end_any gA gA _ _ HR.out).mono ?_
                    rintro e w' ⟨rfl, rfl⟩
                    rw [show Wr.fin ⟨[], 3⟩ = 3 from rfl]
                    go_wp2_with fail
                    refine (left_any gA gA _ _ HR.out).mono ?_
                    rintro e w' ⟨rfl, rfl⟩
                    go_wp2_with fail
                    go_ret
                    exact ⟨rfl, HK.out.b⟩
end Go.Proofs.Ythhlgjedgbdgcaa
