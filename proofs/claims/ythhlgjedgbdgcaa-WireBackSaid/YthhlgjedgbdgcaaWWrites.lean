/- WireWrites: the bytes of any things, one behind the other, are as the document says. -/
import Derived.Test.YthhlgjedgbdgcaaWAwake
namespace Go.Proofs.Ythhlgjedgbdgcaa
open Go.RowKit

/-- The writer at g has written l', and the row v holds l; both lie apart, and above what was there. -/
def WW (w : World) (g : Nat) (l' l : List Nat) (v : Value) (wr : World) : Prop :=
  ∃ S, Wtr wr S g l' ∧ wr.ownsRow w.heap.size 5 1 v l.length (bys l) ∧ (∀ j, v.ownBlock = some j → ¬ S j) ∧ (∀ j, S j → w.heap.size ≤ j) ∧ Bl w wr

section
variable {w wr w1 : World} {g : Nat} {l' l r : List Nat} {v v' : Value}
theorem WW.out (h : WW w g l' l v wr) : Bl w wr := by obtain ⟨_, _, _, _, _, h⟩ := h; exact h
theorem WW.own (h : WW w g l' l v wr) : wr.ownsRow w.heap.size 5 1 v l.length (bys l) := by obtain ⟨_, _, h, _⟩ := h; exact h
theorem WW.wtr (h : WW w g l' l v wr) : ∃ S, Wtr wr S g l' ∧ ∀ j, S j → w.heap.size ≤ j := by obtain ⟨S, h1, _, _, h4, _⟩ := h; exact ⟨S, h1, h4⟩
theorem WW.bl (h : WW w g l' l v wr) (hb : Bl wr w1) : WW w g l' l v w1 := by
  obtain ⟨S, h1, h2, h3, h4, h5⟩ := h
  exact ⟨S, h1.bl hb, own_bl h2 hb, h3, h4, h5.trans hb⟩
theorem WW.alloc (h : WW w g l' l v wr) (o : Obj) : WW w g l' l v (wr.alloc o) := h.bl ((Bl.refl wr).alloc o)
theorem WW.grow (h : WW w g l' l v wr) (ho : w1.ownsRow w.heap.size 5 1 v' (l.length + r.length) (bys l ++ bys r)) (hg : wr.grownBy w1 v.ownBlock) (hn : v'.ownBlock = v.ownBlock ∨ v'.ownBlock = some wr.heap.size) : WW w g l' (l ++ r) v' w1 := by
  obtain ⟨S, h1, h2, h3, h4, h5⟩ := h
  refine ⟨S, h1.fr (T := fun k => v.ownBlock = some k) ((Fr.refl _ wr).grown hg fun _ h _ => h) fun k hs hk => h3 k hk hs, by rw [bys_append, List.length_append]; exact ho, fun j hj hs => ?_, h4, h5.grown hg fun k hk => (h2.lt k hk).1⟩
  rcases hn with e | e
  · rw [e] at hj; exact h3 j hj hs
  · rw [e] at hj; injection hj with hj; have := h1.lt j hs; omega
theorem ww_write {S : Nat → Prop} {l2 : List Nat} {e : Ending} (h2 : wr.ownsRow w.heap.size 5 1 v l.length (bys l)) (h3 : ∀ j, v.ownBlock = some j → ¬ S j) (h4 : ∀ j, S j → w.heap.size ≤ j) (h5 : Bl w wr)
    (h : WPost l2 S g wr e w1) : WW w g l2 l v w1 := by
  obtain ⟨_, S1, hw, hf, hs⟩ := h
  refine ⟨S1, hw, own_fr h2 hf h3, fun j hj hs1 => ?_, fun j hj => ?_, h5.fr hf fun i hi h => ?_⟩
  · rcases hs j hs1 with h | h
    · exact h3 j hj h
    · have := (h2.lt j hj).2; omega
  · rcases hs j hj with h | h
    · exact h4 j h
    · exact Nat.le_trans h5.size h
  · have := h4 i h; omega
end

theorem ww_eq {w wr : World} {g : Nat} {l' a b : List Nat} {v : Value} (e : a = b) (h : WW w g l' b v wr) : WW w g l' a v wr := by rw [e]; exact h
/-- The bytes of the first k things. -/
def wths (ts : List Tg) (k : Nat) : List Nat := (ts.take k).flatMap wthing
theorem wths_next {ts : List Tg} {k : Nat} (h : k < ts.length) : wths ts (k + 1) = wths ts k ++ wthing ts[k] := by
  unfold wths
  rw [List.take_succ_eq_append_getElem h, List.flatMap_append]
  simp
theorem wbool_len (b : Bool) : (Wr.wbool b).length = 1 := rfl
theorem wthing_len (x : Tg) (h : x.l.length ≤ 40) : (wthing x).length ≤ 410 := by
  unfold wthing
  by_cases h1 : x.kind = 1
  · rw [if_pos h1]; have := (Vy.enc_len x.n.toNat).2; omega
  · rw [if_neg h1]
    by_cases h2 : x.kind = 2
    · rw [if_pos h2, wbool_len]; omega
    · rw [if_neg h2]
      by_cases h3 : x.kind = 3
      · rw [if_pos h3]; have := wnums_len x.l; omega
      · rw [if_neg h3]; simp
theorem wths_len (ts : List Tg) (h : ∀ x ∈ ts, x.l.length ≤ 40) : ∀ k, (wths ts k).length ≤ 410 * k := by
  intro k
  have hr : ∀ r : List Tg, (∀ x ∈ r, x.l.length ≤ 40) → (r.flatMap wthing).length ≤ 410 * r.length := by
    intro r
    induction r with
    | nil => intro _; simp
    | cons x r ih =>
      intro hx
      have h1 := wthing_len x (hx x (by simp))
      have h2 := ih fun y hy => hx y (by simp [hy])
      rw [List.flatMap_cons, List.length_append, List.length_cons]
      omega
  have h1 := hr (ts.take k) fun x hx => h x (List.mem_of_mem_take hx)
  have h2 : (ts.take k).length ≤ k := List.length_take_le _ _
  unfold wths
  omega
/-- What a law knows of a thing that it looks at. -/
def Look (x : Tg) : Prop := (0 ≤ x.n ∧ x.l.length ≤ 40 ∧ ∀ n ∈ x.l, 0 ≤ n) ∧ x.n < 9223372036854775808 ∧ ∀ n ∈ x.l, n < 9223372036854775808

set_option maxRecDepth 100000 in
set_option maxHeartbeats 2000000 in
theorem wireWrites_any (A : Option Addr) (len cap : Nat) (ts : List Tg) (w : World) (hlen : len = ts.length) (hmax : len ≤ 9223372036854775807) (hr : Tgs w w.heap.size A ts)
    (h63 : ∀ x ∈ ts, x.n < 9223372036854775808 ∧ ∀ n ∈ x.l, n < 9223372036854775808) :
    Calls Try.prog 3 #[.slice A len cap] w fun e w' => e = .returned (.bool true) ∧ Bl w w' := by
  obtain ⟨i0, hi, hz0, hz1, hz2⟩ := info_parts byte_info
  have HL := Lib.hid hlen; clear hlen
  have HA := Lib.hid hr; clear hr
  have H63 := Lib.hid h63; clear h63
  cases hlg : lg ts with
  | true =>
    have HG := Lib.hid hlg; clear hlg
    go_enter Try.func3, Try.ntmps3
    go_wp2_with fail
    refine (awake_any _).mono ?_
    rintro e w1 ⟨rfl, hb1⟩
    have HB1 := Lib.hid hb1; clear hb1
    go_wp2_with fail
    refine (large_any A len cap ts _ w.heap.size HL.out hmax (HA.out.below HB1.out) HB1.out.size).mono ?_
    rintro e w2 ⟨rfl, hb2⟩
    have HB2 := Lib.hid (HB1.out.trans hb2); clear hb2
    rw [HG.out]
    go_wp2_with fail
    go_ret
    exact ⟨rfl, HB2.out⟩
  | false =>
    have HG := Lib.hid hlg
    obtain ⟨h40, hfine⟩ := lg_false hlg
    have HLook : Hid (∀ x ∈ ts, Look x) := fun x hx => ⟨hfine x hx, H63.out x hx⟩
    have HLen := Lib.hid (wths_len ts fun x hx => (hfine x hx).2.1)
    have hl40 : len ≤ 40 := by have := HL.out; omega
    clear hlg h40 hfine
    go_enter Try.func3, Try.ntmps3
    go_wp2_with fail
    refine (awake_any _).mono ?_
    rintro e w1 ⟨rfl, hb1⟩
    have HB1 := Lib.hid hb1; clear hb1
    go_wp2_with fail
    refine (large_any A len cap ts _ w.heap.size HL.out hmax (HA.out.below HB1.out) HB1.out.size).mono ?_
    rintro e w2 ⟨rfl, hb2⟩
    have HB2 := Lib.hid (HB1.out.trans hb2); clear hb2
    rw [HG.out]
    have hs2 : w.heap.size ≤ w2.heap.size := HB2.out.size
    have H0 : Hid (WW w w2.heap.size (wths ts 0) (wths ts 0) (.slice (some ⟨w2.heap.size + 1, 0, none⟩) 0 0) ((w2.alloc (.cells #[.slice none 0 0] 28)).alloc (.cells #[] 5))) := by
      refine ⟨fun k => k = w2.heap.size, (Wtr.new w2).alloc _, ?_, fun j hj e => ?_, fun j hj => by omega, (HB2.out.alloc _).alloc _⟩
      · have h := World.ownsRow_lit (base := w.heap.size) (e := 5) (size := 1) (w2.alloc (.cells #[.slice none 0 0] 28)) #[] 0 (by simp; omega) (by simp [maxLen]) rfl
        have e0 : wths ts 0 = [] := by simp [wths]
        rw [e0]
        have e1 : (w2.alloc (.cells #[.slice none 0 0] 28)).heap.size = w2.heap.size + 1 := by simp
        rw [e1] at h
        exact h
      · injection hj with hj
        have hj : w2.heap.size + 1 = j := hj
        omega
    go_wp2_with fail
    go_loopw [4, 16] (fun v i wr => ∃ k : Nat, k ≤ len ∧ i = .int .i64 k ∧ Hid (WW w w2.heap.size (wths ts k) (wths ts k) v wr)) (fun _ i _ => len - (intOf i).toNat)
    case atStart => exact ⟨0, Nat.zero_le _, rfl, H0⟩
    case round =>
      obtain ⟨k, hk, rfl, HK⟩ := hrel
      by_cases hlt : k < len
      · have hj : k < ts.length := by have := HL.out; omega
        have hwr : w.heap.size ≤ wr.heap.size := HK.out.out.size
        obtain ⟨b, off, Ax, c, rfl, hbB, hrx, hc0, hc1, hc2, hc3⟩ := (HA.out.below HK.out.out).at_ hj
        have HNext := Lib.hid (wths_next hj)
        have HLk := Lib.hid (HLook.out _ (List.getElem_mem hj))
        have HRX := Lib.hid hrx
        have hlk := HLen.out k
        generalize hx : ts[k] = x at *
        obtain ⟨xk, xn, xl, xe⟩ := x
        simp only at hc0 hc1 hc2 hc3
        obtain ⟨n, rfl⟩ : ∃ n : Nat, xn = (n : Int) := ⟨xn.toNat, by have h : 0 ≤ xn := HLk.out.1.1; omega⟩
        have hn63 : n < 9223372036854775808 := by have h : (n : Int) < 9223372036854775808 := HLk.out.2.1; omega
        have hx40 : xl.length ≤ 40 := HLk.out.1.2.1
        have HX : Hid (∀ n ∈ xl, 0 ≤ n ∧ n < 9223372036854775808) := fun n hn => ⟨HLk.out.1.2.2 n hn, HLk.out.2.2 n hn⟩
        have hwn : IntKind.u64.wrap (n : Int) = (n : Int) := IntWalk.u64_in _ ⟨by omega, by omega⟩
        clear hrx hj hx
        obtain ⟨Av, cv, hv, _⟩ := own_slice HK.out.own
        subst hv
        obtain ⟨S, hS1, hS2, hS3, hS4, hS5⟩ := HK.out
        have hnS : ¬ S wr.heap.size := fun h => Nat.lt_irrefl _ (hS1.lt _ h)
        have hWA := Lib.hid (hS1.alloc (.cells #[.int .i64 xk, .int .i64 n, .slice Ax xl.length c, .int .i64 xe] 32))
        have hOA := Lib.hid (hS2.alloc (.cells #[.int .i64 xk, .int .i64 n, .slice Ax xl.length c, .int .i64 xe] 32))
        have hBA := Lib.hid (hS5.alloc (.cells #[.int .i64 xk, .int .i64 n, .slice Ax xl.length c, .int .i64 xe] 32))
        have hRA := Lib.hid (HRX.out.alloc hwr (.cells #[.int .i64 xk, .int .i64 n, .slice Ax xl.length c, .int .i64 xe] 32))
        have HBk0 := Lib.hid (Bk.new wr 32 #[.int .i64 xk, .int .i64 n, .slice Ax xl.length c, .int .i64 xe])
        have HS3 := Lib.hid hS3
        have HS4 := Lib.hid hS4
        have HnS := Lib.hid hnS
        clear hS1 hS2 hS3 hS4 hS5 hnS
        go_wp2_with fail
        refine (write_any ⟨xk, n, xl, xe⟩ Ax c (wths ts k) S w2.heap.size _ w.heap.size hWA.out hRA.out (by simp; omega) HS4.out HLk.out.1 HLk.out.2.1 HLk.out.2.2 (by omega)).mono ?_
        rintro e w3 hp
        have h3 := ww_write hOA.out HS3.out HS4.out hBA.out hp
        obtain ⟨rfl, S3, hw3, hf3, _⟩ := hp
        have HBk := Lib.hid (HBk0.out.fr hf3 HnS.out)
        have hd0 : w3.cell? ⟨wr.heap.size, 0, none⟩ = some (.int .i64 xk) := HBk.out.cell 0
        have hd1 : w3.cell? ⟨wr.heap.size, 1, none⟩ = some (.int .i64 n) := HBk.out.cell 1
        have hd2 : w3.cell? ⟨wr.heap.size, 2, none⟩ = some (.slice Ax xl.length c) := HBk.out.cell 2
        have HR3 := Lib.hid (hRA.out.below (hf3.below (by simp; omega) HS4.out))
        rw [← HNext.out] at h3
        have H3 := Lib.hid h3
        have hs3 : w.heap.size ≤ w3.heap.size := h3.out.size
        clear hw3 hf3 h3 hc0 hc1 hc2 hc3
        have hkinds : xk = 1 ∨ (xk = 2 ∧ n = 1) ∨ (xk = 2 ∧ n ≠ 1) ∨ xk = 3 ∨ (xk ≠ 1 ∧ xk ≠ 2 ∧ xk ≠ 3) := by omega
        have hlk1 := HLen.out (k + 1)
        rcases hkinds with h1 | ⟨h1, h2⟩ | ⟨h1, h2⟩ | h1 | ⟨h1, h2, h3⟩
        · have HE5 : Hid (wths ts (k + 1) = wths ts k ++ Vy.enc n) := by
            unfold Hid
            rw [HNext.out]
            unfold wthing
            rw [if_pos h1]; rfl
          subst h1
          go_wp2_with fail
          refine (rput_any 9 n _ (Nat.lt_of_lt_of_le (show n < 18446744073709551616 by omega) (by decide)) (Nat.le_refl _) (by omega)).mono ?_
          rintro e w4 ⟨A4, n4, c4, rfl, hn4, hc4, hown4, hb4⟩
          have H4 := Lib.hid (H3.out.bl hb4)
          have HN4 : Hid (n4 = (Vy.enc n).length) := hn4
          have HO4 : Hid (w4.ownsRow w3.heap.size 5 1 (.slice A4 n4 c4) n4 (bys (Vy.enc n))) := hown4
          have hs4 : w3.heap.size ≤ w4.heap.size := (Bl.own hb4).size
          have hn410 : n4 ≤ 410 := by have := HN4.out; have := (Vy.enc_len n).2; omega
          clear hn4 hown4 hb4
          go_wp2_with (at_builtin; refine wpList_append_rd _ rfl (.tmp 27) (.tmp 31) 26 rfl w.heap.size 5 i0 (.int .u8 0) 1 Try.underlying26 hi hz0 hz1 hz2 rfl _ _ _ rfl H4.out.own w4.heap.size A4 n4 c4 (bys (Vy.enc n)) rfl (Rd.own HO4.out) ((bys_len _).trans HN4.out.symm) (bys_one _) (by simp only [maxLen]; omega) (by omega) (Nat.le_trans hs3 hs4) ?_; intro v5 w5 hown5 hg5 hb5; have H5 := Lib.hid (ww_eq HE5.out (H4.out.grow (r := Vy.enc n) (by rw [← HN4.out]; exact hown5) hg5 hb5)); obtain ⟨A5, c5, hv5, _⟩ := own_slice H5.out.own; subst hv5; clear hown5 hg5 hb5)
          obtain ⟨S5, hw5, hS5⟩ := H5.out.wtr
          have HW5 := Lib.hid hw5
          clear hw5 hS5
          refine (wbytes_any (wths ts (k + 1)) S5 w2.heap.size _ HW5.out (by omega)).mono ?_
          rintro e w6 ⟨A6, n6, c6, rfl, hn6, hc6, hown6, hb6⟩
          have H6 := Lib.hid (H5.out.bl hb6)
          have HN6 := Lib.hid hn6
          have HO6 := Lib.hid hown6
          clear hown6 hb6
          have hn66 : n6 ≤ 1000000 := by omega
          clear hn6
          go_wp2_with fail
          refine (same_any A6 _ n6 _ c6 _ (wths ts (k + 1)) (wths ts (k + 1)) _ w6.heap.size HN6.out rfl (by omega) (Rd.own HO6.out) (Rd.own H6.out.own)).mono ?_
          rintro e w7 ⟨rfl, q, rfl⟩
          rw [decide_eq_true rfl]
          go_wp2_with fail
          go_roundw
          case rel => exact ⟨k + 1, by omega, by go_num, H6.out.bl ((Bl.refl _).drewN q)⟩
          case measure => simp [intOf]; omega
        · have HE5 : Hid (wths ts (k + 1) = wths ts k ++ [1]) := by
            unfold Hid
            rw [HNext.out]
            unfold wthing
            rw [if_neg (by show ¬ xk = 1; omega), if_pos h1]; show wths ts k ++ Wr.wbool (decide ((n : Int) = 1)) = _; rw [show decide ((n : Int) = 1) = true by simp; omega]; rfl
          have hn1 : ((n : Int) == 1) = true := by simp; omega
          subst h1
          clear h2
          go_wp2_with (at_builtin; refine wpList_append_rd _ rfl (.tmp 42) (.tmp 43) 26 rfl w.heap.size 5 i0 (.int .u8 0) 1 Try.underlying26 hi hz0 hz1 hz2 rfl _ _ _ rfl (H3.out.alloc _).own (w3.heap.size + 1) (some ⟨w3.heap.size, 0, none⟩) 1 1 (bys [1]) rfl (Rd.fresh w3 #[.int .u8 1] 5 (bys [1]) w3.heap.size _ rfl (by omega) rfl) rfl (bys_one _) (by simp only [maxLen]; omega) (by omega) (by simp; omega) ?_; intro v5 w5 hown5 hg5 hb5; have H5 := Lib.hid (ww_eq HE5.out ((H3.out.alloc _).grow (r := [1]) hown5 hg5 hb5)); obtain ⟨A5, c5, hv5, _⟩ := own_slice H5.out.own; subst hv5; clear hown5 hg5 hb5)
          obtain ⟨S5, hw5, hS5⟩ := H5.out.wtr
          have HW5 := Lib.hid hw5
          clear hw5 hS5
          refine (wbytes_any (wths ts (k + 1)) S5 w2.heap.size _ HW5.out (by omega)).mono ?_
          rintro e w6 ⟨A6, n6, c6, rfl, hn6, hc6, hown6, hb6⟩
          have H6 := Lib.hid (H5.out.bl hb6)
          have HN6 := Lib.hid hn6
          have HO6 := Lib.hid hown6
          clear hown6 hb6
          have hn66 : n6 ≤ 1000000 := by omega
          clear hn6
          go_wp2_with fail
          refine (same_any A6 _ n6 _ c6 _ (wths ts (k + 1)) (wths ts (k + 1)) _ w6.heap.size HN6.out rfl (by omega) (Rd.own HO6.out) (Rd.own H6.out.own)).mono ?_
          rintro e w7 ⟨rfl, q, rfl⟩
          rw [decide_eq_true rfl]
          go_wp2_with fail
          go_roundw
          case rel => exact ⟨k + 1, by omega, by go_num, H6.out.bl ((Bl.refl _).drewN q)⟩
          case measure => simp [intOf]; omega
        · have HE5 : Hid (wths ts (k + 1) = wths ts k ++ [0]) := by
            unfold Hid
            rw [HNext.out]
            unfold wthing
            rw [if_neg (by show ¬ xk = 1; omega), if_pos h1]; show wths ts k ++ Wr.wbool (decide ((n : Int) = 1)) = _; rw [show decide ((n : Int) = 1) = false by simp; omega]; rfl
          have hn1 : ((n : Int) == 1) = false := by simp; omega
          subst h1
          go_wp2_with (at_builtin; refine wpList_append_rd _ rfl (.tmp 49) (.tmp 50) 26 rfl w.heap.size 5 i0 (.int .u8 0) 1 Try.underlying26 hi hz0 hz1 hz2 rfl _ _ _ rfl (H3.out.alloc _).own (w3.heap.size + 1) (some ⟨w3.heap.size, 0, none⟩) 1 1 (bys [0]) rfl (Rd.fresh w3 #[.int .u8 0] 5 (bys [0]) w3.heap.size _ rfl (by omega) rfl) rfl (bys_one _) (by simp only [maxLen]; omega) (by omega) (by simp; omega) ?_; intro v5 w5 hown5 hg5 hb5; have H5 := Lib.hid (ww_eq HE5.out ((H3.out.alloc _).grow (r := [0]) hown5 hg5 hb5)); obtain ⟨A5, c5, hv5, _⟩ := own_slice H5.out.own; subst hv5; clear hown5 hg5 hb5)
          obtain ⟨S5, hw5, hS5⟩ := H5.out.wtr
          have HW5 := Lib.hid hw5
          clear hw5 hS5
          refine (wbytes_any (wths ts (k + 1)) S5 w2.heap.size _ HW5.out (by omega)).mono ?_
          rintro e w6 ⟨A6, n6, c6, rfl, hn6, hc6, hown6, hb6⟩
          have H6 := Lib.hid (H5.out.bl hb6)
          have HN6 := Lib.hid hn6
          have HO6 := Lib.hid hown6
          clear hown6 hb6
          have hn66 : n6 ≤ 1000000 := by omega
          clear hn6
          go_wp2_with fail
          refine (same_any A6 _ n6 _ c6 _ (wths ts (k + 1)) (wths ts (k + 1)) _ w6.heap.size HN6.out rfl (by omega) (Rd.own HO6.out) (Rd.own H6.out.own)).mono ?_
          rintro e w7 ⟨rfl, q, rfl⟩
          rw [decide_eq_true rfl]
          go_wp2_with fail
          go_roundw
          case rel => exact ⟨k + 1, by omega, by go_num, H6.out.bl ((Bl.refl _).drewN q)⟩
          case measure => simp [intOf]; omega
        · have HE5 : Hid (wths ts (k + 1) = wths ts k ++ Wr.wnums xl) := by
            unfold Hid
            rw [HNext.out]
            unfold wthing
            rw [if_neg (by show ¬ xk = 1; omega), if_neg (by show ¬ xk = 2; omega), if_pos h1]
          subst h1
          go_wp2_with fail
          refine (refnums_any Ax xl.length c xl _ w.heap.size rfl (by omega) HR3.out hs3 HX.out).mono ?_
          rintro e w4 ⟨A4, n4, c4, rfl, hn4, hc4, hown4, hb4⟩
          have H4 := Lib.hid (H3.out.bl hb4)
          have HN4 : Hid (n4 = (Wr.wnums xl).length) := hn4
          have HO4 : Hid (w4.ownsRow w3.heap.size 5 1 (.slice A4 n4 c4) n4 (bys (Wr.wnums xl))) := hown4
          have hs4 : w3.heap.size ≤ w4.heap.size := (Bl.own hb4).size
          have hn410 : n4 ≤ 410 := by have := HN4.out; have := wnums_len xl; omega
          clear hn4 hown4 hb4
          go_wp2_with (at_builtin; refine wpList_append_rd _ rfl (.tmp 56) (.tmp 59) 26 rfl w.heap.size 5 i0 (.int .u8 0) 1 Try.underlying26 hi hz0 hz1 hz2 rfl _ _ _ rfl H4.out.own w4.heap.size A4 n4 c4 (bys (Wr.wnums xl)) rfl (Rd.own HO4.out) ((bys_len _).trans HN4.out.symm) (bys_one _) (by simp only [maxLen]; omega) (by omega) (Nat.le_trans hs3 hs4) ?_; intro v5 w5 hown5 hg5 hb5; have H5 := Lib.hid (ww_eq HE5.out (H4.out.grow (r := Wr.wnums xl) (by rw [← HN4.out]; exact hown5) hg5 hb5)); obtain ⟨A5, c5, hv5, _⟩ := own_slice H5.out.own; subst hv5; clear hown5 hg5 hb5)
          obtain ⟨S5, hw5, hS5⟩ := H5.out.wtr
          have HW5 := Lib.hid hw5
          clear hw5 hS5
          refine (wbytes_any (wths ts (k + 1)) S5 w2.heap.size _ HW5.out (by omega)).mono ?_
          rintro e w6 ⟨A6, n6, c6, rfl, hn6, hc6, hown6, hb6⟩
          have H6 := Lib.hid (H5.out.bl hb6)
          have HN6 := Lib.hid hn6
          have HO6 := Lib.hid hown6
          clear hown6 hb6
          have hn66 : n6 ≤ 1000000 := by omega
          clear hn6
          go_wp2_with fail
          refine (same_any A6 _ n6 _ c6 _ (wths ts (k + 1)) (wths ts (k + 1)) _ w6.heap.size HN6.out rfl (by omega) (Rd.own HO6.out) (Rd.own H6.out.own)).mono ?_
          rintro e w7 ⟨rfl, q, rfl⟩
          rw [decide_eq_true rfl]
          go_wp2_with fail
          go_roundw
          case rel => exact ⟨k + 1, by omega, by go_num, H6.out.bl ((Bl.refl _).drewN q)⟩
          case measure => simp [intOf]; omega
        · have HE5 : Hid (wths ts (k + 1) = wths ts k ++ []) := by
            unfold Hid
            rw [HNext.out]
            unfold wthing
            rw [if_neg h1, if_neg h2, if_neg h3]
          have hq1 : (xk == 1) = false := by simpa using h1
          have hq2 : (xk == 2) = false := by simpa using h2
          have hq3 : (xk == 3) = false := by simpa using h3
          clear h1 h2 h3
          go_wp2_with fail
          obtain ⟨w5, hw5⟩ : ∃ w5 : World, w5 = w3 := ⟨_, rfl⟩
          subst hw5
          have H5 : Hid (WW w w2.heap.size (wths ts (k + 1)) (wths ts (k + 1)) (.slice Av (wths ts (k + 1)).length cv) w5) := by
            have h := ww_eq HE5.out (l' := wths ts (k + 1)) (v := .slice Av (wths ts k).length cv) (wr := w5) (w := w) (g := w2.heap.size) (by rw [List.append_nil]; exact H3.out)
            have e : (wths ts (k + 1)).length = (wths ts k).length := by rw [HE5.out, List.append_nil]
            unfold Hid
            rw [e]; exact h
          have hE : (wths ts k).length = (wths ts (k + 1)).length := by rw [HE5.out, List.append_nil]
          rw [hE]
          clear hE
          obtain ⟨S5, hw5, hS5⟩ := H5.out.wtr
          have HW5 := Lib.hid hw5
          clear hw5 hS5
          refine (wbytes_any (wths ts (k + 1)) S5 w2.heap.size _ HW5.out (by omega)).mono ?_
          rintro e w6 ⟨A6, n6, c6, rfl, hn6, hc6, hown6, hb6⟩
          have H6 := Lib.hid (H5.out.bl hb6)
          have HN6 := Lib.hid hn6
          have HO6 := Lib.hid hown6
          clear hown6 hb6
          have hn66 : n6 ≤ 1000000 := by omega
          clear hn6
          go_wp2_with fail
          refine (same_any A6 _ n6 _ c6 _ (wths ts (k + 1)) (wths ts (k + 1)) _ w6.heap.size HN6.out rfl (by omega) (Rd.own HO6.out) (Rd.own H6.out.own)).mono ?_
          rintro e w7 ⟨rfl, q, rfl⟩
          rw [decide_eq_true rfl]
          go_wp2_with fail
          go_roundw
          case rel => exact ⟨k + 1, by omega, by go_num, H6.out.bl ((Bl.refl _).drewN q)⟩
          case measure => simp [intOf]; omega
      · go_wp2_with fail
        go_ret
        exact ⟨rfl, HK.out.out⟩
end Go.Proofs.Ythhlgjedgbdgcaa
