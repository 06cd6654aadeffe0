/- span.fit and the reference's Fits: is a grammar sound, and does a word fit it? -/
import Derived.Test.YtpblamiiggglaaaFillS
import Derived.Test.YtpblamiiggglaaaSdCheck
import Derived.Test.YtpblamiiggglaaaRefS
import Derived.Test.YtpblamiiggglaaaWordS
namespace Go.Proofs.Ytpblamiiggglaaa
open Go.RowKit

def fitB (g : Gr.Gm) (xs : List Int) : Bool := decide ((chkOf g).2 = 0) && Wd.fits g.terms xs
theorem fitB_iff {g : Gr.Gm} {xs : List Int} : fitB g xs = true ↔ (chkOf g).2 = 0 ∧ Wd.fits g.terms xs = true := by
  unfold fitB
  rw [Bool.and_eq_true, decide_eq_true_eq]
theorem fit_good {g : Gr.Gm} {xs : List Int} (h : fitB g xs = true) : Gr.Ok g ∧ Wi.Lives g ∧ xs.length ≤ 24 := by
  obtain ⟨h1, h2⟩ := fitB_iff.mp h
  cases ho : okB g with
  | false => rw [chkOf_no ho] at h1; cases h1
  | true =>
    rw [chkOf_ok ho] at h1
    have hok := (okB_iff g).1 ho
    have hs := Sd.sound_iff.1 h1
    refine ⟨hok, fun n h0 hn => ?_, ?_⟩
    · have h3 := hs.lives hok (n := n.toNat) (by omega)
      rwa [Int.toNat_of_nonneg h0] at h3
    · exact ((Wd.okW_iff xs).1 ((Wd.fits_iff _ _).1 h2).1).1
theorem fit_len {g : Gr.Gm} {xs : List Int} (h : 24 < xs.length) : fitB g xs = false := by
  cases e : fitB g xs with
  | false => rfl
  | true => have := (fit_good e).2.2; omega
/-- Of a word that fits, parts do. -/
theorem fits_sub {n : Int} {xs ys : List Int} (h : Wd.fits n xs = true) (hs : ∀ x ∈ ys, x ∈ xs) (hl : ys.length ≤ xs.length) : Wd.fits n ys = true := by
  obtain ⟨h1, h2⟩ := (Wd.fits_iff _ _).1 h
  obtain ⟨h3, h4⟩ := (Wd.okW_iff xs).1 h1
  exact (Wd.fits_iff _ _).2 ⟨(Wd.okW_iff ys).2 ⟨by omega, fun x hx => h4 x (hs x hx)⟩, fun x hx => h2 x (hs x hx)⟩
theorem fitB_sub {g : Gr.Gm} {xs ys : List Int} (h : fitB g xs = true) (hs : ∀ x ∈ ys, x ∈ xs) (hl : ys.length ≤ xs.length) : fitB g ys = true := by
  obtain ⟨h1, h2⟩ := fitB_iff.mp h
  exact fitB_iff.mpr ⟨h1, fits_sub h2 hs hl⟩

set_option maxRecDepth 100000 in
set_option maxHeartbeats 1600000 in
theorem spfit_any (t n s : Int) (A : Option Addr) (len c : Nat) (ps : List Gr.Pr) (Aw : Option Addr) (lw cw : Nat) (xs : List Int) (w : World) (B : Nat) (hlen : len = ps.length) (hmax : len ≤ 9223372036854775807) (hr : PrsC w B A ps) (hlw : lw = xs.length) (hmw : lw ≤ 9223372036854775807) (hrw : Rd w B Aw (ins xs)) (hB : B ≤ w.heap.size) :
    Calls Try.prog 28 #[.agg #[.int .i64 t, .int .i64 n, .int .i64 s, .slice A len c], .slice Aw lw cw] w fun e w' => e = .returned (.bool (fitB ⟨t, n, s, ps⟩ xs)) ∧ Bl w w' := by
  have HB0 : Hid (Bl w (w.alloc (.cells #[.int .i64 t, .int .i64 n, .int .i64 s, .slice A len c] 24))) := (Bl.refl w).alloc _
  have HCh := Lib.hid (fun (wx : World) (hb : Bl w wx) => check_law t n s A len c ps wx B hlen hmax (hr.bl hB hb) (Nat.le_trans hB hb.size))
  have HFt := Lib.hid (fun (wx : World) (hb : Bl w wx) => dfits_any t n s A len c Aw lw cw xs wx B hlw hmw (hrw.bl hB hb) (Nat.le_trans hB hb.size))
  have HF : Hid (fitB ⟨t, n, s, ps⟩ xs = (decide ((chkOf ⟨t, n, s, ps⟩).2 = 0) && Wd.fits t xs)) := rfl
  have HK0 := Lib.hid (Bk.new w 24 #[.int .i64 t, .int .i64 n, .int .i64 s, .slice A len c])
  clear hr hrw hlen hlw
  generalize chkOf ⟨t, n, s, ps⟩ = ch at HCh HF
  obtain ⟨c1, c2⟩ := ch
  generalize Wd.fits t xs = ft at HFt HF
  simp only at HCh HF
  by_cases h0 : c2 = 0
  · subst h0
    go_enter Try.func28, Try.ntmps28
    go_wp2_with fail
    refine (HCh.out _ HB0.out).mono ?_
    rintro e w1 ⟨rfl, hb1⟩
    have HB1 := Lib.hid (HB0.out.trans hb1)
    have HK1 := Lib.hid (HK0.out.bl hb1)
    have k0 : w1.cell? ⟨w.heap.size, 0, none⟩ = some (.int .i64 t) := HK1.out.cell 0
    have k1 : w1.cell? ⟨w.heap.size, 1, none⟩ = some (.int .i64 n) := HK1.out.cell 1
    have k2 : w1.cell? ⟨w.heap.size, 2, none⟩ = some (.int .i64 s) := HK1.out.cell 2
    have k3 : w1.cell? ⟨w.heap.size, 3, none⟩ = some (.slice A len c) := HK1.out.cell 3
    have kl := HK1.out.lt
    clear hb1
    go_wp2_with fail
    refine (HFt.out _ HB1.out).mono ?_
    rintro e w2 ⟨rfl, hb2⟩
    have HB2 := Lib.hid (HB1.out.trans hb2)
    clear hb2
    go_wp2_with fail
    go_ret
    exact ⟨by rw [HF.out]; simp, HB2.out⟩
  · have hq : ((c2 : Int) == 0) = false := by rw [beq_eq_false_iff_ne]; omega
    have HQ : Hid (fitB ⟨t, n, s, ps⟩ xs = false) := by rw [HF.out, decide_eq_false h0]; rfl
    clear h0
    go_enter Try.func28, Try.ntmps28
    go_wp2_with fail
    refine (HCh.out _ HB0.out).mono ?_
    rintro e w1 ⟨rfl, hb1⟩
    have HB1 := Lib.hid (HB0.out.trans hb1)
    clear hb1
    go_wp2_with fail
    go_ret
    exact ⟨by rw [HQ.out]; rfl, HB1.out⟩

set_option maxRecDepth 100000 in
set_option maxHeartbeats 1600000 in
theorem rfit_any (t n s : Int) (A : Option Addr) (len c : Nat) (ps : List Gr.Pr) (Aw : Option Addr) (lw cw : Nat) (xs : List Int) (w : World) (B : Nat) (hlen : len = ps.length) (hmax : len ≤ 9223372036854775807) (hr : Prs w B A ps) (hlw : lw = xs.length) (hmw : lw ≤ 9223372036854775807) (hrw : Rd w B Aw (ins xs)) (hB : B ≤ w.heap.size) :
    Calls Try.prog 9 #[.agg #[.int .i64 t, .int .i64 n, .int .i64 s, .slice A len c], .slice Aw lw cw] w fun e w' => e = .returned (.bool (fitB ⟨t, n, s, ps⟩ xs)) ∧ Bl w w' := by
  have HB0 : Hid (Bl w (w.alloc (.cells #[.int .i64 t, .int .i64 n, .int .i64 s, .slice A len c] 24))) := (Bl.refl w).alloc _
  have HCh := Lib.hid (fun (wx : World) (hb : Bl w wx) => rcheck_any t n s A len c ps wx B hlen hmax (hr.bl hB hb) (Nat.le_trans hB hb.size))
  have HFt := Lib.hid (fun (wx : World) (hb : Bl w wx) => rdfits_any t n s A len c Aw lw cw xs wx B hlw hmw (hrw.bl hB hb) (Nat.le_trans hB hb.size))
  have HF : Hid (fitB ⟨t, n, s, ps⟩ xs = (decide ((chkOf ⟨t, n, s, ps⟩).2 = 0) && Wd.fits t xs)) := rfl
  have HK0 := Lib.hid (Bk.new w 24 #[.int .i64 t, .int .i64 n, .int .i64 s, .slice A len c])
  clear hr hrw hlen hlw
  generalize chkOf ⟨t, n, s, ps⟩ = ch at HCh HF
  obtain ⟨c1, c2⟩ := ch
  generalize Wd.fits t xs = ft at HFt HF
  simp only at HCh HF
  by_cases h0 : c2 = 0
  · subst h0
    go_enter Try.func9, Try.ntmps9
    go_wp2_with fail
    refine (HCh.out _ HB0.out).mono ?_
    rintro e w1 ⟨rfl, hb1⟩
    have HB1 := Lib.hid (HB0.out.trans hb1)
    have HK1 := Lib.hid (HK0.out.bl hb1)
    have k0 : w1.cell? ⟨w.heap.size, 0, none⟩ = some (.int .i64 t) := HK1.out.cell 0
    have k1 : w1.cell? ⟨w.heap.size, 1, none⟩ = some (.int .i64 n) := HK1.out.cell 1
    have k2 : w1.cell? ⟨w.heap.size, 2, none⟩ = some (.int .i64 s) := HK1.out.cell 2
    have k3 : w1.cell? ⟨w.heap.size, 3, none⟩ = some (.slice A len c) := HK1.out.cell 3
    have kl := HK1.out.lt
    clear hb1
    go_wp2_with fail
    refine (HFt.out _ HB1.out).mono ?_
    rintro e w2 ⟨rfl, hb2⟩
    have HB2 := Lib.hid (HB1.out.trans hb2)
    clear hb2
    go_wp2_with fail
    go_ret
    exact ⟨by rw [HF.out]; simp, HB2.out⟩
  · have hq : ((c2 : Int) == 0) = false := by rw [beq_eq_false_iff_ne]; omega
    have HQ : Hid (fitB ⟨t, n, s, ps⟩ xs = false) := by rw [HF.out, decide_eq_false h0]; rfl
    clear h0
    go_enter Try.func9, Try.ntmps9
    go_wp2_with fail
    refine (HCh.out _ HB0.out).mono ?_
    rintro e w1 ⟨rfl, hb1⟩
    have HB1 := Lib.hid (HB0.out.trans hb1)
    clear hb1
    go_wp2_with fail
    go_ret
    exact ⟨by rw [HQ.out]; rfl, HB1.out⟩
end Go.Proofs.Ytpblamiiggglaaa
/- span.Rows: a word's rows. -/
namespace Go.Proofs.Ytpblamiiggglaaa
open Go.RowKit

/-- A word's rows, one number behind the other. -/
noncomputable def allN (g : Gr.Gm) (u : List Int) (i : Nat) : Nat := Sp.rowN g (u.drop (i / 25)) (i % 25)
theorem allN_lt (g : Gr.Gm) (u : List Int) (i : Nat) : allN g u i < 4294967296 := Sp.rowN_lt _ _ _
theorem allN_at (g : Gr.Gm) (u : List Int) {a i : Nat} (hi : i < 25) : allN g u (25 * a + i) = Sp.rowN g (u.drop a) i := by
  unfold allN
  rw [show (25 * a + i) / 25 = a by omega, show (25 * a + i) % 25 = i by omega]
theorem allN_drop (g : Gr.Gm) (u : List Int) (k i : Nat) : allN g (u.drop k) i = allN g u (25 * k + i) := by
  unfold allN
  rw [List.drop_drop, show (25 * k + i) / 25 = k + i / 25 by omega, show (25 * k + i) % 25 = i % 25 by omega]
/-- Numbers, one behind the other, as cells. -/
def nus (N : Nat) (F : Nat → Nat) : List Value := us ((List.range N).map F)
theorem nus_len (N : Nat) (F : Nat → Nat) : (nus N F).length = N := by simp [nus, us]
theorem nus_at {N : Nat} (F : Nat → Nat) {i : Nat} (hi : i < N) : (nus N F)[i]? = some (.int .u32 (F i : Int)) := by simp [nus, us, hi]
theorem nus_one (N : Nat) (F : Nat → Nat) : ∀ v ∈ nus N F, v.oneCell' = true := us_one _
theorem nus_get {N : Nat} {F : Nat → Nat} {j : Nat} {v : Value} (h : (nus N F)[j]? = some v) : j < N ∧ v = .int .u32 (F j : Int) := by
  have hj : j < N := by
    rcases Nat.lt_or_ge j N with h1 | h1
    · exact h1
    · rw [List.getElem?_eq_none (by rw [nus_len]; exact h1)] at h; cases h
  rw [nus_at F hj] at h
  injection h with h
  exact ⟨hj, h.symm⟩
theorem nus_congr {N : Nat} {F G : Nat → Nat} (e : ∀ i, i < N → F i = G i) : nus N F = nus N G := by
  unfold nus
  congr 1
  apply List.map_congr_left
  intro i hi
  exact e i (List.mem_range.mp hi)
section
variable {t : TypeId} {w : World} {g N : Nat} {F : Nat → Nat}
theorem Wn.rd (h : Wn t w g N F) : Rd w w.heap.size (some ⟨g, 0, none⟩) (nus N F) := fun _ => ⟨g, 0, rfl, h.lt, fun j v hv => by
  obtain ⟨hj, rfl⟩ := nus_get hv
  rw [Nat.zero_add]
  exact h.cell hj⟩
theorem Wn.of_own {base n c : Nat} (h : w.ownsRow base t 25 (.slice (some ⟨g, 0, none⟩) n c) n (nus (25 * n) F)) : Wn t w g (25 * n) F ∧ base ≤ g := by
  obtain ⟨h1, h2⟩ := h
  rcases h2 with ⟨h3, _⟩ | ⟨g', cap, cur, h3, hb, hg, hn, _, hcs, htake⟩
  · injection h3 with h3; cases h3
  · injection h3 with h3 _ h4
    injection h3 with h3
    injection h3 with h3 _ _
    subst h3
    subst h4
    refine ⟨⟨cur, hg, ?_, fun i hi => ?_⟩, hb⟩
    · rw [hcs]; have := Nat.mul_le_mul_right 25 hn; omega
    · have h5 := nus_at F hi
      rw [← htake, List.getElem?_take, if_pos (by omega)] at h5
      rw [← h5]
      simp
end
theorem zeros_nus (m : Nat) : (madeCells (Value.cells (.agg rc0)) (m * 25)).toList = nus (25 * m) (fun _ => 0) := by
  apply List.ext_getElem?
  intro i
  have hc : Value.cells (.agg rc0) = rc0 := rfl
  rcases Nat.lt_or_ge i (m * 25) with h | h
  · rw [nus_at _ (by omega), hc]
    unfold madeCells
    have hs : rc0.size = 25 := rc_size _
    rw [hs]
    have h2 : rc0[i % 25]! = .int .u32 0 := by
      have h3 : rc0[i % 25]? = some (.int .u32 ((0 : Nat) : Int)) := rc_at (fun _ => 0) (Nat.mod_lt _ (by decide))
      rw [getElem!_def, h3]
      rfl
    simp [h, h2]
  · rw [List.getElem?_eq_none (by rw [Array.length_toList, size_madeCells]; exact h), List.getElem?_eq_none (by rw [nus_len]; omega)]
/-- Of rows what is behind the first k. -/
theorem Rd.nus_cut {w : World} {B : Nat} {A : Option Addr} {len : Nat} {F : Nat → Nat} (h : Rd w B A (nus (25 * len) F)) {k cap : Nat} (hc : len ≤ cap) (hk : k ≤ len) : Rd w B (if cap = k then A else A.map (·.add (k * 25))) (nus (25 * (len - k)) (fun i => F (25 * k + i))) := fun hn => by
  rw [nus_len] at hn
  obtain ⟨b, off, e, hb, hcell⟩ := h (by rw [nus_len]; omega)
  rw [if_neg (by omega)]
  refine ⟨b, off + k * 25, ?_, hb, fun j v hv => ?_⟩
  · subst e
    simp only [Option.map_some, Addr.add]
    split
    · rename_i h0; rw [h0]; rfl
    · rfl
  · obtain ⟨hj, rfl⟩ := nus_get hv
    have := hcell (25 * k + j) _ (nus_at F (by omega))
    rw [show off + k * 25 + j = off + (25 * k + j) by omega]
    exact this
/-- What Rows leaves. -/
def RowsPost (g : Gr.Gm) (xs : List Int) (w : World) (e : Ending) (w' : World) : Prop :=
  (fitB g xs = true → ∃ b, e = .returned (.slice (some ⟨b, 0, none⟩) (xs.length + 1) (xs.length + 1)) ∧ w.heap.size ≤ b ∧ Wn 78 w' b (25 * (xs.length + 1)) (allN g xs)) ∧ (fitB g xs = false → e = .returned (.slice none 0 0)) ∧ Bl w w'
theorem row_size : (Try.prog.info? 78).map (·.size) = some 25 := by kernel_rfl
/-- What is there before a row is filled. -/
theorem undr_start {g : Gr.Gm} {F : Nat → Nat} {u : List Int} {k : Nat} (hz : ∀ i, i < 25 * (k + 1) → F i = 0) (hd : ∀ i, 25 * (k + 1) ≤ i → i < 25 * (u.length + 1) → F i = allN g u i) : Sp.Undr g F k (u.drop k) := by
  refine ⟨fun n hn j hj => ?_, fun n hj => ?_, fun a h1 h2 i hi => ?_⟩
  · rw [hz _ (by omega), Nat.zero_testBit] at hj; cases hj
  · rw [hz _ (by omega), Nat.zero_testBit] at hj; cases hj
  · rw [List.length_drop] at h2
    rw [hd _ (by omega) (by omega), allN_at g u hi, List.drop_drop]

set_option maxRecDepth 100000 in
set_option maxHeartbeats 3200000 in
theorem sprows_any (t n s : Int) (A : Option Addr) (len c : Nat) (ps : List Gr.Pr) (Aw : Option Addr) (lw cw : Nat) (xs : List Int) (w : World) (B : Nat) (hlen : len = ps.length) (hmax : len ≤ 9223372036854775807) (hr : PrsC w B A ps) (hlw : lw = xs.length) (hmw : lw ≤ 9223372036854775807) (hcw : lw ≤ cw) (hrw : Rd w B Aw (ins xs)) (hB : B ≤ w.heap.size) :
    Calls Try.prog 18 #[.agg #[.int .i64 t, .int .i64 n, .int .i64 s, .slice A len c], .slice Aw lw cw] w (RowsPost ⟨t, n, s, ps⟩ xs w) := by
  have HB0 : Hid (Bl w (w.alloc (.cells #[.int .i64 t, .int .i64 n, .int .i64 s, .slice A len c] 24))) := (Bl.refl w).alloc _
  have HFt := Lib.hid (fun (wx : World) (hb : Bl w wx) => spfit_any t n s A len c ps Aw lw cw xs wx B hlen hmax (hr.bl hB hb) hlw hmw (hrw.bl hB hb) (Nat.le_trans hB hb.size))
  have HK0 := Lib.hid (Bk.new w 24 #[.int .i64 t, .int .i64 n, .int .i64 s, .slice A len c])
  cases hf : fitB ⟨t, n, s, ps⟩ xs with
  | false =>
    rw [hf] at HFt
    have HFf := Lib.hid hf
    clear hf hr hrw hlen hlw
    go_enter Try.func18, Try.ntmps18
    go_wp2_with fail
    refine (HFt.out _ HB0.out).mono ?_
    rintro e w1 ⟨rfl, hb1⟩
    have HB1 := Lib.hid (HB0.out.trans hb1)
    clear hb1
    go_wp2_with fail
    go_ret
    exact ⟨fun h => (by rw [HFf.out] at h; cases h), fun _ => rfl, HB1.out⟩
  | true =>
    rw [hf] at HFt
    have HFf := Lib.hid hf
    obtain ⟨hok, hv, h24⟩ := fit_good hf
    have HOk := Lib.hid hok
    have HV := Lib.hid hv
    have hw24 : lw ≤ 24 := by omega
    have HP : Hid (∀ wx, Bl w wx → Prs wx B A ps) := fun _ hb => (hr.bl hB hb).prs
    have HX : Hid (∀ wx, Bl w wx → Rd wx B Aw (ins xs)) := fun _ hb => hrw.bl hB hb
    have HL := Lib.hid hlw
    have HLn := Lib.hid hlen
    obtain ⟨i0, hi, hz0, hz1, hz2⟩ := info_parts row_info
    clear hf hr hrw hlen hlw hok hv h24
    go_enter Try.func18, Try.ntmps18
    go_wp2_with fail
    refine (HFt.out _ HB0.out).mono ?_
    rintro e w1 ⟨rfl, hb1⟩
    have HB1 := Lib.hid (HB0.out.trans hb1)
    have HK1 := Lib.hid (HK0.out.bl hb1)
    clear hb1
    go_wp2_with (refine wpList_make_full _ rfl (.tmp 13) (.tmp 13) 37 rfl w1.heap.size 78 i0 (.agg rc0) 25 Try.underlying37 hi hz0 hz1 .i64 .i64 ((lw : Int) + 1) ((lw : Int) + 1) (lw + 1) rfl rfl (by omega) (by omega) (by rw [hz2]; omega) (by simp only [maxLen]; omega) (Nat.le_refl _) ?_; intro w2 hown2 hg2; have HO2 := Lib.hid hown2; have HB2 := Lib.hid (HB1.out.grown hg2 (fun k hk => by cases hk)); have HB12 : Hid (Bl w1 w2) := (Bl.refl w1).grown hg2 (fun k hk => by cases hk); clear hown2 hg2)
    have hz0 : (madeCells (Value.cells (.agg rc0)) ((lw + 1) * 25)).toList = nus (25 * (lw + 1)) (fun _ => 0) := zeros_nus (lw + 1)
    have HO3 : Hid (w2.ownsRow w1.heap.size 78 25 (.slice (some ⟨w1.heap.size, 0, none⟩) (lw + 1) (lw + 1)) (lw + 1) (nus (25 * (lw + 1)) (fun _ => 0))) := by rw [← hz0]; exact HO2.out
    have HW2 := Lib.hid (Wn.of_own HO3.out).1
    have HK2 := Lib.hid (HK1.out.bl HB12.out)
    have hw1 : w.heap.size < w1.heap.size := HK1.out.lt
    obtain ⟨g, hg⟩ : ∃ g : Nat, g = w1.heap.size := ⟨_, rfl⟩
    rw [← hg] at HW2 ⊢
    have hBg : B ≤ g := by omega
    have hwg : w.heap.size ≠ g := by omega
    have hgw : w.heap.size ≤ g := by omega
    clear HO2 HO3 hz0 hg
    go_wp2_with fail
    go_loopw [6] (fun v wr => ∃ (k : Nat) (F : Nat → Nat), k ≤ lw + 1 ∧ v = .int .i64 ((k : Int) - 1) ∧ Hid (Wn 78 wr g (25 * (lw + 1)) F) ∧ Hid (∀ i, F i < 4294967296) ∧ Hid (∀ i, i < 25 * k → F i = 0) ∧ Hid (∀ i, 25 * k ≤ i → i < 25 * (lw + 1) → F i = allN ⟨t, n, s, ps⟩ xs i) ∧ Hid (Fr (fun k => k = g) w2 wr)) (fun v _ => (intOf v + 1).toNat)
    case atStart => exact ⟨lw + 1, fun _ => 0, Nat.le_refl _, by go_num, HW2.out, (fun _ => show (0 : Nat) < 4294967296 by decide), (fun _ _ => rfl), (fun i h1 h2 => by omega), Fr.refl _ _⟩
    case round =>
      obtain ⟨k, F, hk, rfl, HW, HF, HZ, HD, HFr⟩ := hrel
      cases k with
      | zero =>
        go_wp2_with fail
        go_ret
        exact ⟨fun _ => ⟨g, by rw [← HL.out]; rfl, hgw, by rw [← HL.out]; exact HW.out.congr (fun i hi => HD.out i (by omega) hi)⟩, fun h => (by rw [HFf.out] at h; cases h), (HB2.out.fr HFr.out (fun i hi e => by omega))⟩
      | succ j =>
        have hj : ((j + 1 : Nat) : Int) - 1 = (j : Int) := by omega
        rw [hj]
        have hw12 : w1.heap.size ≤ w2.heap.size := HB12.out.size
        have hwr : w2.heap.size ≤ wr.heap.size := HFr.out.size
        have HPr : Hid (Prs wr B A ps) := (HP.out _ HB2.out).far_fr (by omega) hBg HFr.out
        have HXr : Hid (Rd wr B Aw (ins xs)) := (HX.out _ HB2.out).far_fr (by omega) hBg HFr.out
        have HKc := Lib.hid (HK2.out.fr HFr.out hwg)
        have HXc : Hid (Rd wr B (if cw = j then Aw else Aw.map (·.add (j * 1))) (ins (xs.drop j))) := HXr.out.ins_cut (by have := HL.out; omega)
        have hsl := fun (wx : World) => run_slice_tail (P := Try.prog) (t := 25) (e := 3) (size := 1) Try.underlying25 int_size Aw lw cw j (j : Int) rfl (by omega) wx
        have hsl2 := fun (wx : World) => run_slice_tail (P := Try.prog) (t := 37) (e := 78) (size := 25) Try.underlying37 row_size (some ⟨g, 0, none⟩) (lw + 1) (lw + 1) j (j : Int) rfl (by omega) wx
        rw [if_neg (show ¬ (lw + 1 = j) by omega)] at hsl2
        have hadd : (some (⟨g, 0, none⟩ : Addr)).map (·.add (j * 25)) = some ⟨g, 25 * j, none⟩ := by
          simp only [Option.map_some, Addr.add]
          split
          · rename_i h0; obtain rfl : j = 0 := by omega
            rfl
          · rw [Nat.zero_add, Nat.mul_comm]
        rw [hadd, show lw + 1 - j = lw - j + 1 by omega] at hsl2
        clear hadd
        generalize (if cw = j then Aw else Aw.map (·.add (j * 1))) = A2 at HXc hsl
        have HU : Hid (Sp.Undr ⟨t, n, s, ps⟩ F j (xs.drop j)) := undr_start HZ.out (fun i h1 h2 => HD.out i h1 (by rw [HL.out]; exact h2))
        have HFill := Lib.hid (fun (wx : World) (hb : Bl wr wx) => spfill_any t n s A len c ps A2 (lw - j) (cw - j) (xs.drop j) g (25 * (lw + 1)) j (lw - j + 1) F wx B HLn.out HOk.out HV.out (HPr.out.bl (by omega) hb) (by rw [List.length_drop, ← HL.out]) (by omega) (by omega) (HXc.out.bl (by omega) hb) (Nat.le_trans (by omega) hb.size) hBg (HW.out.bl hb) (by omega) HF.out HU.out)
        have tk1 : True := trivial
        go_wp2_with fail
        go_region_held3 (fun w' => w'.cell? ⟨w.heap.size, 0, none⟩ = some (.int .i64 t) ∧ w'.cell? ⟨w.heap.size, 1, none⟩ = some (.int .i64 n) ∧ w'.cell? ⟨w.heap.size, 2, none⟩ = some (.int .i64 s) ∧ w'.cell? ⟨w.heap.size, 3, none⟩ = some (.slice A len c)) (exact ⟨HKc.out.cell 0, HKc.out.cell 1, HKc.out.cell 2, HKc.out.cell 3⟩) (first
          | (go_at_call 29; have _t := tk1; ((with_reducible refine (HFill.out _ (Bl.refl wr).drew).mono ?_); rintro e v1 ⟨rfl, F', hw1', hf1, hlt1, hout1, hrow1⟩; have HF1 := Lib.hid (Fr.undrew hf1); have HKc := Lib.hid (HKc.out.fr HF1.out hwg); have HW1 := Lib.hid hw1'; have HLt1 := Lib.hid hlt1; have HOut1 := Lib.hid hout1; have HRow1 := Lib.hid hrow1; clear hw1' hf1 hlt1 hout1 hrow1; clear tk1)))
        have HZ' : Hid (∀ i, i < 25 * j → F' i = 0) := fun i hi => (HOut1.out i (.inl hi)).trans (HZ.out i (by omega))
        have HD' : Hid (∀ i, 25 * j ≤ i → i < 25 * (lw + 1) → F' i = allN ⟨t, n, s, ps⟩ xs i) := fun i h1 h2 => by
          by_cases h3 : i < 25 * j + 25
          · have h4 := HRow1.out (i - 25 * j) (by omega)
            rw [← allN_at _ _ (show i - 25 * j < 25 by omega), show 25 * j + (i - 25 * j) = i by omega] at h4
            exact h4
          · exact (HOut1.out i (.inr (by omega))).trans (HD.out i (by omega) h2)
        go_wp2_with fail
        go_roundw
        case rel => exact ⟨j, F', by omega, by go_num, HW1.out, HLt1.out, HZ'.out, HD'.out, HFr.out.same HF1.out⟩
        case measure => simp [intOf]
end Go.Proofs.Ytpblamiiggglaaa
/- Words for rows: appended, built, told as results. -/
namespace Go.Proofs.Ytpblamiiggglaaa
open Go.RowKit

/-- append of whatever reads as a list, nil let in. -/
theorem wpList_append_rdN {P : Program} (w : World) {ops : Array Oper} {rest : List Oper} {o : Oper} {a : Act} {Q : Exit → Act → World → Prop} (hgd : o.guard = none) (s x : Operand) (t : TypeId)
    (ho : o.op = .call { callee := .builtin .append, args := #[s, x], argTypes := #[t, t] })
    (base : Nat) (e : TypeId) (i : TypeInfo) (z : Value) (size bytes : Nat) (ht : P.underlying t = some (.slice e)) (hi : P.info? e = some i) (hz : i.zero = some z)
    (hsize : i.size = size) (hby : i.bytes = bytes) (hzs : z.cells.size = size) (hpos : 0 < size)
    (v : Value) (n : Nat) (xs : List Value) (hs : a.eval s = v) (hown : w.ownsRow base e size v n xs)
    (B : Nat) (A : Option Addr) (m c : Nat) (news : List Value) (hx : a.eval x = .slice A m c) (hr : Rd w B A news) (hm : news.length = m * size) (h1 : ∀ u ∈ news, u.oneCell' = true)
    (h63 : n + m ≤ maxLen) (hbytes : (n + m) * bytes ≤ 140737488355328) (hbase : base ≤ w.heap.size)
    (h : ∀ v' w', w'.ownsRow base e size v' (n + m) (xs ++ news) → w.grownBy w' v.ownBlock → wpList P ops Q rest (a.put o.dst v') w') : wpList P ops Q (o :: rest) a w :=
  wpList_plain hgd fun _ hK => by
    obtain ⟨v', w', hrun, h2, h3⟩ := run_append_rdN (P := P) w base t o.type e i z size bytes ht hi hz hsize hby hzs hpos v n xs hown B A m c news hr hm h1 h63 hbytes hbase
    unfold Oper.wp execOp
    simp only [ho, resolve, invoke, builtin, Sem.run_bind, Sem.run_pure, Result.andThen_ok, List.map_toArray, List.map_cons, List.map_nil, hs, hx, hrun]
    exact hK _ _ (h v' w' h2 h3)
/-- A struct of no cells given. -/
theorem wpList_build_none {P : Program} {ops : Array Oper} {rest : List Oper} {o : Oper} {a : Act} {w : World} {Q : Exit → Act → World → Prop} (hgd : o.guard = none) (ty : TypeId) (ho : o.op = .build ty #[]) (Z : Array Value)
    (hrun : ∀ w, (Instr.build ty (#[] : Array (Nat × Value))).run P w = .ok (.agg Z) w)
    (h : wpList P ops Q rest (a.put o.dst (.agg Z)) w) : wpList P ops Q (o :: rest) a w :=
  wpList_plain hgd fun K hK => by
    unfold Oper.wp execOp
    simp only [ho, List.map_toArray, List.map_nil, hrun, Sem.run_bind, Result.andThen_ok]
    exact hK _ _ h
theorem build_row (w : World) : (Instr.build 78 (#[] : Array (Nat × Value))).run Try.prog w = .ok (.agg rc0) w := by kernel_rfl
theorem build1_row (f : Nat → Nat) (w : World) : (Instr.buildSlice 37 1 #[(0, .agg (rc f))]).run Try.prog w = .ok (.slice (some ⟨w.heap.size, 0, none⟩) 1 1) (w.alloc (.cells (rc f) 78)) := by kernel_rfl
/-- A slice of one row. -/
theorem wpList_build1 {P : Program} {ops : Array Oper} {rest : List Oper} {o : Oper} {a : Act} {w : World} {Q : Exit → Act → World → Prop} (hgd : o.guard = none) (t e : TypeId) (x : Operand) (ho : o.op = .buildSlice t 1 #[(0, x)]) (f : Nat → Nat) (hx : a.eval x = .agg (rc f))
    (hrun : ∀ w, (Instr.buildSlice t 1 #[(0, .agg (rc f))]).run P w = .ok (.slice (some ⟨w.heap.size, 0, none⟩) 1 1) (w.alloc (.cells (rc f) e)))
    (h : wpList P ops Q rest (a.put o.dst (.slice (some ⟨w.heap.size, 0, none⟩) 1 1)) (w.alloc (.cells (rc f) e))) : wpList P ops Q (o :: rest) a w :=
  wpList_plain hgd fun K hK => by
    unfold Oper.wp execOp
    simp only [ho, List.map_toArray, List.map_cons, List.map_nil, hx, hrun, Sem.run_bind, Result.andThen_ok]
    exact hK _ _ h
theorem own_rc (w : World) (t : TypeId) (f : Nat → Nat) : (w.alloc (.cells (rc f) t)).ownsRow w.heap.size t 25 (.slice (some ⟨w.heap.size, 0, none⟩) 1 1) 1 (nus 25 f) :=
  ⟨nus_len _ _, .inr ⟨w.heap.size, 1, rc f, rfl, Nat.le_refl _, Bk.new w t (rc f), Nat.le_refl _, by simp only [maxLen]; omega, rc_size f, List.take_of_length_le (by rw [Array.length_toList, rc_size]; exact Nat.le_refl _)⟩⟩
theorem own_at {w : World} {base n size : Nat} {e : TypeId} {v : Value} {xs : List Value} (h : w.ownsRow base e size v n xs) (hn : 0 < n) : ∃ g c, v = .slice (some ⟨g, 0, none⟩) n c ∧ base ≤ g ∧ n ≤ c ∧ c ≤ maxLen := by
  rcases h.2 with ⟨_, h0⟩ | ⟨g, cap, cur, h3, hb, _, hc, hm, _⟩
  · omega
  · exact ⟨g, cap, h3, hb, hc, hm⟩
theorem nus_append (m k : Nat) (F G : Nat → Nat) : nus m F ++ nus k G = nus (m + k) (fun i => if i < m then F i else G (i - m)) := by
  apply List.ext_getElem?
  intro i
  rcases Nat.lt_or_ge i m with h | h
  · rw [List.getElem?_append_left (by rw [nus_len]; exact h), nus_at _ h, nus_at _ (by omega), if_pos h]
  · rw [List.getElem?_append_right (by rw [nus_len]; exact h), nus_len]
    rcases Nat.lt_or_ge i (m + k) with h2 | h2
    · rw [nus_at _ (by omega), nus_at _ h2, if_neg (by omega)]
    · rw [List.getElem?_eq_none (by rw [nus_len]; omega), List.getElem?_eq_none (by rw [nus_len]; omega)]
theorem results_cell_one {fn : Func} {p : Tmp} {ty : TypeId} (h : fn.results = #[.cell p ty]) (tmps : Array Value) (P : Program) (w : World) :
    (results fn tmps).run P w = ((asAddr (tmps.getD p undef)).run P w).andThen fun a w₁ => (loadVar ty a).run P w₁ := by
  simp only [results, h]
  simp [Result.andThen]
/-- A result in a cell: a struct that is known whole. -/
theorem results_row {P : Program} {fn : Func} {p : Tmp} {ty : TypeId} (h : fn.results = #[.cell p ty]) (tmps : Array Value) (w : World) (b : Nat) (t : TypeId) (cs : Array Value) (d : TypeDesc)
    (hp : tmps.getD p undef = .pointer (some ⟨b, 0, none⟩)) (hb : Bk w b t cs) (hu : P.underlying ty = some d) (hd : (match d with | .struct _ | .array _ _ => true | _ => false) = true) (hi : (P.info? ty).map (·.size) = some cs.size) :
    (results fn tmps).run P w = .ok (.agg cs) w := by
  have hrun := run_loadVar_row (P := P) w b t ty cs (0, 0) _ hb hu hd hi
  rw [results_cell_one h, hp]
  simp [asAddr, hrun, Result.andThen]
end Go.Proofs.Ytpblamiiggglaaa
