/- The law's own, the reference's Same, large. -/
import Derived.Test.YthfhnjoeippenaaSpRRows
import Derived.Test.YthfhnjoeippenaaKLarge
namespace Go.Proofs.Ythfhnjoeippenaa
open Go.RowKit

/-- What own leaves: the same rows. -/
def OwnPost (len : Nat) (F : Nat → Nat) (w : World) (e : Ending) (w' : World) : Prop :=
  ∃ A c, e = .returned (.slice A len c) ∧ Rd w' w'.heap.size A (nus (25 * len) F) ∧ Bl w w'
theorem nus_next (a : Nat) (F : Nat → Nat) : nus (25 * (a + 1)) F = nus (25 * a) F ++ (rc (fun i => F (25 * a + i))).toList := by
  have e1 : (rc (fun i => F (25 * a + i))).toList = nus 25 (fun i => F (25 * a + i)) := rfl
  rw [e1, nus_append, show 25 * a + 25 = 25 * (a + 1) by omega]
  refine nus_congr fun i hi => ?_
  split
  · rfl
  · show F i = F (25 * a + (i - 25 * a))
    rw [show 25 * a + (i - 25 * a) = i by omega]
/-- A row among rows. -/
theorem Rd.row {w : World} {B : Nat} {A : Option Addr} {len : Nat} {F : Nat → Nat} (h : Rd w B A (nus (25 * len) F)) {k : Nat} (hk : k < len) : ∃ b off, A = some ⟨b, off, none⟩ ∧ b < B ∧ ∀ i, i < 25 → w.cell? ⟨b, off + k * 25 + i, none⟩ = some (.int .u32 (F (25 * k + i) : Int)) := by
  obtain ⟨b, off, e, hb, hc⟩ := h (by rw [nus_len]; omega)
  refine ⟨b, off, e, hb, fun i hi => ?_⟩
  rw [show off + k * 25 + i = off + (25 * k + i) by omega]
  exact hc _ _ (nus_at F (by omega))

set_option maxRecDepth 100000 in
set_option maxHeartbeats 3200000 in
theorem own_any (A : Option Addr) (len c : Nat) (F : Nat → Nat) (w : World) (B : Nat) (hmax : len ≤ 1000) (hr : Rd w B A (nus (25 * len) F)) (hB : B ≤ w.heap.size) :
    Calls Try.prog 9 #[.slice A len c] w (OwnPost len F w) := by
  obtain ⟨i0, hi, hz0, hz1, hz2⟩ := info_parts rrow_info
  have HR := Lib.hid hr; clear hr
  have hzi : (Try.prog.info? 37).map (·.size) = some 25 := row_size
  have HO0 : Hid ((w.alloc (.cells #[] 50)).ownsRow w.heap.size 50 25 (.slice (some ⟨w.heap.size, 0, none⟩) 0 0) 0 (nus (25 * 0) F)) := own_empty25 w _ _ (Nat.le_refl _)
  go_enter Try.func9, Try.ntmps9
  go_wp2_with fail
  go_loopw [3, 9] (fun v i wr => ∃ (k : Nat) (Ao : Option Addr) (co : Nat), k ≤ len ∧ v = .slice Ao k co ∧ i = .int .i64 k ∧ Hid (wr.ownsRow w.heap.size 50 25 (.slice Ao k co) k (nus (25 * k) F)) ∧ Hid (Bl w wr)) (fun _ i _ => len - (intOf i).toNat)
  case atStart => exact ⟨0, _, 0, Nat.zero_le _, rfl, rfl, HO0.out, (Bl.refl w).alloc _⟩
  case round =>
    obtain ⟨k, Ao, co, hk, rfl, rfl, HO, HB⟩ := hrel
    by_cases hlt : k < len
    · obtain ⟨b, off, rfl, hbB, hrow⟩ := (HR.out.bl hB HB.out).row hlt
      have HRow := Lib.hid hrow
      clear hrow
      have hbw : b < wr.heap.size := by have := HB.out.size; omega
      have H5 := Lib.hid (Bk.new wr 37 rc0)
      have HNx := Lib.hid (nus_next k F)
      have i1 : (0 : Int) ≤ (k : Int) := by omega
      have i2 : (k : Int) < (len : Int) := by omega
      have hws : w.heap.size ≤ wr.heap.size := HB.out.size
      generalize hf : (fun i => F (25 * k + i)) = f at HNx
      have HRow2 : Hid (∀ i, i < 25 → wr.cell? ⟨b, off + k * 25 + i, none⟩ = some (.int .u32 (f i : Int))) := fun i hi => by rw [← hf]; exact HRow.out i hi
      clear hf
      go_wp2_with (first
        | ((with_reducible refine wpList_load_row ?hg 37 (.tmp 11) ?ho b (off + k * 25) f _ ?hx Try.underlying37 rfl hzi HRow2.out ?_); (case ho => with_reducible rfl); (case hg => rfl); (case hx => rfl))
        | (with_reducible refine wpList_alloc_agg rfl 37 rfl rc0 25 row_zero ?_)
        | ((with_reducible refine wpList_store_bk ?hg 37 (.tmp 5) (.tmp 12) ?ho wr.heap.size 37 rc0 (rc f) ?hx ?hy H5.out ?hs ?hi (rc_one _) ?_); (case hs => exact (rc_size _).trans (rc_size _).symm); (case ho => with_reducible rfl); (case hg => rfl); (case hx => rfl); (case hy => rfl); (case hi => rw [rc_size]; exact hzi); intro w6 hb6 hf6; have HB6 : Hid (Bl wr w6) := ((Bl.refl wr).alloc _).fr hf6 (fun i hi e => by omega); have HC6 : Hid (∀ i, i < 25 → w6.cell? ⟨wr.heap.size, 0 + i, none⟩ = some (.int .u32 (f i : Int))) := (fun i hi => by rw [Nat.zero_add, hb6.cell]; exact rc_at f hi); have hl6 := hb6.lt; have HO6 := Lib.hid (own_alloc (own_bl HO.out HB6.out) (.cells (rc f) 50)); have HB7 : Hid (Bl w (w6.alloc (.cells (rc f) 50))) := (HB.out.trans HB6.out).alloc _; clear hb6 hf6)
        | ((with_reducible refine wpList_load_row ?hg 37 (.tmp 5) ?ho wr.heap.size 0 f _ ?hx Try.underlying37 rfl hzi HC6.out ?_); (case ho => with_reducible rfl); (case hg => rfl); (case hx => rfl))
        | ((with_reducible refine wpList_build1 ?hg 29 50 (.tmp 14) ?ho f ?hx (build1_rrow _) ?_); (case ho => with_reducible rfl); (case hg => rfl); (case hx => rfl))
        | (at_builtin; refine wpList_append_own _ rfl (.tmp 13) (.tmp 15) 29 rfl w.heap.size 50 i0 (.agg rc0) 25 100 Try.underlying29 hi hz0 hz1 hz2 (rc_size _) (by decide) (.slice Ao k co) k (nus (25 * k) F) rfl HO6.out ⟨w6.heap.size, 0, none⟩ 1 1 (rc f).toList rfl (by rw [Array.length_toList, rc_size]) (cells_new w6 (rc f) 50) (us_one _) (by simp only [maxLen]; omega) (by omega) HB7.out.size ?_; intro v9 w9 hown9 hg9 _; obtain ⟨A9, c9, hv9, hd9⟩ := own_form hown9; subst hv9; have HO9 := Lib.hid hown9; have HB9 : Hid (Bl w w9) := HB7.out.grown hg9 (fun k hk => (HO.out.lt k hk).1); clear hown9 hg9 hd9))
      have HO10 : Hid (w9.ownsRow w.heap.size 50 25 (.slice A9 (k + 1) c9) (k + 1) (nus (25 * (k + 1)) F)) := by rw [HNx.out]; exact HO9.out
      go_roundw
      case rel => exact ⟨k + 1, A9, c9, by omega, rfl, by go_num, HO10.out, HB9.out⟩
      case measure => simp [intOf]; omega
    · have hke : k = len := by omega
      subst hke
      go_wp2_with fail
      go_ret
      refine ⟨Ao, co, rfl, ?_, HB.out⟩
      cases k with
      | zero => exact Rd.nil
      | succ k =>
        obtain ⟨g9, c9, h9, _⟩ := own_at HO.out (by omega)
        injection h9 with h9 _ h10
        subst h9
        exact own_rdW HO.out

/-- Whether rows are the same. -/
def sameR (la lb : Nat) (F G : Nat → Nat) : Bool := decide (la = lb) && sameN (25 * la) F G
theorem sameN_congr {n : Nat} {F G : Nat → Nat} (h : ∀ i, i < n → F i = G i) : sameN n F G = true := sameN_iff.2 h

set_option maxRecDepth 100000 in
set_option maxHeartbeats 3200000 in
theorem rsame_any (A A' : Option Addr) (la lb ca cb : Nat) (F G : Nat → Nat) (w : World) (B : Nat) (hmax : la ≤ 1000) (hr : Rd w B A (nus (25 * la) F)) (hr' : Rd w B A' (nus (25 * lb) G)) :
    Calls Try.prog 8 #[.slice A la ca, .slice A' lb cb] w fun e w' => e = .returned (.bool (sameR la lb F G)) ∧ Bl w w' := by
  have HR := Lib.hid hr
  have HR' := Lib.hid hr'
  clear hr hr'
  have hzi : (Try.prog.info? 50).map (·.size) = some 25 := rrow_size
  have hgt : Try.prog.eqGuardType Try.prog.depth 50 = false := by kernel_rfl
  by_cases hne : la = lb
  · subst hne
    have HS : Hid (sameR la la F G = sameN (25 * la) F G) := by unfold Hid sameR; rw [decide_eq_true rfl, Bool.true_and]
    go_enter Try.func8, Try.ntmps8
    go_wp2_with fail
    go_loopw [5] (fun i wr => ∃ (k q : Nat), k ≤ la ∧ i = .int .i64 k ∧ wr = w.drewN q ∧ Hid (∀ i, i < 25 * k → F i = G i)) (fun i _ => la - (intOf i).toNat)
    case atStart => exact ⟨0, 0, Nat.zero_le _, rfl, rfl, fun i hi => absurd hi (by omega)⟩
    case round =>
      obtain ⟨k, q, hk, rfl, rfl, HT⟩ := hrel
      by_cases hlt : k < la
      · obtain ⟨b, off, rfl, _, h1⟩ := HR.out.row hlt
        obtain ⟨b', off', rfl, _, h2⟩ := HR'.out.row hlt
        have H1 := Lib.hid h1
        have H2 := Lib.hid h2
        clear h1 h2
        have i1 : (0 : Int) ≤ (k : Int) := by omega
        have i2 : (k : Int) < (la : Int) := by omega
        go_wp2_with fail
        refine wp_region_quiet_lit (by kernel_rfl) (by kernel_rfl) ?_
        quiet_step (fail)
        quiet_step (fail)
        quiet_step (fail)
        refine wpQuiet_step (fun K hK => ?_)
        refine qstep_load_row rfl 50 (.tmp 19) rfl b (off + k * 25) (fun i => F (25 * k + i)) _ rfl Try.underlying50 rfl hzi (fun w hC => by obtain ⟨_, rfl⟩ := hC; exact H1.out) ?_
        refine hK _ ?_
        clear hK K
        quiet_step (fail)
        quiet_step (fail)
        quiet_step (fail)
        refine wpQuiet_step (fun K hK => ?_)
        refine qstep_load_row rfl 50 (.tmp 23) rfl b' (off' + k * 25) (fun i => G (25 * k + i)) _ rfl Try.underlying50 rfl hzi (fun w hC => by obtain ⟨_, rfl⟩ := hC; exact H2.out) ?_
        refine hK _ ?_
        clear hK K
        refine wpQuiet_step (fun K hK => ?_)
        refine qstep_neq_row rfl 50 50 50 (.tmp 20) (.tmp 24) rfl (fun i => F (25 * k + i)) (fun i => G (25 * k + i)) rfl rfl hgt (fun w => eql_rrow w _ _) rfl ?_
        refine hK _ ?_
        clear hK K
        refine wpQuiet_nil ?_
        intro _ hw'
        obtain ⟨nq, hw''⟩ := hw'
        subst hw''
        have HSame := Lib.hid (sameN_iff (n := 25) (f := fun i => F (25 * k + i)) (h := fun i => G (25 * k + i)))
        generalize sameN 25 (fun i => F (25 * k + i)) (fun i => G (25 * k + i)) = bb at *
        cases bb with
        | true =>
          have HT2 : Hid (∀ i, i < 25 * (k + 1) → F i = G i) := fun i hi => by
            by_cases h : i < 25 * k
            · exact HT.out i h
            · have h2 := HSame.out.mp rfl (i - 25 * k) (by omega)
              rwa [show 25 * k + (i - 25 * k) = i by omega] at h2
          go_wp2_with fail
          go_roundw
          case rel => exact ⟨k + 1, _, by omega, by go_num, rfl, HT2.out⟩
          case measure => simp [intOf]; omega
        | false =>
          have HF : Hid (sameN (25 * la) F G = false) := by
            unfold Hid
            rw [Bool.eq_false_iff]
            intro h
            have h2 : false = true := HSame.out.mpr (fun i hi => sameN_iff.1 h (25 * k + i) (by omega))
            cases h2
          go_wp2_with fail
          go_ret
          exact ⟨by rw [HS.out, HF.out]; rfl, (Bl.refl w).drewN _⟩
      · have hke : k = la := by omega
        have HF : Hid (sameN (25 * la) F G = true) := sameN_iff.2 (by rw [← hke]; exact HT.out)
        clear hke
        go_wp2_with fail
        go_ret
        exact ⟨by rw [HS.out, HF.out]; rfl, (Bl.refl w).drewN _⟩
  · have HS : Hid (sameR la lb F G = false) := by unfold Hid sameR; rw [decide_eq_false hne]; rfl
    have hq : ((la : Int) != (lb : Int)) = true := by rw [bne_iff_ne]; omega
    clear hne
    go_enter Try.func8, Try.ntmps8
    go_wp2_with fail
    go_ret
    exact ⟨by rw [HS.out]; rfl, Bl.refl _⟩
end Go.Proofs.Ythfhnjoeippenaa
