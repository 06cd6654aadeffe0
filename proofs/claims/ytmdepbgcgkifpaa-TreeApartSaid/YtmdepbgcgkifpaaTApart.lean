/- TreeApart: no derivation is the beginning of another one. -/
import Derived.Test.YtmdepbgcgkifpaaTAwake
import Derived.Test.YtmdepbgcgkifpaaDOpI
import Derived.Test.YtmdepbgcgkifpaaKLarge
namespace Go.Proofs.Ytmdepbgcgkifpaa
open Go.RowKit

theorem replay_apart {okg : Bool} {g : Gr.Gm} {l m : List Int} (h1 : (Dv.replayOf okg g l).2 = 0) (h2 : (Dv.replayOf okg g m).2 = 0) (he : l = m.take l.length) : l = m := by
  obtain ⟨_, _, a, ha, da⟩ := Dv.replay_ok h1
  obtain ⟨_, _, b, hb, db⟩ := Dv.replay_ok h2
  have h3 : ns a = ns (b.take a.length) := by
    have h4 : l.length = a.length := by rw [ha]; unfold Dv.ints; rw [List.length_map]
    rw [h4, ha, hb] at he
    unfold ns
    unfold Dv.ints at he
    rw [List.map_take]
    exact he
  have h5 := ns_inj h3
  have h6 : b = a ++ b.drop a.length := by
    have h7 : b = b.take a.length ++ b.drop a.length := (List.take_append_drop _ _).symm
    rw [← h5] at h7
    exact h7
  rw [h6] at db
  have h7 := (da.apart db).1
  rw [h7, List.append_nil] at h6
  rw [ha, hb, h6]

set_option maxRecDepth 100000 in
set_option maxHeartbeats 4000000 in
theorem treeApart_any (t n s : Int) (A : Option Addr) (len c : Nat) (ps : List Gr.Pr) (Al : Option Addr) (ll cl : Nat) (l : List Int) (Am : Option Addr) (lm cm : Nat) (m : List Int) (W : World) (hlen : len = ps.length) (hmax : len ≤ 9223372036854775807) (hr : PrsC W W.heap.size A ps)
    (hll : ll = l.length) (hrl : Rd W W.heap.size Al (ins l)) (hlm : lm = m.length) (hrm : Rd W W.heap.size Am (ins m)) (hcm : lm ≤ cm) :
    Calls Try.prog 5 #[.agg #[.int .i64 t, .int .i64 n, .int .i64 s, .slice A len c], .slice Al ll cl, .slice Am lm cm] W fun e w' => e = .returned (.bool true) ∧ Bl W w' := by
  have HL := Lib.hid hlen; clear hlen
  have HLL := Lib.hid hll; clear hll
  have HLM := Lib.hid hlm; clear hlm
  have HP := Lib.hid hr; clear hr
  have HF := Lib.hid hrl; clear hrl
  have HFm := Lib.hid hrm; clear hrm
  have hb0 : Bl W (W.alloc (.cells #[.int .i64 t, .int .i64 n, .int .i64 s, .slice A len c] 24)) := (Bl.refl W).alloc _
  have HB0 := Lib.hid hb0; clear hb0
  have HG0 : Hid (Bk (W.alloc (.cells #[.int .i64 t, .int .i64 n, .int .i64 s, .slice A len c] 24)) W.heap.size 24 #[.int .i64 t, .int .i64 n, .int .i64 s, .slice A len c]) := Bk.new W _ _
  go_enter Try.func5, Try.ntmps5
  go_wp2_with fail
  refine (awake15_any _).mono ?_
  rintro e w1 ⟨rfl, hb1⟩
  have HG1 := Lib.hid (HG0.out.bl hb1)
  have HB1 := Lib.hid (HB0.out.trans hb1)
  clear hb1 HG0 HB0
  have g0 := HG1.out.cell 0
  have g1 := HG1.out.cell 1
  have g2 := HG1.out.cell 2
  have g3 := HG1.out.cell 3
  go_wp2_with fail
  refine (large9_any t n s A len c ps w1 w1.heap.size HL.out hmax (prsC_on HP.out HB1.out).prs (Nat.le_refl _)).mono ?_
  rintro e w2 ⟨rfl, hb2⟩
  have HG2 := Lib.hid (HG1.out.bl hb2)
  have HB2 := Lib.hid (HB1.out.trans hb2)
  clear hb2 HG1 HB1 g0 g1 g2 g3
  cases hl : lgB ps with
  | true =>
    go_wp2_with fail
    go_ret
    exact ⟨rfl, HB2.out⟩
  | false =>
  clear hl
  by_cases h200 : 200 < ll
  · have hd : decide ((200 : Int) < (ll : Int)) = true := decide_eq_true (by omega)
    go_wp2_with fail
    go_ret
    exact ⟨rfl, HB2.out⟩
  have hd : decide ((200 : Int) < (ll : Int)) = false := decide_eq_false (by omega)
  by_cases hm200 : 200 < lm
  · have hd2 : decide ((200 : Int) < (lm : Int)) = true := decide_eq_true (by omega)
    go_wp2_with fail
    go_ret
    exact ⟨rfl, HB2.out⟩
  have hd2 : decide ((200 : Int) < (lm : Int)) = false := decide_eq_false (by omega)
  have g0 := HG2.out.cell 0
  have g1 := HG2.out.cell 1
  have g2 := HG2.out.cell 2
  have g3 := HG2.out.cell 3
  go_wp2_with fail
  refine (replay_any t n s A len c ps Al ll cl l w2 w2.heap.size HL.out hmax (prsC_on HP.out HB2.out) (Nat.le_refl _) HLL.out (by omega) (rd_onb HF.out HB2.out)).mono ?_
  rintro e w3 ⟨A3, n3, c3, rfl, _, _, hb3⟩
  have HG3 := Lib.hid (HG2.out.bl hb3)
  have HB3 := Lib.hid (HB2.out.trans hb3)
  clear hb3 HG2 HB2 g0 g1 g2 g3
  have g0 := HG3.out.cell 0
  have g1 := HG3.out.cell 1
  have g2 := HG3.out.cell 2
  have g3 := HG3.out.cell 3
  go_wp2_with fail
  refine (replay_any t n s A len c ps Am lm cm m w3 w3.heap.size HL.out hmax (prsC_on HP.out HB3.out) (Nat.le_refl _) HLM.out (by omega) (rd_onb HFm.out HB3.out)).mono ?_
  rintro e w4 ⟨A4, n4, c4, rfl, _, _, hb4⟩
  have HB4 := Lib.hid (HB3.out.trans hb4)
  clear hb4 HG3 HB3 g0 g1 g2 g3
  have HF4 := Lib.hid (rd_onb HF.out HB4.out)
  have HFm4 := Lib.hid (rd_onb HFm.out HB4.out)
  have HAp : Hid ((Dv.replayOf (okB ⟨t, n, s, ps⟩) ⟨t, n, s, ps⟩ l).2 = 0 → (Dv.replayOf (okB ⟨t, n, s, ps⟩) ⟨t, n, s, ps⟩ m).2 = 0 → l ≠ m → decide (l = m.take ll) = false) := fun h1 h2 h3 => decide_eq_false fun h4 => h3 (replay_apart h1 h2 (by rw [← HLL.out]; exact h4))
  generalize (Dv.replayOf (okB ⟨t, n, s, ps⟩) ⟨t, n, s, ps⟩ l).2 = ce at *
  generalize (Dv.replayOf (okB ⟨t, n, s, ps⟩) ⟨t, n, s, ps⟩ m).2 = cf at *
  go_wp2_with fail
  refine (isame_any Al Am ll lm cl cm l m w4 w4.heap.size HLL.out HLM.out (by omega) HF4.out HFm4.out).mono ?_
  rintro e w5 ⟨rfl, q5, rfl⟩
  have HB5 := Lib.hid (HB4.out.drewN q5)
  have HF5 : Hid (Rd (w4.drewN q5) (w4.drewN q5).heap.size Al (ins l)) := HF4.out
  have HFm5 : Hid (Rd (w4.drewN q5) (w4.drewN q5).heap.size Am (ins m)) := HFm4.out
  clear HF4 HFm4 HB4 HF HFm HP
  generalize w4.drewN q5 = w5 at *
  have HLs := Lib.hid (less_any Al Am ll lm cl cm l m w5 _ HLL.out HLM.out (by omega) HF5.out HFm5.out)
  have HMs := Lib.hid (less_any Am Al lm ll cm cl m l w5 _ HLM.out HLL.out (by omega) HFm5.out HF5.out)
  by_cases hlm : l = m
  · have e1 : decide (l = m) = true := decide_eq_true hlm
    have e2 : Dv.less l m = false := by rw [hlm]; exact Dv.less_irrefl m
    rw [e1]
    rw [e2] at HLs
    clear hlm e1 e2 HAp
    go_wp2_with fail
    refine HLs.out.mono ?_
    rintro e w6 ⟨rfl, rfl⟩
    go_wp2_with fail
    refine HLs.out.mono ?_
    rintro e w6 ⟨rfl, rfl⟩
    by_cases hce : ce = 0
    · subst hce
      by_cases hcf : cf = 0
      · subst hcf
        go_wp2_with fail
        go_ret
        exact ⟨rfl, HB5.out⟩
      · have hq : (((cf : Nat) : Int) != 0) = true := by simp; omega
        go_wp2_with fail
        go_ret
        exact ⟨rfl, HB5.out⟩
    · have hq : (((ce : Nat) : Int) != 0) = true := by simp; omega
      go_wp2_with fail
      go_ret
      exact ⟨rfl, HB5.out⟩
  · have e1 : decide (l = m) = false := decide_eq_false hlm
    rw [e1]
    have hsl := fun (hx : ll ≤ cm) (wx : World) => run_slice_head (P := Try.prog) (t := 25) (e := 3) (size := 1) Try.underlying25 (by kernel_rfl) Am lm cm ll (ll : Int) rfl hx wx
    have HNe := Lib.hid hlm
    have key : ∀ x y : Bool, Dv.less l m = x → Dv.less m l = y → (x = true ∧ y = false) ∨ (x = false ∧ y = true) := by
      intro x y hx hy
      subst hx hy
      cases h1 : Dv.less l m with
      | true => exact .inl ⟨rfl, Dv.less_asymm l m h1⟩
      | false => exact .inr ⟨rfl, Dv.less_total l m hlm h1⟩
    have k2 := key _ _ rfl rfl
    clear key hlm e1
    generalize Dv.less l m = x at *
    generalize Dv.less m l = y at *
    rcases k2 with ⟨rfl, rfl⟩ | ⟨rfl, rfl⟩
    · go_wp2_with fail
      refine HLs.out.mono ?_
      rintro e w6 ⟨rfl, rfl⟩
      go_wp2_with fail
      refine HMs.out.mono ?_
      rintro e w6 ⟨rfl, rfl⟩
      go_wp2_with fail
      refine HLs.out.mono ?_
      rintro e w6 ⟨rfl, rfl⟩
      by_cases hce : ce = 0
      · subst hce
        by_cases hcf : cf = 0
        · subst hcf
          by_cases hlt : lm < ll
          · have hd3 : decide ((lm : Int) < (ll : Int)) = true := decide_eq_true (by omega)
            go_wp2_with fail
            go_ret
            exact ⟨rfl, HB5.out⟩
          · have hd3 : decide ((lm : Int) < (ll : Int)) = false := decide_eq_false (by omega)
            have hs2 := hsl (by omega)
            have HD := Lib.hid (HAp.out rfl rfl HNe.out)
            clear hsl HLs HMs
            go_wp2_with fail
            refine (isame_any Al Am ll ll cl cm l (m.take ll) _ _ HLL.out (by rw [List.length_take, ← HLM.out]; omega) (by omega) HF5.out (by have h := HFm5.out.take ll; rw [show (ins m).take ll = ins (m.take ll) by simp [ins]] at h; exact h)).mono ?_
            rw [HD.out]
            rintro e w7 ⟨rfl, q7, rfl⟩
            go_wp2_with fail
            go_ret
            exact ⟨rfl, HB5.out.drewN q7⟩
        · have hq : (((cf : Nat) : Int) != 0) = true := by simp; omega
          go_wp2_with fail
          go_ret
          exact ⟨rfl, HB5.out⟩
      · have hq : (((ce : Nat) : Int) != 0) = true := by simp; omega
        go_wp2_with fail
        go_ret
        exact ⟨rfl, HB5.out⟩
    · go_wp2_with fail
      refine HLs.out.mono ?_
      rintro e w6 ⟨rfl, rfl⟩
      go_wp2_with fail
      refine HLs.out.mono ?_
      rintro e w6 ⟨rfl, rfl⟩
      go_wp2_with fail
      refine HMs.out.mono ?_
      rintro e w6 ⟨rfl, rfl⟩
      by_cases hce : ce = 0
      · subst hce
        by_cases hcf : cf = 0
        · subst hcf
          by_cases hlt : lm < ll
          · have hd3 : decide ((lm : Int) < (ll : Int)) = true := decide_eq_true (by omega)
            go_wp2_with fail
            go_ret
            exact ⟨rfl, HB5.out⟩
          · have hd3 : decide ((lm : Int) < (ll : Int)) = false := decide_eq_false (by omega)
            have hs2 := hsl (by omega)
            have HD := Lib.hid (HAp.out rfl rfl HNe.out)
            clear hsl HLs HMs
            go_wp2_with fail
            refine (isame_any Al Am ll ll cl cm l (m.take ll) _ _ HLL.out (by rw [List.length_take, ← HLM.out]; omega) (by omega) HF5.out (by have h := HFm5.out.take ll; rw [show (ins m).take ll = ins (m.take ll) by simp [ins]] at h; exact h)).mono ?_
            rw [HD.out]
            rintro e w7 ⟨rfl, q7, rfl⟩
            go_wp2_with fail
            go_ret
            exact ⟨rfl, HB5.out.drewN q7⟩
        · have hq : (((cf : Nat) : Int) != 0) = true := by simp; omega
          go_wp2_with fail
          go_ret
          exact ⟨rfl, HB5.out⟩
      · have hq : (((ce : Nat) : Int) != 0) = true := by simp; omega
        go_wp2_with fail
        go_ret
        exact ⟨rfl, HB5.out⟩
end Go.Proofs.Ytmdepbgcgkifpaa
