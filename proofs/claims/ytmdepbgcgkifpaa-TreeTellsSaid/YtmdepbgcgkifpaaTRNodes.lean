/- The reference's Nodes. -/
import Derived.Test.YtmdepbgcgkifpaaTBuild
import Derived.Test.YtmdepbgcgkifpaaTRep
namespace Go.Proofs.Ytmdepbgcgkifpaa
open Go.RowKit
open Al (No Nd)

theorem nd_len {ps : List Gr.Pr} (h8 : ∀ p ∈ ps, p.right.length ≤ 8) {w : List Int} {l : List Nat} {row : List Gr.Sy} {a b : Nat} {ns : List No} {pl : List Nat} (h : Nd ps w l row a b ns pl) : b ≤ a + row.length + 8 * l.length := by
  induction h with
  | nil => omega
  | tok _ _ _ ih => rw [List.length_cons]; omega
  | non _ hp _ _ _ ih1 ih2 =>
    have := h8 _ (List.mem_of_getElem? hp)
    rw [List.length_cons, List.length_cons, List.length_append]
    omega
theorem nd_rows {ps : List Gr.Pr} (h8 : ∀ p ∈ ps, p.right.length ≤ 8) {w : List Int} {l : List Nat} {row : List Gr.Sy} {a b : Nat} {ns : List No} {pl : List Nat} (h : Nd ps w l row a b ns pl) : ∀ x ∈ ns, x.at_.length ≤ 8 := by
  induction h with
  | nil => intro x hx; exact absurd hx (by simp)
  | tok _ _ _ ih => exact ih
  | non _ hp _ h1 _ ih1 ih2 =>
    intro x hx
    rcases List.mem_cons.1 hx with rfl | hx
    · show List.length _ ≤ 8
      rw [h1.places.1]
      exact h8 _ (List.mem_of_getElem? hp)
    · rcases List.mem_append.1 hx with hx | hx
      · exact ih1 x hx
      · exact ih2 x hx
theorem AtK.rd {w : World} {lo : Nat} {h : Nh} {P : Nat → Prop} (hk : AtK w lo h P) : Rd w w.heap.size h.at_ (ins h.row) := fun _ => by
  obtain ⟨b, off, h1, _, h3, _, h5⟩ := hk
  exact ⟨b, off, h1, h3.lt, h5⟩

set_option maxRecDepth 100000 in
set_option maxHeartbeats 2000000 in
theorem rnodes_any (t n s : Int) (A : Option Addr) (len c : Nat) (ps : List Gr.Pr) (Al : Option Addr) (ll cl : Nat) (l : List Int) (w : World) (B : Nat) (hlen : len = ps.length) (hmax : len ≤ 9223372036854775807) (hr : Prs w B A ps) (hB : B ≤ w.heap.size)
    (hll : ll = l.length) (hml : ll ≤ 9223372036854775806) (hrl : Rd w B Al (ins l)) :
    Calls Try.prog 11 #[.agg #[.int .i64 t, .int .i64 n, .int .i64 s, .slice A len c], .slice Al ll cl] w (fun e w' => ∃ nd, ((Dv.replayOf (okB ⟨t, n, s, ps⟩) ⟨t, n, s, ps⟩ l).2 ≠ 0 → nd = []) ∧
      ((Dv.replayOf (okB ⟨t, n, s, ps⟩) ⟨t, n, s, ps⟩ l).2 = 0 → ∃ (m : List Nat) (wd : List Int) (b : Nat) (nds : List No) (pl : List Nat), l = Dv.ints m ∧ Nd ps wd m [⟨true, s⟩] 0 b nds pl ∧ nd = nds.map ndOf ∧ ∀ x ∈ nds, x.at_.length ≤ 8) ∧ NPost nd (Dv.replayOf (okB ⟨t, n, s, ps⟩) ⟨t, n, s, ps⟩ l).2 w e w') := by
  have hb0 : Bl w (w.alloc (.cells #[.int .i64 t, .int .i64 n, .int .i64 s, .slice A len c] 24)) := (Bl.refl w).alloc _
  have HG0 : Hid (Bk (w.alloc (.cells #[.int .i64 t, .int .i64 n, .int .i64 s, .slice A len c] 24)) w.heap.size 24 #[.int .i64 t, .int .i64 n, .int .i64 s, .slice A len c]) := Bk.new w _ _
  have HC := Lib.hid (treplay_any t n s A len c ps Al ll cl l _ B hlen hmax (hr.bl hB hb0) (Nat.le_trans hB hb0.size) hll hml (hrl.bl hB hb0))
  have HB0 := Lib.hid hb0
  have HP : Hid (∀ w', Bl w w' → Prs w' B A ps) := fun _ hb => hr.bl hB hb
  have HF : Hid (∀ w', Bl w w' → Rd w' B Al (ins l)) := fun _ hb => hrl.bl hB hb
  have HL := Lib.hid hlen
  have HLL := Lib.hid hll
  have HOk : Hid ((Dv.replayOf (okB ⟨t, n, s, ps⟩) ⟨t, n, s, ps⟩ l).2 = 0 → okB ⟨t, n, s, ps⟩ = true ∧ l.length ≤ 2000 ∧ ∃ wd, Dv.play ps l [⟨true, s⟩] = (wd, 0)) := fun h => by
    obtain ⟨h1, h2, m, h3, h4⟩ := Dv.replay_ok h
    rw [h1, Dv.replay_play h2] at h
    exact ⟨h1, h2, _, Prod.ext rfl h⟩
  clear hlen hll hr hrl hb0
  generalize (Dv.replayOf (okB ⟨t, n, s, ps⟩) ⟨t, n, s, ps⟩ l) = x at *
  obtain ⟨v, cd⟩ := x
  simp only at HOk
  go_enter Try.func11, Try.ntmps11
  go_wp2_with fail
  refine HC.out.mono ?_
  rintro e w1 ⟨A1, n1, c1, rfl, _, _, hb1⟩
  have HB1 := Lib.hid (HB0.out.trans hb1)
  have HG1 := Lib.hid (HG0.out.bl hb1)
  clear hb1 HB0 HG0 HC
  by_cases hcd : cd = 0
  · subst hcd
    obtain ⟨hok, h2000, wd, hpl⟩ := HOk.out rfl
    obtain ⟨m, nds, pl, hlm, hnd⟩ := Dv.nodes_of hpl
    have h8 : ∀ p ∈ ps, p.right.length ≤ 8 := fun p hp => by
      obtain ⟨k, hk, rfl⟩ := List.mem_iff_getElem.1 hp
      exact (ok_syms hok hk).2.1
    have hwl := nd_len h8 hnd
    have hml2 : l.length = m.length := by rw [hlm]; simp [Dv.ints]
    have hrw := nd_rows h8 hnd
    have HNd := Lib.hid hnd
    have HRw := Lib.hid hrw
    clear hrw
    generalize e1 : ([⟨true, s⟩] : List Gr.Sy) = row at hnd
    generalize e3 : wd.length = wl at hnd
    cases hnd with
    | nil => cases e1
    | tok h => cases e1; cases h
    | @non l1 m1 _ row' _ c1' _ idx p ns ns' pl1 pl' hs1 hs2 hs3 hs4 hs5 =>
      injection e1 with e0 e1
      subst e0 e1
      generalize e2 : ([] : List Gr.Sy) = row2 at hs5
      cases hs5 with
      | tok => cases e2
      | non => cases e2
      | nil =>
        have hdrop : l.drop 0 = (idx : Int) :: (Dv.ints l1 ++ []) := by rw [List.drop_zero, hlm]; simp [Dv.ints]
        have hl1 : l1.length ≤ 2000 := by rw [List.length_cons, List.length_append] at hml2; omega
        have hw8 : wd.length ≤ 1000000 := by
          rw [← hml2] at hwl
          simp only [List.length_cons, List.length_nil] at hwl
          omega
        have HB := Lib.hid ((show Calls Try.prog 20 #[.agg #[.int .i64 t, .int .i64 n, .int .i64 s, .slice A len c], .slice Al ll cl, .int .i64 0, .int .i64 0, .slice none 0 0] w1 _ from (build_all t n s A len c ps Al ll cl l wd B HL.out HLL.out (by have := HLL.out; omega) hw8 h8 l1.length) idx p l1 [] 0 wl 0 ns pl1 none 0 0 [] w1.heap.size w1 rfl hs2 hs4 hdrop (Nat.le_of_eq e3.symm) (by omega) (HP.out _ HB1.out) (HF.out _ HB1.out) (Nat.le_trans hB HB1.out.size) (Nat.le_refl _) (World.ownsRow_nil _ _ _ _)))
        have g0 := HG1.out.cell 0
        have g1 := HG1.out.cell 1
        have g2 := HG1.out.cell 2
        have g3 := HG1.out.cell 3
        have HLm := Lib.hid hlm
        clear hs1 hs2 hs3 hs4 hdrop hlm hwl hpl hok h8 HOk
        go_wp2_with fail
        with_reducible refine HB.out.mono ?_
        rintro e w2 ⟨A2, m2, c2, hs2, rfl, hm2, hn2, ho2, hf2, _, hat2⟩
        have HB2 := Lib.hid (HB1.out.trans (hf2.bl fun i _ h => by cases h))
        have HO2 := Lib.hid ho2
        have HA2 := Lib.hid hat2
        have HN2 := Lib.hid hn2
        have HM2 : Hid (m2 = hs2.length) := by show _ = _; omega
        clear g0 g1 g2 g3 ho2 hat2 hn2 hf2 hm2
        go_wp2_with fail
        go_ret2
        refine ⟨hs2.map Nh.nd, ⟨_, HLm.out, wd, _, _, ⟨_, HNd.out⟩, ?_, HRw.out⟩, A2, m2, c2, rfl, by rw [List.length_map]; exact HM2.out, NRh.rd ⟨(RdT.of_own HO2.out).rd, fun x hx => (HA2.out x hx).rd⟩, HB2.out⟩
        rw [HN2.out, List.append_nil]
        rfl
  · have hq : (((cd : Nat) : Int) != 0) = true := by simp; omega
    go_wp2_with fail
    go_ret2
    exact ⟨[], fun _ => rfl, fun h => absurd h hcd, none, 0, 0, rfl, rfl, .nil, HB1.out⟩
end Go.Proofs.Ytmdepbgcgkifpaa
