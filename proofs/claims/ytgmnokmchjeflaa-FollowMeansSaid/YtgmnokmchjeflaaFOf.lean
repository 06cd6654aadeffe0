/- first.Of: the set of symbols, and whether all of them are nullable. -/
import Derived.Test.YtgmnokmchjeflaaFFirst
import Derived.Test.YtgmnokmchjeflaaFHas
import Derived.Deep.RegionHeld3
namespace Go.Proofs.Ytgmnokmchjeflaa
open Go.RowKit

/-- Are these a grammar's, and may it be? -/
def mayOf (g : Gr.Gm) (l : List Gr.Sy) : Bool := okB g && l.all (okSyB g.terms g.nons)
def ofNum (g : Gr.Gm) (l : List Gr.Sy) : Nat := if mayOf g l then Fi.ofN (Fi.numR g) (Fi.nulls g) l else 0
def ofAll (g : Gr.Gm) (l : List Gr.Sy) : Bool := mayOf g l && Fi.allNull (Fi.nulls g) l
section
variable {g : Gr.Gm} {l : List Gr.Sy}
theorem mayOf_bad (h : okB g = false) : mayOf g l = false := by unfold mayOf; rw [h]; rfl
theorem mayOf_is (h : okB g = true) : mayOf g l = l.all (okSyB g.terms g.nons) := by unfold mayOf; rw [h]; rfl
theorem ofNum_no (h : mayOf g l = false) : ofNum g l = 0 := by unfold ofNum; rw [h]; rfl
theorem ofAll_no (h : mayOf g l = false) : ofAll g l = false := by unfold ofAll; rw [h]; rfl
theorem ofNum_yes (h : mayOf g l = true) : ofNum g l = Fi.ofN (Fi.numR g) (Fi.nulls g) l := by unfold ofNum; rw [h]; rfl
theorem ofAll_yes (h : mayOf g l = true) : ofAll g l = Fi.allNull (Fi.nulls g) l := by unfold ofAll; rw [h]; rfl
theorem syOk_all (ht : g.terms ≤ 16) (hn : 0 ≤ g.nons) (h : l.all (okSyB g.terms g.nons) = true) : Fi.SyOk g.nons.toNat l := by
  intro x hx
  have h1 := (okSyB_iff g x).1 (List.all_eq_true.1 h x hx)
  refine ⟨h1.1, fun e => ?_, fun e => ?_⟩
  · have := h1.2.1 e; omega
  · have := h1.2.2 e; omega
end

set_option maxRecDepth 100000 in
set_option maxHeartbeats 4000000 in
theorem fof_any (t n s : Int) (A : Option Addr) (len c : Nat) (ps : List Gr.Pr) (Ax : Option Addr) (lx cx : Nat) (l : List Gr.Sy) (w : World) (B : Nat)
    (hlen : len = ps.length) (hmax : len ≤ 9223372036854775807) (hr : Prs w B A ps) (hlx : lx = l.length) (hmx : lx ≤ 9223372036854775807) (hrx : Rd w B Ax (syRow l)) (hB : B ≤ w.heap.size) :
    Calls Try.prog 13 #[.agg #[.int .i64 t, .int .i64 n, .int .i64 s, .slice A len c], .slice Ax lx cx] w fun e w' =>
      e = .returned (.tuple #[.int .u32 (ofNum ⟨t, n, s, ps⟩ l : Int), .bool (ofAll ⟨t, n, s, ps⟩ l)]) ∧ Bl w w' := by
  have HL := Lib.hid hlen; clear hlen
  have HLX := Lib.hid hlx; clear hlx
  have HP : Hid (∀ w', Bl w w' → Prs w' w'.heap.size A ps) := fun _ hb => (hr.bl hB hb).more (Nat.le_trans hB hb.size)
  have HX : Hid (∀ w', Bl w w' → Rd w' w'.heap.size Ax (syRow l)) := fun _ hb => (hrx.bl hB hb).more (Nat.le_trans hB hb.size)
  clear hr hrx hB
  have hmf : ∀ (fn : Fn) (first cap : Array Value) (w : World), (Instr.makeFunc fn first cap).run Try.prog w = .ok (.func fn first cap) w := fun _ _ _ _ => rfl
  have HB0 : Hid (Bl w (w.alloc (.cells #[.int .i64 t, .int .i64 n, .int .i64 s, .slice A len c] 24))) := (Bl.refl w).alloc _
  have HG0 : Hid (Bk (w.alloc (.cells #[.int .i64 t, .int .i64 n, .int .i64 s, .slice A len c] 24)) w.heap.size 24 #[.int .i64 t, .int .i64 n, .int .i64 s, .slice A len c]) := Bk.new w _ _
  go_enter Try.func13, Try.ntmps13
  go_wp2_with fail
  refine (right_any t n s A len c ps _ _ HL.out hmax (HP.out _ HB0.out) (Nat.le_refl _)).mono ?_
  rintro e w1 ⟨rfl, hb1⟩
  have HB1 := Lib.hid (HB0.out.trans hb1)
  have HG1 := Lib.hid (HG0.out.bl hb1)
  clear hb1
  cases hok : okB ⟨t, n, s, ps⟩ with
  | false =>
    have HV1 := Lib.hid (ofNum_no (mayOf_bad (l := l) hok))
    have HV2 := Lib.hid (ofAll_no (mayOf_bad (l := l) hok))
    clear hok
    go_wp2_with fail
    go_ret2
    exact ⟨by rw [HV1.out, HV2.out]; rfl, HB1.out⟩
  | true =>
    have HM := Lib.hid (mayOf_is (l := l) hok)
    obtain ⟨n1, n2, n3⟩ := ok_nons hok
    obtain ⟨_, ht16, _⟩ := (okB_iff _).1 hok
    have ht16 : t ≤ 16 := ht16
    obtain ⟨N, rfl⟩ : ∃ N : Nat, n = (N : Int) := ⟨n.toNat, by omega⟩
    have HYes := Lib.hid (firstsOf_ok hok)
    have HFa : Hid (factsOf false ⟨t, (N : Int), s, ps⟩ = fz (Rk.ranks false ps N)) := factsOf_ok hok
    have hlx60 : len ≤ 60 := by have := HL.out; omega
    clear hok
    go_wp2_with fail
    refine (aliens_any t (N : Int) s A len c w.heap.size Ax lx cx l _ _ HG1.out HLX.out hmx (HX.out _ HB1.out) (Nat.le_refl _)).mono ?_
    rintro e w2 ⟨rfl, hb2⟩
    have HB2 := Lib.hid (HB1.out.trans hb2)
    have HKc := Lib.hid (HG1.out.bl hb2)
    clear hb2 HB1 HG1 HG0 HB0
    cases hall : l.all (okSyB t (N : Int)) with
    | false =>
      have HV1 := Lib.hid (ofNum_no (HM.out.trans hall))
      have HV2 := Lib.hid (ofAll_no (HM.out.trans hall))
      clear hall
      go_wp2_with fail
      go_ret2
      exact ⟨by rw [HV1.out, HV2.out]; rfl, HB2.out⟩
    | true =>
      have HV1 := Lib.hid (ofNum_yes (HM.out.trans hall))
      have HV2 := Lib.hid (ofAll_yes (HM.out.trans hall))
      have HSy : Hid (Fi.SyOk N l) := syOk_all (g := ⟨t, (N : Int), s, ps⟩) ht16 (by show (0 : Int) ≤ (N : Int); omega) hall
      have HNn : Hid (nlz (fz (Rk.ranks false ps N)) = Fi.nulls ⟨t, (N : Int), s, ps⟩) := nlz_nulls ⟨t, (N : Int), s, ps⟩
      have HFN : Hid (N = (Fi.numR ⟨t, (N : Int), s, ps⟩).length) := (Fi.numR_len ⟨t, (N : Int), s, ps⟩).symm
      have HZN : Hid (N = (fz (Rk.ranks false ps N)).length) := by show N = _; rw [fz_len, Rk.ranks_length]
      clear hall
      have HBc := Lib.hid (Bl.refl w2)
      have HPc : Hid (∀ w', Bl w2 w' → Prs w' w'.heap.size A ps) := fun _ hb => HP.out _ (HB2.out.trans hb)
      have HXc : Hid (∀ w', Bl w2 w' → Rd w' w'.heap.size Ax (syRow l)) := fun _ hb => HX.out _ (HB2.out.trans hb)
      have tk1 : True := trivial
      have tk2 : True := trivial
      have tk3 : True := trivial
      go_wp2_with fail
      go_region_held3 (fun w' => w'.cell? ⟨w.heap.size, 0, none⟩ = some (.int .i64 t) ∧ w'.cell? ⟨w.heap.size, 1, none⟩ = some (.int .i64 (N : Int)) ∧ w'.cell? ⟨w.heap.size, 2, none⟩ = some (.int .i64 s) ∧ w'.cell? ⟨w.heap.size, 3, none⟩ = some (.slice A len c)) (exact ⟨HKc.out.cell 0, HKc.out.cell 1, HKc.out.cell 2, HKc.out.cell 3⟩) (first
        | (go_at_call 24; have _t := tk1; ((with_reducible refine (first_any t N s A len c ps _ w2.heap.size HL.out hmax (prs_drew (HPc.out w2 (Bl.refl w2))) (Nat.le_refl _)).mono ?_); intro e v1 h1; obtain ⟨A1, c1, he1, hr1, hb1⟩ := h1.lit (k := N) HYes.out (Fi.numR_len _); subst he1; have H1 := Lib.hid hr1; have HBc := Lib.hid (Bl.undrew hb1); have HKc := Lib.hid (HKc.out.bl (Bl.undrew hb1)); clear h1 hr1 hb1; clear tk1))
        | (go_at_call 25; have _t := tk2; ((with_reducible refine (nullable_any t N s A len c ps _ v1.heap.size HL.out hmax (HPc.out v1 HBc.out) (Nat.le_refl _)).mono ?_); intro e v2 h2; obtain ⟨A2, c2, he2, hr2, hb2⟩ := h2.lit (k := N) HFa.out (by rw [fz_len, Rk.ranks_length]); subst he2; have H2 := Lib.hid hr2; have H1 := Lib.hid (H1.out.bl (Nat.le_refl _) hb2 |>.more hb2.size); have HBc := Lib.hid (HBc.out.trans hb2); have HKc := Lib.hid (HKc.out.bl hb2); clear h2 hr2 hb2; clear tk2))
        | (go_at_call 23; have _t := tk3; ((with_reducible refine (begin_any Ax lx cx l A1 N c1 (Fi.numR ⟨t, (N : Int), s, ps⟩) A2 c2 (fz (Rk.ranks false ps N)) _ v2.heap.size HLX.out hmx (HXc.out v2 HBc.out) HFN.out H1.out HZN.out H2.out (Nat.le_refl _) HSy.out (Fi.numR_lt ⟨t, (N : Int), s, ps⟩)).mono ?_); rintro e v3 ⟨rfl, hb3⟩; rw [HNn.out]; have HBc := Lib.hid (HBc.out.trans hb3); have HKc := Lib.hid (HKc.out.bl hb3); clear hb3; clear tk3)))
      go_wp2_with fail
      go_ret2
      exact ⟨by rw [HV1.out, HV2.out]; rfl, HB2.out.trans HBc.out⟩
end Go.Proofs.Ytgmnokmchjeflaa
