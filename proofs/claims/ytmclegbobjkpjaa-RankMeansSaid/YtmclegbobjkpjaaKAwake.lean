/- The rank laws' own words: what is more than they look at; the calls whose answers the document fixes. -/
import Derived.Test.YtmclegbobjkpjaaKFacts
import Derived.Test.YtmclegbobjkpjaaKShow
import Derived.Test.YtmclegbobjkpjaaKRSame
import Derived.Test.YtmclegbobjkpjaaGRRight
import Derived.Deep.RegionHeld3
namespace Go.Proofs.Ytmclegbobjkpjaa
open Go.RowKit

/-- Is a grammar more than is looked at? -/
def lgB (ps : List Gr.Pr) : Bool := !(decide (ps.length ≤ 100) && ps.all fun p => decide (p.right.length ≤ 20))
theorem lgB_false {ps : List Gr.Pr} (h : lgB ps = false) : ps.length ≤ 100 ∧ ∀ p ∈ ps, p.right.length ≤ 20 := by
  unfold lgB at h
  simp only [Bool.not_eq_false', Bool.and_eq_true, decide_eq_true_eq, List.all_eq_true] at h
  exact h
theorem lgB_of {ps : List Gr.Pr} (h : ps.length ≤ 100) (hx : ∀ p ∈ ps, p.right.length ≤ 20) : lgB ps = false := by
  unfold lgB
  simp only [Bool.not_eq_false', Bool.and_eq_true, decide_eq_true_eq, List.all_eq_true]
  exact ⟨h, hx⟩
theorem lgB_long {ps : List Gr.Pr} (h : 100 < ps.length) : lgB ps = true := by unfold lgB; rw [decide_eq_false (by omega)]; rfl
theorem lgB_one {ps : List Gr.Pr} {k : Nat} (h : k < ps.length) (hx : 20 < ps[k].right.length) : lgB ps = true := by
  cases hl : lgB ps with
  | true => rfl
  | false => have := (lgB_false hl).2 _ (List.getElem_mem h); omega

set_option maxRecDepth 100000 in
set_option maxHeartbeats 1000000 in
theorem large9_any (t n s : Int) (A : Option Addr) (len c : Nat) (ps : List Gr.Pr) (w : World) (B : Nat) (hlen : len = ps.length) (hmax : len ≤ 9223372036854775807) (hr : Prs w B A ps) (hB : B ≤ w.heap.size) :
    Calls Try.prog 7 #[.agg #[.int .i64 t, .int .i64 n, .int .i64 s, .slice A len c]] w fun e w' => e = .returned (.bool (lgB ps)) ∧ Bl w w' := by
  have HL := Lib.hid hlen; clear hlen
  have HA := Lib.hid hr; clear hr
  have HB0 : Hid (Bl w (w.alloc (.cells #[.int .i64 t, .int .i64 n, .int .i64 s, .slice A len c] 24))) := (Bl.refl w).alloc _
  by_cases h100 : 100 < len
  · have HG : Hid (lgB ps = true) := lgB_long (by rw [← HL.out]; exact h100)
    go_enter Try.func7, Try.ntmps7
    go_wp2_with fail
    go_ret
    exact ⟨by rw [HG.out]; rfl, HB0.out⟩
  · go_enter Try.func7, Try.ntmps7
    go_wp2_with fail
    generalize hw0 : w.alloc (.cells #[.int .i64 t, .int .i64 n, .int .i64 s, .slice A len c] 24) = w0 at HB0 ⊢
    have HW0 := Lib.hid hw0; clear hw0
    go_loopw [12] (fun i wr => ∃ k : Nat, k ≤ len ∧ i = .int .i64 k ∧ Hid (∀ x ∈ ps.take k, x.right.length ≤ 20) ∧ Hid (Bl w0 wr)) (fun i _ => len - (intOf i).toNat)
    case atStart => exact ⟨0, Nat.zero_le _, rfl, by simp [Hid], Bl.refl w0⟩
    case round =>
      obtain ⟨k, hk, rfl, HF, HB⟩ := hrel
      by_cases hlt : k < len
      · have hj : k < ps.length := by have := HL.out; omega
        obtain ⟨b, off, Ax, cx, rfl, hbB, hrx, hc0, hc1⟩ := (HA.out.bl hB (HB0.out.trans HB.out)).at_ hj
        have HBad := Lib.hid (fun h => lgB_one hj h)
        have HGood := Lib.hid (all_snoc (P := fun x : Gr.Pr => x.right.length ≤ 20) hj HF.out)
        generalize ps[k] = x at *
        obtain ⟨xl, xs⟩ := x
        simp only at hc0 hc1 HBad HGood
        clear hj hrx
        by_cases hx : 20 < xs.length
        · have HG := Lib.hid (HBad.out hx)
          go_wp2_with fail
          go_ret
          exact ⟨by rw [HG.out]; rfl, (HB0.out.trans HB.out).alloc _⟩
        · have HY := Lib.hid (HGood.out (by omega))
          go_wp2_with fail
          go_roundw
          case rel => exact ⟨k + 1, by omega, by go_num, HY.out, HB.out.alloc _⟩
          case measure => simp [intOf]; omega
      · go_wp2_with fail
        go_ret
        have hg : lgB ps = false := lgB_of (by have := HL.out; omega) (by
          have h := HF.out
          rw [List.take_of_length_le (by have := HL.out; omega)] at h
          exact h)
        exact ⟨by rw [hg]; rfl, HB0.out.trans HB.out⟩

theorem rd_lit (w : World) (cs : Array Value) (t : TypeId) (xs : List Value) (g B : Nat) (hg : g = w.heap.size) (hB : g < B) (h : cs.toList = xs) : Rd (w.alloc (.cells cs t)) B (some ⟨g, 0, none⟩) xs := by
  intro _
  subst hg
  refine ⟨w.heap.size, 0, rfl, hB, fun j u hu => ?_⟩
  rw [Nat.zero_add, cell_of_row _ _ j _ _ _ (heap_alloc_new w (.cells cs t)), ← Array.getElem?_toList, h]
  exact hu
theorem rd_on {w1 : World} {A : Option Addr} {xs : List Value} (h : Rd w1 w1.heap.size A xs) {W : World} (hb : Bl w1 W) : Rd W W.heap.size A xs := (h.bl (Nat.le_refl _) hb).more hb.size
/-- A post with its numbers written out. -/
theorem FPost.lit {l m : List Fc} {k : Nat} {w w' : World} {e : Ending} (h : FPost l w e w') (hl : l = m) (hk : m.length = k) : ∃ A c, e = .returned (.slice A k c) ∧ Rd w' w'.heap.size A (fcRow m) ∧ Bl w w' := by
  subst hl
  obtain ⟨A, len, c, he, hlen, hr, hb⟩ := h
  subst hlen
  subst hk
  exact ⟨A, c, he, hr, hb⟩
/-- awake's grammar. -/
def ps3 : List Gr.Pr := [⟨0, [⟨true, 1⟩, ⟨true, 1⟩]⟩, ⟨1, []⟩, ⟨2, [⟨false, 0⟩]⟩]
def nul3 : List Fc := [⟨2, 0⟩, ⟨1, 1⟩, ⟨0, 0⟩]
def pro3 : List Fc := [⟨2, 0⟩, ⟨1, 1⟩, ⟨1, 2⟩]
theorem ok3 : okB ⟨1, 3, 0, ps3⟩ = true := by decide
theorem nul3_is : factsOf false ⟨1, 3, 0, ps3⟩ = nul3 := by decide
theorem pro3_is : factsOf true ⟨1, 3, 0, ps3⟩ = pro3 := by decide
theorem shows3 : showsB false ⟨1, 3, 0, ps3⟩ nul3 = true := by decide
theorem shows3p : showsB true ⟨1, 3, 0, ps3⟩ pro3 = true := by decide
theorem shows3n : showsB false ⟨1, 3, 0, ps3⟩ pro3 = false := by decide
theorem shows3e : showsB true ⟨1, 3, 0, ps3⟩ [] = false := by decide

theorem prs3 (w : World) : Prs (((((w.alloc (.cells #[.bool true, .int .i64 1] 42)).alloc (.cells #[.bool true, .int .i64 1, .bool true, .int .i64 1] 42)).alloc (.cells #[.bool false, .int .i64 0] 42)).alloc (.cells #[.int .i64 0, .slice (some ⟨w.heap.size + 1, 0, none⟩) 2 2, .int .i64 1, .slice none 0 0, .int .i64 2, .slice (some ⟨w.heap.size + 1 + 1, 0, none⟩) 1 1] 45)).alloc (.cells #[.int .i64 1, .int .i64 3, .int .i64 0, .slice (some ⟨w.heap.size + 1 + 1 + 1, 0, none⟩) 3 3] 24)) (((((w.alloc (.cells #[.bool true, .int .i64 1] 42)).alloc (.cells #[.bool true, .int .i64 1, .bool true, .int .i64 1] 42)).alloc (.cells #[.bool false, .int .i64 0] 42)).alloc (.cells #[.int .i64 0, .slice (some ⟨w.heap.size + 1, 0, none⟩) 2 2, .int .i64 1, .slice none 0 0, .int .i64 2, .slice (some ⟨w.heap.size + 1 + 1, 0, none⟩) 1 1] 45)).alloc (.cells #[.int .i64 1, .int .i64 3, .int .i64 0, .slice (some ⟨w.heap.size + 1 + 1 + 1, 0, none⟩) 3 3] 24)).heap.size (some ⟨w.heap.size + 1 + 1 + 1, 0, none⟩) ps3 := by
  refine Prs.more (B := ((((w.alloc (.cells #[.bool true, .int .i64 1] 42)).alloc (.cells #[.bool true, .int .i64 1, .bool true, .int .i64 1] 42)).alloc (.cells #[.bool false, .int .i64 0] 42)).alloc (.cells #[.int .i64 0, .slice (some ⟨w.heap.size + 1, 0, none⟩) 2 2, .int .i64 1, .slice none 0 0, .int .i64 2, .slice (some ⟨w.heap.size + 1 + 1, 0, none⟩) 1 1] 45)).heap.size) (Prs.alloc ?_ (Nat.le_refl _) _) (by simp)
  refine ⟨[⟨0, [⟨true, 1⟩, ⟨true, 1⟩], some ⟨w.heap.size + 1, 0, none⟩, 2⟩, ⟨1, [], none, 0⟩, ⟨2, [⟨false, 0⟩], some ⟨w.heap.size + 1 + 1, 0, none⟩, 1⟩], rfl, ?_, ?_⟩
  · exact rd_lit _ _ _ _ _ _ (by simp) (by simp) rfl
  · intro h hh
    simp only [List.mem_cons, List.not_mem_nil, or_false] at hh
    rcases hh with rfl | rfl | rfl
    · have h1 : Rd ((w.alloc (.cells #[.bool true, .int .i64 1] 42)).alloc (.cells #[.bool true, .int .i64 1, .bool true, .int .i64 1] 42)) ((w.alloc (.cells #[.bool true, .int .i64 1] 42)).alloc (.cells #[.bool true, .int .i64 1, .bool true, .int .i64 1] 42)).heap.size (some ⟨w.heap.size + 1, 0, none⟩) (syRow [⟨true, 1⟩, ⟨true, 1⟩]) := rd_lit _ _ _ _ _ _ (by simp) (by simp) rfl
      exact rd_on h1 (((Bl.refl _).alloc _).alloc _)
    · exact Rd.nil
    · have h1 : Rd (((w.alloc (.cells #[.bool true, .int .i64 1] 42)).alloc (.cells #[.bool true, .int .i64 1, .bool true, .int .i64 1] 42)).alloc (.cells #[.bool false, .int .i64 0] 42)) (((w.alloc (.cells #[.bool true, .int .i64 1] 42)).alloc (.cells #[.bool true, .int .i64 1, .bool true, .int .i64 1] 42)).alloc (.cells #[.bool false, .int .i64 0] 42)).heap.size (some ⟨w.heap.size + 1 + 1, 0, none⟩) (syRow [⟨false, 0⟩]) := rd_lit _ _ _ _ _ _ (by simp) (by simp) rfl
      exact rd_on h1 ((Bl.refl _).alloc _)

set_option maxRecDepth 100000 in
set_option maxHeartbeats 4000000 in
theorem awake9_any (w : World) : Calls Try.prog 6 #[] w fun e w' => e = .returned (.bool true) ∧ Bl w w' := by
  have HB5 : Hid (Bl w (((((w.alloc (.cells #[.bool true, .int .i64 1] 42)).alloc (.cells #[.bool true, .int .i64 1, .bool true, .int .i64 1] 42)).alloc (.cells #[.bool false, .int .i64 0] 42)).alloc (.cells #[.int .i64 0, .slice (some ⟨w.heap.size + 1, 0, none⟩) 2 2, .int .i64 1, .slice none 0 0, .int .i64 2, .slice (some ⟨w.heap.size + 1 + 1, 0, none⟩) 1 1] 45)).alloc (.cells #[.int .i64 1, .int .i64 3, .int .i64 0, .slice (some ⟨w.heap.size + 1 + 1 + 1, 0, none⟩) 3 3] 24))) := (((((Bl.refl w).alloc _).alloc _).alloc _).alloc _).alloc _
  have HK5 : Hid (Bk (((((w.alloc (.cells #[.bool true, .int .i64 1] 42)).alloc (.cells #[.bool true, .int .i64 1, .bool true, .int .i64 1] 42)).alloc (.cells #[.bool false, .int .i64 0] 42)).alloc (.cells #[.int .i64 0, .slice (some ⟨w.heap.size + 1, 0, none⟩) 2 2, .int .i64 1, .slice none 0 0, .int .i64 2, .slice (some ⟨w.heap.size + 1 + 1, 0, none⟩) 1 1] 45)).alloc (.cells #[.int .i64 1, .int .i64 3, .int .i64 0, .slice (some ⟨w.heap.size + 1 + 1 + 1, 0, none⟩) 3 3] 24)) (w.heap.size + 1 + 1 + 1 + 1) 24 #[.int .i64 1, .int .i64 3, .int .i64 0, .slice (some ⟨w.heap.size + 1 + 1 + 1, 0, none⟩) 3 3]) := by
    have h := Bk.new ((((w.alloc (.cells #[.bool true, .int .i64 1] 42)).alloc (.cells #[.bool true, .int .i64 1, .bool true, .int .i64 1] 42)).alloc (.cells #[.bool false, .int .i64 0] 42)).alloc (.cells #[.int .i64 0, .slice (some ⟨w.heap.size + 1, 0, none⟩) 2 2, .int .i64 1, .slice none 0 0, .int .i64 2, .slice (some ⟨w.heap.size + 1 + 1, 0, none⟩) 1 1] 45)) 24 #[.int .i64 1, .int .i64 3, .int .i64 0, .slice (some ⟨w.heap.size + 1 + 1 + 1, 0, none⟩) 3 3]
    simp only [World.size_alloc] at h
    exact h
  have HP5 := Lib.hid (prs3 w)
  go_enter Try.func6, Try.ntmps6
  go_wp2_with fail
  generalize hw5 : (((((w.alloc (.cells #[.bool true, .int .i64 1] 42)).alloc (.cells #[.bool true, .int .i64 1, .bool true, .int .i64 1] 42)).alloc (.cells #[.bool false, .int .i64 0] 42)).alloc (.cells #[.int .i64 0, .slice (some ⟨w.heap.size + 1, 0, none⟩) 2 2, .int .i64 1, .slice none 0 0, .int .i64 2, .slice (some ⟨w.heap.size + 1 + 1, 0, none⟩) 1 1] 45)).alloc (.cells #[.int .i64 1, .int .i64 3, .int .i64 0, .slice (some ⟨w.heap.size + 1 + 1 + 1, 0, none⟩) 3 3] 24)) = w5 at HB5 HK5 HP5 ⊢
  have HW5 := Lib.hid hw5; clear hw5
  have HPx : Hid (∀ W : World, Bl w5 W → Prs W W.heap.size (some ⟨w.heap.size + 1 + 1 + 1, 0, none⟩) ps3) := fun W hb => (HP5.out.bl (Nat.le_refl _) hb).more hb.size
  have HKc := HK5
  have tk1 : True := trivial
  have tk2 : True := trivial
  go_region_held3 (fun w' => w'.cell? ⟨w.heap.size + 1 + 1 + 1 + 1, 0, none⟩ = some (.int .i64 1) ∧ w'.cell? ⟨w.heap.size + 1 + 1 + 1 + 1, 1, none⟩ = some (.int .i64 3) ∧ w'.cell? ⟨w.heap.size + 1 + 1 + 1 + 1, 2, none⟩ = some (.int .i64 0) ∧ w'.cell? ⟨w.heap.size + 1 + 1 + 1 + 1, 3, none⟩ = some (.slice (some ⟨w.heap.size + 1 + 1 + 1, 0, none⟩) 3 3)) (exact ⟨HKc.out.cell 0, HKc.out.cell 1, HKc.out.cell 2, HKc.out.cell 3⟩) (first
    | (go_at_call 9; have _t := tk1; ((with_reducible refine (nullable_any 1 3 0 (some ⟨w.heap.size + 1 + 1 + 1, 0, none⟩) 3 3 ps3 _ w5.heap.size rfl (by decide) (prs_drew (HPx.out w5 (Bl.refl w5))) (Nat.le_refl _)).mono ?_); intro e v1 h1; obtain ⟨A1, c1, he1, hr1, hb1⟩ := h1.lit nul3_is (k := 3) rfl; subst he1; have HN := Lib.hid hr1; have HBc := Lib.hid (Bl.undrew hb1); have HKc := Lib.hid (HKc.out.bl (Bl.undrew hb1)); clear h1 hr1 hb1; clear tk1))
    | (go_at_call 11; have _t := tk2; ((with_reducible refine (productive_any 1 3 0 (some ⟨w.heap.size + 1 + 1 + 1, 0, none⟩) 3 3 ps3 _ v1.heap.size rfl (by decide) (HPx.out v1 HBc.out) (Nat.le_refl _)).mono ?_); intro e v2 h2; obtain ⟨A2, c2, he2, hr2, hb2⟩ := h2.lit pro3_is (k := 3) rfl; subst he2; have HQ := Lib.hid hr2; have HN := Lib.hid (rd_on HN.out hb2); have HBc := Lib.hid (HBc.out.trans hb2); have HKc := Lib.hid (HKc.out.bl hb2); clear h2 hr2 hb2; clear tk2)))
  have HL1 : Hid (Rd (v2.alloc (.cells #[.int .i64 2, .int .i64 0, .int .i64 1, .int .i64 1, .int .i64 0, .int .i64 0] 33)) (v2.heap.size + 1) (some ⟨v2.heap.size, 0, none⟩) (fcRow nul3)) := rd_lit _ _ _ _ _ _ rfl (by omega) rfl
  have HN1 := Lib.hid ((HN.out.alloc (Nat.le_refl _) (.cells #[.int .i64 2, .int .i64 0, .int .i64 1, .int .i64 1, .int .i64 0, .int .i64 0] 33)).more (Nat.le_succ _))
  go_wp2_with fail
  refine (fsame_any A1 _ 3 3 c1 3 nul3 nul3 _ (v2.heap.size + 1) rfl rfl (by decide) HN1.out HL1.out).mono ?_
  rintro e v3 ⟨rfl, hb3⟩
  rw [decide_eq_true rfl]
  have HB3 := Lib.hid (((Bl.refl v2).alloc (.cells #[.int .i64 2, .int .i64 0, .int .i64 1, .int .i64 1, .int .i64 0, .int .i64 0] 33)).trans hb3)
  have HN3 := Lib.hid (rd_on HN.out HB3.out)
  have HQ3 := Lib.hid (rd_on HQ.out HB3.out)
  clear hb3 HL1 HN1
  have HL1 : Hid (Rd (v3.alloc (.cells #[.int .i64 2, .int .i64 0, .int .i64 1, .int .i64 1, .int .i64 1, .int .i64 2] 33)) (v3.heap.size + 1) (some ⟨v3.heap.size, 0, none⟩) (fcRow pro3)) := rd_lit _ _ _ _ _ _ rfl (by omega) rfl
  have HQ1 := Lib.hid ((HQ3.out.alloc (Nat.le_refl _) (.cells #[.int .i64 2, .int .i64 0, .int .i64 1, .int .i64 1, .int .i64 1, .int .i64 2] 33)).more (Nat.le_succ _))
  go_wp2_with fail
  refine (fsame_any A2 _ 3 3 c2 3 pro3 pro3 _ (v3.heap.size + 1) rfl rfl (by decide) HQ1.out HL1.out).mono ?_
  rintro e v4 ⟨rfl, hb4⟩
  rw [decide_eq_true rfl]
  have HB4 := Lib.hid (HB3.out.trans (((Bl.refl v3).alloc (.cells #[.int .i64 2, .int .i64 0, .int .i64 1, .int .i64 1, .int .i64 1, .int .i64 2] 33)).trans hb4))
  have HN4 := Lib.hid (rd_on HN.out HB4.out)
  have HQ4 := Lib.hid (rd_on HQ.out HB4.out)
  have HK4 := Lib.hid (HKc.out.bl HB4.out)
  clear hb4 HL1 HQ1
  have k0 : v4.cell? ⟨w.heap.size + 1 + 1 + 1 + 1, 0, none⟩ = some (.int .i64 1) := HK4.out.cell 0
  have k1 : v4.cell? ⟨w.heap.size + 1 + 1 + 1 + 1, 1, none⟩ = some (.int .i64 3) := HK4.out.cell 1
  have k2 : v4.cell? ⟨w.heap.size + 1 + 1 + 1 + 1, 2, none⟩ = some (.int .i64 0) := HK4.out.cell 2
  have k3 : v4.cell? ⟨w.heap.size + 1 + 1 + 1 + 1, 3, none⟩ = some (.slice (some ⟨w.heap.size + 1 + 1 + 1, 0, none⟩) 3 3) := HK4.out.cell 3
  go_wp2_with fail
  refine (shows_any 1 3 0 (some ⟨w.heap.size + 1 + 1 + 1, 0, none⟩) 3 3 ps3 A1 3 c1 nul3 false v4 v4.heap.size rfl (by decide) (HPx.out v4 (HBc.out.trans HB4.out)) rfl (by decide) HN4.out (Nat.le_refl _)).mono ?_
  rintro e v5 ⟨rfl, hb5⟩
  rw [shows3]
  have HB5b := Lib.hid (HB4.out.trans hb5)
  have HQ5 := Lib.hid (rd_on HQ.out HB5b.out)
  have HK5b := Lib.hid (HKc.out.bl HB5b.out)
  clear hb5 k0 k1 k2 k3
  have k0 : v5.cell? ⟨w.heap.size + 1 + 1 + 1 + 1, 0, none⟩ = some (.int .i64 1) := HK5b.out.cell 0
  have k1 : v5.cell? ⟨w.heap.size + 1 + 1 + 1 + 1, 1, none⟩ = some (.int .i64 3) := HK5b.out.cell 1
  have k2 : v5.cell? ⟨w.heap.size + 1 + 1 + 1 + 1, 2, none⟩ = some (.int .i64 0) := HK5b.out.cell 2
  have k3 : v5.cell? ⟨w.heap.size + 1 + 1 + 1 + 1, 3, none⟩ = some (.slice (some ⟨w.heap.size + 1 + 1 + 1, 0, none⟩) 3 3) := HK5b.out.cell 3
  go_wp2_with fail
  refine (shows_any 1 3 0 (some ⟨w.heap.size + 1 + 1 + 1, 0, none⟩) 3 3 ps3 A2 3 c2 pro3 true v5 v5.heap.size rfl (by decide) (HPx.out v5 (HBc.out.trans HB5b.out)) rfl (by decide) HQ5.out (Nat.le_refl _)).mono ?_
  rintro e v6 ⟨rfl, hb6⟩
  rw [shows3p]
  have HB6 := Lib.hid (HB5b.out.trans hb6)
  have HQ6 := Lib.hid (rd_on HQ.out HB6.out)
  have HK6 := Lib.hid (HKc.out.bl HB6.out)
  clear hb6 k0 k1 k2 k3
  have k0 : v6.cell? ⟨w.heap.size + 1 + 1 + 1 + 1, 0, none⟩ = some (.int .i64 1) := HK6.out.cell 0
  have k1 : v6.cell? ⟨w.heap.size + 1 + 1 + 1 + 1, 1, none⟩ = some (.int .i64 3) := HK6.out.cell 1
  have k2 : v6.cell? ⟨w.heap.size + 1 + 1 + 1 + 1, 2, none⟩ = some (.int .i64 0) := HK6.out.cell 2
  have k3 : v6.cell? ⟨w.heap.size + 1 + 1 + 1 + 1, 3, none⟩ = some (.slice (some ⟨w.heap.size + 1 + 1 + 1, 0, none⟩) 3 3) := HK6.out.cell 3
  go_wp2_with fail
  refine (shows_any 1 3 0 (some ⟨w.heap.size + 1 + 1 + 1, 0, none⟩) 3 3 ps3 A2 3 c2 pro3 false v6 v6.heap.size rfl (by decide) (HPx.out v6 (HBc.out.trans HB6.out)) rfl (by decide) HQ6.out (Nat.le_refl _)).mono ?_
  rintro e v7 ⟨rfl, hb7⟩
  rw [shows3n]
  have HB7 := Lib.hid (HB6.out.trans hb7)
  have HK7 := Lib.hid (HKc.out.bl HB7.out)
  clear hb7 k0 k1 k2 k3
  have k0 : v7.cell? ⟨w.heap.size + 1 + 1 + 1 + 1, 0, none⟩ = some (.int .i64 1) := HK7.out.cell 0
  have k1 : v7.cell? ⟨w.heap.size + 1 + 1 + 1 + 1, 1, none⟩ = some (.int .i64 3) := HK7.out.cell 1
  have k2 : v7.cell? ⟨w.heap.size + 1 + 1 + 1 + 1, 2, none⟩ = some (.int .i64 0) := HK7.out.cell 2
  have k3 : v7.cell? ⟨w.heap.size + 1 + 1 + 1 + 1, 3, none⟩ = some (.slice (some ⟨w.heap.size + 1 + 1 + 1, 0, none⟩) 3 3) := HK7.out.cell 3
  go_wp2_with fail
  refine (shows_any 1 3 0 (some ⟨w.heap.size + 1 + 1 + 1, 0, none⟩) 3 3 ps3 none 0 0 [] true v7 v7.heap.size rfl (by decide) (HPx.out v7 (HBc.out.trans HB7.out)) rfl (by decide) Rd.nil (Nat.le_refl _)).mono ?_
  rintro e v8 ⟨rfl, hb8⟩
  rw [shows3e]
  have HB8 := Lib.hid (HB7.out.trans hb8)
  clear hb8 k0 k1 k2 k3
  go_wp2_with fail
  go_ret
  exact ⟨rfl, HB5.out.trans (HBc.out.trans HB8.out)⟩
end Go.Proofs.Ytmclegbobjkpjaa
