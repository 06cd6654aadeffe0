/- gram.Clone: a copy that is nobody else's. -/
import Derived.Test.YtlfobnpkfloolaaGOwn
import Derived.Test.YtlfobnpkfloolaaWNew
import Derived.Deep.RegionHeld3
import Derived.Deep.RegionLaw
namespace Go.Proofs.Ytlfobnpkfloolaa
open Go.RowKit

theorem sym_info : (Try.prog.info? 46).map (fun i => (i.zero, i.size, i.bytes)) = some (some (.agg #[.bool false, .int .i64 0]), 2, 16) := by kernel_rfl
theorem prod_info : (Try.prog.info? 43).map (fun i => (i.zero, i.size, i.bytes)) = some (some (.agg #[.int .i64 0, .slice none 0 0]), 2, 32) := by kernel_rfl

/-- What a copy of a slice leaves: a row of its own. -/
def CMakes (t : TypeId) (len : Nat) (xs : List Value) (w : World) (e : Ending) (w' : World) : Prop :=
  ∃ A c, e = .returned (.slice A len c) ∧ w'.ownsRow w.heap.size t 2 (.slice A len c) len xs ∧ Bl w w'

set_option maxHeartbeats 400000 in
theorem cloneSyms_any (A : Option Addr) (len cap : Nat) (l : List Gr.Sy) (w : World) (B : Nat) (hl : len = l.length) (hmax : len ≤ 1000000000) (hr : Rd w B A (syRow l)) :
    Calls Try.prog 38 #[.slice A len cap] w (CMakes 46 len (syRow l) w) := by
  obtain ⟨i0, hi, hz0, hz1, hz2⟩ := info_parts sym_info
  have HL := Lib.hid hl; clear hl
  have hnil := fun (w : World) (a : Option Addr) (n c : Nat) => Lib.run_eql_slice_nil (P := Try.prog) (w := w) 41 46 a n c 0 0 Try.underlying41
  cases A with
  | none =>
    have HN : Hid (CMakes 46 len (syRow l) w (.returned (.slice none 0 0)) w) := by
      have : l = [] := by
        cases l with
        | nil => rfl
        | cons x r => obtain ⟨_, _, h, _⟩ := hr (by rw [syRow_len]; simp); cases h
      subst this
      have hl := HL.out
      simp only [List.length_nil] at hl
      subst hl
      exact ⟨none, 0, rfl, World.ownsRow_nil _ _ _ _, Bl.refl w⟩
    clear hr
    go_enter Try.func38, Try.ntmps38
    go_wp2
    go_ret
    exact HN.out
  | some ad =>
    have own0 : Hid ((w.alloc (.cells #[] 46)).ownsRow w.heap.size 46 2 (.slice (some ⟨w.heap.size, 0, none⟩) 0 0) 0 []) := World.ownsRow_lit (base := w.heap.size) (e := 46) (size := 2) w #[] 0 (Nat.le_refl _) (by simp [maxLen]) rfl
    have HB : Hid (Rd (w.alloc (.cells #[] 46)) w.heap.size (some ad) (syRow l)) := hr.here.alloc (Nat.le_refl _) _
    clear hr
    go_enter Try.func38, Try.ntmps38
    go_wp2_with (at_builtin; refine wpList_append_own _ rfl (.tmp 5) (.tmp 6) 41 rfl w.heap.size 46 i0 (.agg #[.bool false, .int .i64 0]) 2 16 Try.underlying41 hi hz0 hz1 hz2 rfl (by decide) _ _ _ rfl own0.out ad len cap (syRow l) rfl (by rw [syRow_len, ← HL.out]) HB.out.add (syRow_one _) (by simp only [maxLen]; omega) (by omega) (by simp) ?_; intro v2 w2 hown2 hg2 _; obtain ⟨A2, c2, rfl, hc2⟩ := own_form hown2; have HO2 := Lib.hid hown2; have HG2 := Lib.hid hg2; clear hown2 hg2)
    go_ret
    refine ⟨A2, c2, by simp, ?_, ((Bl.refl w).alloc _).grown HG2.out (fun k h => by injection h with h; rw [← h]; exact Nat.le_refl _)⟩
    simpa using HO2.out

set_option maxHeartbeats 400000 in
theorem cloneProds_any (A : Option Addr) (len cap : Nat) (l : List Ph) (w : World) (B : Nat) (hl : len = l.length) (hmax : len ≤ 1000000000) (hr : Rd w B A (phRow l)) :
    Calls Try.prog 37 #[.slice A len cap] w (CMakes 43 len (phRow l) w) := by
  obtain ⟨i0, hi, hz0, hz1, hz2⟩ := info_parts prod_info
  have HL := Lib.hid hl; clear hl
  have hnil := fun (w : World) (a : Option Addr) (n c : Nat) => Lib.run_eql_slice_nil (P := Try.prog) (w := w) 22 43 a n c 0 0 Try.underlying22
  cases A with
  | none =>
    have HN : Hid (CMakes 43 len (phRow l) w (.returned (.slice none 0 0)) w) := by
      have : l = [] := by
        cases l with
        | nil => rfl
        | cons x r => obtain ⟨_, _, h, _⟩ := hr (by rw [phRow_len]; simp); cases h
      subst this
      have hl := HL.out
      simp only [List.length_nil] at hl
      subst hl
      exact ⟨none, 0, rfl, World.ownsRow_nil _ _ _ _, Bl.refl w⟩
    clear hr
    go_enter Try.func37, Try.ntmps37
    go_wp2
    go_ret
    exact HN.out
  | some ad =>
    have own0 : Hid ((w.alloc (.cells #[] 43)).ownsRow w.heap.size 43 2 (.slice (some ⟨w.heap.size, 0, none⟩) 0 0) 0 []) := World.ownsRow_lit (base := w.heap.size) (e := 43) (size := 2) w #[] 0 (Nat.le_refl _) (by simp [maxLen]) rfl
    have HB : Hid (Rd (w.alloc (.cells #[] 43)) w.heap.size (some ad) (phRow l)) := hr.here.alloc (Nat.le_refl _) _
    clear hr
    go_enter Try.func37, Try.ntmps37
    go_wp2_with (at_builtin; refine wpList_append_own _ rfl (.tmp 5) (.tmp 6) 22 rfl w.heap.size 43 i0 (.agg #[.int .i64 0, .slice none 0 0]) 2 32 Try.underlying22 hi hz0 hz1 hz2 rfl (by decide) _ _ _ rfl own0.out ad len cap (phRow l) rfl (by rw [phRow_len, ← HL.out]) HB.out.add (phRow_one _) (by simp only [maxLen]; omega) (by omega) (by simp) ?_; intro v2 w2 hown2 hg2 _; obtain ⟨A2, c2, rfl, hc2⟩ := own_form hown2; have HO2 := Lib.hid hown2; have HG2 := Lib.hid hg2; clear hown2 hg2)
    go_ret
    refine ⟨A2, c2, by simp, ?_, ((Bl.refl w).alloc _).grown HG2.out (fun k h => by injection h with h; rw [← h]; exact Nat.le_refl _)⟩
    simpa using HO2.out

/-- Where Clone's loop stands: the first k productions have symbols of their own. -/
def ClRel (hs : List Ph) (v : Value) (cs : Array Value) (w : World) (k : Nat) (wr : World) : Prop :=
  ∃ ks : List Ph, ks.length = k ∧ ks.map Ph.pr = (hs.take k).map Ph.pr ∧ wr.ownsRow w.heap.size 43 2 v hs.length (phRow (ks ++ hs.drop k)) ∧ (∀ h ∈ ks, h.own wr w.heap.size) ∧ ks.Pairwise Ph.apart ∧
    Bk wr w.heap.size 24 cs ∧ Bk wr (w.heap.size + 1) 24 #[.int .i64 0, .int .i64 0, .int .i64 0, .slice none 0 0] ∧ Bl w wr
section
variable {hs : List Ph} {v : Value} {cs : Array Value} {w wr w2 w3 : World} {k : Nat}
theorem ClRel.b (h : ClRel hs v cs w k wr) : Bl w wr := by obtain ⟨_, _, _, _, _, _, _, _, h⟩ := h; exact h
theorem ClRel.bk (h : ClRel hs v cs w k wr) : Bk wr w.heap.size 24 cs := by obtain ⟨_, _, _, _, _, _, h, _⟩ := h; exact h
theorem ClRel.bk2 (h : ClRel hs v cs w k wr) : Bk wr (w.heap.size + 1) 24 #[.int .i64 0, .int .i64 0, .int .i64 0, .slice none 0 0] := by obtain ⟨_, _, _, _, _, _, _, h, _⟩ := h; exact h
theorem ClRel.bl (h : ClRel hs v cs w k wr) (hb : Bl wr w2) : ClRel hs v cs w k w2 := by
  obtain ⟨ks, h1, h2, h3, h4, h5, h6, h7, h8⟩ := h
  exact ⟨ks, h1, h2, own_bl h3 hb, fun x hx => own_bl (h4 x hx) hb, h5, h6.bl hb, h7.bl hb, h8.trans hb⟩
theorem ClRel.cell (h : ClRel hs v cs w k wr) {g len c : Nat} (e : v = .slice (some ⟨g, 0, none⟩) len c) (hl : len = hs.length) (hk : k < hs.length) :
    wr.cell? ⟨g, k * 2, none⟩ = some (.int .i64 hs[k].left) ∧ wr.cell? ⟨g, k * 2 + 1, none⟩ = some (.slice hs[k].at_ hs[k].right.length hs[k].cap) ∧ wr.frozen? ⟨g, k * 2 + 1, none⟩ = false ∧ g < wr.heap.size := by
  obtain ⟨ks, h1, h2, h3, h4, h5, h6, h7, h8⟩ := h
  subst hl
  subst e
  have hl := mid_len (ks := ks) (hs := hs) h1 (Nat.le_of_lt hk)
  have h9 := row2_at (f := fun h : Ph => .int .i64 h.left) (g := fun h => .slice h.at_ h.right.length h.cap) (ks ++ hs.drop k) k (by omega)
  rw [mid_at h1 hk] at h9
  exact ⟨(h3.cellAt _ (by omega)).trans h9.1, (h3.cellAt _ (by omega)).trans h9.2, h3.frozenAt _, (h3.lt g rfl).2⟩
theorem ClRel.next (h : ClRel hs v cs w k wr) {g len c : Nat} (e : v = .slice (some ⟨g, 0, none⟩) len c) (hl : len = hs.length) (hk : k < hs.length) {A : Option Addr} {c' : Nat}
    (ho : w2.ownsRow wr.heap.size 46 2 (.slice A hs[k].right.length c') hs[k].right.length (syRow hs[k].right)) (hb : Bl wr w2) : ClRel hs v cs w (k + 1) (w2.setCell ⟨g, k * 2 + 1, none⟩ (.slice A hs[k].right.length c')) := by
  obtain ⟨ks, h1, h2, h3, h4, h5, h6, h7, h8⟩ := h
  subst hl
  subst e
  have h3' := own_bl h3 hb
  have hml := mid_len (ks := ks) (hs := hs) h1 (Nat.le_of_lt hk)
  have hst := h3'.stored (k * 2 + 1) (.slice A hs[k].right.length c')
  have hfr : Fr (fun i => i = g) w2 (w2.setCell ⟨g, k * 2 + 1, none⟩ (.slice A hs[k].right.length c')) := (Fr.refl _ w2).own _ _
  have hg := h3.lt g rfl
  have hne : ∀ (b : Nat) (u : Value) (n : Nat) (xs : List Value), w2.ownsRow b 46 2 u n xs → ∀ j, u.ownBlock = some j → ¬ j = g := fun b u n xs hu j hj hjg => by
    rcases h3'.2 with ⟨h', _⟩ | ⟨g', cap', cur, h', _, hg', _⟩
    · simp at h'
    · have eg : g' = g := by injection h' with h'; injection h' with h'; injection h' with h'; exact h'.symm
      subst eg
      exact Bk.row (g := g') (cs := cur) (t := 43) hg' hu (by decide) (by rw [hj, hjg])
  refine ⟨ks ++ [⟨hs[k].left, hs[k].right, A, c'⟩], by simp [h1], ?_, ?_, ?_, ?_, ?_, ?_, ?_⟩
  · rw [List.map_append, h2, List.take_succ_eq_append_getElem hk, List.map_append]; rfl
  · have h10 := hst.1
    have e1 : (phRow (ks ++ hs.drop k)).set (k * 2 + 1) (.slice A hs[k].right.length c') = phRow ((ks ++ [⟨hs[k].left, hs[k].right, A, c'⟩]) ++ hs.drop (k + 1)) := by
      have := row2_set1 (f := fun h : Ph => Value.int .i64 h.left) (g := fun h => Value.slice h.at_ h.right.length h.cap) (ks ++ hs.drop k) k ⟨hs[k].left, hs[k].right, A, c'⟩ (by omega) (by rw [mid_at h1 hk])
      rw [mid_set h1 hk] at this
      exact this
    rw [e1] at h10
    exact h10
  · intro x hx
    rcases List.mem_append.1 hx with hx | hx
    · exact own_fr (own_bl (h4 x hx) hb) hfr (hne _ _ _ _ (own_bl (h4 x hx) hb))
    · rw [List.mem_singleton] at hx
      subst hx
      have h8s := h8.size
      exact own_fr (own_base ho fun j hj => by have := (ho.lt j hj).1; omega) hfr (hne _ _ _ _ ho)
  · rw [List.pairwise_append]
    refine ⟨h5, List.pairwise_singleton _ _, fun a ha b hbb j hj hj2 => ?_⟩
    rw [List.mem_singleton] at hbb
    subst hbb
    have h11 := ((h4 a ha).lt j hj).2
    have h12 := (ho.lt j hj2).1
    omega
  · refine (h6.bl hb).far (p := ⟨g, k * 2 + 1, none⟩) (fun e => ?_) _
    have e : w.heap.size = g := e
    exact h6.row h3 (by decide) (by rw [e]; rfl)
  · refine (h7.bl hb).far (p := ⟨g, k * 2 + 1, none⟩) (fun e => ?_) _
    have e : w.heap.size + 1 = g := e
    exact h7.row h3 (by decide) (by rw [e]; rfl)
  · exact (h8.trans hb).fr hfr fun i hi e => by omega
theorem ClRel.done (h : ClRel hs v cs w k wr) (hk : k = hs.length) : ∃ ks : List Ph, ks.map Ph.pr = hs.map Ph.pr ∧ OwnPrs wr w.heap.size v ks := by
  obtain ⟨ks, h1, h2, h3, h4, h5, _⟩ := h
  subst hk
  rw [List.take_length] at h2
  rw [List.drop_length, List.append_nil] at h3
  exact ⟨ks, h2, by rw [h1]; exact h3, h4, h5⟩
end

theorem cell_far {w : World} {b b' o o' : Nat} {u : Value} (h : b ≠ b') (_ : Unit) : (w.setCell ⟨b', o', none⟩ u).cell? ⟨b, o, none⟩ = w.cell? ⟨b, o, none⟩ := World.cell?_of_block (Below.heap_setCell w ⟨b', o', none⟩ u b h)
/-- What Clone leaves: a grammar of its own. -/
def ClPost (t n s : Int) (len : Nat) (ps : List Gr.Pr) (w : World) (e : Ending) (w' : World) : Prop :=
  ∃ (A : Option Addr) (c : Nat) (ks : List Ph), e = .returned (.agg #[.int .i64 t, .int .i64 n, .int .i64 s, .slice A len c]) ∧ ks.map Ph.pr = ps ∧ OwnPrs w' w.heap.size (.slice A len c) ks ∧ Bl w w'

set_option maxRecDepth 100000 in
set_option maxHeartbeats 1000000 in
theorem gclone_any (t n s : Int) (A : Option Addr) (len c : Nat) (ps : List Gr.Pr) (w : World) (B : Nat) (hlen : len = ps.length) (hmax : len ≤ 1000000000) (hm : ∀ p ∈ ps, p.right.length ≤ 1000000000) (hr : Prs w B A ps) (hB : B ≤ w.heap.size) :
    Calls Try.prog 17 #[.agg #[.int .i64 t, .int .i64 n, .int .i64 s, .slice A len c]] w (ClPost t n s len ps w) := by
  obtain ⟨hs, rfl, hr1, hr2⟩ := hr
  have HL : Hid (len = hs.length) := by unfold Hid; rw [hlen, List.length_map]
  have HM : Hid (∀ h ∈ hs, h.right.length ≤ 1000000000) := fun h hh => hm h.pr (List.mem_map_of_mem hh)
  have HR2 := Lib.hid hr2
  have HR1 : Hid (Rd ((w.alloc (.cells #[.int .i64 t, .int .i64 n, .int .i64 s, .slice A len c] 24)).alloc (.cells #[.int .i64 0, .int .i64 0, .int .i64 0, .slice none 0 0] 24)) B A (phRow hs)) := (hr1.alloc hB _).alloc (by simp; omega) _
  have HB0 : Hid (Bl w ((w.alloc (.cells #[.int .i64 t, .int .i64 n, .int .i64 s, .slice A len c] 24)).alloc (.cells #[.int .i64 0, .int .i64 0, .int .i64 0, .slice none 0 0] 24))) := ((Bl.refl w).alloc _).alloc _
  have HK := Lib.hid ((Bk.new w 24 #[.int .i64 t, .int .i64 n, .int .i64 s, .slice A len c]).alloc (.cells #[.int .i64 0, .int .i64 0, .int .i64 0, .slice none 0 0] 24))
  have HK' : Hid (Bk ((w.alloc (.cells #[.int .i64 t, .int .i64 n, .int .i64 s, .slice A len c] 24)).alloc (.cells #[.int .i64 0, .int .i64 0, .int .i64 0, .slice none 0 0] 24)) (w.heap.size + 1) 24 #[.int .i64 0, .int .i64 0, .int .i64 0, .slice none 0 0]) := by
    have h := Bk.new (w.alloc (.cells #[.int .i64 t, .int .i64 n, .int .i64 s, .slice A len c] 24)) 24 #[.int .i64 0, .int .i64 0, .int .i64 0, .slice none 0 0]
    rw [World.size_alloc] at h
    exact h
  clear hr1 hr2 hm hlen
  go_enter Try.func17, Try.ntmps17
  go_wp2_with fail
  refine (cloneProds_any A len c hs _ B HL.out hmax HR1.out).mono ?_
  rintro e w1 ⟨A1, c1, rfl, ho1, hb1⟩
  have hk1 := HK.out.bl hb1
  have hk2 := HK'.out.bl hb1
  have k3 : w1.cell? ⟨w.heap.size, 3, none⟩ = some (.slice A len c) := hk1.cell 3
  have f3 : w1.frozen? ⟨w.heap.size, 3, none⟩ = false := hk1.free 3
  have HC0 : Hid (ClRel hs (.slice A1 len c1) #[.int .i64 t, .int .i64 n, .int .i64 s, .slice A1 len c1] w 0 (w1.setCell ⟨w.heap.size, 3, none⟩ (.slice A1 len c1))) := by
    have hf : Fr (fun i => i = w.heap.size) w1 (w1.setCell ⟨w.heap.size, 3, none⟩ (.slice A1 len c1)) := (Fr.refl _ w1).own 3 _
    refine ⟨[], rfl, rfl, ?_, by simp, List.Pairwise.nil, hk1.put 3 _, hk2.far (p := ⟨w.heap.size, 3, none⟩) (by simp) _, (HB0.out.trans hb1).fr hf fun i hi e => by omega⟩
    have ho1' : w1.ownsRow w.heap.size 43 2 (.slice A1 len c1) hs.length (phRow hs) := by
      rw [← HL.out]
      exact own_base ho1 fun j hj => by have := (ho1.lt j hj).1; simp at this; omega
    exact own_fr ho1' hf fun j hj e => hk1.row ho1' (by decide) (by rw [hj, e])
  clear ho1 hb1 hk1 hk2
  go_wp2_with fail
  go_loopw [12] (fun i wr => ∃ k : Nat, k ≤ len ∧ i = .int .i64 k ∧ Hid (ClRel hs (.slice A1 len c1) #[.int .i64 t, .int .i64 n, .int .i64 s, .slice A1 len c1] w k wr)) (fun i _ => len - (intOf i).toNat)
  case atStart => exact ⟨0, Nat.zero_le _, rfl, HC0⟩
  case round =>
    obtain ⟨k, hk, rfl, HC⟩ := hrel
    by_cases hlt : k < len
    · have hj : k < hs.length := by have := HL.out; omega
      have hwr : w.heap.size ≤ wr.heap.size := HC.out.b.size
      obtain ⟨g1, hA1⟩ : ∃ g1, A1 = some ⟨g1, 0, none⟩ := by
        obtain ⟨ks, _, _, h3, _⟩ := HC.out
        rcases h3.2 with ⟨h', h0⟩ | ⟨g', cap', cur, h', _⟩
        · omega
        · injection h' with h'; exact ⟨g', h'⟩
      subst hA1
      obtain ⟨c0, c1', f1, hg1⟩ := HC.out.cell rfl HL.out hj
      have b3 : wr.cell? ⟨w.heap.size, 3, none⟩ = some (.slice (some ⟨g1, 0, none⟩) len c1) := HC.out.bk.cell 3
      have HX : Hid (∀ o, Rd (wr.alloc o) B hs[k].at_ (syRow hs[k].right)) := fun o => ((HR2.out _ (List.getElem_mem hj)).bl hB HC.out.b).alloc (by omega) o
      have HN := Lib.hid (fun (w2 : World) (o : Obj) (A' : Option Addr) (c' : Nat) ho hb => (HC.out.bl ((Bl.refl wr).alloc o)).next (w2 := w2) (A := A') (c' := c') rfl HL.out hj ho hb)
      have HCell := Lib.hid (fun (w2 : World) (hb : Bl wr w2) => (HC.out.bl hb).cell rfl HL.out hj)
      have hmx := HM.out _ (List.getElem_mem hj)
      generalize hs[k] = x at *
      obtain ⟨xl, xs, xA, xc⟩ := x
      simp only at c0 c1' HX HN HCell hmx
      have HBk := Lib.hid (Bk.new wr 43 #[.int .i64 xl, .slice xA xs.length xc])
      have hki : (0 : Int) ≤ (k : Int) := by omega
      have hkj : (k : Int) < (len : Int) := by omega
      have HB3 : Hid (∀ w2 : World, Bl wr w2 → w2.cell? ⟨w.heap.size, 3, none⟩ = some (.slice (some ⟨g1, 0, none⟩) len c1)) := fun w2 hb => (HC.out.bk.bl hb).cell 3
      have hne1 : w.heap.size ≠ g1 := fun e => by
        obtain ⟨ks, _, _, h3, _, _, h6, _⟩ := HC.out
        exact h6.row h3 (by decide) (by rw [e]; rfl)
      have hne2 : wr.heap.size ≠ g1 := by omega
      have hz1 := Lib.hid (HB3.out _ ((Bl.refl wr).alloc (.cells #[.int .i64 xl, .slice xA xs.length xc] 43)))
      go_wp2_with fail
      go_region_held3 (fun w' => w'.cell? ⟨w.heap.size, 3, none⟩ = some (.slice (some ⟨g1, 0, none⟩) len c1) ∧ w'.cell? ⟨wr.heap.size, 1, none⟩ = some (.slice xA xs.length xc)) (first | exact ⟨hz1.out, HBk.out.cell 1⟩ | exact ⟨hz3, hz4⟩ | exact ⟨(cell_far hne1 ()).trans hz3, (cell_far hne2 ()).trans hz4⟩) (first
        | (go_at_call 38; ((with_reducible refine (cloneSyms_any xA xs.length xc xs _ B rfl hmx (HX.out _).drew).mono ?_); rintro e w3 ⟨A3, c3, rfl, ho3, hb3⟩; have HO3 := Lib.hid ho3; have HB4 := Lib.hid (Bl.undrew hb3); have hz3 : w3.cell? ⟨w.heap.size, 3, none⟩ = some (.slice (some ⟨g1, 0, none⟩) len c1) := HB3.out _ (((Bl.refl wr).alloc _).trans HB4.out); have hz4 : w3.cell? ⟨wr.heap.size, 1, none⟩ = some (.slice xA xs.length xc) := (HBk.out.bl HB4.out).cell 1; have hz5 := (HCell.out w3 (((Bl.refl wr).alloc _).trans HB4.out)).2.1; have hz6 := (HCell.out w3 (((Bl.refl wr).alloc _).trans HB4.out)).2.2.1; clear ho3 hb3)))
      go_wp2_with fail
      go_roundw
      case rel => exact ⟨k + 1, by omega, by go_num, HN.out _ _ _ _ HO3.out HB4.out⟩
      case measure => simp [intOf]; omega
    · obtain ⟨ks, hks, HO⟩ := HC.out.done (by have := HL.out; omega)
      have HOK := Lib.hid HO; clear HO
      have HKS := Lib.hid hks; clear hks
      have HBw := Lib.hid HC.out.b
      have b0 : wr.cell? ⟨w.heap.size, 0, none⟩ = some (.int .i64 t) := HC.out.bk.cell 0
      have b1 : wr.cell? ⟨w.heap.size, 1, none⟩ = some (.int .i64 n) := HC.out.bk.cell 1
      have b2 : wr.cell? ⟨w.heap.size, 2, none⟩ = some (.int .i64 s) := HC.out.bk.cell 2
      have b3 : wr.cell? ⟨w.heap.size, 3, none⟩ = some (.slice A1 len c1) := HC.out.bk.cell 3
      have d0 : wr.cell? ⟨w.heap.size + 1, 0, none⟩ = some (.int .i64 0) := HC.out.bk2.cell 0
      have d1 : wr.cell? ⟨w.heap.size + 1, 1, none⟩ = some (.int .i64 0) := HC.out.bk2.cell 1
      have d2 : wr.cell? ⟨w.heap.size + 1, 2, none⟩ = some (.int .i64 0) := HC.out.bk2.cell 2
      have d3 : wr.cell? ⟨w.heap.size + 1, 3, none⟩ = some (.slice none 0 0) := HC.out.bk2.cell 3
      have e0 := HC.out.bk2.free 0
      have e1 := HC.out.bk2.free 1
      have e2 := HC.out.bk2.free 2
      have e3 := HC.out.bk2.free 3
      have hfr : Hid (Fr (fun i => i = w.heap.size + 1) wr ((((wr.setCell ⟨w.heap.size + 1, 0, none⟩ (.int .i64 t)).setCell ⟨w.heap.size + 1, 1, none⟩ (.int .i64 n)).setCell ⟨w.heap.size + 1, 2, none⟩ (.int .i64 s)).setCell ⟨w.heap.size + 1, 3, none⟩ (.slice A1 len c1))) := ((((Fr.refl _ wr).own 0 _).own 1 _).own 2 _).own 3 _
      have HOF : Hid (OwnPrs ((((wr.setCell ⟨w.heap.size + 1, 0, none⟩ (.int .i64 t)).setCell ⟨w.heap.size + 1, 1, none⟩ (.int .i64 n)).setCell ⟨w.heap.size + 1, 2, none⟩ (.int .i64 s)).setCell ⟨w.heap.size + 1, 3, none⟩ (.slice A1 len c1)) w.heap.size (.slice A1 len c1) ks) := by
        have h7 := HC.out.bk2
        exact ⟨own_fr HOK.out.1 hfr.out fun j hj e => h7.row HOK.out.1 (by decide) (by rw [hj, e]), fun x hx => own_fr (HOK.out.2.1 x hx) hfr.out fun j hj e => h7.row (HOK.out.2.1 x hx) (by decide) (by rw [hj, e]), HOK.out.2.2⟩
      go_wp2_with fail
      refine bodyPost_ret (v := .agg #[.int .i64 t, .int .i64 n, .int .i64 s, .slice A1 len c1]) (by simp [results, Try.results17, go_sem, *]) rfl ⟨A1, c1, ks, rfl, HKS.out, HOF.out, HBw.out.fr hfr.out fun i hi e => by omega⟩
end Go.Proofs.Ytlfobnpkfloolaa
