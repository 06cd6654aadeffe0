/- Tables: rows of rows of bools in memory; and how a row of places goes on by tables. -/
import Derived.Test.YtdfhhbncmdpoeaaRows
import Derived.Test.YtdfhhbncmdpoeaaBaseS
import Derived.Test.YtdfhhbncmdpoeaaPlainS
import Derived.OwnWalk
import Derived.RegionTactic
import Derived.Deep.RegionLaw
namespace Go.Proofs.Ytdfhhbncmdpoeaa
open Go.RowKit

/-- The slice at A reads as the cells xs, in a block of which P is so. -/
def RdP (w : World) (P : Nat → Prop) (A : Option Addr) (xs : List Value) : Prop :=
  0 < xs.length → ∃ b off, A = some ⟨b, off, none⟩ ∧ P b ∧ ∀ j u, xs[j]? = some u → w.cell? ⟨b, off + j, none⟩ = some u
section
variable {w w' : World} {P Q : Nat → Prop} {A : Option Addr} {xs : List Value} {B : Nat}
theorem RdP.keep (h : RdP w P A xs) (hk : ∀ b, P b → w'.heap[b]? = w.heap[b]?) : RdP w' P A xs := fun hn => by
  obtain ⟨b, off, e, hb, hc⟩ := h hn
  exact ⟨b, off, e, hb, fun j u hu => (World.cell?_of_block (hk b hb)).trans (hc j u hu)⟩
theorem RdP.mono (h : RdP w P A xs) (hP : ∀ b, P b → Q b) : RdP w Q A xs := fun hn => by
  obtain ⟨b, off, e, hb, hc⟩ := h hn
  exact ⟨b, off, e, hP b hb, hc⟩
theorem RdP.nil : RdP w P A [] := fun h => absurd h (by simp)
theorem RdP.cell (h : RdP w P A xs) {j : Nat} (hj : j < xs.length) : ∃ b off, A = some ⟨b, off, none⟩ ∧ P b ∧ w.cell? ⟨b, off + j, none⟩ = some xs[j] := by
  obtain ⟨b, off, e, hb, hc⟩ := h (by omega)
  exact ⟨b, off, e, hb, hc j _ (List.getElem?_eq_getElem hj)⟩
theorem RdP.of_own {base e n c : Nat} {g : Nat} (h : w.ownsRow base e 1 (.slice (some ⟨g, 0, none⟩) n c) n xs) (hP : ∀ b, base ≤ b → b < w.heap.size → P b) : RdP w P (some ⟨g, 0, none⟩) xs := by
  intro _
  have hlt := h.lt g rfl
  refine ⟨g, 0, rfl, hP g hlt.1 hlt.2, fun j u hu => ?_⟩
  have := h.cells (g := g) rfl j u hu
  unfold Addr.add at this
  split at this
  · rename_i hj; subst hj; simpa using this
  · simpa using this
end

/-- Bools as cells. -/
def bls (m : Nat) (f : Nat → Bool) : List Value := (List.range m).map fun b => Value.bool (f b)
theorem bls_len (m : Nat) (f : Nat → Bool) : (bls m f).length = m := by simp [bls]
theorem bls_at {m b : Nat} (f : Nat → Bool) (h : b < m) : (bls m f)[b]? = some (.bool (f b)) := by simp [bls, h]
theorem bls_get {m b : Nat} (f : Nat → Bool) (h : b < (bls m f).length) : (bls m f)[b] = .bool (f b) := by simp [bls]
theorem bls_congr {m : Nat} {f g : Nat → Bool} (h : ∀ b, b < m → f b = g b) : bls m f = bls m g := by
  apply List.ext_getElem?
  intro j
  rcases Nat.lt_or_ge j m with hj | hj
  · rw [bls_at f hj, bls_at g hj, h j hj]
  · rw [List.getElem?_eq_none (by rw [bls_len]; exact hj), List.getElem?_eq_none (by rw [bls_len]; exact hj)]
def upd (f : Nat → Bool) (b : Nat) (x : Bool) : Nat → Bool := fun i => if i = b then x else f i
theorem bls_set (m : Nat) (f : Nat → Bool) (b : Nat) (x : Bool) : (bls m f).set b (.bool x) = bls m (upd f b x) := by
  apply List.ext_getElem?
  intro j
  rw [List.getElem?_set, bls_len]
  unfold upd
  by_cases e : b = j
  · subst e
    rw [if_pos rfl]
    by_cases hb : b < m
    · rw [if_pos hb, bls_at _ hb, if_pos rfl]
    · rw [if_neg hb, List.getElem?_eq_none (by rw [bls_len]; omega)]
  · rw [if_neg e]
    rcases Nat.lt_or_ge j m with hj | hj
    · rw [bls_at _ hj, bls_at _ hj, if_neg (fun h => e h.symm)]
    · rw [List.getElem?_eq_none (by rw [bls_len]; exact hj), List.getElem?_eq_none (by rw [bls_len]; exact hj)]
theorem bls_false (m : Nat) : bls m (fun _ => false) = (madeCells (Value.cells (.bool false)) (m * 1)).toList := by
  have hc : Value.cells (.bool false) = #[.bool false] := by rfl
  rw [hc, toList_madeCells_one, Nat.mul_one]
  apply List.ext_getElem?
  intro j
  rcases Nat.lt_or_ge j m with hj | hj
  · rw [bls_at _ hj]; simp [hj]
  · rw [List.getElem?_eq_none (by rw [bls_len]; exact hj)]; simp [hj]
theorem bool_info : (Try.prog.info? 4).map (fun i => (i.zero, i.size, i.bytes)) = some (some (.bool false), 1, 1) := by kernel_rfl

/-- A value that is a table: m rows of m bools. -/
def Row2 (w : World) (P : Nat → Prop) (v : Value) (m : Nat) (f : Nat → Nat → Bool) : Prop :=
  ∃ A c cs, v = .slice A m c ∧ cs.length = m ∧ RdP w P A cs ∧ ∀ a (h : a < cs.length), ∃ Aa ca, cs[a] = .slice Aa m ca ∧ RdP w P Aa (bls m (f a))
/-- A slice of tables. -/
def Row3 (w : World) (P : Nat → Prop) (A : Option Addr) (m : Nat) (fs : List (Nat → Nat → Bool)) : Prop :=
  ∃ vs, vs.length = fs.length ∧ RdP w P A vs ∧ ∀ i (h : i < vs.length) (h' : i < fs.length), Row2 w P vs[i] m fs[i]
section
variable {w w' : World} {P Q : Nat → Prop} {v : Value} {m : Nat} {f : Nat → Nat → Bool} {A : Option Addr} {fs : List (Nat → Nat → Bool)}
theorem Row2.keep (h : Row2 w P v m f) (hk : ∀ b, P b → w'.heap[b]? = w.heap[b]?) : Row2 w' P v m f := by
  obtain ⟨A, c, cs, e, hl, hr, hx⟩ := h
  refine ⟨A, c, cs, e, hl, hr.keep hk, fun a ha => ?_⟩
  obtain ⟨Aa, ca, e1, h1⟩ := hx a ha
  exact ⟨Aa, ca, e1, h1.keep hk⟩
theorem Row2.mono (h : Row2 w P v m f) (hP : ∀ b, P b → Q b) : Row2 w Q v m f := by
  obtain ⟨A, c, cs, e, hl, hr, hx⟩ := h
  refine ⟨A, c, cs, e, hl, hr.mono hP, fun a ha => ?_⟩
  obtain ⟨Aa, ca, e1, h1⟩ := hx a ha
  exact ⟨Aa, ca, e1, h1.mono hP⟩
theorem Row2.read (h : Row2 w P v m f) {a b : Nat} (ha : a < m) (hb : b < m) : ∃ b1 o1 c1 b2 o2 c2, v = .slice (some ⟨b1, o1, none⟩) m c1 ∧ P b1 ∧
    w.cell? ⟨b1, o1 + a, none⟩ = some (.slice (some ⟨b2, o2, none⟩) m c2) ∧ P b2 ∧ w.cell? ⟨b2, o2 + b, none⟩ = some (.bool (f a b)) := by
  obtain ⟨A, c, cs, e, hl, hr, hx⟩ := h
  obtain ⟨b1, o1, e1, p1, h1⟩ := hr.cell (j := a) (by omega)
  obtain ⟨Aa, ca, e2, h2⟩ := hx a (by omega)
  obtain ⟨b2, o2, e3, p2, h3⟩ := h2.cell (j := b) (by rw [bls_len]; exact hb)
  rw [bls_get] at h3
  subst e1 e3
  exact ⟨b1, o1, c, b2, o2, ca, e, p1, by rw [h1, e2], p2, h3⟩
theorem Row3.keep (h : Row3 w P A m fs) (hk : ∀ b, P b → w'.heap[b]? = w.heap[b]?) : Row3 w' P A m fs := by
  obtain ⟨vs, hl, hr, hx⟩ := h
  exact ⟨vs, hl, hr.keep hk, fun i h1 h2 => (hx i h1 h2).keep hk⟩
theorem Row3.read (h : Row3 w P A m fs) {i a b : Nat} (hi : i < fs.length) (ha : a < m) (hb : b < m) : ∃ b0 o0 b1 o1 c1 b2 o2 c2, A = some ⟨b0, o0, none⟩ ∧ P b0 ∧
    w.cell? ⟨b0, o0 + i, none⟩ = some (.slice (some ⟨b1, o1, none⟩) m c1) ∧ P b1 ∧ w.cell? ⟨b1, o1 + a, none⟩ = some (.slice (some ⟨b2, o2, none⟩) m c2) ∧ P b2 ∧ w.cell? ⟨b2, o2 + b, none⟩ = some (.bool (fs[i] a b)) := by
  obtain ⟨vs, hl, hr, hx⟩ := h
  obtain ⟨b0, o0, e0, p0, h0⟩ := hr.cell (j := i) (by omega)
  obtain ⟨b1, o1, c1, b2, o2, c2, e1, p1, h1, p2, h2⟩ := (hx i (by omega) hi).read ha hb
  exact ⟨b0, o0, b1, o1, c1, b2, o2, c2, e0, p0, by rw [h0, e1], p1, h1, p2, h2⟩
end

/-- How a row of places goes on by a table; by tables, one behind the other. -/
def stepF (f : Nat → Nat → Bool) (at_ : Nat → Bool) (b : Nat) : Bool := (List.range (b + 1)).any fun a => at_ a && f a b
def walkF : List (Nat → Nat → Bool) → (Nat → Bool) → Nat → Bool
  | [], a => a
  | f :: fs, a => walkF fs (stepF f a)
theorem walkF_snoc (f : Nat → Nat → Bool) : ∀ (fs : List (Nat → Nat → Bool)) (at_ : Nat → Bool), walkF (fs ++ [f]) at_ = stepF f (walkF fs at_)
  | [], _ => rfl
  | _ :: fs, _ => walkF_snoc f fs _
theorem walkF_succ {fs : List (Nat → Nat → Bool)} {k : Nat} (h : k < fs.length) (at_ : Nat → Bool) : walkF (fs.take (k + 1)) at_ = stepF fs[k] (walkF (fs.take k) at_) := by
  rw [List.take_succ_eq_append_getElem h, walkF_snoc]
theorem walkF_map (T : Cf.Tb) (w : List Int) : ∀ (l : List Gr.Sy) (at_ : Nat → Bool), walkF (l.map (Cf.sym T w)) at_ = Cf.walk T w l at_
  | [], _ => rfl
  | _ :: l, _ => walkF_map T w l _
/-- The step, as far as the places below k go; and within place k, as far as those below j. -/
def stepTo (f : Nat → Nat → Bool) (at_ : Nat → Bool) (k b : Nat) : Bool := (List.range k).any fun a => decide (a ≤ b) && (at_ a && f a b)
def inTo (f : Nat → Nat → Bool) (at_ : Nat → Bool) (k j b : Nat) : Bool := stepTo f at_ k b || (decide (k ≤ b ∧ b < j) && f k b)
section
variable (f : Nat → Nat → Bool) (at_ : Nat → Bool)
theorem stepTo_zero : stepTo f at_ 0 = fun _ => false := rfl
theorem stepTo_succ (k b : Nat) : stepTo f at_ (k + 1) b = (stepTo f at_ k b || (decide (k ≤ b) && (at_ k && f k b))) := by
  unfold stepTo
  rw [List.range_succ, List.any_append, List.any_cons, List.any_nil, Bool.or_false]
theorem stepTo_skip {k : Nat} (h : at_ k = false) : stepTo f at_ (k + 1) = stepTo f at_ k := by
  funext b
  rw [stepTo_succ, h]
  simp
theorem stepTo_end {m b : Nat} (h : b < m) : stepTo f at_ m b = stepF f at_ b := by
  unfold stepTo stepF
  rw [Bool.eq_iff_iff, List.any_eq_true, List.any_eq_true]
  constructor
  · rintro ⟨a, ha, hx⟩
    rw [Bool.and_eq_true, decide_eq_true_eq] at hx
    exact ⟨a, List.mem_range.2 (by omega), hx.2⟩
  · rintro ⟨a, ha, hx⟩
    have := List.mem_range.1 ha
    exact ⟨a, List.mem_range.2 (by omega), by rw [Bool.and_eq_true, decide_eq_true_eq]; exact ⟨by omega, hx⟩⟩
theorem inTo_start (k : Nat) : inTo f at_ k k = stepTo f at_ k := by
  funext b
  unfold inTo
  rw [decide_eq_false (by omega)]
  simp
theorem inTo_end {k m b : Nat} (h : at_ k = true) (hb : b < m) : inTo f at_ k m b = stepTo f at_ (k + 1) b := by
  unfold inTo
  rw [stepTo_succ, h, Bool.true_and]
  congr 2
  apply decide_eq_decide.2
  omega
theorem inTo_put {k j : Nat} (hk : k ≤ j) (h : f k j = true) : inTo f at_ k (j + 1) = upd (inTo f at_ k j) j true := by
  funext b
  unfold upd
  split
  · rename_i e
    subst e
    unfold inTo
    rw [decide_eq_true ⟨hk, Nat.lt_succ_self b⟩, h]
    simp
  · rename_i e
    unfold inTo
    congr 2
    apply decide_eq_decide.2
    omega
theorem inTo_skip {k j : Nat} (h : f k j = false) : inTo f at_ k (j + 1) = inTo f at_ k j := by
  funext b
  unfold inTo
  by_cases e : b = j
  · subst e; rw [h]; simp
  · congr 2
    apply decide_eq_decide.2
    omega
end
end Go.Proofs.Ytdfhhbncmdpoeaa
/- The reference's row (layer 8): from a place, to which places tables lead, one behind the other. -/
namespace Go.Proofs.Ytdfhhbncmdpoeaa
open Go.RowKit

/-- What it leaves: a row of bools, in a new block. -/
def BPost (m : Nat) (h : Nat → Bool) (w : World) (e : Ending) (w' : World) : Prop :=
  ∃ g c, e = .returned (.slice (some ⟨g, 0, none⟩) m c) ∧ RdP w' (fun b => w.heap.size ≤ b ∧ b < w'.heap.size) (some ⟨g, 0, none⟩) (bls m h) ∧ Bl w w'
theorem bl_block {w w' : World} (h : Bl w w') {b : Nat} (hb : b < w.heap.size) : w'.heap[b]? = w.heap[b]? := Below.block h b hb

theorem RdP.at0 {w : World} {P : Nat → Prop} {g : Nat} {xs : List Value} (h : RdP w P (some ⟨g, 0, none⟩) xs) {j : Nat} (hj : j < xs.length) : w.cell? ⟨g, j, none⟩ = some xs[j] ∧ P g := by
  obtain ⟨b, off, e, hb, hc⟩ := h.cell hj
  injection e with e
  injection e with e1 e2
  subst e1 e2
  rw [Nat.zero_add] at hc
  exact ⟨hc, hb⟩
theorem RdP.bls0 {w : World} {P : Nat → Prop} {g m : Nat} {f : Nat → Bool} (h : RdP w P (some ⟨g, 0, none⟩) (bls m f)) {j : Nat} (hj : j < m) : w.cell? ⟨g, j, none⟩ = some (.bool (f j)) ∧ P g := by
  have := h.at0 (j := j) (by rw [bls_len]; exact hj)
  rw [bls_get] at this
  exact this

set_option maxRecDepth 100000 in
set_option maxHeartbeats 4000000 in
theorem row8_any (A : Option Addr) (len c : Nat) (fs : List (Nat → Nat → Bool)) (from_ size : Nat) (w : World) (hlen : len = fs.length) (hmax : len ≤ 1000000000) (hfrom : from_ ≤ size) (hsz : size ≤ 1000)
    (hr : Row3 w (fun b => b < w.heap.size) A (size + 1) fs) :
    Calls Try.prog 53 #[.slice A len c, .int .i64 from_, .int .i64 size] w (BPost (size + 1) (walkF fs (upd (fun _ => false) from_ true)) w) := by
  obtain ⟨i0, hi, hz0, hz1, hz2⟩ := info_parts bool_info
  have HL := Lib.hid hlen; clear hlen
  have HR := Lib.hid hr; clear hr
  go_enter Try.func53, Try.ntmps53
  go_wp2_with (refine wpList_make_full _ rfl (.tmp 13) (.tmp 13) 70 rfl w.heap.size 4 i0 (.bool false) 1 Try.underlying70 hi hz0 hz1 .i64 .i64 ((size : Int) + 1) ((size : Int) + 1) (size + 1) rfl rfl (by omega) (by omega) (by rw [hz2]; omega) (by simp only [maxLen]; omega) (Nat.le_refl _) ?_; intro w1 hown1 hg1; rw [← bls_false] at hown1; have HO1 := Lib.hid hown1; have HB1 : Hid (Bl w w1) := (Bl.refl w).grown hg1 (by simp); have kf := hown1.frozenAt from_; have kc := (hown1.cellAt from_ (by omega)).trans (bls_at _ (show from_ < size + 1 by omega)); have klt := (hown1.lt _ rfl).2; clear hown1 hg1)
  have HO2 := Lib.hid (HO1.out.stored from_ (.bool true)).1
  have HB2 : Hid (Bl w (w1.setCell ⟨w.heap.size, from_, none⟩ (.bool true))) := Bl.fr HB1.out ((Fr.refl (fun k => k = w.heap.size) w1).own _ _) (fun i hi e => by omega)
  have HA0 : Hid (RdP (w1.setCell ⟨w.heap.size, from_, none⟩ (.bool true)) (fun b => w.heap.size ≤ b ∧ b < (w1.setCell ⟨w.heap.size, from_, none⟩ (.bool true)).heap.size) (some ⟨w.heap.size, 0, none⟩) (bls (size + 1) (walkF (fs.take 0) (upd (fun _ => false) from_ true)))) := by
    have h := HO2.out
    rw [bls_set] at h
    exact RdP.of_own h fun b h1 h2 => ⟨h1, h2⟩
  generalize hat : upd (fun _ => false) from_ true = at0 at *
  have HAT := Lib.hid hat; clear hat
  clear HO1 HO2 HB1 kf kc klt
  go_loopw [7, 8] (fun v i wr => ∃ k g cg : Nat, k ≤ len ∧ v = .slice (some ⟨g, 0, none⟩) (size + 1) cg ∧ i = .int .i64 k ∧ Hid (RdP wr (fun b => w.heap.size ≤ b ∧ b < wr.heap.size) (some ⟨g, 0, none⟩) (bls (size + 1) (walkF (fs.take k) at0))) ∧ Hid (Bl w wr)) (fun _ i _ => len - (intOf i).toNat)
  case atStart => exact ⟨0, _, _, Nat.zero_le _, rfl, rfl, HA0.out, HB2.out⟩
  case round =>
    obtain ⟨k, g, cg, hk, rfl, rfl, HAk, HBk⟩ := hrel
    obtain ⟨wo, rfl⟩ : ∃ wo : World, wo = wr := ⟨_, rfl⟩
    by_cases hlt : k < len
    · have hj : k < fs.length := by have := HL.out; omega
      have HNext := Lib.hid (walkF_succ hj at0)
      generalize walkF (fs.take k) at0 = atk at *
      have HRd : Hid (∀ W : World, Bl wo W → ∀ {a b : Nat}, a < size + 1 → b < size + 1 → ∃ b0 o0 b1 o1 c1 b2 o2 c2, A = some ⟨b0, o0, none⟩ ∧ b0 < wo.heap.size ∧
          W.cell? ⟨b0, o0 + k, none⟩ = some (.slice (some ⟨b1, o1, none⟩) (size + 1) c1) ∧ b1 < wo.heap.size ∧ W.cell? ⟨b1, o1 + a, none⟩ = some (.slice (some ⟨b2, o2, none⟩) (size + 1) c2) ∧ b2 < wo.heap.size ∧ W.cell? ⟨b2, o2 + b, none⟩ = some (.bool (fs[k] a b))) := by
        intro W hb a b ha hb2
        have hsz0 : w.heap.size ≤ wo.heap.size := HBk.out.size
        obtain ⟨b0, o0, b1, o1, c1, b2, o2, c2, e, p0, h0, p1, h1, p2, h2⟩ := (HR.out.keep (fun b h => bl_block (HBk.out.trans hb) h)).read hj ha hb2
        exact ⟨b0, o0, b1, o1, c1, b2, o2, c2, e, by omega, h0, by omega, h1, by omega, h2⟩
      generalize fs[k] = f at *
      clear hj
      go_wp2_with (refine wpList_make_full _ rfl (.tmp 25) (.tmp 25) 70 rfl wo.heap.size 4 i0 (.bool false) 1 Try.underlying70 hi hz0 hz1 .i64 .i64 ((size : Int) + 1) ((size : Int) + 1) (size + 1) rfl rfl (by omega) (by omega) (by rw [hz2]; omega) (by simp only [maxLen]; omega) (Nat.le_refl _) ?_; intro w3 hown3 hg3; rw [← bls_false] at hown3; have HO3 : Hid (w3.ownsRow wo.heap.size 4 1 (.slice (some ⟨wo.heap.size, 0, none⟩) (size + 1) (size + 1)) (size + 1) (bls (size + 1) (stepTo f atk 0))) := hown3; have HB3 : Hid (Bl wo w3) := (Bl.refl wo).grown hg3 (by simp); clear hown3 hg3)
      go_loopw [10] (fun i wr => ∃ a : Nat, a ≤ size + 1 ∧ i = .int .i64 a ∧ Hid (wr.ownsRow wo.heap.size 4 1 (.slice (some ⟨wo.heap.size, 0, none⟩) (size + 1) (size + 1)) (size + 1) (bls (size + 1) (stepTo f atk a))) ∧ Hid (Bl wo wr)) (fun i _ => size + 1 - (intOf i).toNat)
      case atStart => exact ⟨0, Nat.zero_le _, rfl, HO3.out, HB3.out⟩
      case round =>
        obtain ⟨a, ha, rfl, HOa, HBa⟩ := hrel
        by_cases hlt2 : a ≤ size
        · go_wp2_with fail
          go_loopw [11] (fun i wr => ∃ j : Nat, a ≤ j ∧ j ≤ size + 1 ∧ i = .int .i64 j ∧ Hid (atk a = false → j = a) ∧ Hid (wr.ownsRow wo.heap.size 4 1 (.slice (some ⟨wo.heap.size, 0, none⟩) (size + 1) (size + 1)) (size + 1) (bls (size + 1) (inTo f atk a j))) ∧ Hid (Bl wo wr)) (fun i _ => size + 1 - (intOf i).toNat)
          case atStart => exact ⟨a, Nat.le_refl _, by omega, rfl, fun _ => rfl, by rw [inTo_start]; exact HOa.out, HBa.out⟩
          case round =>
            obtain ⟨j, haj, hj, rfl, HZ, HOj, HBj⟩ := hrel
            by_cases hlt3 : j ≤ size
            · have hal : a < size + 1 := by omega
              have hjl : j < size + 1 := by omega
              obtain ⟨ka, _, kg⟩ := (HAk.out.keep (fun b hb => bl_block HBj.out hb.2)).bls0 hal
              have hsz : wo.heap.size ≤ wr.heap.size := HBj.out.size
              have kgl : g < wr.heap.size := by omega
              cases hat : atk a with
              | false =>
                rw [hat] at ka
                have HX : Hid (wr.ownsRow wo.heap.size 4 1 (.slice (some ⟨wo.heap.size, 0, none⟩) (size + 1) (size + 1)) (size + 1) (bls (size + 1) (stepTo f atk (a + 1)))) := by
                  have h := HOj.out
                  rw [HZ.out hat, inTo_start, ← stepTo_skip f atk hat] at h
                  exact h
                clear hat
                go_wp2_with fail
                go_roundw
                case rel => exact ⟨a + 1, by omega, by go_num, HX.out, HBj.out⟩
                case measure => simp [intOf]; omega
              | true =>
                rw [hat] at ka
                have HT := Lib.hid hat; clear hat
                obtain ⟨b0, o0, b1, o1, c1, b2, o2, c2, rfl, p0, h0, p1, h1, p2, h2⟩ := HRd.out wr HBj.out hal hjl
                have p0' : b0 < wr.heap.size := by omega
                have p1' : b1 < wr.heap.size := by omega
                have p2' : b2 < wr.heap.size := by omega
                cases hf : f a j with
                | false =>
                  rw [hf] at h2
                  have HX : Hid (wr.ownsRow wo.heap.size 4 1 (.slice (some ⟨wo.heap.size, 0, none⟩) (size + 1) (size + 1)) (size + 1) (bls (size + 1) (inTo f atk a (j + 1)))) := by
                    rw [inTo_skip f atk hf]; exact HOj.out
                  clear hf
                  go_wp2_with fail
                  go_roundw
                  case rel => exact ⟨j + 1, by omega, by omega, by go_num, (fun h => by first | cases h | (rw [HT.out] at h; cases h)), HX.out, HBj.out⟩
                  case measure => simp [intOf]; omega
                | true =>
                  rw [hf] at h2
                  have hst := HOj.out.stored j (.bool true)
                  have HX : Hid ((wr.setCell ⟨wo.heap.size, j, none⟩ (.bool true)).ownsRow wo.heap.size 4 1 (.slice (some ⟨wo.heap.size, 0, none⟩) (size + 1) (size + 1)) (size + 1) (bls (size + 1) (inTo f atk a (j + 1)))) := by
                    rw [inTo_put f atk haj hf, ← bls_set]; exact hst.1
                  have HY : Hid (Bl wo (wr.setCell ⟨wo.heap.size, j, none⟩ (.bool true))) := Bl.fr HBj.out ((Fr.refl (fun k => k = wo.heap.size) wr).own _ _) (fun i hi e => by omega)
                  have kf := HOj.out.frozenAt j
                  have kc := (HOj.out.cellAt j (by omega)).trans (bls_at _ hjl)
                  have klt := (HOj.out.lt _ rfl).2
                  clear hf hst
                  go_wp2_with fail
                  go_roundw
                  case rel => exact ⟨j + 1, by omega, by omega, by go_num, (fun h => by first | cases h | (rw [HT.out] at h; cases h)), HX.out, HY.out⟩
                  case measure => simp [intOf]; omega
            · have hjm : j = size + 1 := by omega
              have HX : Hid (wr.ownsRow wo.heap.size 4 1 (.slice (some ⟨wo.heap.size, 0, none⟩) (size + 1) (size + 1)) (size + 1) (bls (size + 1) (stepTo f atk (a + 1)))) := by
                have h := HOj.out
                have ht : atk a = true := by
                  cases e : atk a with
                  | true => rfl
                  | false => have := HZ.out e; omega
                rw [hjm] at h
                rw [bls_congr (fun b hb => inTo_end f atk ht hb)] at h
                exact h
              go_wp2_with fail
              go_roundw
              case rel => exact ⟨a + 1, by omega, by go_num, HX.out, HBj.out⟩
              case measure => simp [intOf]; omega
        · have HX : Hid (RdP wr (fun b => w.heap.size ≤ b ∧ b < wr.heap.size) (some ⟨wo.heap.size, 0, none⟩) (bls (size + 1) (stepF f atk))) := by
            have h := HOa.out
            rw [show a = size + 1 by omega, bls_congr (fun b hb => stepTo_end f atk hb)] at h
            have hsz0 : w.heap.size ≤ wo.heap.size := HBk.out.size
            exact RdP.of_own h fun b h1 h2 => ⟨by omega, h2⟩
          go_wp2_with fail
          go_roundw
          case rel => exact ⟨k + 1, wo.heap.size, size + 1, by omega, rfl, by go_num, by rw [HNext.out]; exact HX.out, HBk.out.trans HBa.out⟩
          case measure => simp [intOf]; omega
    · have HX : Hid (RdP wo (fun b => w.heap.size ≤ b ∧ b < wo.heap.size) (some ⟨g, 0, none⟩) (bls (size + 1) (walkF fs at0))) := by
        have h := HAk.out
        rw [List.take_of_length_le (by have := HL.out; omega)] at h
        exact h
      go_wp2_with fail
      go_ret
      exact ⟨g, cg, rfl, by rw [HAT.out]; exact HX.out, HBk.out⟩
end Go.Proofs.Ytdfhhbncmdpoeaa
/- Tables that can be written; the reference's none (layer 8). -/
namespace Go.Proofs.Ytdfhhbncmdpoeaa
open Go.RowKit

/-- A row of a table: its block, what it may take, where its leaves lie. -/
structure RowD where
  blk : Nat
  cap : Nat
  lo : Nat
  hi : Nat
  leaf : List Nat
def RowD.cell (m : Nat) (r : RowD) : Value := .slice (some ⟨r.blk, 0, none⟩) m r.cap
def leafs (m : Nat) (l : List Nat) : List Value := l.map fun g => Value.slice (some ⟨g, 0, none⟩) m m
theorem leafs_len (m : Nat) (l : List Nat) : (leafs m l).length = l.length := by simp [leafs]
structure OneRow (m : Nat) (r : RowD) (f : Nat → Nat → Bool) (w : World) : Prop where
  row : w.ownsRow r.lo 70 1 (.slice (some ⟨r.blk, 0, none⟩) m r.cap) m (leafs m r.leaf)
  len_ : r.leaf.length = m
  leaf : ∀ a (h : a < r.leaf.length), Bk w r.leaf[a] 4 (bls m (f a)).toArray
  ord : r.leaf.Pairwise (· < ·)
  rng : ∀ g ∈ r.leaf, r.lo ≤ g ∧ g < r.hi
  hi_ : r.hi ≤ w.heap.size
/-- A slice of rows, all of the call's own. -/
structure Tab (B0 m : Nat) (v : Value) (rows : List RowD) (T : Nat → Nat → Nat → Bool) (w : World) : Prop where
  own : w.ownsRow B0 71 1 v rows.length (rows.map (RowD.cell m))
  one : ∀ n (h : n < rows.length), OneRow m rows[n] (T n) w
  apart : rows.Pairwise fun r r' => r.hi ≤ r'.lo
  low : ∀ r ∈ rows, B0 ≤ r.lo
theorem own_apart' {w : World} {b b' n n' sz sz' : Nat} {e e' : TypeId} {v v' : Value} {xs xs' : List Value} (h : w.ownsRow b e sz v n xs) (h' : w.ownsRow b' e' sz' v' n' xs') (hne : e ≠ e') : ∀ k, v.ownBlock = some k → v'.ownBlock ≠ some k := by
  intro k hk
  rcases h.2 with ⟨rfl, _⟩ | ⟨g, cap, cur, rfl, _, hg, _⟩
  · cases hk
  · have e1 : g = k := by simpa [Value.ownBlock] using hk
    subst e1
    exact Bk.row (g := g) (cs := cur) hg h' (fun e => hne e.symm)
theorem own_bk {w : World} {base e n g : Nat} {xs : List Value} (h : w.ownsRow base e 1 (.slice (some ⟨g, 0, none⟩) n n) n xs) : Bk w g e xs.toArray := by
  rcases h.2 with ⟨h', _⟩ | ⟨g', cap, cur, h', _, hg, _, _, hcs, htake⟩
  · simp at h'
  · simp only [Value.slice.injEq, Option.some.injEq, Addr.mk.injEq, and_true, true_and] at h'
    obtain ⟨rfl, rfl⟩ := h'
    have : cur = xs.toArray := by
      rw [← htake, List.take_of_length_le (by rw [Array.length_toList, hcs]; exact Nat.le_refl _)]
    subst this
    exact hg
def updT (T : Nat → Nat → Nat → Bool) (n a b : Nat) (x : Bool) : Nat → Nat → Nat → Bool := fun n' a' => if n' = n ∧ a' = a then upd (T n a) b x else T n' a'
section
variable {B0 m : Nat} {v v2 : Value} {rows : List RowD} {T : Nat → Nat → Nat → Bool} {w w' : World} {r : RowD} {f : Nat → Nat → Bool}
theorem OneRow.bl_ (h : OneRow m r f w) (hb : Bl w w') : OneRow m r f w' :=
  ⟨own_bl h.row hb, h.len_, fun a ha => (h.leaf a ha).bl hb, h.ord, h.rng, Nat.le_trans h.hi_ hb.size⟩
theorem Tab.bl_ (h : Tab B0 m v rows T w) (hb : Bl w w') : Tab B0 m v rows T w' := ⟨own_bl h.own hb, fun n hn => (h.one n hn).bl_ hb, h.apart, h.low⟩
/-- A row stays when a block of type [][]bool grows. -/
theorem OneRow.grown (h : OneRow m r f w) {base k : Nat} {xs : List Value} (ho : w.ownsRow base 71 1 v k xs) (hg : w.grownBy w' v.ownBlock) : OneRow m r f w' := by
  have hf : Fr (fun k => some k = v.ownBlock) w w' := ⟨hg.os, hg.tape, hg.output, hg.size, hg.block⟩
  refine ⟨own_fr h.row hf fun k hk e => own_apart' h.row ho (by decide) k hk e.symm, h.len_, fun a ha => (h.leaf a ha).grown hg fun e => (h.leaf a ha).row ho (by decide) e.symm, h.ord, h.rng, Nat.le_trans h.hi_ hg.size⟩
theorem Tab.inj (h : Tab B0 m v rows T w) {n n' a a' : Nat} (hn : n < rows.length) (hn' : n' < rows.length) (ha : a < rows[n].leaf.length) (ha' : a' < rows[n'].leaf.length) (e : rows[n].leaf[a] = rows[n'].leaf[a']) : n = n' ∧ a = a' := by
  have g1 := (h.one n hn).rng _ (List.getElem_mem ha)
  have g2 := (h.one n' hn').rng _ (List.getElem_mem ha')
  have hp := List.pairwise_iff_getElem.1 h.apart
  rcases Nat.lt_trichotomy n n' with hlt | rfl | hgt
  · have := hp n n' hn hn' hlt; omega
  · refine ⟨rfl, ?_⟩
    have ho := List.pairwise_iff_getElem.1 (h.one n hn).ord
    rcases Nat.lt_trichotomy a a' with h1 | h1 | h1
    · have := ho a a' ha ha' h1; omega
    · exact h1
    · have := ho a' a ha' ha h1; omega
  · have := hp n' n hn' hn hgt; omega
theorem Tab.put (h : Tab B0 m v rows T w) {n a b : Nat} (hn : n < rows.length) (ha : a < rows[n].leaf.length) (x : Bool) :
    Tab B0 m v rows (updT T n a b x) (w.setCell ⟨rows[n].leaf[a], b, none⟩ (.bool x)) := by
  have hl := (h.one n hn).leaf a ha
  have hfr : Fr (fun k => k = rows[n].leaf[a]) w (w.setCell ⟨rows[n].leaf[a], b, none⟩ (.bool x)) := (Fr.refl _ w).own _ _
  refine ⟨own_fr h.own hfr fun k hk e => hl.row h.own (by decide) (by rw [hk, e]), fun n' hn' => ?_, h.apart, h.low⟩
  have h1 := h.one n' hn'
  refine ⟨own_fr h1.row hfr fun k hk e => hl.row h1.row (by decide) (by rw [hk, e]), h1.len_, fun a' ha' => ?_, h1.ord, h1.rng, Nat.le_trans h1.hi_ hfr.size⟩
  by_cases e : n' = n ∧ a' = a
  · obtain ⟨rfl, rfl⟩ := e
    unfold updT
    rw [if_pos ⟨rfl, rfl⟩]
    have := hl.put b (.bool x)
    rw [List.setIfInBounds_toArray, bls_set] at this
    exact this
  · unfold updT
    rw [if_neg e]
    exact (h1.leaf a' ha').fr hfr fun e2 => by
      have := h.inj hn' hn ha' ha e2
      exact e this
theorem Tab.read (h : Tab B0 m v rows T w) {n a b : Nat} (hn : n < rows.length) (ha : a < m) (hb : b < m) : ∃ bo c g, v = .slice (some ⟨bo, 0, none⟩) rows.length c ∧ bo < w.heap.size ∧
    w.cell? ⟨bo, n, none⟩ = some (.slice (some ⟨rows[n].blk, 0, none⟩) m rows[n].cap) ∧ rows[n].blk < w.heap.size ∧ w.cell? ⟨rows[n].blk, a, none⟩ = some (.slice (some ⟨g, 0, none⟩) m m) ∧ g < w.heap.size ∧
    w.cell? ⟨g, b, none⟩ = some (.bool (T n a b)) ∧ w.frozen? ⟨g, b, none⟩ = false ∧ B0 ≤ g ∧ g < rows[n].hi ∧ ∀ x, Tab B0 m v rows (updT T n a b x) (w.setCell ⟨g, b, none⟩ (.bool x)) := by
  obtain ⟨bo, c, rfl, _, hlt⟩ := h.own.form (by omega)
  have h1 := h.one n hn
  have ha' : a < rows[n].leaf.length := by rw [h1.len_]; exact ha
  have hl := h1.leaf a ha'
  have hg := h1.rng _ (List.getElem_mem ha')
  have hlow := h.low _ (List.getElem_mem hn)
  refine ⟨bo, c, rows[n].leaf[a], rfl, hlt, ?_, (h1.row.lt _ rfl).2, ?_, hl.lt, ?_, hl.free b, by omega, hg.2, fun x => h.put hn ha' x⟩
  · rw [h.own.cellAt n (by omega), List.getElem?_map, List.getElem?_eq_getElem hn]; rfl
  · rw [h1.row.cellAt a (by omega)]
    unfold leafs
    rw [List.getElem?_map, List.getElem?_eq_getElem ha']; rfl
  · rw [hl.cell b, List.getElem?_toArray, bls_at _ hb]
theorem Tab.row2 (h : Tab B0 m v rows T w) {n : Nat} (hn : n < rows.length) : Row2 w (fun b => B0 ≤ b ∧ b < w.heap.size) (RowD.cell m rows[n]) m (T n) := by
  have h1 := h.one n hn
  have hlow := h.low _ (List.getElem_mem hn)
  refine ⟨some ⟨rows[n].blk, 0, none⟩, rows[n].cap, leafs m rows[n].leaf, rfl, by rw [leafs_len, h1.len_], RdP.of_own h1.row fun b h2 h => ⟨by omega, h⟩, fun a ha => ?_⟩
  have ha' : a < rows[n].leaf.length := by rwa [leafs_len] at ha
  have hl := h1.leaf a ha'
  have hg := h1.rng _ (List.getElem_mem ha')
  refine ⟨some ⟨rows[n].leaf[a], 0, none⟩, m, by simp [leafs], fun _ => ⟨rows[n].leaf[a], 0, rfl, ⟨by omega, hl.lt⟩, fun j u hu => ?_⟩⟩
  rw [Nat.zero_add, hl.cell j, List.getElem?_toArray]
  exact hu
end

/-- Where none's inner loop stands. -/
structure InRel (m lo : Nat) (v : Value) (ls : List Nat) (w : World) : Prop where
  row : w.ownsRow lo 70 1 v ls.length (leafs m ls)
  leaf : ∀ g ∈ ls, Bk w g 4 (bls m (fun _ => false)).toArray
  ord : ls.Pairwise (· < ·)
  rng : ∀ g ∈ ls, lo ≤ g ∧ g < w.heap.size
section
variable {m lo : Nat} {v v2 : Value} {ls : List Nat} {wn w w3 w5 : World}
theorem InRel.step (h : InRel m lo v ls w) (hlo : lo ≤ w.heap.size) (hb : Bl wn w) (hwn : wn.heap.size ≤ lo) (ho3 : w3.ownsRow w.heap.size 4 1 (.slice (some ⟨w.heap.size, 0, none⟩) m m) m (bls m (fun _ => false))) (hg3 : w.grownBy w3 none) {o : Obj}
    (ho5 : w5.ownsRow lo 70 1 v2 (ls.length + 1) (leafs m ls ++ [.slice (some ⟨w.heap.size, 0, none⟩) m m])) (hg5 : (w3.alloc o).grownBy w5 v.ownBlock) : InRel m lo v2 (ls ++ [w.heap.size]) w5 ∧ Bl wn w5 := by
  have hb3 : Bl w w3 := (Bl.refl w).grown hg3 (by simp)
  have hba : Bl w (w3.alloc o) := hb3.alloc o
  have h3 := own_bl h.row hba
  have keep : ∀ {g : Nat} {cs : Array Value}, Bk (w3.alloc o) g 4 cs → Bk w5 g 4 cs := fun hk => hk.grown hg5 fun e => hk.row h3 (by decide) e.symm
  have hlt : w.heap.size < w3.heap.size := (ho3.lt _ rfl).2
  have hs5 := hg5.size
  rw [World.size_alloc] at hs5
  refine ⟨⟨?_, ?_, ?_, ?_⟩, (hb.trans hba).grown hg5 fun k hk => by have := (h.row.lt k hk).1; omega⟩
  · rw [List.length_append]
    have e : leafs m (ls ++ [w.heap.size]) = leafs m ls ++ [.slice (some ⟨w.heap.size, 0, none⟩) m m] := by simp [leafs]
    rw [e]
    exact ho5
  · intro g hg
    rcases List.mem_append.1 hg with hg | hg
    · exact keep ((h.leaf g hg).bl hba)
    · rw [List.mem_singleton] at hg
      subst hg
      exact keep ((own_bk ho3).alloc o)
  · refine List.pairwise_append.2 ⟨h.ord, by simp, fun a ha b hb => ?_⟩
    rw [List.mem_singleton] at hb
    have := (h.rng a ha).2
    omega
  · intro g hg
    rcases List.mem_append.1 hg with hg | hg
    · have := h.rng g hg; omega
    · rw [List.mem_singleton] at hg
      omega
theorem Tab.more {B0 : Nat} {vo vo2 : Value} {rows : List RowD} {w6 : World} (h : Tab B0 m vo rows (fun _ _ _ => false) wn) (hB0 : B0 ≤ wn.heap.size) (hb : Bl wn w) {blk cap : Nat} (hi : InRel m lo (.slice (some ⟨blk, 0, none⟩) m cap) ls w) (hlm : ls.length = m) (hlo : wn.heap.size ≤ lo) {o : Obj}
    (ho : w6.ownsRow B0 71 1 vo2 (rows.length + 1) (rows.map (RowD.cell m) ++ [.slice (some ⟨blk, 0, none⟩) m cap])) (hg : (w.alloc o).grownBy w6 vo.ownBlock) :
    Tab B0 m vo2 (rows ++ [⟨blk, cap, lo, w.heap.size, ls⟩]) (fun _ _ _ => false) w6 := by
  have hba : Bl wn (w.alloc o) := hb.alloc o
  have h2 := h.bl_ hba
  have hnew : OneRow m ⟨blk, cap, lo, w.heap.size, ls⟩ (fun _ _ => false) w := ⟨by have := hi.row; rw [hlm] at this; exact this, hlm, fun a ha => hi.leaf _ (List.getElem_mem ha), hi.ord, hi.rng, Nat.le_refl _⟩
  have hnew2 := (hnew.bl_ ((Bl.refl w).alloc o)).grown h2.own hg
  refine ⟨?_, fun n hn => ?_, ?_, ?_⟩
  · rw [List.length_append, List.map_append]
    exact ho
  · rcases Nat.lt_or_ge n rows.length with hlt | hge
    · rw [List.getElem_append_left hlt]
      exact (h2.one n hlt).grown h2.own hg
    · have : n = rows.length := by rw [List.length_append] at hn; simp at hn; omega
      subst this
      rw [List.getElem_append_right (Nat.le_refl _)]
      simp only [Nat.sub_self, List.getElem_cons_zero]
      exact hnew2
  · refine List.pairwise_append.2 ⟨h.apart, by simp, fun r hr r' hr' => ?_⟩
    rw [List.mem_singleton] at hr'
    subst hr'
    obtain ⟨n, hn, rfl⟩ := List.getElem_of_mem hr
    have := (h.one n hn).hi_
    show rows[n].hi ≤ lo
    omega
  · intro r hr
    rcases List.mem_append.1 hr with hr | hr
    · exact h.low r hr
    · rw [List.mem_singleton] at hr
      subst hr
      show B0 ≤ lo
      omega
end

theorem bools_info : (Try.prog.info? 70).map (fun i => (i.zero, i.size, i.bytes)) = some (some (.slice none 0 0), 1, 24) := by kernel_rfl
theorem boolss_info : (Try.prog.info? 71).map (fun i => (i.zero, i.size, i.bytes)) = some (some (.slice none 0 0), 1, 24) := by kernel_rfl
theorem own_empty (w : World) (base : Nat) (e : TypeId) (h : base ≤ w.heap.size) : (w.alloc (.cells #[] e)).ownsRow base e 1 (.slice (some ⟨w.heap.size, 0, none⟩) 0 0) 0 [] :=
  World.ownsRow_lit (base := base) (e := e) (size := 1) w #[] 0 h (by simp [maxLen]) rfl
theorem one_new' (w : World) (x : Value) (t : TypeId) : ∀ j u, [x][j]? = some u → (w.alloc (.cells #[x] t)).cell? ((⟨w.heap.size, 0, none⟩ : Addr).add j) = some u := one_new w x t
/-- What none leaves. -/
def TPost (many m : Nat) (w : World) (e : Ending) (w' : World) : Prop :=
  ∃ (A : Option Addr) (c : Nat) (rows : List RowD), e = .returned (.slice A many c) ∧ rows.length = many ∧ Tab w.heap.size m (.slice A many c) rows (fun _ _ _ => false) w' ∧ Bl w w'

set_option maxRecDepth 100000 in
set_option maxHeartbeats 4000000 in
theorem none_any (many size : Nat) (w : World) (hm : many ≤ 1000) (hsz : size ≤ 1000) :
    Calls Try.prog 51 #[.int .i64 many, .int .i64 size] w (TPost many (size + 1) w) := by
  obtain ⟨i0, hi, hz0, hz1, hz2⟩ := info_parts bool_info
  obtain ⟨i1, hi1, hy0, hy1, hy2⟩ := info_parts bools_info
  obtain ⟨i2, hi2, hx0, hx1, hx2⟩ := info_parts boolss_info
  have HT0 : Hid (Tab w.heap.size (size + 1) (.slice (some ⟨w.heap.size, 0, none⟩) 0 0) [] (fun _ _ _ => false) (w.alloc (.cells #[] 71))) :=
    ⟨own_empty w _ _ (Nat.le_refl _), fun n hn => absurd hn (by simp), List.Pairwise.nil, fun r hr => absurd hr (by simp)⟩
  have HB0 : Hid (Bl w (w.alloc (.cells #[] 71))) := (Bl.refl w).alloc _
  go_enter Try.func51, Try.ntmps51
  go_wp2_with fail
  go_loopw [5, 6] (fun v i wr => ∃ rows : List RowD, rows.length ≤ many ∧ i = .int .i64 rows.length ∧ Hid (Tab w.heap.size (size + 1) v rows (fun _ _ _ => false) wr) ∧ Hid (Bl w wr)) (fun _ i _ => many - (intOf i).toNat)
  case atStart => exact ⟨[], Nat.zero_le _, rfl, HT0.out, HB0.out⟩
  case round =>
    obtain ⟨rows, hk, rfl, HT, HB⟩ := hrel
    rename_i vo _
    obtain ⟨wn, rfl⟩ : ∃ wn : World, wn = wr := ⟨_, rfl⟩
    have hwn : w.heap.size ≤ wn.heap.size := HB.out.size
    by_cases hlt : rows.length < many
    · have HI0 : Hid (InRel (size + 1) wn.heap.size (.slice (some ⟨wn.heap.size, 0, none⟩) 0 0) [] (wn.alloc (.cells #[] 70))) :=
        ⟨own_empty wn _ _ (Nat.le_refl _), fun g hg => absurd hg (by simp), List.Pairwise.nil, fun g hg => absurd hg (by simp)⟩
      have HBn : Hid (Bl wn (wn.alloc (.cells #[] 70))) := (Bl.refl wn).alloc _
      go_wp2_with fail
      go_loopw [7, 8] (fun v i wr => ∃ ls : List Nat, ls.length ≤ size + 1 ∧ i = .int .i64 ls.length ∧ Hid (InRel (size + 1) wn.heap.size v ls wr) ∧ Hid (Bl wn wr)) (fun _ i _ => size + 1 - (intOf i).toNat)
      case atStart => exact ⟨[], Nat.zero_le _, rfl, HI0.out, HBn.out⟩
      case round =>
        obtain ⟨ls, hls, rfl, HI, HBi⟩ := hrel
        have hwi : wn.heap.size ≤ wr.heap.size := HBi.out.size
        by_cases hlt2 : ls.length ≤ size
        · go_wp2_with (first
            | (refine wpList_make_full _ rfl (.tmp 23) (.tmp 23) 70 rfl wr.heap.size 4 i0 (.bool false) 1 Try.underlying70 hi hz0 hz1 .i64 .i64 ((size : Int) + 1) ((size : Int) + 1) (size + 1) rfl rfl (by omega) (by omega) (by rw [hz2]; omega) (by simp only [maxLen]; omega) (Nat.le_refl _) ?_; intro w3 hown3 hg3; rw [← bls_false] at hown3; have HO3 := Lib.hid hown3; have HG3 := Lib.hid hg3; have HR3 := Lib.hid (own_bl HI.out.row ((Bl.refl wr).grown hg3 (by simp))); have hw3 : wr.heap.size < w3.heap.size := (hown3.lt _ rfl).2; clear hown3 hg3)
            | (at_builtin; refine wpList_append_own _ rfl (.tmp 21) (.tmp 25) 71 rfl wn.heap.size 70 i1 (.slice none 0 0) 1 24 Try.underlying71 hi1 hy0 hy1 hy2 rfl (by decide) _ _ _ rfl (HR3.out.alloc _) ⟨w3.heap.size, 0, none⟩ 1 1 [.slice (some ⟨wr.heap.size, 0, none⟩) (size + 1) (size + 1)] rfl rfl (one_new' _ _ _) (by simp [Value.oneCell']) (by simp only [maxLen]; omega) (by omega) (by simp; omega) ?_; intro v2 w5 hown5 hg5 _; have HX := Lib.hid (HI.out.step hwi HBi.out (Nat.le_refl _) HO3.out HG3.out hown5 hg5); clear hown5 hg5))
          go_roundw
          case rel => exact ⟨ls ++ [wr.heap.size], by simp; omega, by simp; try omega, HX.out.1, HX.out.2⟩
          case measure => simp [intOf]; omega
        · have hlm : ls.length = size + 1 := by omega
          have hform := HI.out.row.form (by omega)
          obtain ⟨blk, cap, hv, _, hblk⟩ := hform
          subst hv
          rw [hlm] at HI ⊢
          have hTw := Lib.hid (own_bl HT.out.own HBi.out)
          go_wp2_with (at_builtin; refine wpList_append_own _ rfl (.tmp 27) (.tmp 29) 96 rfl w.heap.size 71 i2 (.slice none 0 0) 1 24 Try.underlying96 hi2 hx0 hx1 hx2 rfl (by decide) _ _ _ rfl (hTw.out.alloc _) ⟨wr.heap.size, 0, none⟩ 1 1 [.slice (some ⟨blk, 0, none⟩) (size + 1) cap] rfl rfl (one_new' _ _ _) (by simp [Value.oneCell']) (by simp only [maxLen]; omega) (by omega) (by simp; omega) ?_; intro v6 w6 hown6 hg6 _; have HX := Lib.hid (HT.out.more hwn HBi.out HI.out hlm (Nat.le_refl _) hown6 hg6); have HY : Hid (Bl w w6) := ((HB.out.trans HBi.out).alloc _).grown hg6 (fun k hk => (hTw.out.lt k hk).1); clear hown6 hg6)
          go_roundw
          case rel => exact ⟨rows ++ [RowD.mk blk cap wn.heap.size wr.heap.size ls], by simp; omega, by simp; try omega, HX.out, HY.out⟩
          case measure => simp [intOf]; omega
    · have hlm : rows.length = many := by omega
      obtain ⟨A, c, hv, _⟩ := own_form HT.out.own
      subst hv
      rw [hlm] at HT ⊢
      go_wp2_with fail
      go_ret
      exact ⟨A, c, rows, rfl, hlm, HT.out, HB.out⟩
end Go.Proofs.Ytdfhhbncmdpoeaa
/- The reference's token (layer 8): which part of a word is just one token. -/
namespace Go.Proofs.Ytdfhhbncmdpoeaa
open Go.RowKit

def tok (xs : List Int) (t : Int) (a b : Nat) : Bool := decide (xs[a]? = some t ∧ b = a + 1)
def tokTo (xs : List Int) (t : Int) (k : Nat) : Nat → Nat → Nat → Bool := fun n a b => decide (n = 0 ∧ a < k) && tok xs t a b
theorem tokTo_zero (xs : List Int) (t : Int) : tokTo xs t 0 = fun _ _ _ => false := by
  funext n a b
  unfold tokTo
  rw [decide_eq_false (by omega)]
  rfl
theorem tokTo_end (xs : List Int) (t : Int) : tokTo xs t xs.length 0 = tok xs t := by
  funext a b
  unfold tokTo
  rcases Nat.lt_or_ge a xs.length with h | h
  · rw [decide_eq_true ⟨rfl, h⟩]; rfl
  · rw [decide_eq_false (by omega), Bool.false_and]
    unfold tok
    rw [List.getElem?_eq_none h]
    simp
theorem tokTo_succ {xs : List Int} {t : Int} {k : Nat} (h : k < xs.length) {x : Bool} (hx : x = decide (xs[k] = t)) : updT (tokTo xs t k) 0 k (k + 1) x = tokTo xs t (k + 1) := by
  funext n a b
  unfold updT
  split
  · rename_i e
    obtain ⟨rfl, rfl⟩ := e
    unfold upd tokTo tok
    rw [List.getElem?_eq_getElem h, hx]
    split
    · rename_i e; subst e; simp
    · rename_i e
      rw [decide_eq_false (by omega : ¬ (0 = 0 ∧ a < a)), Bool.false_and, decide_eq_false (p := some xs[a] = some t ∧ b = a + 1) (fun e2 => e e2.2), Bool.and_false]
  · rename_i e
    unfold tokTo
    congr 1
    apply decide_eq_decide.2
    omega

set_option maxRecDepth 100000 in
set_option maxHeartbeats 2000000 in
theorem token_any (A : Option Addr) (len c : Nat) (xs : List Int) (t : Int) (w : World) (B : Nat) (hlen : len = xs.length) (hmax : len ≤ 1000) (hr : Rd w B A (ins xs)) (hB : B ≤ w.heap.size) :
    Calls Try.prog 52 #[.slice A len c, .int .i64 t] w fun e w' => ∃ A' c', e = .returned (.slice A' (len + 1) c') ∧ Row2 w' (fun b => w.heap.size ≤ b ∧ b < w'.heap.size) (.slice A' (len + 1) c') (len + 1) (tok xs t) ∧ Bl w w' := by
  have HL := Lib.hid hlen; clear hlen
  have HR := Lib.hid hr; clear hr
  go_enter Try.func52, Try.ntmps52
  go_wp2_with fail
  refine (none_any 1 len w (by omega) hmax).mono ?_
  rintro e w1 ⟨A1, c1, rows, rfl, hrl, ht, hb1⟩
  obtain ⟨r, rfl⟩ := List.length_eq_one_iff.1 hrl
  have HT1 := Lib.hid ht; clear ht
  have HB1 := Lib.hid hb1; clear hb1
  obtain ⟨bo, co, g, hv, hbo, hcell, _⟩ := HT1.out.read (n := 0) (a := 0) (b := 0) (by simp) (by omega) (by omega)
  injection hv with hv1 hv2 hv3
  subst hv1 hv3
  simp only [List.getElem_cons_zero] at hcell
  clear hrl hv2
  go_wp2_with fail
  have HT2 := HT1.out
  rw [← tokTo_zero xs t] at HT2
  have HT3 := Lib.hid HT2; clear HT2 HT1
  clear hcell hbo
  go_loopw [6] (fun i wr => ∃ k : Nat, k ≤ len ∧ i = .int .i64 k ∧ Hid (Tab w.heap.size (len + 1) (.slice (some ⟨bo, 0, none⟩) 1 c1) [r] (tokTo xs t k) wr) ∧ Hid (Bl w wr)) (fun i _ => len - (intOf i).toNat)
  case atStart => exact ⟨0, Nat.zero_le _, rfl, HT3.out, HB1.out⟩
  case round =>
    obtain ⟨k, hk, rfl, HTk, HBk⟩ := hrel
    by_cases hlt : k < len
    · have hj : k < xs.length := by have := HL.out; omega
      have hszw : w.heap.size ≤ wr.heap.size := HBk.out.size
      obtain ⟨b, off, rfl, hb, hx⟩ := (HR.out.bl hB HBk.out).int hj
      obtain ⟨_, _, g, hv, _, _, hrl, hc1, hgl, hc2, hfz, hlow, _, hput⟩ := HTk.out.read (n := 0) (a := k) (b := k + 1) (by simp) (by omega) (by omega)
      have HPut := Lib.hid (fun x hx => (tokTo_succ (t := t) hj (x := x) hx) ▸ hput x)
      simp only [List.getElem_cons_zero] at hrl hc1
      have hbw : b < wr.heap.size := by omega
      have hk0 : (0 : Int) ≤ (k : Int) := by omega
      have hk1 : (k : Int) < (len : Int) := by omega
      have hk2 : (k : Int) < ((len + 1 : Nat) : Int) := by omega
      have hk3 : (k : Int) + 1 < ((len + 1 : Nat) : Int) := by omega
      have hwr : IntKind.i64.wrap ((k : Int) + 1) = (k : Int) + 1 := by simp [IntKind.wrap, IntKind.bits, IntKind.signed]; omega
      clear hput hv
      generalize xs[k] = x at *
      generalize tokTo xs t k 0 k (k + 1) = old at *
      clear hj
      go_wp2_with fail
      go_region
      go_wp2_with fail
      go_roundw
      case rel => exact ⟨k + 1, by omega, by go_num, (HPut.out (x == t) (by first | rfl | simp)).bl_ (Bl.refl _).drew, (Bl.fr HBk.out ((Fr.refl (fun k => k = g) wr).own _ _) (fun i hi e => by omega)).drew⟩
      case measure => simp [intOf]; omega
    · have hkl : k = xs.length := by have := HL.out; omega
      have hx := HTk.out.row2 (n := 0) (by simp)
      rw [hkl, tokTo_end] at hx
      have HX := Lib.hid hx; clear hx
      go_wp2_with fail
      go_ret
      exact ⟨_, _, rfl, HX.out, HBk.out⟩
end Go.Proofs.Ytdfhhbncmdpoeaa
