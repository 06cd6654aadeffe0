/- Items with their places, nonterminals that are next, and what ended, as keys; maps of truths, and of slices, whose keys are known. -/
import Derived.Test.YtdfhhbncmdpoeaaItemA
import Derived.Maps.RangeWalk
import Derived.Sort.MapsRangeIn
import Derived.RangeFuncSeq
import Derived.WideKeyEntry
namespace Go.Proofs.Ytdfhhbncmdpoeaa
open Go.RowKit
open Go.Maps (Keyed)
open Go.ChangeMaps Go.MapKept

/-! ### The keys -/
abbrev St4 := Nat × Ch.Im
def stc (s : St4) : List Value := [.int .i64 (s.1 : Int), .int .i64 (s.2.prod : Int), .int .i64 (s.2.dot : Int), .int .i64 (s.2.frm : Int)]
def stv (s : St4) : Value := .agg #[.int .i64 (s.1 : Int), .int .i64 (s.2.prod : Int), .int .i64 (s.2.dot : Int), .int .i64 (s.2.frm : Int)]
def stKey (s : St4) : Lit := .string (keyBytes [.int .i64 (s.1 : Int), .int .i64 (s.2.prod : Int), .int .i64 (s.2.dot : Int), .int .i64 (s.2.frm : Int)])
def stOk (s : St4) : Prop := s.1 < 1000000 ∧ imOk s.2
def wtv (x : Int × Nat) : Value := .agg #[.int .i64 x.1, .int .i64 (x.2 : Int)]
def wtKey (x : Int × Nat) : Lit := .string (keyBytes [.int .i64 x.1, .int .i64 (x.2 : Int)])
def wtOk (x : Int × Nat) : Prop := 0 ≤ x.1 ∧ x.1 < 1000000 ∧ x.2 < 1000000
def ndv (x : Int × Nat × Nat) : Value := .agg #[.int .i64 x.1, .int .i64 (x.2.1 : Int), .int .i64 (x.2.2 : Int)]
def ndKey (x : Int × Nat × Nat) : Lit := .string (keyBytes [.int .i64 x.1, .int .i64 (x.2.1 : Int), .int .i64 (x.2.2 : Int)])
def ndOk (x : Int × Nat × Nat) : Prop := 0 ≤ x.1 ∧ x.1 < 1000000 ∧ x.2.1 < 1000000 ∧ x.2.2 < 1000000
set_option maxRecDepth 100000 in
theorem st_row : (82 : TypeId) < Try.prog.types.size := of_decide_eq_true (by kernel_rfl)
set_option maxRecDepth 100000 in
theorem st_wide : (match Try.prog.underlying 82 with | some (.array _ _) | some (.struct _) => true | _ => false) = true := by rw [Try.underlying82]
set_option maxRecDepth 100000 in
theorem st_law : Keyed Try.prog 82 := Keyed.of_law (deep_law_laid ch_laid (m := 3) (by omega) st_row (by kernel_rfl) st_wide)
set_option maxRecDepth 100000 in
theorem st_cells : Try.prog.cellsOf 82 = 4 := by kernel_rfl
set_option maxRecDepth 100000 in
theorem st_keyType : Try.prog.keyType 82 = true := by kernel_rfl
set_option maxRecDepth 100000 in
theorem wt_row : (104 : TypeId) < Try.prog.types.size := of_decide_eq_true (by kernel_rfl)
set_option maxRecDepth 100000 in
theorem wt_wide : (match Try.prog.underlying 104 with | some (.array _ _) | some (.struct _) => true | _ => false) = true := by rw [Try.underlying104]
set_option maxRecDepth 100000 in
theorem wt_law : WideMaps.KeyLaw Try.prog 104 := deep_law_laid ch_laid (m := 2) (by omega) wt_row (by kernel_rfl) wt_wide
set_option maxRecDepth 100000 in
theorem wt_cells : Try.prog.cellsOf 104 = 2 := by kernel_rfl
set_option maxRecDepth 100000 in
theorem wt_keyType : Try.prog.keyType 104 = true := by kernel_rfl
set_option maxRecDepth 100000 in
theorem nd_row : (102 : TypeId) < Try.prog.types.size := of_decide_eq_true (by kernel_rfl)
set_option maxRecDepth 100000 in
theorem nd_wide : (match Try.prog.underlying 102 with | some (.array _ _) | some (.struct _) => true | _ => false) = true := by rw [Try.underlying102]
set_option maxRecDepth 100000 in
theorem nd_law : Keyed Try.prog 102 := Keyed.of_law (deep_law_laid ch_laid (m := 2) (by omega) nd_row (by kernel_rfl) nd_wide)
set_option maxRecDepth 100000 in
theorem nd_cells : Try.prog.cellsOf 102 = 3 := by kernel_rfl
set_option maxRecDepth 100000 in
theorem nd_keyType : Try.prog.keyType 102 = true := by kernel_rfl
theorem types_two : ∃ m, Try.prog.types.size = m + 2 := ⟨Try.prog.types.size - 2, by
  have : 2 ≤ Try.prog.types.size := of_decide_eq_true (by kernel_rfl)
  omega⟩
set_option maxRecDepth 100000 in
theorem key_st {x : St4} (h : stOk x) : keyOf Try.prog 82 (stv x) = some (stKey x) := by
  obtain ⟨m, hm⟩ := types_two
  have w0 := wf_ch (n := (x.1 : Int)) (by omega) (by have := h.1; omega)
  have w1 := wf_ch (n := (x.2.prod : Int)) (by omega) (by have := h.2.1; omega)
  have w2 := wf_ch (n := (x.2.dot : Int)) (by omega) (by have := h.2.2.1; omega)
  have w3 := wf_ch (n := (x.2.frm : Int)) (by omega) (by have := h.2.2.2; omega)
  unfold keyOf stv
  simp only [Try.underlying82]
  rw [if_pos (by simp [st_keyType, Value.formed, Try.underlying82, st_cells]), hm]
  unfold Program.keyLits
  simp only [Try.underlying82, Value.cells]
  simp [st_cells, im_cells, im_int, Program.keyLits, Try.underlying3, Try.underlying42, w0, w1, w2, w3, stKey]
  rw [if_pos (fun i hi => by
    match i, hi with
    | 0, _ => (show ¬ (("Prod" : String) = "_"); decide)
    | 1, _ => (show ¬ (("Dot" : String) = "_"); decide)
    | 2, _ => (show ¬ (("From" : String) = "_"); decide))]
  rfl
set_option maxRecDepth 100000 in
theorem key_wt {x : Int × Nat} (h : wtOk x) : keyOf Try.prog 104 (wtv x) = some (wtKey x) := by
  obtain ⟨m, hm⟩ := types_two
  have w1 := wf_ch h.1 h.2.1
  have w2 := wf_ch (n := (x.2 : Int)) (by omega) (by have := h.2.2; omega)
  unfold keyOf wtv
  simp only [Try.underlying104]
  rw [if_pos (by simp [wt_keyType, Value.formed, Try.underlying104, wt_cells]), hm]
  unfold Program.keyLits
  simp only [Try.underlying104, Value.cells]
  simp [wt_cells, im_int, Program.keyLits, Try.underlying3, w1, w2, wtKey]
set_option maxRecDepth 100000 in
theorem key_nd {x : Int × Nat × Nat} (h : ndOk x) : keyOf Try.prog 102 (ndv x) = some (ndKey x) := by
  obtain ⟨m, hm⟩ := types_two
  have w1 := wf_ch h.1 h.2.1
  have w2 := wf_ch (n := (x.2.1 : Int)) (by omega) (by have := h.2.2.1; omega)
  have w3 := wf_ch (n := (x.2.2 : Int)) (by omega) (by have := h.2.2.2; omega)
  unfold keyOf ndv
  simp only [Try.underlying102]
  rw [if_pos (by simp [nd_keyType, Value.formed, Try.underlying102, nd_cells]), hm]
  unfold Program.keyLits
  simp only [Try.underlying102, Value.cells]
  simp [nd_cells, im_int, Program.keyLits, Try.underlying3, w1, w2, w3, ndKey]
theorem stv_inj {x y : St4} (h : stv x = stv y) : x = y := by
  obtain ⟨x0, x1, x2, x3⟩ := x
  obtain ⟨y0, y1, y2, y3⟩ := y
  simp [stv] at h
  obtain ⟨h0, h1, h2, h3⟩ := h
  rw [show x0 = y0 by omega, show x1 = y1 by omega, show x2 = y2 by omega, show x3 = y3 by omega]
theorem wtv_inj {x y : Int × Nat} (h : wtv x = wtv y) : x = y := by
  obtain ⟨x0, x1⟩ := x
  obtain ⟨y0, y1⟩ := y
  simp [wtv] at h
  rw [h.1, show x1 = y1 by omega]
theorem ndv_inj {x y : Int × Nat × Nat} (h : ndv x = ndv y) : x = y := by
  obtain ⟨x0, x1, x2⟩ := x
  obtain ⟨y0, y1, y2⟩ := y
  simp [ndv] at h
  rw [h.1, show x1 = y1 by omega, show x2 = y2 by omega]
theorem stKey_inj {x y : St4} (hx : stOk x) (hy : stOk y) (h : stKey x = stKey y) : x = y := stv_inj (st_law.inj (key_st hx) (by rw [h]; exact key_st hy))
theorem wtKey_inj {x y : Int × Nat} (hx : wtOk x) (hy : wtOk y) (h : wtKey x = wtKey y) : x = y := wtv_inj (wt_law.inj (key_wt hx) (by rw [h]; exact key_wt hy))
theorem ndKey_inj {x y : Int × Nat × Nat} (hx : ndOk x) (hy : ndOk y) (h : ndKey x = ndKey y) : x = y := ndv_inj (nd_law.inj (key_nd hx) (by rw [h]; exact key_nd hy))

/-! ### A map of truths -/
/-- The map at block b reads as D, whose keys are just these. -/
structure KeysB {α : Type} [DecidableEq α] (kl : α → Lit) (ok : α → Prop) (l : List α) (D : DataW Unit) : Prop where
  at_ : ∀ x, ok x → D.atKey (kl x) (.lit (.bool false)) = .lit (.bool (decide (x ∈ l)))
  has : ∀ k, Maps.has D k = true → ∃ x, x ∈ l ∧ ok x ∧ k = kl x
def MapH {α : Type} [DecidableEq α] (kt : TypeId) (kl : α → Lit) (ok : α → Prop) (w : World) (b : Nat) (l : List α) : Prop :=
  ∃ (D : DataW Unit) (n : Nat), w.ownsMap Try.prog kt (plainElem Try.prog 4) b n D ∧ n ≤ l.length ∧ KeysB kl ok l D
section
variable {α : Type} [DecidableEq α] {kt : TypeId} {kl : α → Lit} {ok : α → Prop} {w w' : World} {b : Nat} {l : List α}
theorem KeysB.mem {D : DataW Unit} (h : KeysB kl ok l D) {x : α} (hx : ok x) (hm : x ∈ l) : Maps.has D (kl x) = true := by
  cases e : Maps.has D (kl x) with
  | true => rfl
  | false =>
    have h1 := h.at_ x hx
    rw [Maps.atKey_of_not_has e, decide_eq_true hm] at h1
    cases h1
theorem MapH.toS (h : MapH kt kl ok w b l) : MapS kt kl ok w b l := by obtain ⟨D, n, h1, h2, h3⟩ := h; exact ⟨D, n, h1, h2, h3.at_⟩
theorem MapH.lt (h : MapH kt kl ok w b l) : b < w.heap.size := h.toS.lt
theorem MapH.of_block (h : MapH kt kl ok w b l) (e : w'.heap[b]? = w.heap[b]?) : MapH kt kl ok w' b l := by
  obtain ⟨D, n, ⟨es, clock, h1, h2⟩, h3⟩ := h
  exact ⟨D, n, ⟨es, clock, e.trans h1, h2⟩, h3⟩
theorem MapH.new (w : World) : MapH kt kl ok (w.alloc (.map #[] 0)) w.heap.size [] := ⟨.map [], 0, World.ownsMap_made _ _ _ _, Nat.le_refl _, fun _ _ => rfl, fun k h => by simp [Maps.has] at h⟩
set_option maxRecDepth 100000 in
theorem MapH.store {t : TypeId} (h : MapH kt kl ok w b l) (K : Keyed Try.prog kt) (ht : Try.prog.underlying t = some (.map kt 4)) (hl : l.length < maxLen) {x : α} (hx : ok x) {v : Value} (hk : keyOf Try.prog kt v = some (kl x))
    (hi : ∀ y, ok y → kl y = kl x → y = x) (hlit : WideAt.IsKeyLit (kl x)) :
    ∃ w', (Instr.mapUpdate t (.map (some b)) v (.bool true)).run Try.prog w = .ok () w' ∧ MapH kt kl ok w' b (l ++ [x]) ∧ w.grownBy w' (some b) := by
  obtain ⟨D, n, h1, h2, h3⟩ := h
  obtain ⟨w', hrun, r1, r2⟩ := h1.update K ht (by omega) hk (plainElem_bool Try.underlying4 true)
  refine ⟨w', hrun, ⟨_, _, r1, by rw [List.length_append]; show _ ≤ _ + 1; omega, fun y hy => ?_, fun k hk => ?_⟩, r2⟩
  · by_cases e : y = x
    · subst e
      rw [Maps.atKey_put_same h1.isMap hlit]
      simp
    · rw [Maps.atKey_put_other (fun e2 => e (hi y hy e2)), h3.at_ y hy]
      simp [e]
  · by_cases e : k = kl x
    · exact ⟨x, by simp, hx, e⟩
    · rw [Maps.has_put_other e] at hk
      obtain ⟨y, hy, ho, e2⟩ := h3.has k hk
      exact ⟨y, by simp [hy], ho, e2⟩
end

/-! ### A map of slices -/
/-- A value reads as itself. -/
def heldR (v : Value) : Option (DataW Value × List MemPlace) := some (.held v, [])
theorem heldR_inv {v : Value} {z : DataW Value × List MemPlace} (h : heldR v = some z) : z = (.held v, []) := by injection h with h; exact h.symm
def nilS : Value := .slice none 0 0
structure KeysV {α : Type} (kl : α → Lit) (ok : α → Prop) (V : α → Value) (D : DataW Value) : Prop where
  at_ : ∀ x, ok x → D.atKey (kl x) (.held nilS) = .held (V x)
  has : ∀ k, Maps.has D k = true → ∃ x, ok x ∧ k = kl x ∧ V x ≠ nilS
def MapV {α : Type} (kt : TypeId) (kl : α → Lit) (ok : α → Prop) (w : World) (b n : Nat) (V : α → Value) : Prop :=
  ∃ D : DataW Value, w.ownsMap Try.prog kt heldR b n D ∧ KeysV kl ok V D
section
variable {α : Type} {kt : TypeId} {kl : α → Lit} {ok : α → Prop} {w w' : World} {b n : Nat} {V : α → Value}
theorem KeysV.mem {D : DataW Value} (h : KeysV kl ok V D) {x : α} (hx : ok x) (hm : V x ≠ nilS) : Maps.has D (kl x) = true := by
  cases e : Maps.has D (kl x) with
  | true => rfl
  | false =>
    have h1 := h.at_ x hx
    rw [Maps.atKey_of_not_has e] at h1
    injection h1 with h1
    exact absurd h1.symm hm
theorem MapV.lt (h : MapV kt kl ok w b n V) : b < w.heap.size := by obtain ⟨D, h1, _⟩ := h; exact h1.lt
theorem MapV.of_block (h : MapV kt kl ok w b n V) (e : w'.heap[b]? = w.heap[b]?) : MapV kt kl ok w' b n V := by
  obtain ⟨D, ⟨es, clock, h1, h2⟩, h3⟩ := h
  exact ⟨D, ⟨es, clock, e.trans h1, h2⟩, h3⟩
theorem MapV.new (w : World) : MapV kt kl ok (w.alloc (.map #[] 0)) w.heap.size 0 (fun _ => nilS) := ⟨.map [], World.ownsMap_made _ _ _ _, fun _ _ => rfl, fun k h => by simp [Maps.has] at h⟩
theorem MapV.more (h : MapV kt kl ok w b n V) {m : Nat} (hm : n ≤ m) : MapV kt kl ok w b m V := by obtain ⟨D, h1, h2⟩ := h; exact ⟨D, h1.mono hm, h2⟩
set_option maxRecDepth 100000 in
theorem MapV.look {t e : TypeId} (h : MapV kt kl ok w b n V) (K : Keyed Try.prog kt) (ht : Try.prog.underlying t = some (.map kt e)) (hz : (zeroValue e).run Try.prog w = .ok nilS w) {x : α} (hx : ok x) {v : Value} (hk : keyOf Try.prog kt v = some (kl x)) :
    (Instr.lookup t (.map (some b)) v false).run Try.prog w = .ok (V x) w := by
  obtain ⟨D, h1, h3⟩ := h
  obtain ⟨z, ps, hrun, hz⟩ := h1.lookup K ht hz (zd := .held nilS) (zp := []) rfl hk
  have := heldR_inv hz
  injection this with this _
  rw [h3.at_ x hx] at this
  injection this with this
  rw [hrun, this]
set_option maxRecDepth 100000 in
/-- An entry is taken, and stored behind what is done to the world but in this block. -/
theorem MapV.entry {t e : TypeId} (h : MapV kt kl ok w b n V) (K : WideMaps.KeyLaw Try.prog kt) (ht : Try.prog.underlying t = some (.map kt e)) (hz : ∀ u : World, (zeroValue e).run Try.prog u = .ok nilS u) (hn : n < maxLen) {x : α} (hx : ok x) {v : Value} (hk : keyOf Try.prog kt v = some (kl x))
    (hi : ∀ y, ok y → kl y = kl x → y = x) (hlit : WideAt.IsKeyLit (kl x)) [DecidableEq α] :
    ∃ (st : Nat) (w1 : World), (Instr.mapEntry t (.map (some b)) v).run Try.prog w = .ok (.tuple #[V x, goInt st]) w1 ∧ w.grownBy w1 (some b) ∧
      ∀ (w2 : World) (u : Value), u ≠ nilS → w2.heap[b]? = w1.heap[b]? → ∃ w3, (Instr.entryStore t (.map (some b)) (goInt st) u).run Try.prog w2 = .ok () w3 ∧ w2.grownBy w3 (some b) ∧ MapV kt kl ok w3 b (n + 1) (fun y => if y = x then u else V y) := by
  obtain ⟨D, ⟨es, clock, hb, F, hs, hD⟩, h3⟩ := h
  obtain ⟨v0, st, es1, clock1, hrun, hv0, hst⟩ := WideElems.entry_then_store (R := heldR) K ht hz hb F hk
  have hown : w.ownsMap Try.prog kt heldR b n D := ⟨es, clock, hb, F, hs, hD⟩
  have hlook : v0 = V x := by
    have hst := (stamped_iff es clock).1 F.stamped
    rcases Maps.fit_look false (Keyed.of_law K) ht (hz w) hb F hk with ⟨_, hno, hat⟩ | ⟨e0, y, he0, hk0, _, hRv, hat, _⟩
    · rcases hv0 with ⟨e1, h1, h2, _⟩ | ⟨_, h2⟩
      · exact absurd h2 (hno e1 h1)
      · have h4 := h3.at_ x hx
        rw [hD, hat] at h4
        injection h4 with h4
        rw [h2, h4]
    · rcases hv0 with ⟨e1, h1, h2, h5⟩ | ⟨hno, _⟩
      · have e := entry_eq_of_key hst.2.2 h1 he0 (h2.trans hk0.symm)
        subst e
        have h4 := h3.at_ x hx
        rw [hD, hat] at h4
        have := heldR_inv hRv
        rw [this] at h4
        injection h4 with h4
        rw [h5, h4]
      · exact absurd hk0 (hno e0 he0)
  subst hlook
  refine ⟨st, _, hrun, ⟨rfl, rfl, rfl, by simp [ChangeMaps.setBlock], fun i _ hi => heap_setBlock_other hb _ (fun e => hi (by rw [e]))⟩, fun w2 u hu hw2 => ?_⟩
  rw [heap_setBlock_same hb] at hw2
  obtain ⟨es', clock', h5, h6⟩ := hst w2 u hw2
  obtain ⟨w9, hr9, ho9, _⟩ := hown.update (Keyed.of_law K) ht hn hk (val := u) (d := .held u) (ps := []) rfl
  rw [h6] at hr9
  injection hr9 with _ hr9
  subst hr9
  refine ⟨_, h5, ⟨rfl, rfl, rfl, by simp [ChangeMaps.setBlock], fun i _ hi => heap_setBlock_other hw2 _ (fun e => hi (by rw [e]))⟩, ?_⟩
  have hIsM := hown.isMap
  obtain ⟨es9, c9, hb9, r9⟩ := ho9
  rw [heap_setBlock_same hb] at hb9
  refine ⟨_, ⟨es9, c9, (heap_setBlock_same hw2 _).trans hb9, r9⟩, fun y hy => ?_, fun k hk9 => ?_⟩
  · by_cases e : y = x
    · subst e
      rw [Maps.atKey_put_same hIsM hlit, if_pos rfl]
    · rw [Maps.atKey_put_other (fun e2 => e (hi y hy e2)), if_neg e, h3.at_ y hy]
  · by_cases e : k = kl x
    · exact ⟨x, hx, e, by rw [if_pos rfl]; exact hu⟩
    · rw [Maps.has_put_other e] at hk9
      obtain ⟨y, hy, e2, hv⟩ := h3.has k hk9
      refine ⟨y, hy, e2, ?_⟩
      rw [if_neg (fun e3 => e (by rw [e2, e3]))]
      exact hv
end
end Go.Proofs.Ytdfhhbncmdpoeaa
