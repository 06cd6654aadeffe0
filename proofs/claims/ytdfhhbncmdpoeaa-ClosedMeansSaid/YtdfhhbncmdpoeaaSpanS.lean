/- How a table grows, turn by turn, until it says all that comes (plain facts; how a table is told from memory). -/
import Derived.Test.YtdfhhbncmdpoeaaTabS
import Derived.Test.YtdfhhbncmdpoeaaPlainS
import Derived.Test.YtdfhhbncmdpoeaaBaseS
import Derived.Deep.AppendLies
namespace Go.Proofs.Ytdfhhbncmdpoeaa
open Go.RowKit
open Cf (Tb Ch Sound Closed sym)

theorem updT_at (T : Tb) (n a b : Nat) : updT T n a b true n a b = true := by unfold updT upd; rw [if_pos ⟨rfl, rfl⟩, if_pos rfl]
theorem updT_mono {T : Tb} {n a b n' a' b' : Nat} (h : T n' a' b' = true) : updT T n a b true n' a' b' = true := by
  unfold updT
  split
  · rename_i e
    obtain ⟨rfl, rfl⟩ := e
    unfold upd
    split
    · rfl
    · exact h
  · exact h
theorem updT_inv {T : Tb} {n a b n' a' b' : Nat} (h : updT T n a b true n' a' b' = true) : (n' = n ∧ a' = a ∧ b' = b) ∨ T n' a' b' = true := by
  unfold updT at h
  split at h
  · rename_i e
    obtain ⟨rfl, rfl⟩ := e
    unfold upd at h
    split at h
    · rename_i e2; exact .inl ⟨rfl, rfl, e2⟩
    · exact .inr h
  · exact .inr h

/-- A turn: where it began, where it stands; whether anything was put in. -/
structure Sweep (g : Gr.Gm) (w : List Int) (T0 T : Tb) (flag : Bool) : Prop where
  sound : Sound g w T
  grow : ∀ n a b, T0 n a b = true → T n a b = true
  same : flag = false → T = T0
  more : flag = true → ∃ n a b, n < g.nons.toNat ∧ a < w.length + 1 ∧ b < w.length + 1 ∧ T0 n a b = false ∧ T n a b = true
def ClosedTo (g : Gr.Gm) (w : List Int) (T : Tb) (i : Nat) : Prop := ∀ j, j < i → ∀ p, g.prods[j]? = some p → ∀ a b, a ≤ w.length → Ch T w p.right a b → T p.left.toNat a b = true
def PlaceTo (w : List Int) (T : Tb) (p : Gr.Pr) (k : Nat) : Prop := ∀ a, a < k → ∀ b, a ≤ w.length → Ch T w p.right a b → T p.left.toNat a b = true
def EndTo (w : List Int) (T : Tb) (p : Gr.Pr) (a k : Nat) : Prop := ∀ b, b < k → Ch T w p.right a b → T p.left.toNat a b = true
section
variable {g : Gr.Gm} {w : List Int} {T0 T Ta : Tb} {flag : Bool} {p : Gr.Pr}
theorem Sweep.start (h : Sound g w T) : Sweep g w T T false := ⟨h, fun _ _ _ h => h, fun _ => rfl, fun h => by cases h⟩
theorem closedTo_zero : ClosedTo g w T 0 := fun j hj => absurd hj (by omega)
theorem closedTo_all (h : ClosedTo g w T g.prods.length) : Closed g w T := fun p hp a b ha hc => by
  obtain ⟨j, hj, rfl⟩ := List.getElem_of_mem hp
  exact h j hj _ (List.getElem?_eq_getElem hj) a b ha hc
theorem closedTo_succ {i : Nat} (h : ClosedTo g w T i) (hi : g.prods[i]? = some p) (hp : PlaceTo w T p (w.length + 1)) : ClosedTo g w T (i + 1) := fun j hj q hq a b ha hc => by
  by_cases e : j = i
  · subst e
    rw [hi] at hq
    injection hq with hq
    subst hq
    exact hp a (by omega) b ha hc
  · exact h j (by omega) q hq a b ha hc
theorem placeTo_zero : PlaceTo w T p 0 := fun a ha => absurd ha (by omega)
theorem placeTo_succ {k : Nat} (h : PlaceTo w T p k) (he : EndTo w T p k (w.length + 1)) : PlaceTo w T p (k + 1) := fun a ha b hal hc => by
  by_cases e : a = k
  · subst e
    exact he b (by have := hc.le_len hal; omega) hc
  · exact h a (by omega) b hal hc
theorem endTo_start (a : Nat) : EndTo w T p a a := fun b hb hc => by have := hc.le; omega
theorem endTo_succ {a k : Nat} (h : EndTo w T p a k) (hk : Ch T w p.right a k → T p.left.toNat a k = true) : EndTo w T p a (k + 1) := fun b hb hc => by
  by_cases e : b = k
  · subst e; exact hk hc
  · exact h b (by omega) hc
/-- What a production means is put in. -/
theorem Sweep.put (h : Sweep g w T0 T flag) (hp : p ∈ g.prods) (h0 : 0 ≤ p.left) (hl : p.left < g.nons) (hr : Cf.Pos p.right) {a b : Nat} (ha : a ≤ w.length) (hc : Ch T w p.right a b) (hn : T p.left.toNat a b = false) :
    Sweep g w T0 (updT T p.left.toNat a b true) true := by
  have hs := Cf.sound_put h.sound hp h0 hr ha hc
  refine ⟨fun n a' b' ht => ?_, fun n a' b' ht => updT_mono (h.grow n a' b' ht), fun e => by (cases e), fun _ => ⟨p.left.toNat, a, b, by omega, by omega, by omega, ?_, updT_at ..⟩⟩
  · rcases updT_inv ht with ⟨rfl, rfl, rfl⟩ | ht
    · exact hs
    · exact h.sound n a' b' ht
  · cases e : T0 p.left.toNat a b with
    | false => rfl
    | true => have := h.grow _ _ _ e; rw [hn] at this; cases this
end

/-- The places of a table, one behind the other. -/
def enc (m : Nat) (T : Tb) (k : Nat) : Bool := T (k / m / m) (k / m % m) (k % m)
theorem enc_at (m : Nat) (T : Tb) {n a b : Nat} (ha : a < m) (hb : b < m) : enc m T (m * (m * n + a) + b) = T n a b := by
  unfold enc
  have hm : 0 < m := by omega
  rw [Nat.mul_add_div hm, Nat.mul_add_mod, Nat.mod_eq_of_lt hb, Nat.div_eq_of_lt hb, Nat.add_zero, Nat.mul_add_div hm, Nat.mul_add_mod, Nat.mod_eq_of_lt ha, Nat.div_eq_of_lt ha, Nat.add_zero]
theorem enc_lt {m N n a b : Nat} (hn : n < N) (ha : a < m) (hb : b < m) : m * (m * n + a) + b < m * (m * N) := by
  have h1 : m * n + a + 1 ≤ m * N := by
    have : m * (n + 1) ≤ m * N := Nat.mul_le_mul_left m hn
    rw [Nat.mul_add, Nat.mul_one] at this
    omega
  have h2 : m * (m * n + a + 1) ≤ m * (m * N) := Nat.mul_le_mul_left m h1
  rw [Nat.mul_add, Nat.mul_one] at h2
  omega
/-- How many places a table fills. -/
def full (m N : Nat) (T : Tb) : Nat := Rk.cnt (m * (m * N)) (enc m T)
theorem full_le (m N : Nat) (T : Tb) : full m N T ≤ m * (m * N) := Rk.cnt_le _ _
theorem full_mono {m N : Nat} {T U : Tb} (h : ∀ n a b, T n a b = true → U n a b = true) : full m N T ≤ full m N U := Rk.cnt_mono _ fun _ _ hk => h _ _ _ hk
theorem full_lt {m N : Nat} {T U : Tb} (h : ∀ n a b, T n a b = true → U n a b = true) {n a b : Nat} (hn : n < N) (ha : a < m) (hb : b < m) (h0 : T n a b = false) (h1 : U n a b = true) : full m N T < full m N U :=
  Rk.cnt_lt _ (fun _ _ hk => h _ _ _ hk) _ (enc_lt hn ha hb) (by rw [enc_at m T ha hb]; exact h0) (by rw [enc_at m U ha hb]; exact h1)
theorem full_congr {m N : Nat} (hm : 0 < m) {T U : Tb} (h : ∀ n a b, n < N → a < m → b < m → T n a b = U n a b) : full m N T = full m N U := by
  have key : ∀ k, k < m * (m * N) → enc m T k = enc m U k := fun k hk => by
    unfold enc
    apply h
    · exact Nat.div_lt_of_lt_mul (Nat.div_lt_of_lt_mul hk)
    · exact Nat.mod_lt _ hm
    · exact Nat.mod_lt _ hm
  apply Nat.le_antisymm
  · exact Rk.cnt_mono _ fun k hk e => by rw [← key k hk]; exact e
  · exact Rk.cnt_mono _ fun k hk e => by rw [key k hk]; exact e
/-- The table as memory tells it. -/
def TW (rows : List RowD) (w : World) : Tb := fun n a b => match rows[n]? with
  | none => false
  | some r => match r.leaf[a]? with
    | none => false
    | some g => match w.cell? ⟨g, b, none⟩ with
      | some (.bool x) => x
      | _ => false
theorem Tab.tw {B0 m : Nat} {v : Value} {rows : List RowD} {T : Tb} {w : World} (h : Tab B0 m v rows T w) {n a b : Nat} (hn : n < rows.length) (ha : a < m) (hb : b < m) : TW rows w n a b = T n a b := by
  have h1 := h.one n hn
  have ha' : a < rows[n].leaf.length := by rw [h1.len_]; exact ha
  have hl := h1.leaf a ha'
  have hc : w.cell? ⟨rows[n].leaf[a], b, none⟩ = some (.bool (T n a b)) := by rw [hl.cell b, List.getElem?_toArray, bls_at _ hb]
  unfold TW
  rw [List.getElem?_eq_getElem hn]
  simp only
  rw [List.getElem?_eq_getElem ha']
  simp only
  rw [hc]
def flagN : Value → Nat
  | .bool true => 1
  | _ => 0
/-- What is left to be done. -/
def todo (m N : Nat) (rows : List RowD) (f : Value) (w : World) : Nat := 2 * (m * (m * N) - full m N (TW rows w)) + flagN f
theorem todo_is {B0 m N : Nat} {v f : Value} {rows : List RowD} {T : Tb} {w : World} (h : Tab B0 m v rows T w) (hN : rows.length = N) (hm : 0 < m) : todo m N rows f w = 2 * (m * (m * N) - full m N T) + flagN f := by
  unfold todo
  rw [full_congr hm (fun n a b hn ha hb => h.tw (by omega) ha hb)]
theorem todo_lt {g : Gr.Gm} {xs : List Int} {T0 T : Tb} {flag : Bool} {m N : Nat} (hs : Sweep g xs T0 T flag) (hm : m = xs.length + 1) (hN : g.nons.toNat = N) :
    2 * (m * (m * N) - full m N T) + flagN (.bool flag) < 2 * (m * (m * N) - full m N T0) + flagN (.bool true) := by
  have h1 := full_mono (m := m) (N := N) hs.grow
  have h2 := full_le m N T
  cases flag with
  | false => show _ + 0 < _ + 1; omega
  | true =>
    obtain ⟨n, a, b, hn, ha, hb, e0, e1⟩ := hs.more rfl
    have := full_lt (m := m) (N := N) hs.grow (n := n) (a := a) (b := b) (by omega) (by omega) (by omega) e0 e1
    show _ + 1 < _ + 1
    omega
end Go.Proofs.Ytdfhhbncmdpoeaa
/- The reference's Spans (layer 8): which part of a word comes of each nonterminal. -/
namespace Go.Proofs.Ytdfhhbncmdpoeaa
open Go.RowKit

/-- The tables of symbols, as far as they are put together: v's row; a token's table lies apart from it. -/
structure SyRel (lo m : Nat) (rows : List RowD) (xs : List Int) (right : List Gr.Sy) (v : Value) (vs : List Value) (w : World) : Prop where
  own : w.ownsRow lo 71 1 v vs.length vs
  ent : ∀ j (h : j < vs.length) (h2 : j < right.length), (right[j].non = true → ∃ n, ∃ hn : n < rows.length, right[j].n = (n : Int) ∧ vs[j] = RowD.cell m rows[n]) ∧
    (right[j].non = false → Row2 w (fun b => lo ≤ b ∧ b < w.heap.size ∧ v.ownBlock ≠ some b) vs[j] m (tok xs right[j].n))
section
variable {lo m : Nat} {rows : List RowD} {xs : List Int} {right : List Gr.Sy} {v : Value} {vs : List Value} {w wx w5 : World}
theorem SyRel.start (w : World) : SyRel w.heap.size m rows xs right (.slice (some ⟨w.heap.size, 0, none⟩) 0 0) [] (w.alloc (.cells #[] 71)) :=
  ⟨own_empty w _ _ (Nat.le_refl _), fun j hj => absurd hj (by simp)⟩
theorem SyRel.step (h : SyRel lo m rows xs right v vs w) (hlo : lo ≤ w.heap.size) (hb : Bl w wx) (hlt : vs.length < right.length) {x : Value}
    (hx1 : right[vs.length].non = true → ∃ n, ∃ hn : n < rows.length, right[vs.length].n = (n : Int) ∧ x = RowD.cell m rows[n])
    (hx2 : right[vs.length].non = false → Row2 wx (fun b => w.heap.size ≤ b ∧ b < wx.heap.size) x m (tok xs right[vs.length].n)) {o : Obj} {g cap : Nat}
    (ho5 : w5.ownsRow lo 71 1 (.slice (some ⟨g, 0, none⟩) (vs.length + 1) cap) (vs.length + 1) (vs ++ [x])) (hg5 : (wx.alloc o).grownBy w5 v.ownBlock) (hgl : v.ownBlock = some g ∨ g = (wx.alloc o).heap.size) :
    SyRel lo m rows xs right (.slice (some ⟨g, 0, none⟩) (vs.length + 1) cap) (vs ++ [x]) w5 := by
  have hba : Bl w (wx.alloc o) := hb.alloc o
  have hs5 := hg5.size
  rw [World.size_alloc] at hs5 hgl
  have hsx : w.heap.size ≤ wx.heap.size := hb.size
  have keep : ∀ b, b < wx.heap.size → v.ownBlock ≠ some b → w5.heap[b]? = (wx.alloc o).heap[b]? := fun b h1 h2 => hg5.block b (by rw [World.size_alloc]; omega) fun e => h2 e.symm
  have hnew : ∀ b, b < wx.heap.size → v.ownBlock ≠ some b → (Value.slice (some ⟨g, 0, none⟩) (vs.length + 1) cap).ownBlock ≠ some b := fun b h1 h2 e => by
    have e1 : g = b := by simpa [Value.ownBlock] using e
    rcases hgl with e2 | e2
    · exact h2 (by rw [e2, e1])
    · omega
  refine ⟨by rw [List.length_append]; exact ho5, fun j hj hj2 => ?_⟩
  rcases Nat.lt_or_ge j vs.length with hlt' | hge
  · rw [List.getElem_append_left hlt']
    obtain ⟨h1, h2⟩ := h.ent j hlt' hj2
    refine ⟨h1, fun e => ?_⟩
    refine ((h2 e).keep (w' := w5) fun b hP => ?_).mono fun b hP => ⟨hP.1, by omega, hnew b (by omega) hP.2.2⟩
    rw [keep b (by omega) hP.2.2]
    exact hba.block b hP.2.1
  · have e : j = vs.length := by rw [List.length_append] at hj; simp at hj; omega
    subst e
    rw [List.getElem_append_right (Nat.le_refl _)]
    simp only [Nat.sub_self, List.getElem_cons_zero]
    refine ⟨hx1, fun e => ?_⟩
    have hv : ∀ b, w.heap.size ≤ b → v.ownBlock ≠ some b := fun b hb e => by have := (h.own.lt b e).2; omega
    refine ((hx2 e).keep (w' := w5) fun b hP => ?_).mono fun b hP => ⟨by omega, by omega, hnew b hP.2 (hv b hP.1)⟩
    rw [keep b hP.2 (hv b hP.1)]
    exact Below.heap_alloc wx o b hP.2
/-- The tables of symbols, put together, when nothing turns but blocks below lo. -/
theorem SyRel.row3 {B0 : Nat} {vo : Value} {T : Cf.Tb} {A : Option Addr} {k c : Nat} {wl : World} (h : SyRel lo m rows xs right (.slice A k c) vs wl) (hl : vs.length = right.length) (hf : Fr (fun b => b < lo) wl w) (ht : Tab B0 m vo rows T w) :
    Row3 w (fun b => b < w.heap.size) A m (right.map (Cf.sym T xs)) := by
  have hs : wl.heap.size ≤ w.heap.size := hf.size
  have hblk : ∀ b, lo ≤ b → b < wl.heap.size → w.heap[b]? = wl.heap[b]? := fun b h1 h2 => hf.block b h2 (by omega)
  refine ⟨vs, by rw [List.length_map]; exact hl, ?_, fun i h1 h2 => ?_⟩
  · intro hn
    obtain ⟨g, cap, e, _, _⟩ := h.own.form hn
    have ho := h.own
    rw [e] at ho
    injection e with e1 _ _
    subst e1
    exact ((RdP.of_own (P := fun b => lo ≤ b ∧ b < wl.heap.size) ho fun b h1 h2 => ⟨h1, h2⟩).keep (w' := w) fun b hP => hblk b hP.1 hP.2).mono (fun b hP => by omega) hn
  · rw [List.getElem_map]
    obtain ⟨g1, g2⟩ := h.ent i h1 (by omega)
    have hi : i < right.length := by omega
    cases e : right[i].non with
    | true =>
      obtain ⟨n, hn, e1, e2⟩ := g1 e
      rw [e2]
      have : Cf.sym T xs right[i] = T n := by
        funext a b
        unfold Cf.sym
        rw [if_pos e, e1, Int.toNat_natCast]
      rw [this]
      exact (ht.row2 hn).mono fun b hP => hP.2
    | false =>
      have : Cf.sym T xs right[i] = tok xs right[i].n := by
        funext a b
        unfold Cf.sym tok
        rw [if_neg (by rw [e]; decide)]
      rw [this]
      exact ((g2 e).keep fun b hP => hblk b hP.1 hP.2.1).mono fun b hP => by omega
end
/-- What row tells, by what symbols lead to. -/
theorem walk_ch {T : Cf.Tb} {xs : List Int} {right : List Gr.Sy} {a b : Nat} (hb : b < xs.length + 1) : walkF (right.map (Cf.sym T xs)) (upd (fun _ => false) a true) b = true ↔ Cf.Ch T xs right a b := by
  rw [walkF_map, Cf.walk_iff (by omega)]
  constructor
  · rintro ⟨a', h1, h2⟩
    unfold upd at h1
    split at h1
    · rename_i e; subst e; exact h2
    · cases h1
  · intro h
    exact ⟨a, by unfold upd; rw [if_pos rfl], h⟩
end Go.Proofs.Ytdfhhbncmdpoeaa
/- The reference's Spans (layer 8): the walk. -/
namespace Go.Proofs.Ytdfhhbncmdpoeaa
open Go.RowKit

/-- What Spans leaves: a table that is sound and closed. -/
def SPost (g : Gr.Gm) (xs : List Int) (w : World) (e : Ending) (w' : World) : Prop :=
  ∃ (A : Option Addr) (c B0 : Nat) (rows : List RowD) (T : Cf.Tb), e = .returned (.slice A g.nons.toNat c) ∧ rows.length = g.nons.toNat ∧ Tab B0 (xs.length + 1) (.slice A g.nons.toNat c) rows T w' ∧ Cf.Sound g xs T ∧ Cf.Closed g xs T ∧ Bl w w'
theorem ok_nons' {t n s : Int} {ps : List Gr.Pr} (h : okB ⟨t, n, s, ps⟩ = true) : 1 ≤ n ∧ n ≤ 24 ∧ ps.length ≤ 60 := by
  obtain ⟨_, _, h3, h4, _, _, h7, _⟩ := (okB_iff _).1 h
  exact ⟨h3, h4, h7⟩
theorem ok_syms' {t n s : Int} {ps : List Gr.Pr} (h : okB ⟨t, n, s, ps⟩ = true) {p : Gr.Pr} (hp : p ∈ ps) : (0 ≤ p.left ∧ p.left < n) ∧ p.right.length ≤ 8 ∧ (∀ x ∈ p.right, x.non = true → 0 ≤ x.n ∧ x.n < n) ∧ Cf.Pos p.right := by
  have ho := (okB_iff _).1 h
  obtain ⟨_, _, _, _, _, _, _, h8⟩ := ho
  obtain ⟨h1, h2, h3, h4⟩ := h8 _ hp
  refine ⟨⟨h1, h2⟩, h3, fun x hx hn => ?_, fun x hx => (h4 x hx).1⟩
  have h5 := h4 x hx
  unfold Gr.okSy at h5
  simpa [hn] using h5

theorem Tab.read0 {B0 m N bo c n a b : Nat} {rows : List RowD} {T : Cf.Tb} {w : World} (h : Tab B0 m (.slice (some ⟨bo, 0, none⟩) N c) rows T w) (hn : n < rows.length) (ha : a < m) (hb : b < m) : ∃ g, bo < w.heap.size ∧
    w.cell? ⟨bo, n, none⟩ = some (.slice (some ⟨rows[n].blk, 0, none⟩) m rows[n].cap) ∧ rows[n].blk < w.heap.size ∧ w.cell? ⟨rows[n].blk, a, none⟩ = some (.slice (some ⟨g, 0, none⟩) m m) ∧ g < w.heap.size ∧
    w.cell? ⟨g, b, none⟩ = some (.bool (T n a b)) ∧ w.frozen? ⟨g, b, none⟩ = false ∧ B0 ≤ g ∧ g < rows[n].hi ∧ Tab B0 m (.slice (some ⟨bo, 0, none⟩) N c) rows (updT T n a b true) (w.setCell ⟨g, b, none⟩ (.bool true)) := by
  obtain ⟨bo', c', g, e, h1, h2, h3, h4, h5, h6, h7, h8, h9, h10⟩ := h.read hn ha hb
  injection e with e1 _ _
  injection e1 with e1
  injection e1 with e1 _ _
  subst e1
  exact ⟨g, h1, h2, h3, h4, h5, h6, h7, h8, h9, h10 true⟩

set_option maxRecDepth 100000 in
set_option maxHeartbeats 8000000 in
theorem spans_gen (t n s : Int) (A : Option Addr) (len c : Nat) (ps : List Gr.Pr) (Aw : Option Addr) (lw cw : Nat) (xs : List Int) (w : World) (B : Nat) (hlen : len = ps.length)
    (hn : 1 ≤ n ∧ n ≤ 1000 ∧ ps.length ≤ 1000) (hso : ∀ p ∈ ps, (0 ≤ p.left ∧ p.left < n) ∧ p.right.length ≤ 8 ∧ (∀ x ∈ p.right, x.non = true → 0 ≤ x.n ∧ x.n < n) ∧ Cf.Pos p.right) (hr : Prs w B A ps)
    (hlw : lw = xs.length) (hmw : lw ≤ 1000) (hrw : Rd w B Aw (ins xs)) (hB : B ≤ w.heap.size) :
    Calls Try.prog 35 #[.agg #[.int .i64 t, .int .i64 n, .int .i64 s, .slice A len c], .slice Aw lw cw] w (SPost ⟨t, n, s, ps⟩ xs w) := by
  obtain ⟨i2, hi2, hx0, hx1, hx2⟩ := info_parts boolss_info
  obtain ⟨n1, n2, n3⟩ := hn
  have hl60 : len ≤ 1000 := by omega
  obtain ⟨N, rfl⟩ : ∃ N : Nat, n = (N : Int) := ⟨n.toNat, by omega⟩
  have hSO : ∀ p : Gr.Pr, p ∈ ps → (0 ≤ p.left ∧ p.left < (N : Int)) ∧ p.right.length ≤ 8 ∧ (∀ x ∈ p.right, x.non = true → 0 ≤ x.n ∧ x.n < (N : Int)) ∧ Cf.Pos p.right := hso
  have HSO := Lib.hid hSO; clear hSO hso
  obtain ⟨G, hG⟩ : ∃ G : Gr.Gm, G = ⟨t, (N : Int), s, ps⟩ := ⟨_, rfl⟩
  have HGp : Hid (G.prods = ps ∧ G.nons.toNat = N ∧ G.nons = (N : Int)) := by subst hG; exact ⟨rfl, rfl, rfl⟩
  rw [← hG]
  clear hG
  have HL := Lib.hid hlen; clear hlen
  have HLW := Lib.hid hlw; clear hlw
  have HA := Lib.hid hr; clear hr
  have HW := Lib.hid hrw; clear hrw
  have HB0 : Hid (Bl w (w.alloc (.cells #[.int .i64 t, .int .i64 (N : Int), .int .i64 s, .slice A len c] 24))) := (Bl.refl w).alloc _
  have HG0 := Lib.hid (Bk.new w 24 #[.int .i64 t, .int .i64 (N : Int), .int .i64 s, .slice A len c])
  have hBg : B ≤ (w.alloc (.cells #[.int .i64 t, .int .i64 (N : Int), .int .i64 s, .slice A len c] 24)).heap.size := by simp; omega
  go_enter Try.func35, Try.ntmps35
  go_wp2_with fail
  refine (none_any N lw _ (by omega) hmw).mono ?_
  generalize w.alloc (.cells #[.int .i64 t, .int .i64 (N : Int), .int .i64 s, .slice A len c] 24) = wg at HB0 HG0 hBg ⊢
  rintro e wn ⟨A1, c1, rows, rfl, hrows, htab, hbn⟩
  obtain ⟨bo, co, hvo, _, _⟩ := htab.own.form (by omega)
  injection hvo with hvo hvo2 hvo3
  subst hvo
  clear hvo2 hvo3
  have HAg := Lib.hid (HA.out.bl hB HB0.out)
  have HWg := Lib.hid (HW.out.bl hB HB0.out)
  have HHi : Hid (∀ n (hn : n < rows.length), rows[n].hi ≤ wn.heap.size) := fun n hn => (htab.one n hn).hi_
  have HTn := Lib.hid htab
  have HBn := Lib.hid hbn
  have HRl := Lib.hid hrows
  have hwn : wg.heap.size ≤ wn.heap.size := (Bl.own hbn).size
  clear htab hbn hrows HA HW
  obtain ⟨gg, hgg⟩ : ∃ gg : Nat, gg = w.heap.size := ⟨_, rfl⟩
  rw [← hgg] at HG0 ⊢
  clear hgg
  go_wp2_with fail
  go_loopw [6] (fun f wr => ∃ (T : Cf.Tb) (mb : Bool), f = .bool mb ∧ Hid (Tab wg.heap.size (lw + 1) (.slice (some ⟨bo, 0, none⟩) N c1) rows T wr) ∧ Hid (Cf.Sound G xs T) ∧ Hid (mb = false → Cf.Closed G xs T) ∧ Hid (Bl wg wr) ∧ wn.heap.size ≤ wr.heap.size) (fun f wr => todo (lw + 1) N rows f wr)
  case atStart => exact ⟨_, true, rfl, HTn.out, (fun n a b h => by cases h), (fun h => by cases h), HBn.out, Nat.le_refl _⟩
  case round =>
    obtain ⟨T0, mb, rfl, HT0, HS0, HC0, HB1, hwr⟩ := hrel
    cases mb with
    | false =>
      go_wp2_with fail
      go_ret
      exact ⟨some ⟨bo, 0, none⟩, c1, wg.heap.size, rows, T0, by rw [HGp.out.2.1]; rfl, by rw [HGp.out.2.1]; exact HRl.out, by rw [HGp.out.2.1, ← HLW.out]; exact HT0.out, HS0.out, HC0.out (by first | trivial | rfl), HB0.out.trans HB1.out⟩
    | true =>
      obtain ⟨wm, hwm⟩ : ∃ wm : World, wm = wr := ⟨_, rfl⟩
      have HTodo := Lib.hid (todo_is (f := .bool true) HT0.out HRl.out (show 0 < lw + 1 by omega))
      go_wp2_with fail
      go_loopw [6, 7] (fun f i wr => ∃ (k : Nat) (T : Cf.Tb) (mb : Bool), k ≤ len ∧ i = .int .i64 k ∧ f = .bool mb ∧ Hid (Tab wg.heap.size (lw + 1) (.slice (some ⟨bo, 0, none⟩) N c1) rows T wr) ∧ Hid (Sweep G xs T0 T mb) ∧ Hid (mb = false → ClosedTo G xs T k) ∧ Hid (Bl wg wr) ∧ wn.heap.size ≤ wr.heap.size) (fun _ i _ => len - (intOf i).toNat)
      case atStart => exact ⟨0, T0, false, Nat.zero_le _, rfl, rfl, HT0.out, Sweep.start HS0.out, (fun _ => closedTo_zero), HB1.out, hwr⟩
      case round =>
        obtain ⟨k, T, mb, hk, rfl, rfl, HT, HSw, HCl, HBr, hwi⟩ := hrel
        obtain ⟨wi, rfl⟩ : ∃ wi : World, wi = wr := ⟨_, rfl⟩
        have HGr := Lib.hid (HG0.out.bl HBr.out)
        have g3 : wi.cell? ⟨gg, 3, none⟩ = some (.slice A len c) := HGr.out.cell 3
        have glt : gg < wi.heap.size := HGr.out.lt
        by_cases hlt : k < len
        · have hj : k < ps.length := by have := HL.out; omega
          obtain ⟨p, hp⟩ : ∃ p : Gr.Pr, p = ps[k] := ⟨_, rfl⟩
          have HPk : Hid (G.prods[k]? = some p) := by rw [HGp.out.1, hp]; exact List.getElem?_eq_getElem hj
          have HPm : Hid (p ∈ ps) := by rw [hp]; exact List.getElem_mem hj
          have hAt := HAg.out.at_ hj
          rw [← hp] at hAt
          obtain ⟨b, off, Ax, cx, rfl, hbB, hrx, hc0, hc1⟩ := hAt
          clear hp hj
          obtain ⟨⟨o1, o2⟩, o3, o4, o5⟩ := HSO.out p HPm.out
          obtain ⟨L, hL⟩ : ∃ L : Nat, p.left = (L : Int) := ⟨p.left.toNat, by omega⟩
          have hLN : L < N := by omega
          rw [hL] at hc0
          have hbw : b < wg.heap.size := by omega
          have HCell : Hid (∀ W : World, Bl wg W → W.cell? ⟨b, off + k * 2, none⟩ = some (.int .i64 L) ∧ W.cell? ⟨b, off + k * 2 + 1, none⟩ = some (.slice Ax p.right.length cx) ∧ b < W.heap.size ∧ gg < W.heap.size ∧ W.cell? ⟨gg, 3, none⟩ = some (.slice (some ⟨b, off, none⟩) len c)) := fun W hb =>
            ⟨(Below.cell hb (p := ⟨b, off + k * 2, none⟩) hbw).trans hc0, (Below.cell hb (p := ⟨b, off + k * 2 + 1, none⟩) hbw).trans hc1, Nat.lt_of_lt_of_le hbw hb.size, (HG0.out.bl hb).lt, (HG0.out.bl hb).cell 3⟩
          have HRx := Lib.hid hrx
          have HO4 := Lib.hid o4
          have HO5 := Lib.hid o5
          have HLe := Lib.hid hL
          clear hrx hc0 hc1 o1 o2 o4 o5 hL
          have HSy0 : Hid (SyRel wi.heap.size (lw + 1) rows xs p.right (.slice (some ⟨wi.heap.size, 0, none⟩) 0 0) [] (wi.alloc (.cells #[] 71))) := SyRel.start wi
          have HBi0 : Hid (Bl wi (wi.alloc (.cells #[] 71))) := (Bl.refl wi).alloc _
          go_wp2_with fail
          go_loopw [8, 9] (fun v i wr => ∃ vs : List Value, vs.length ≤ p.right.length ∧ i = .int .i64 vs.length ∧ Hid (SyRel wi.heap.size (lw + 1) rows xs p.right v vs wr) ∧ Hid (Bl wi wr)) (fun _ i _ => p.right.length - (intOf i).toNat)
          case atStart => exact ⟨[], Nat.zero_le _, rfl, HSy0.out, HBi0.out⟩
          case round =>
            obtain ⟨vs, hvs, rfl, HSy, HBi⟩ := hrel
            obtain ⟨c0, c1', cbw, cgg, cg3⟩ := HCell.out wr (HBr.out.trans HBi.out)
            have hwiw : wi.heap.size ≤ wr.heap.size := HBi.out.size
            by_cases hlt2 : vs.length < p.right.length
            · obtain ⟨bx, ox, rfl, hbx, q0, q1⟩ := (HRx.out.bl hBg (HBr.out.trans HBi.out)).sym hlt2
              have hbxw : bx < wr.heap.size := by have := HBr.out.size; omega
              have HStep := Lib.hid (fun wx (hb : Bl wr wx) x hx1 hx2 o g cap w5 ho5 hg5 hgl => HSy.out.step (wx := wx) (w5 := w5) (o := o) (g := g) (cap := cap) hwiw hb hlt2 (x := x) hx1 hx2 ho5 hg5 hgl)
              have HO4k := Lib.hid (HO4.out _ (List.getElem_mem hlt2))
              generalize p.right[vs.length] = y at *
              obtain ⟨yb, yn⟩ := y
              simp only at q0 q1
              cases yb with
              | true =>
                obtain ⟨nn, hne, hnlt⟩ : ∃ nn : Nat, yn = (nn : Int) ∧ nn < N := by
                  have := HO4k.out rfl
                  exact ⟨yn.toNat, by simp only at this; omega, by simp only at this; omega⟩
                subst hne
                have hnr : nn < rows.length := by have := HRl.out; omega
                obtain ⟨_, t1, t2, t3, _⟩ := (HT.out.bl_ HBi.out).read0 hnr (show 0 < lw + 1 by omega) (show 0 < lw + 1 by omega)
                have HS2 := Lib.hid (fun o g cap w5 ho5 hg5 hgl => HStep.out (wr.alloc (.cells #[.bool true, .int .i64 (nn : Int)] 37)) ((Bl.refl wr).alloc _) (RowD.cell (lw + 1) (rows[nn]'hnr)) (fun _ => ⟨nn, hnr, rfl, rfl⟩) (fun h => by cases h) o g cap w5 ho5 hg5 hgl)
                unfold RowD.cell at HS2
                generalize rows[nn] = rr at *
                obtain ⟨rblk, rcap, rlo, rhi, rleaf⟩ := rr
                simp only at t2 t3 HS2
                have HOw := Lib.hid ((HSy.out.own.alloc (.cells #[.bool true, .int .i64 (nn : Int)] 37)).alloc (.cells #[.slice (some ⟨rblk, 0, none⟩) (lw + 1) rcap] 71))
                have HBw : Hid (Bl wi (wr.alloc (.cells #[.bool true, .int .i64 (nn : Int)] 37))) := HBi.out.alloc _
                clear hnr
                go_wp2_with (at_builtin; refine wpList_append_lies _ rfl (.tmp 50) (.tmp 56) 72 rfl wi.heap.size 71 i2 (.slice none 0 0) 1 24 Try.underlying72 hi2 hx0 hx1 hx2 rfl (by decide) _ _ _ rfl HOw.out ⟨wr.heap.size + 1, 0, none⟩ 1 1 [.slice (some ⟨rblk, 0, none⟩) (lw + 1) rcap] rfl rfl (by have h := one_new' (wr.alloc (.cells #[.bool true, .int .i64 (nn : Int)] 37)) (.slice (some ⟨rblk, 0, none⟩) (lw + 1) rcap) 71; rw [World.size_alloc] at h; exact h) (by simp [Value.oneCell']) (by decide) (by simp only [maxLen]; omega) (by omega) (by simp; omega) _ rfl ?_; intro g5 cap5 w5 hown5 hg5 hgl5 _; have HX := Lib.hid (HS2.out _ _ _ _ hown5 hg5 hgl5); have HY : Hid (Bl wi w5) := (HBw.out.alloc _).grown hg5 (fun k hk => (HSy.out.own.lt k hk).1); clear hown5 hg5 hgl5)
                go_roundw
                case rel => exact ⟨vs ++ [Value.slice (some ⟨rblk, 0, none⟩) (lw + 1) rcap], by simp; omega, by simp; try omega, HX.out, HY.out⟩
                case measure => simp [intOf]; omega
              | false =>
                have HBs : Hid (Bl wg (wr.alloc (.cells #[.bool false, .int .i64 yn] 37))) := (HBr.out.trans HBi.out).alloc _
                go_wp2_with fail
                refine (token_any Aw lw cw xs yn _ B HLW.out hmw (HWg.out.bl hBg HBs.out) (Nat.le_trans hBg HBs.out.size)).mono ?_
                rintro e wt ⟨At, ct, rfl, hrow, hbt⟩
                have HBt : Hid (Bl wr wt) := ((Bl.refl wr).alloc (.cells #[.bool false, .int .i64 yn] 37)).trans hbt
                have HS2 := Lib.hid (fun o g cap w5 ho5 hg5 hgl => HStep.out wt HBt.out (.slice At (lw + 1) ct) (fun h => by cases h) (fun _ => hrow.mono fun b hP => ⟨by have := hP.1; rw [World.size_alloc] at this; omega, hP.2⟩) o g cap w5 ho5 hg5 hgl)
                have HOw := Lib.hid ((own_bl HSy.out.own HBt.out).alloc (.cells #[.slice At (lw + 1) ct] 71))
                have hwt : wr.heap.size ≤ wt.heap.size := HBt.out.size
                clear hrow hbt q0 q1 c0 c1' cg3
                go_wp2_with (at_builtin; refine wpList_append_lies _ rfl (.tmp 58) (.tmp 63) 72 rfl wi.heap.size 71 i2 (.slice none 0 0) 1 24 Try.underlying72 hi2 hx0 hx1 hx2 rfl (by decide) _ _ _ rfl HOw.out ⟨wt.heap.size, 0, none⟩ 1 1 [.slice At (lw + 1) ct] rfl rfl (one_new' _ _ _) (by simp [Value.oneCell']) (by decide) (by simp only [maxLen]; omega) (by omega) (by simp; omega) _ rfl ?_; intro g5 cap5 w5 hown5 hg5 hgl5 _; have HX := Lib.hid (HS2.out _ _ _ _ hown5 hg5 hgl5); have HY : Hid (Bl wi w5) := ((HBi.out.trans HBt.out).alloc _).grown hg5 (fun k hk => (HSy.out.own.lt k hk).1); clear hown5 hg5 hgl5)
                go_roundw
                case rel => exact ⟨vs ++ [Value.slice At (lw + 1) ct], by simp; omega, by simp; try omega, HX.out, HY.out⟩
                case measure => simp [intOf]; omega
            · have hvl : vs.length = p.right.length := by omega
              obtain ⟨A8, c8, hv8, _⟩ := own_form HSy.out.own
              subst hv8
              have HSl := Lib.hid (fun (T1 : Cf.Tb) (W : World) (hf : Fr (fun b => b < wi.heap.size) wr W) (ht : Tab wg.heap.size (lw + 1) (.slice (some ⟨bo, 0, none⟩) N c1) rows T1 W) => HSy.out.row3 hvl hf ht)
              obtain ⟨wl, rfl⟩ : ∃ wl : World, wl = wr := ⟨_, rfl⟩
              have HTl := Lib.hid (HT.out.bl_ HBi.out)
              have HBl := Lib.hid (HBr.out.trans HBi.out)
              have HLt : Hid (p.left.toNat = L) := by have := HLe.out; show p.left.toNat = L; omega
              have hLr : L < rows.length := by have := HRl.out; omega
              have hhi := HHi.out L hLr
              rw [hvl]
              go_wp2_with fail
              clear c0 c1' cbw cgg cg3 hlt2 hvs
              go_loopw [6, 11] (fun f i wr => ∃ (a : Nat) (T1 : Cf.Tb) (mb1 : Bool), a ≤ lw + 1 ∧ i = .int .i64 a ∧ f = .bool mb1 ∧ Hid (Tab wg.heap.size (lw + 1) (.slice (some ⟨bo, 0, none⟩) N c1) rows T1 wr) ∧ Hid (Sweep G xs T0 T1 mb1) ∧ Hid (mb1 = false → ClosedTo G xs T1 k ∧ PlaceTo xs T1 p a) ∧ Hid (Bl wg wr) ∧ Hid (Fr (fun b => b < wi.heap.size) wl wr) ∧ wl.heap.size ≤ wr.heap.size) (fun _ i _ => lw + 1 - (intOf i).toNat)
              case atStart => exact ⟨0, T, mb, Nat.zero_le _, rfl, rfl, HTl.out, HSw.out, (fun h => ⟨HCl.out h, placeTo_zero⟩), HBl.out, Fr.refl _ _, Nat.le_refl _⟩
              case round =>
                obtain ⟨a, T1, mb1, ha, rfl, rfl, HT1, HSw1, HCl1, HBa, HF1, hw1⟩ := hrel
                obtain ⟨wa, rfl⟩ : ∃ wa : World, wa = wr := ⟨_, rfl⟩
                by_cases hlta : a ≤ lw
                · have HR3 := Lib.hid (HSl.out T1 wa HF1.out HT1.out)
                  go_wp2_with fail
                  refine (row8_any A8 p.right.length c8 (p.right.map (Cf.sym T1 xs)) a lw wa (by rw [List.length_map]) (by omega) hlta hmw HR3.out).mono ?_
                  have HCh : Hid (∀ b, b < lw + 1 → (walkF (p.right.map (Cf.sym T1 xs)) (upd (fun _ => false) a true) b = true ↔ Cf.Ch T1 xs p.right a b)) := fun b hb => walk_ch (by have := HLW.out; omega)
                  generalize walkF (p.right.map (Cf.sym T1 xs)) (upd (fun _ => false) a true) = hh at HCh ⊢
                  rintro e w8 ⟨g8, c8', rfl, hr8, hb8⟩
                  have HAt8 := Lib.hid hr8
                  have HB8 := Lib.hid hb8
                  have hw8 : wa.heap.size ≤ w8.heap.size := (Bl.own hb8).size
                  clear hr8 hb8
                  go_wp2_with fail
                  go_loopw [6, 13] (fun f i wr => ∃ (j : Nat) (T2 : Cf.Tb) (mb2 : Bool), a ≤ j ∧ j ≤ lw + 1 ∧ i = .int .i64 j ∧ f = .bool mb2 ∧ Hid (Tab wg.heap.size (lw + 1) (.slice (some ⟨bo, 0, none⟩) N c1) rows T2 wr) ∧ Hid (Sweep G xs T0 T2 mb2) ∧ Hid (∀ n a b, T1 n a b = true → T2 n a b = true) ∧
                    Hid (mb2 = false → ClosedTo G xs T2 k ∧ PlaceTo xs T2 p a ∧ T1 = T2 ∧ EndTo xs T2 p a j) ∧ Hid (Bl wg wr) ∧ Hid (Fr (fun b => b < wi.heap.size) w8 wr) ∧ w8.heap.size ≤ wr.heap.size) (fun _ i _ => lw + 1 - (intOf i).toNat)
                  case atStart => exact ⟨a, T1, mb1, Nat.le_refl _, by omega, rfl, rfl, HT1.out.bl_ HB8.out, HSw1.out, (fun _ _ _ h => h), (fun h => ⟨(HCl1.out h).1, (HCl1.out h).2, rfl, endTo_start a⟩), HBa.out.trans HB8.out, Fr.refl _ _, Nat.le_refl _⟩
                  case round =>
                    obtain ⟨j, T2, mb2, haj, hj, rfl, rfl, HT2, HSw2, HGr2, HCl2, HBb, HF2, hw2⟩ := hrel
                    by_cases hltb : j ≤ lw
                    · have hjl : j < lw + 1 := by omega
                      have hal : a < lw + 1 := by omega
                      obtain ⟨kat, _, kg8⟩ := (HAt8.out.keep (w' := wr) (fun b hb => HF2.out.block b hb.2 (by have := hb.1; omega))).bls0 hjl
                      have kgl : g8 < wr.heap.size := by omega
                      cases hhj : hh j with
                      | false =>
                        rw [hhj] at kat
                        have HX : Hid (mb2 = false → ClosedTo G xs T2 k ∧ PlaceTo xs T2 p a ∧ T1 = T2 ∧ EndTo xs T2 p a (j + 1)) := fun h => by
                          obtain ⟨q1, q2, q3, q4⟩ := HCl2.out h
                          refine ⟨q1, q2, q3, endTo_succ q4 fun hc => ?_⟩
                          rw [← q3] at hc
                          have := (HCh.out j hjl).2 hc
                          rw [hhj] at this; cases this
                        clear hhj
                        go_wp2_with fail
                        go_roundw
                        case rel => exact ⟨j + 1, T2, mb2, by omega, by omega, by go_num, rfl, HT2.out, HSw2.out, HGr2.out, HX.out, HBb.out, HF2.out, hw2⟩
                        case measure => simp [intOf]; omega
                      | true =>
                        rw [hhj] at kat
                        have HHj := Lib.hid hhj; clear hhj
                        obtain ⟨c0, c1', cbw, cgg, cg3⟩ := HCell.out wr HBb.out
                        obtain ⟨g2, t1, t2, t3, t4, t5, t6, t7, t8, t9, t10⟩ := HT2.out.read0 hLr hal hjl
                        have HPut := Lib.hid t10
                        generalize rows[L] = rr at *
                        obtain ⟨rblk, rcap, rlo, rhi, rleaf⟩ := rr
                        simp only at t2 t3 t4 t9 hhi
                        clear t10
                        cases ht : T2 L a j with
                        | true =>
                          rw [ht] at t6
                          have HX : Hid (mb2 = false → ClosedTo G xs T2 k ∧ PlaceTo xs T2 p a ∧ T1 = T2 ∧ EndTo xs T2 p a (j + 1)) := fun h => by
                            obtain ⟨q1, q2, q3, q4⟩ := HCl2.out h
                            exact ⟨q1, q2, q3, endTo_succ q4 fun _ => by rw [HLt.out]; exact ht⟩
                          clear ht
                          go_wp2_with fail
                          go_roundw
                          case rel => exact ⟨j + 1, T2, mb2, by omega, by omega, by go_num, rfl, HT2.out, HSw2.out, HGr2.out, HX.out, HBb.out, HF2.out, hw2⟩
                          case measure => simp [intOf]; omega
                        | false =>
                          rw [ht] at t6
                          have HS3 : Hid (Sweep G xs T0 (updT T2 L a j true) true) := by
                            have h := HSw2.out.put (p := p) (a := a) (b := j) (by rw [HGp.out.1]; exact HPm.out) (by have := HLe.out; omega) (by have := HLe.out; have := HGp.out.2.2; omega) HO5.out (by have := HLW.out; omega) (((HCh.out j hjl).1 HHj.out).mono HGr2.out) (by rw [HLt.out]; exact ht)
                            rw [HLt.out] at h
                            exact h
                          have HY : Hid (Bl wg (wr.setCell ⟨g2, j, none⟩ (.bool true))) := Bl.fr HBb.out ((Fr.refl (fun k => k = g2) wr).own _ _) (fun i hi e => by omega)
                          have HZ : Hid (Fr (fun b => b < wi.heap.size) w8 (wr.setCell ⟨g2, j, none⟩ (.bool true))) := HF2.out.setCell (p := ⟨g2, j, none⟩) (.inl (by show g2 < wi.heap.size; omega)) _
                          have hsz : w8.heap.size ≤ (wr.setCell ⟨g2, j, none⟩ (.bool true)).heap.size := HZ.out.size
                          have HSz := Lib.hid hsz
                          clear ht hsz
                          go_wp2_with fail
                          go_roundw
                          case rel => exact ⟨j + 1, updT T2 L a j true, true, by omega, by omega, by go_num, rfl, HPut.out, HS3.out, (fun n a b h => updT_mono (HGr2.out n a b h)), (fun h => by cases h), HY.out, HZ.out, HSz.out⟩
                          case measure => simp [intOf]; omega
                    · have hjm : j = xs.length + 1 := by have := HLW.out; omega
                      have HX : Hid (mb2 = false → ClosedTo G xs T2 k ∧ PlaceTo xs T2 p (a + 1)) := fun h => by
                        obtain ⟨q1, q2, q3, q4⟩ := HCl2.out h
                        rw [hjm] at q4
                        exact ⟨q1, placeTo_succ q2 q4⟩
                      have HZ : Hid (Fr (fun b => b < wi.heap.size) wl wr) := (HF1.out.after HB8.out).same HF2.out
                      clear hjm
                      go_wp2_with fail
                      go_roundw
                      case rel => exact ⟨a + 1, T2, mb2, by omega, by go_num, rfl, HT2.out, HSw2.out, HX.out, HBb.out, HZ.out, by omega⟩
                      case measure => simp [intOf]; omega
                · have ham : a = xs.length + 1 := by have := HLW.out; omega
                  have HX : Hid (mb1 = false → ClosedTo G xs T1 (k + 1)) := fun h => by
                    obtain ⟨q1, q2⟩ := HCl1.out h
                    rw [ham] at q2
                    exact closedTo_succ q1 HPk.out q2
                  clear ham
                  go_wp2_with fail
                  go_roundw
                  case rel => exact ⟨k + 1, T1, mb1, by omega, by go_num, rfl, HT1.out, HSw1.out, HX.out, HBa.out, by omega⟩
                  case measure => simp [intOf]; omega
        · have HX : Hid (mb = false → Cf.Closed G xs T) := fun h => closedTo_all (by
            have := HCl.out h
            rw [show k = G.prods.length by rw [HGp.out.1]; have := HL.out; omega] at this
            exact this)
          have HLess := Lib.hid (todo_lt (m := lw + 1) (N := N) HSw.out (by have := HLW.out; omega) HGp.out.2.1)
          have HTd := Lib.hid (todo_is (f := .bool mb) HT.out HRl.out (show 0 < lw + 1 by omega))
          go_wp2_with fail
          go_roundw
          case rel => exact ⟨T, mb, rfl, HT.out, HSw.out.sound, HX.out, HBr.out, hwi⟩
          case measure => rw [HTd.out, HTodo.out]; exact HLess.out
theorem spans_any (t n s : Int) (A : Option Addr) (len c : Nat) (ps : List Gr.Pr) (Aw : Option Addr) (lw cw : Nat) (xs : List Int) (w : World) (B : Nat) (hlen : len = ps.length) (hok : okB ⟨t, n, s, ps⟩ = true) (hr : Prs w B A ps)
    (hlw : lw = xs.length) (hmw : lw ≤ 1000) (hrw : Rd w B Aw (ins xs)) (hB : B ≤ w.heap.size) :
    Calls Try.prog 35 #[.agg #[.int .i64 t, .int .i64 n, .int .i64 s, .slice A len c], .slice Aw lw cw] w (SPost ⟨t, n, s, ps⟩ xs w) :=
  spans_gen t n s A len c ps Aw lw cw xs w B hlen (by obtain ⟨h1, h2, h3⟩ := ok_nons' hok; omega) (fun _ hp => ok_syms' hok hp) hr hlw hmw hrw hB
end Go.Proofs.Ytdfhhbncmdpoeaa
/- Tables of spans with their numbers written out; words that laws make of bytes. -/
namespace Go.Proofs.Ytdfhhbncmdpoeaa
open Go.RowKit

theorem SPost.lit {g : Gr.Gm} {N m : Nat} {xs : List Int} {w w' : World} {e : Ending} (h : SPost g xs w e w') (hN : g.nons.toNat = N) (hm : xs.length + 1 = m) (hN0 : 0 < N) :
    ∃ (bo c B0 : Nat) (rows : List RowD) (T : Cf.Tb), e = .returned (.slice (some ⟨bo, 0, none⟩) N c) ∧ rows.length = N ∧ Tab B0 m (.slice (some ⟨bo, 0, none⟩) N c) rows T w' ∧ Cf.Sound g xs T ∧ Cf.Closed g xs T ∧ Bl w w' := by
  subst hN hm
  obtain ⟨A, c, B0, rows, T, he, hl, ht, h1, h2, h3⟩ := h
  obtain ⟨bo, co, hv, _, _⟩ := ht.own.form (by omega)
  injection hv with hv1 _ _
  subst hv1
  exact ⟨bo, c, B0, rows, T, he, hl, ht, h1, h2, h3⟩
theorem Tab.peek {B0 m N bo c n a b : Nat} {rows : List RowD} {T : Cf.Tb} {w : World} (h : Tab B0 m (.slice (some ⟨bo, 0, none⟩) N c) rows T w) (hl : rows.length = N) (hn : n < N) (ha : a < m) (hb : b < m) : ∃ r cr g, bo < w.heap.size ∧
    w.cell? ⟨bo, n, none⟩ = some (.slice (some ⟨r, 0, none⟩) m cr) ∧ r < w.heap.size ∧ w.cell? ⟨r, a, none⟩ = some (.slice (some ⟨g, 0, none⟩) m m) ∧ g < w.heap.size ∧ w.cell? ⟨g, b, none⟩ = some (.bool (T n a b)) := by
  obtain ⟨g, h1, h2, h3, h4, h5, h6, _⟩ := h.read0 (n := n) (by omega) ha hb
  exact ⟨_, _, g, h1, h2, h3, h4, h5, h6⟩
/-- The word that the law makes of bytes. -/
def mods (bs : List Nat) : List Int := ns (bs.map (· % 16))
theorem mods_len (bs : List Nat) : (mods bs).length = bs.length := by simp [mods, ns]
theorem mods_snoc {bs : List Nat} {k : Nat} (h : k < bs.length) : mods (bs.take (k + 1)) = mods (bs.take k) ++ [(bs[k] : Int) % 16] := by
  rw [List.take_succ_eq_append_getElem h]
  simp only [mods, ns, List.map_append, List.map_cons, List.map_nil]
  rfl

theorem word_int_info : (Try.prog.info? 3).map (fun i => (i.zero, i.size, i.bytes)) = some (some (.int .i64 0), 1, 8) := by kernel_rfl
end Go.Proofs.Ytdfhhbncmdpoeaa
/- The reference's In: does a word come of a grammar? -/
namespace Go.Proofs.Ytdfhhbncmdpoeaa
open Go.RowKit

set_option maxRecDepth 100000 in
set_option maxHeartbeats 2000000 in
theorem in_gen (t : Int) (N st : Nat) (A : Option Addr) (len c : Nat) (ps : List Gr.Pr) (Aw : Option Addr) (lw cw : Nat) (xs : List Int) (w : World) (B : Nat) (hlen : len = ps.length) (hn : 1 ≤ N ∧ N ≤ 1000 ∧ ps.length ≤ 1000) (hst : st < N)
    (hso : ∀ p ∈ ps, (0 ≤ p.left ∧ p.left < (N : Int)) ∧ p.right.length ≤ 8 ∧ (∀ x ∈ p.right, x.non = true → 0 ≤ x.n ∧ x.n < (N : Int)) ∧ Cf.Pos p.right) (hr : Prs w B A ps)
    (hlw : lw = xs.length) (hmw : lw ≤ 100) (hrw : Rd w B Aw (ins xs)) (hB : B ≤ w.heap.size) :
    Calls Try.prog 14 #[.agg #[.int .i64 t, .int .i64 (N : Int), .int .i64 (st : Int), .slice A len c], .slice Aw lw cw] w fun e w' => e = .returned (.bool (Sp.comB ⟨t, (N : Int), (st : Int), ps⟩ st xs)) ∧ Bl w w' := by
  have hb0 : Bl w (w.alloc (.cells #[.int .i64 t, .int .i64 (N : Int), .int .i64 (st : Int), .slice A len c] 24)) := (Bl.refl w).alloc _
  have HC := Lib.hid (spans_gen t N st A len c ps Aw lw cw xs (w.alloc (.cells #[.int .i64 t, .int .i64 (N : Int), .int .i64 (st : Int), .slice A len c] 24)).drew B hlen (by omega) hso (hr.bl hB hb0.drew) hlw (by omega) (hrw.bl hB hb0.drew) (Nat.le_trans hB hb0.size))
  have HG : Hid (Bk (w.alloc (.cells #[.int .i64 t, .int .i64 (N : Int), .int .i64 (st : Int), .slice A len c] 24)) w.heap.size 24 #[.int .i64 t, .int .i64 (N : Int), .int .i64 (st : Int), .slice A len c]) := Bk.new w _ _
  have HB0 := Lib.hid hb0
  have HLw := Lib.hid hlw
  have HM : Hid (xs.length + 1 = lw + 1) := by show _ = _; omega
  obtain ⟨cb, hcb⟩ : ∃ cb, cb = Sp.comB ⟨t, (N : Int), (st : Int), ps⟩ st xs := ⟨_, rfl⟩
  rw [← hcb]
  have HCb := Lib.hid hcb
  clear hlen hr hlw hrw hB hb0 hso hcb
  have i0 : (0 : Int) ≤ (st : Int) := by omega
  have i1 : (st : Int) < (N : Int) := by omega
  have i2 : (0 : Int) < ((lw + 1 : Nat) : Int) := by omega
  have i3 : (0 : Int) ≤ (lw : Int) := by omega
  have i4 : (lw : Int) < (lw : Int) + 1 := by omega
  have i5 : (0 : Int) < (lw : Int) + 1 := by omega
  go_enter Try.func14, Try.ntmps14
  go_wp2_with fail
  generalize w.alloc (.cells #[.int .i64 t, .int .i64 (N : Int), .int .i64 (st : Int), .slice A len c] 24) = w0 at *
  have c0 := HG.out.cell 0
  have c1 := HG.out.cell 1
  have c2 := HG.out.cell 2
  have c3 := HG.out.cell 3
  go_region_law (first
    | (go_simp; go_at_call 35; ((with_reducible refine HC.out.mono ?_); rintro e w2 h6; obtain ⟨bo, c6, B6, rows, TT, he6, hl6, ht6, hs6, hc6, hb6⟩ := h6.lit (N := N) (m := lw + 1) rfl HM.out (by omega); subst he6; have HBc : Hid (Bl w0 w2) := Bl.undrew hb6; have d2 := (HG.out.bl HBc.out).cell 2; obtain ⟨r1, cr1, g1, x1, x2, x3, x4, x5, x6⟩ := ht6.peek hl6 hst (show 0 < lw + 1 by omega) (show lw < lw + 1 by omega); have HT : Hid (TT st 0 lw = cb) := (by rw [HCb.out]; exact Bool.eq_iff_iff.2 ((Cf.table hs6 hc6 st (Nat.zero_le _) (Nat.le_of_eq HLw.out)).trans (by rw [HLw.out, show Cf.part xs 0 xs.length = xs by simp [Cf.part], Sp.comB_iff]))); rw [HT.out] at x6; clear h6 hl6 ht6 hs6 hc6 hb6))
    | fail)
  all_goals
    go_wp2_with fail
    go_ret
    exact ⟨rfl, HB0.out.trans HBc.out⟩
end Go.Proofs.Ytdfhhbncmdpoeaa
