/- How a table grows, turn by turn, until it says all that comes (plain facts; how a table is told from memory). -/
import Derived.Test.YtckckejgocbkkaaHToken
import Derived.Test.YtckckejgocbkkaaPlainS
import Derived.Test.YtckckejgocbkkaaGMem
import Derived.Deep.AppendLies
namespace Go.Proofs.Ytckckejgocbkkaa
open Go.RowKit
open Cf (Tb Ch Sound Closed sym)

theorem updT_at (T : Tb) (n a b : Nat) : updT T n a b true n a b = true := by unfold updT upd; rw [if_pos ⟨rfl, rfl⟩, if_pos rfl]
theorem updT_mono {T : Tb} {n a b n' a' b' : Nat} (h : T n' a' b' = true) : updT T n a b true n' a' b' = true := by
  unfold updT
  split
  · rename_i e
    obtain ⟨rfl, rfl⟩ := e
    unfold upd
    split
    · rfl
    · exact h
  · exact h
theorem updT_inv {T : Tb} {n a b n' a' b' : Nat} (h : updT T n a b true n' a' b' = true) : (n' = n ∧ a' = a ∧ b' = b) ∨ T n' a' b' = true := by
  unfold updT at h
  split at h
  · rename_i e
    obtain ⟨rfl, rfl⟩ := e
    unfold upd at h
    split at h
    · rename_i e2; exact .inl ⟨rfl, rfl, e2⟩
    · exact .inr h
  · exact .inr h

/-- A turn: where it began, where it stands; whether anything was put in. -/
structure Sweep (g : Gr.Gm) (w : List Int) (T0 T : Tb) (flag : Bool) : Prop where
  sound : Sound g w T
  grow : ∀ n a b, T0 n a b = true → T n a b = true
  same : flag = false → T = T0
  more : flag = true → ∃ n a b, n < g.nons.toNat ∧ a < w.length + 1 ∧ b < w.length + 1 ∧ T0 n a b = false ∧ T n a b = true
def ClosedTo (g : Gr.Gm) (w : List Int) (T : Tb) (i : Nat) : Prop := ∀ j, j < i → ∀ p, g.prods[j]? = some p → ∀ a b, a ≤ w.length → Ch T w p.right a b → T p.left.toNat a b = true
def PlaceTo (w : List Int) (T : Tb) (p : Gr.Pr) (k : Nat) : Prop := ∀ a, a < k → ∀ b, a ≤ w.length → Ch T w p.right a b → T p.left.toNat a b = true
def EndTo (w : List Int) (T : Tb) (p : Gr.Pr) (a k : Nat) : Prop := ∀ b, b < k → Ch T w p.right a b → T p.left.toNat a b = true
section
variable {g : Gr.Gm} {w : List Int} {T0 T Ta : Tb} {flag : Bool} {p : Gr.Pr}
theorem Sweep.start (h : Sound g w T) : Sweep g w T T false := ⟨h, fun _ _ _ h => h, fun _ => rfl, fun h => by cases h⟩
theorem closedTo_zero : ClosedTo g w T 0 := fun j hj => absurd hj (by omega)
theorem closedTo_all (h : ClosedTo g w T g.prods.length) : Closed g w T := fun p hp a b ha hc => by
  obtain ⟨j, hj, rfl⟩ := List.getElem_of_mem hp
  exact h j hj _ (List.getElem?_eq_getElem hj) a b ha hc
theorem closedTo_succ {i : Nat} (h : ClosedTo g w T i) (hi : g.prods[i]? = some p) (hp : PlaceTo w T p (w.length + 1)) : ClosedTo g w T (i + 1) := fun j hj q hq a b ha hc => by
  by_cases e : j = i
  · subst e
    rw [hi] at hq
    injection hq with hq
    subst hq
    exact hp a (by omega) b ha hc
  · exact h j (by omega) q hq a b ha hc
theorem placeTo_zero : PlaceTo w T p 0 := fun a ha => absurd ha (by omega)
theorem placeTo_succ {k : Nat} (h : PlaceTo w T p k) (he : EndTo w T p k (w.length + 1)) : PlaceTo w T p (k + 1) := fun a ha b hal hc => by
  by_cases e : a = k
  · subst e
    exact he b (by have := hc.le_len hal; omega) hc
  · exact h a (by omega) b hal hc
theorem endTo_start (a : Nat) : EndTo w T p a a := fun b hb hc => by have := hc.le; omega
theorem endTo_succ {a k : Nat} (h : EndTo w T p a k) (hk : Ch T w p.right a k → T p.left.toNat a k = true) : EndTo w T p a (k + 1) := fun b hb hc => by
  by_cases e : b = k
  · subst e; exact hk hc
  · exact h b (by omega) hc
/-- What a production means is put in. -/
theorem Sweep.put (h : Sweep g w T0 T flag) (hp : p ∈ g.prods) (h0 : 0 ≤ p.left) (hl : p.left < g.nons) (hr : Cf.Pos p.right) {a b : Nat} (ha : a ≤ w.length) (hc : Ch T w p.right a b) (hn : T p.left.toNat a b = false) :
    Sweep g w T0 (updT T p.left.toNat a b true) true := by
  have hs := Cf.sound_put h.sound hp h0 hr ha hc
  refine ⟨fun n a' b' ht => ?_, fun n a' b' ht => updT_mono (h.grow n a' b' ht), fun e => by (cases e), fun _ => ⟨p.left.toNat, a, b, by omega, by omega, by omega, ?_, updT_at ..⟩⟩
  · rcases updT_inv ht with ⟨rfl, rfl, rfl⟩ | ht
    · exact hs
    · exact h.sound n a' b' ht
  · cases e : T0 p.left.toNat a b with
    | false => rfl
    | true => have := h.grow _ _ _ e; rw [hn] at this; cases this
end

/-- The places of a table, one behind the other. -/
def enc (m : Nat) (T : Tb) (k : Nat) : Bool := T (k / m / m) (k / m % m) (k % m)
theorem enc_at (m : Nat) (T : Tb) {n a b : Nat} (ha : a < m) (hb : b < m) : enc m T (m * (m * n + a) + b) = T n a b := by
  unfold enc
  have hm : 0 < m := by omega
  rw [Nat.mul_add_div hm, Nat.mul_add_mod, Nat.mod_eq_of_lt hb, Nat.div_eq_of_lt hb, Nat.add_zero, Nat.mul_add_div hm, Nat.mul_add_mod, Nat.mod_eq_of_lt ha, Nat.div_eq_of_lt ha, Nat.add_zero]
theorem enc_lt {m N n a b : Nat} (hn : n < N) (ha : a < m) (hb : b < m) : m * (m * n + a) + b < m * (m * N) := by
  have h1 : m * n + a + 1 ≤ m * N := by
    have : m * (n + 1) ≤ m * N := Nat.mul_le_mul_left m hn
    rw [Nat.mul_add, Nat.mul_one] at this
    omega
  have h2 : m * (m * n + a + 1) ≤ m * (m * N) := Nat.mul_le_mul_left m h1
  rw [Nat.mul_add, Nat.mul_one] at h2
  omega
/-- How many places a table fills. -/
def full (m N : Nat) (T : Tb) : Nat := Rk.cnt (m * (m * N)) (enc m T)
theorem full_le (m N : Nat) (T : Tb) : full m N T ≤ m * (m * N) := Rk.cnt_le _ _
theorem full_mono {m N : Nat} {T U : Tb} (h : ∀ n a b, T n a b = true → U n a b = true) : full m N T ≤ full m N U := Rk.cnt_mono _ fun _ _ hk => h _ _ _ hk
theorem full_lt {m N : Nat} {T U : Tb} (h : ∀ n a b, T n a b = true → U n a b = true) {n a b : Nat} (hn : n < N) (ha : a < m) (hb : b < m) (h0 : T n a b = false) (h1 : U n a b = true) : full m N T < full m N U :=
  Rk.cnt_lt _ (fun _ _ hk => h _ _ _ hk) _ (enc_lt hn ha hb) (by rw [enc_at m T ha hb]; exact h0) (by rw [enc_at m U ha hb]; exact h1)
theorem full_congr {m N : Nat} (hm : 0 < m) {T U : Tb} (h : ∀ n a b, n < N → a < m → b < m → T n a b = U n a b) : full m N T = full m N U := by
  have key : ∀ k, k < m * (m * N) → enc m T k = enc m U k := fun k hk => by
    unfold enc
    apply h
    · exact Nat.div_lt_of_lt_mul (Nat.div_lt_of_lt_mul hk)
    · exact Nat.mod_lt _ hm
    · exact Nat.mod_lt _ hm
  apply Nat.le_antisymm
  · exact Rk.cnt_mono _ fun k hk e => by rw [← key k hk]; exact e
  · exact Rk.cnt_mono _ fun k hk e => by rw [key k hk]; exact e
/-- The table as memory tells it. -/
def TW (rows : List RowD) (w : World) : Tb := fun n a b => match rows[n]? with
  | none => false
  | some r => match r.leaf[a]? with
    | none => false
    | some g => match w.cell? ⟨g, b, none⟩ with
      | some (.bool x) => x
      | _ => false
theorem Tab.tw {B0 m : Nat} {v : Value} {rows : List RowD} {T : Tb} {w : World} (h : Tab B0 m v rows T w) {n a b : Nat} (hn : n < rows.length) (ha : a < m) (hb : b < m) : TW rows w n a b = T n a b := by
  have h1 := h.one n hn
  have ha' : a < rows[n].leaf.length := by rw [h1.len_]; exact ha
  have hl := h1.leaf a ha'
  have hc : w.cell? ⟨rows[n].leaf[a], b, none⟩ = some (.bool (T n a b)) := by rw [hl.cell b, List.getElem?_toArray, bls_at _ hb]
  unfold TW
  rw [List.getElem?_eq_getElem hn]
  simp only
  rw [List.getElem?_eq_getElem ha']
  simp only
  rw [hc]
def flagN : Value → Nat
  | .bool true => 1
  | _ => 0
/-- What is left to be done. -/
def todo (m N : Nat) (rows : List RowD) (f : Value) (w : World) : Nat := 2 * (m * (m * N) - full m N (TW rows w)) + flagN f
theorem todo_is {B0 m N : Nat} {v f : Value} {rows : List RowD} {T : Tb} {w : World} (h : Tab B0 m v rows T w) (hN : rows.length = N) (hm : 0 < m) : todo m N rows f w = 2 * (m * (m * N) - full m N T) + flagN f := by
  unfold todo
  rw [full_congr hm (fun n a b hn ha hb => h.tw (by omega) ha hb)]
theorem todo_lt {g : Gr.Gm} {xs : List Int} {T0 T : Tb} {flag : Bool} {m N : Nat} (hs : Sweep g xs T0 T flag) (hm : m = xs.length + 1) (hN : g.nons.toNat = N) :
    2 * (m * (m * N) - full m N T) + flagN (.bool flag) < 2 * (m * (m * N) - full m N T0) + flagN (.bool true) := by
  have h1 := full_mono (m := m) (N := N) hs.grow
  have h2 := full_le m N T
  cases flag with
  | false => show _ + 0 < _ + 1; omega
  | true =>
    obtain ⟨n, a, b, hn, ha, hb, e0, e1⟩ := hs.more rfl
    have := full_lt (m := m) (N := N) hs.grow (n := n) (a := a) (b := b) (by omega) (by omega) (by omega) e0 e1
    show _ + 1 < _ + 1
    omega
end Go.Proofs.Ytckckejgocbkkaa
/- The reference's Spans (layer 8): which part of a word comes of each nonterminal. -/
namespace Go.Proofs.Ytckckejgocbkkaa
open Go.RowKit

/-- The tables of symbols, as far as they are put together: v's row; a token's table lies apart from it. -/
structure SyRel (lo m : Nat) (rows : List RowD) (xs : List Int) (right : List Gr.Sy) (v : Value) (vs : List Value) (w : World) : Prop where
  own : w.ownsRow lo 49 1 v vs.length vs
  ent : ∀ j (h : j < vs.length) (h2 : j < right.length), (right[j].non = true → ∃ n, ∃ hn : n < rows.length, right[j].n = (n : Int) ∧ vs[j] = RowD.cell m rows[n]) ∧
    (right[j].non = false → Row2 w (fun b => lo ≤ b ∧ b < w.heap.size ∧ v.ownBlock ≠ some b) vs[j] m (tok xs right[j].n))
section
variable {lo m : Nat} {rows : List RowD} {xs : List Int} {right : List Gr.Sy} {v : Value} {vs : List Value} {w wx w5 : World}
theorem SyRel.start (w : World) : SyRel w.heap.size m rows xs right (.slice (some ⟨w.heap.size, 0, none⟩) 0 0) [] (w.alloc (.cells #[] 49)) :=
  ⟨own_empty w _ _ (Nat.le_refl _), fun j hj => absurd hj (by simp)⟩
theorem SyRel.step (h : SyRel lo m rows xs right v vs w) (hlo : lo ≤ w.heap.size) (hb : Bl w wx) (hlt : vs.length < right.length) {x : Value}
    (hx1 : right[vs.length].non = true → ∃ n, ∃ hn : n < rows.length, right[vs.length].n = (n : Int) ∧ x = RowD.cell m rows[n])
    (hx2 : right[vs.length].non = false → Row2 wx (fun b => w.heap.size ≤ b ∧ b < wx.heap.size) x m (tok xs right[vs.length].n)) {o : Obj} {g cap : Nat}
    (ho5 : w5.ownsRow lo 49 1 (.slice (some ⟨g, 0, none⟩) (vs.length + 1) cap) (vs.length + 1) (vs ++ [x])) (hg5 : (wx.alloc o).grownBy w5 v.ownBlock) (hgl : v.ownBlock = some g ∨ g = (wx.alloc o).heap.size) :
    SyRel lo m rows xs right (.slice (some ⟨g, 0, none⟩) (vs.length + 1) cap) (vs ++ [x]) w5 := by
  have hba : Bl w (wx.alloc o) := hb.alloc o
  have hs5 := hg5.size
  rw [World.size_alloc] at hs5 hgl
  have hsx : w.heap.size ≤ wx.heap.size := hb.size
  have keep : ∀ b, b < wx.heap.size → v.ownBlock ≠ some b → w5.heap[b]? = (wx.alloc o).heap[b]? := fun b h1 h2 => hg5.block b (by rw [World.size_alloc]; omega) fun e => h2 e.symm
  have hnew : ∀ b, b < wx.heap.size → v.ownBlock ≠ some b → (Value.slice (some ⟨g, 0, none⟩) (vs.length + 1) cap).ownBlock ≠ some b := fun b h1 h2 e => by
    have e1 : g = b := by simpa [Value.ownBlock] using e
    rcases hgl with e2 | e2
    · exact h2 (by rw [e2, e1])
    · omega
  refine ⟨by rw [List.length_append]; exact ho5, fun j hj hj2 => ?_⟩
  rcases Nat.lt_or_ge j vs.length with hlt' | hge
  · rw [List.getElem_append_left hlt']
    obtain ⟨h1, h2⟩ := h.ent j hlt' hj2
    refine ⟨h1, fun e => ?_⟩
    refine ((h2 e).keep (w' := w5) fun b hP => ?_).mono fun b hP => ⟨hP.1, by omega, hnew b (by omega) hP.2.2⟩
    rw [keep b (by omega) hP.2.2]
    exact hba.block b hP.2.1
  · have e : j = vs.length := by rw [List.length_append] at hj; simp at hj; omega
    subst e
    rw [List.getElem_append_right (Nat.le_refl _)]
    simp only [Nat.sub_self, List.getElem_cons_zero]
    refine ⟨hx1, fun e => ?_⟩
    have hv : ∀ b, w.heap.size ≤ b → v.ownBlock ≠ some b := fun b hb e => by have := (h.own.lt b e).2; omega
    refine ((hx2 e).keep (w' := w5) fun b hP => ?_).mono fun b hP => ⟨by omega, by omega, hnew b hP.2 (hv b hP.1)⟩
    rw [keep b hP.2 (hv b hP.1)]
    exact Below.heap_alloc wx o b hP.2
/-- The tables of symbols, put together, when nothing turns but blocks below lo. -/
theorem SyRel.row3 {B0 : Nat} {vo : Value} {T : Cf.Tb} {A : Option Addr} {k c : Nat} {wl : World} (h : SyRel lo m rows xs right (.slice A k c) vs wl) (hl : vs.length = right.length) (hf : Fr (fun b => b < lo) wl w) (ht : Tab B0 m vo rows T w) :
    Row3 w (fun b => b < w.heap.size) A m (right.map (Cf.sym T xs)) := by
  have hs : wl.heap.size ≤ w.heap.size := hf.size
  have hblk : ∀ b, lo ≤ b → b < wl.heap.size → w.heap[b]? = wl.heap[b]? := fun b h1 h2 => hf.block b h2 (by omega)
  refine ⟨vs, by rw [List.length_map]; exact hl, ?_, fun i h1 h2 => ?_⟩
  · intro hn
    obtain ⟨g, cap, e, _, _⟩ := h.own.form hn
    have ho := h.own
    rw [e] at ho
    injection e with e1 _ _
    subst e1
    exact ((RdP.of_own (P := fun b => lo ≤ b ∧ b < wl.heap.size) ho fun b h1 h2 => ⟨h1, h2⟩).keep (w' := w) fun b hP => hblk b hP.1 hP.2).mono (fun b hP => by omega) hn
  · rw [List.getElem_map]
    obtain ⟨g1, g2⟩ := h.ent i h1 (by omega)
    have hi : i < right.length := by omega
    cases e : right[i].non with
    | true =>
      obtain ⟨n, hn, e1, e2⟩ := g1 e
      rw [e2]
      have : Cf.sym T xs right[i] = T n := by
        funext a b
        unfold Cf.sym
        rw [if_pos e, e1, Int.toNat_natCast]
      rw [this]
      exact (ht.row2 hn).mono fun b hP => hP.2
    | false =>
      have : Cf.sym T xs right[i] = tok xs right[i].n := by
        funext a b
        unfold Cf.sym tok
        rw [if_neg (by rw [e]; decide)]
      rw [this]
      exact ((g2 e).keep fun b hP => hblk b hP.1 hP.2.1).mono fun b hP => by omega
end
/-- What row tells, by what symbols lead to. -/
theorem walk_ch {T : Cf.Tb} {xs : List Int} {right : List Gr.Sy} {a b : Nat} (hb : b < xs.length + 1) : walkF (right.map (Cf.sym T xs)) (upd (fun _ => false) a true) b = true ↔ Cf.Ch T xs right a b := by
  rw [walkF_map, Cf.walk_iff (by omega)]
  constructor
  · rintro ⟨a', h1, h2⟩
    unfold upd at h1
    split at h1
    · rename_i e; subst e; exact h2
    · cases h1
  · intro h
    exact ⟨a, by unfold upd; rw [if_pos rfl], h⟩
end Go.Proofs.Ytckckejgocbkkaa
