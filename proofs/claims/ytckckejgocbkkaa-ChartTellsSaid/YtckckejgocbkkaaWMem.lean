/- Words for memory, the second part: frames by sets of blocks; blocks that are known whole; rows of ints. No program is named here. -/
import Derived.Test.YtckckejgocbkkaaVMem
import Derived.Laws.Rows
namespace Go.Proofs.Ytckckejgocbkkaa
open Go.RowKit

/-- Of what was there nothing has turned outside S. -/
structure Fr (S : Nat → Prop) (w w' : World) : Prop where
  os : w'.os = w.os
  tape : w'.tape = w.tape
  output : w'.output = w.output
  size : w.heap.size ≤ w'.heap.size
  block : ∀ k, k < w.heap.size → ¬ S k → w'.heap[k]? = w.heap[k]?

section
variable {S T : Nat → Prop} {a b c : World}
theorem Fr.refl (S : Nat → Prop) (w : World) : Fr S w w := ⟨rfl, rfl, rfl, Nat.le_refl _, fun _ _ _ => rfl⟩
theorem Fr.trans (h : Fr S a b) (k : Fr T b c) (hT : ∀ i, i < a.heap.size → T i → S i) : Fr S a c :=
  ⟨k.os.trans h.os, k.tape.trans h.tape, k.output.trans h.output, Nat.le_trans h.size k.size, fun i hi hn =>
    (k.block i (Nat.lt_of_lt_of_le hi h.size) (fun ht => hn (hT i hi ht))).trans (h.block i hi hn)⟩
theorem Fr.same (h : Fr S a b) (k : Fr S b c) : Fr S a c := h.trans k fun _ _ h => h
theorem Fr.mono (h : Fr S a b) (hT : ∀ i, i < a.heap.size → S i → T i) : Fr T a b := ⟨h.os, h.tape, h.output, h.size, fun i hi hn => h.block i hi fun hs => hn (hT i hi hs)⟩
theorem Fr.drewN (h : Fr S a b) (n : Nat) : Fr S a (b.drewN n) := ⟨h.os, h.tape, h.output, h.size, h.block⟩
theorem Fr.drew (h : Fr S a b) : Fr S a b.drew := ⟨h.os, h.tape, h.output, h.size, h.block⟩
theorem Fr.undrewN {n : Nat} (h : Fr S (a.drewN n) b) : Fr S a b := ⟨h.os, h.tape, h.output, h.size, h.block⟩
theorem Fr.alloc (h : Fr S a b) (o : Obj) : Fr S a (b.alloc o) :=
  ⟨h.os, h.tape, h.output, Nat.le_trans h.size (by simp), fun i hi hn => (Below.heap_alloc b o i (Nat.lt_of_lt_of_le hi h.size)).trans (h.block i hi hn)⟩
theorem Fr.setCell (h : Fr S a b) {p : Addr} (hp : S p.block ∨ a.heap.size ≤ p.block) (u : Value) : Fr S a (b.setCell p u) :=
  ⟨h.os, h.tape, h.output, by simpa [World.setCell] using h.size, fun i hi hn => (Below.heap_setCell b p u i (by
    rintro rfl
    rcases hp with hp | hp
    · exact hn hp
    · omega)).trans (h.block i hi hn)⟩
theorem Fr.own {g : Nat} (h : Fr (fun k => k = g) a b) (o : Nat) (u : Value) : Fr (fun k => k = g) a (b.setCell ⟨g, o, none⟩ u) := h.setCell (p := ⟨g, o, none⟩) (.inl rfl) u
theorem Fr.grown (h : Fr S a b) {row : Option Nat} (hg : b.grownBy c row) (hr : ∀ k, row = some k → k < a.heap.size → S k) : Fr S a c :=
  ⟨hg.os.trans h.os, hg.tape.trans h.tape, hg.output.trans h.output, Nat.le_trans h.size hg.size, fun i hi hn =>
    (hg.block i (Nat.lt_of_lt_of_le hi h.size) (fun e => hn (hr i e.symm hi))).trans (h.block i hi hn)⟩
theorem Fr.of_bl (h : Bl a b) : Fr S a b := ⟨h.os, h.tape, h.output, h.size, fun i hi _ => h.block i hi⟩
theorem Fr.after (h : Fr S a b) (k : Bl b c) : Fr S a c := h.trans (Fr.of_bl (S := fun _ => False) k) fun _ _ h => h.elim
theorem Fr.bl (h : Fr S a b) (hS : ∀ i, i < a.heap.size → ¬ S i) : Bl a b := ⟨h.os, h.tape, h.output, h.size, fun i hi => h.block i hi (hS i hi)⟩
theorem Bl.fr (h : Bl a b) (k : Fr S b c) (hS : ∀ i, i < a.heap.size → ¬ S i) : Bl a c :=
  ((Fr.of_bl (S := fun _ => False) h).trans k fun i hi hs => (hS i hi hs).elim).bl fun _ _ h => h
theorem Fr.grownBy {row : Option Nat} (h : Fr (fun k => some k = row) a b) : a.grownBy b row := ⟨h.os, h.tape, h.output, h.size, fun i hi hn => h.block i hi hn⟩
theorem Fr.cell (h : Fr S a b) {p : Addr} (hp : p.block < a.heap.size) (hn : ¬ S p.block) : b.cell? p = a.cell? p := World.cell?_of_block (h.block p.block hp hn)
theorem Fr.frozen (h : Fr S a b) {p : Addr} (hp : p.block < a.heap.size) (hn : ¬ S p.block) : b.frozen? p = a.frozen? p := World.frozen?_of_block (h.block p.block hp hn)
end

theorem Bl.undrew {w w' : World} (h : Bl w.drew w') : Bl w w' := ⟨h.os, h.tape, h.output, h.size, h.block⟩
theorem Bl.undrewN {w w' : World} {n : Nat} (h : Bl (w.drewN n) w') : Bl w w' := ⟨h.os, h.tape, h.output, h.size, h.block⟩
theorem Fr.undrew {S : Nat → Prop} {w w' : World} (h : Fr S w.drew w') : Fr S w w' := ⟨h.os, h.tape, h.output, h.size, h.block⟩
/-- Block g is just the cells cs of element type t, none frozen. -/
def Bk (w : World) (g : Nat) (t : TypeId) (cs : Array Value) : Prop := w.heap[g]? = some (.cells cs t (0, 0))

section
variable {w w' : World} {g : Nat} {t : TypeId} {cs : Array Value}
theorem Bk.lt (h : Bk w g t cs) : g < w.heap.size := by
  unfold Bk at h
  rcases Nat.lt_or_ge g w.heap.size with hl | hl
  · exact hl
  · rw [Array.getElem?_eq_none hl] at h; cases h
theorem Bk.cell (h : Bk w g t cs) (i : Nat) : w.cell? ⟨g, i, none⟩ = cs[i]? := cell_of_row w g i cs t (0, 0) h
theorem Bk.free (h : Bk w g t cs) (i : Nat) : w.frozen? ⟨g, i, none⟩ = false := by
  unfold Bk at h
  simp [World.frozen?, h]
theorem Bk.new (w : World) (t : TypeId) (cs : Array Value) : Bk (w.alloc (.cells cs t)) w.heap.size t cs := heap_alloc_new w _
theorem Bk.drewN (h : Bk w g t cs) (n : Nat) : Bk (w.drewN n) g t cs := h
theorem Bk.drew (h : Bk w g t cs) : Bk w.drew g t cs := h
theorem Bk.alloc (h : Bk w g t cs) (o : Obj) : Bk (w.alloc o) g t cs := (Below.heap_alloc w o g h.lt).trans h
theorem Bk.put (h : Bk w g t cs) (i : Nat) (u : Value) : Bk (w.setCell ⟨g, i, none⟩ u) g t (cs.setIfInBounds i u) := by
  unfold Bk at h ⊢
  simp [World.setCell, Array.getElem?_modify, h]
theorem Bk.far (h : Bk w g t cs) {p : Addr} (hp : g ≠ p.block) (u : Value) : Bk (w.setCell p u) g t cs := (Below.heap_setCell w p u g hp).trans h
theorem Bk.fr {S : Nat → Prop} (h : Bk w g t cs) (hf : Fr S w w') (hg : ¬ S g) : Bk w' g t cs := (hf.block g h.lt hg).trans h
theorem Bk.bl (h : Bk w g t cs) (hb : Bl w w') : Bk w' g t cs := (hb.block g h.lt).trans h
theorem Bk.grown {row : Option Nat} (h : Bk w g t cs) (hb : w.grownBy w' row) (hg : some g ≠ row) : Bk w' g t cs := (hb.block g h.lt hg).trans h
theorem Bk.apart {g' : Nat} {t' : TypeId} {cs' : Array Value} (h : Bk w g t cs) (h' : Bk w g' t' cs') (hne : t ≠ t') : g ≠ g' := by
  rintro rfl
  unfold Bk at h h'
  rw [h] at h'
  injection h' with h'
  injection h' with _ ht
  exact hne ht
theorem Bk.row {base n size : Nat} {e : TypeId} {v : Value} {xs : List Value} (hg : Bk w g t cs) (h : w.ownsRow base e size v n xs) (hne : e ≠ t) : v.ownBlock ≠ some g := by
  rcases h.2 with ⟨rfl, _⟩ | ⟨g', cap, cur, rfl, _, hh, _⟩
  · simp [Value.ownBlock]
  · intro he
    have : g' = g := by simpa [Value.ownBlock] using he
    subst this
    exact Bk.apart (t := e) hh hg hne rfl
end

section
variable {w w' : World} {S : Nat → Prop} {base n size : Nat} {e : TypeId} {v : Value} {xs : List Value} {B : Nat} {A : Option Addr}
theorem own_fr (h : w.ownsRow base e size v n xs) (hf : Fr S w w') (hv : ∀ k, v.ownBlock = some k → ¬ S k) : w'.ownsRow base e size v n xs := by
  rcases h.2 with ⟨rfl, rfl⟩ | ⟨g, cap, cur, rfl, hb, hg, h1, h2, h3, h4⟩
  · exact ⟨h.1, .inl ⟨rfl, rfl⟩⟩
  · have hlt : g < w.heap.size := (h.lt g rfl).2
    exact ⟨h.1, .inr ⟨g, cap, cur, rfl, hb, (hf.block g hlt (hv g rfl)).trans hg, h1, h2, h3, h4⟩⟩
theorem own_bl (h : w.ownsRow base e size v n xs) (hb : Bl w w') : w'.ownsRow base e size v n xs := own_fr (S := fun _ => False) h (Fr.of_bl hb) fun _ _ h => h
theorem own_form (h : w.ownsRow base e size v n xs) : ∃ A c, v = .slice A n c ∧ n ≤ c := by
  rcases h.2 with ⟨rfl, rfl⟩ | ⟨g, cap, cur, rfl, _, _, hnc, _⟩
  · exact ⟨_, _, rfl, Nat.le_refl _⟩
  · exact ⟨_, _, rfl, hnc⟩
theorem own_drewN (h : w.ownsRow base e size v n xs) (k : Nat) : (w.drewN k).ownsRow base e size v n xs := h
theorem own_base {b' : Nat} (h : w.ownsRow base e size v n xs) (hb : ∀ k, v.ownBlock = some k → b' ≤ k) : w.ownsRow b' e size v n xs := by
  rcases h.2 with ⟨rfl, rfl⟩ | ⟨g, cap, cur, rfl, _, hg, h1, h2, h3, h4⟩
  · exact ⟨h.1, .inl ⟨rfl, rfl⟩⟩
  · exact ⟨h.1, .inr ⟨g, cap, cur, rfl, hb g rfl, hg, h1, h2, h3, h4⟩⟩
theorem Rd.fr (h : Rd w B A xs) (hB : B ≤ w.heap.size) (hf : Fr S w w') (hS : ∀ b off, A = some ⟨b, off, none⟩ → 0 < xs.length → ¬ S b) : Rd w' B A xs := fun hn => by
  obtain ⟨b, off, e, hb, hc⟩ := h hn
  exact ⟨b, off, e, hb, fun j u hu => (hf.cell (p := ⟨b, off + j, none⟩) (by show b < _; omega) (hS b off e hn)).trans (hc j u hu)⟩
theorem Rd.notin (h : Rd w B A xs) (hS : ∀ k, S k → B ≤ k) : ∀ b off, A = some ⟨b, off, none⟩ → 0 < xs.length → ¬ S b := fun b off e hn hs => by
  obtain ⟨b', off', e', hb, _⟩ := h hn
  rw [e'] at e
  injection e with e
  injection e with e1
  have := hS b hs
  omega
/-- Of a list what is behind the first k. -/
theorem Rd.cut (h : Rd w B A xs) {k cap : Nat} (hc : xs.length ≤ cap) : Rd w B (if cap = k then A else A.map (·.add k)) (xs.drop k) := fun hn => by
  rw [List.length_drop] at hn
  obtain ⟨b, off, e, hb, hcell⟩ := h (by omega)
  rw [if_neg (by omega)]
  refine ⟨b, off + k, ?_, hb, fun j u hu => ?_⟩
  · subst e
    simp only [Option.map_some, Addr.add]
    split
    · rename_i h0; subst h0; rfl
    · rfl
  · rw [List.getElem?_drop] at hu
    rw [Nat.add_assoc]
    exact hcell (k + j) u hu
end

/-- In no block of S below B lies a byte. -/
def NoByte (S : Nat → Prop) (B : Nat) (w : World) : Prop := ∀ k o c, S k → k < B → w.cell? ⟨k, o, none⟩ ≠ some (.int .u8 c)
theorem NoByte.above {S : Nat → Prop} {B : Nat} {w : World} (h : ∀ k, S k → B ≤ k) : NoByte S B w := fun k _ _ hs hk => absurd (h k hs) (by omega)
theorem Rd.bytes_fr {w w' : World} {S : Nat → Prop} {B : Nat} {A : Option Addr} {l : List Nat} (h : Rd w B A (bys l)) (hB : B ≤ w.heap.size) (hf : Fr S w w') (hS : NoByte S B w) : Rd w' B A (bys l) :=
  h.fr hB hf fun b off e hn hs => by
    rw [bys_len] at hn
    obtain ⟨b', off', e', hb, hc⟩ := h.byte hn
    rw [e'] at e
    injection e with e
    injection e with e1
    subst e1
    exact hS _ _ _ hs hb hc

/-- Ints as cells. -/
def ins (l : List Int) : List Value := l.map (Value.int .i64)
theorem ins_len (l : List Int) : (ins l).length = l.length := by simp [ins]
theorem ins_at (l : List Int) (j : Nat) (h : j < l.length) : (ins l)[j]? = some (.int .i64 l[j]) := by simp [ins, h]
theorem ins_append (l r : List Int) : ins (l ++ r) = ins l ++ ins r := by simp [ins]
theorem ins_one (l : List Int) : ∀ u ∈ ins l, u.oneCell' = true := by
  intro u hu
  obtain ⟨c, _, rfl⟩ := List.mem_map.1 hu
  rfl
theorem Rd.int {w : World} {B : Nat} {A : Option Addr} {l : List Int} (h : Rd w B A (ins l)) {j : Nat} (hj : j < l.length) : ∃ b off, A = some ⟨b, off, none⟩ ∧ b < B ∧ w.cell? ⟨b, off + j, none⟩ = some (.int .i64 l[j]) := by
  obtain ⟨b, off, e, hb, hc⟩ := h (by rw [ins_len]; omega)
  exact ⟨b, off, e, hb, hc j _ (ins_at l j hj)⟩
/-- Natural numbers as ints. -/
def ns (l : List Nat) : List Int := l.map fun n : Nat => (n : Int)
theorem ns_len (l : List Nat) : (ns l).length = l.length := by simp [ns]
theorem ns_append (l r : List Nat) : ns (l ++ r) = ns l ++ ns r := by simp [ns]
theorem ns_inj {l r : List Nat} (h : ns l = ns r) : l = r := by
  induction l generalizing r with
  | nil => cases r with
    | nil => rfl
    | cons a r => simp [ns] at h
  | cons a l ih => cases r with
    | nil => simp [ns] at h
    | cons b r =>
      simp only [ns, List.map_cons, List.cons.injEq] at h
      rw [ih h.2, show a = b by omega]
end Go.Proofs.Ytckckejgocbkkaa
