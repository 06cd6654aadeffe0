/- A derivation on its way, in memory: the word, the stack, the nodes and their places. -/
import Derived.Test.YtmdepbgcgkifpaaTStk
import Derived.Test.YtmdepbgcgkifpaaTMc
import Derived.Test.YtmdepbgcgkifpaaTSym
namespace Go.Proofs.Ytmdepbgcgkifpaa
open Go.RowKit

namespace Dv
open Gr (Sy)
/-- How much of a stack is left to look at. -/
def todo (S : List (Nat × List Sy)) : Nat := (S.map fun x => x.2.length + 1).sum
theorem todo_cons (n : Nat) (r : List Sy) (S : List (Nat × List Sy)) : todo ((n, r) :: S) = r.length + 1 + todo S := rfl
theorem todo_len (S : List (Nat × List Sy)) : S.length ≤ todo S := by
  induction S with
  | nil => exact Nat.zero_le _
  | cons x S ih =>
    obtain ⟨n, r⟩ := x
    rw [todo_cons, List.length_cons]
    omega
/-- No row becomes longer than K. -/
def Bd (K : Nat) (u : List Int) (S : List (Nat × List Sy)) (ats : List (List Int)) : Prop := u.length + todo S ≤ K ∧ ∀ n, (ats.getD n []).length + todo S ≤ K
theorem addAll_get (ats : List (List Int)) (n m : Nat) (q : List Int) : ((addAll ats n q).getD m []).length ≤ (ats.getD m []).length + q.length := by
  unfold addAll
  rw [List.getD_eq_getElem?_getD, List.getElem?_set]
  by_cases h : n = m
  · subst h
    rw [if_pos rfl]
    by_cases h2 : n < ats.length
    · rw [if_pos h2, Option.getD_some, List.length_append]; exact Nat.le_refl _
    · rw [if_neg h2]; exact Nat.zero_le _
  · rw [if_neg h, ← List.getD_eq_getElem?_getD]; omega
theorem Bd.go {K n : Nat} {x : Int} {u u' : List Int} {S S' : List (Nat × List Sy)} {ats : List (List Int)} (h : Bd K u S ats) (hS : todo S' + 1 ≤ todo S) (hu : u'.length ≤ u.length + 1) : Bd K u' S' (addAll ats n [x]) := by
  refine ⟨by have := h.1; omega, fun m => ?_⟩
  have h1 := h.2 m
  have h2 := addAll_get ats n m [x]
  rw [List.length_singleton] at h2
  omega
theorem Bd.push {K K' n : Nat} {r : List Sy} {u : List Int} {S : List (Nat × List Sy)} {ats : List (List Int)} (h : Bd K u S ats) (hK : K + (r.length + 1) ≤ K') : Bd K' u ((n, r) :: S) ats := by
  unfold Bd
  rw [todo_cons]
  exact ⟨by have := h.1; omega, fun m => by have := h.2 m; omega⟩
end Dv

theorem grow_fr {w w1 w2 : World} {row : Option Nat} (hb : Bl w w1) (hg : w1.grownBy w2 row) : Fr (fun k => row = some k) w w2 := (Fr.of_bl hb).grown hg fun _ hk _ => hk
theorem below_fr {S : Nat → Prop} {lo : Nat} {w w' : World} (hf : Fr S w w') (hS : ∀ k, S k → lo ≤ k) (hlo : lo ≤ w.heap.size) : Below lo w w' :=
  ⟨hf.os, hf.tape, hf.output, hf.size, fun k hk => hf.block k (Nat.lt_of_lt_of_le hk hlo) fun hs => absurd (hS k hs) (by omega)⟩

/-- Where a node lies: the first alone, the others side by side. -/
def nblk (n0 nb n : Nat) : Nat := if n = 0 then n0 else nb
def noff (n : Nat) : Nat := if n = 0 then 0 else (n - 1) * 2
theorem nblk_succ (n0 nb n : Nat) : nblk n0 nb (n + 1) = nb := rfl
theorem noff_succ (n : Nat) : noff (n + 1) = n * 2 := rfl
/-- The stack's cells: the innermost node last. -/
inductive SK (w : World) (lo n0 nb : Nat) : List (Nat × List Gr.Sy) → List Value → Prop
  | nil : SK w lo n0 nb [] []
  | cons {n c : Nat} {r : List Gr.Sy} {A : Option Addr} {S : List (Nat × List Gr.Sy)} {cs : List Value} : SK w lo n0 nb S cs → r.length ≤ c → RdS w lo A (syRow r) →
      SK w lo n0 nb ((n, r) :: S) (cs ++ [.pointer (some ⟨nblk n0 nb n, noff n, none⟩), .slice A r.length c])
section
variable {w w' : World} {lo n0 nb : Nat} {S : List (Nat × List Gr.Sy)} {cs : List Value}
theorem SK.keep (h : SK w lo n0 nb S cs) (hb : Below lo w w') (hk : KeepT 43 w w') : SK w' lo n0 nb S cs := by
  induction h with
  | nil => exact .nil
  | cons _ hc hr ih => exact .cons ih hc (hr.keep hb hk)
theorem SK.len (h : SK w lo n0 nb S cs) : cs.length = S.length * 2 := by
  induction h with
  | nil => rfl
  | cons _ _ _ ih => rw [List.length_append, ih, List.length_cons]; simp; omega
theorem SK.inv {n : Nat} {r : List Gr.Sy} (h : SK w lo n0 nb ((n, r) :: S) cs) : ∃ ds A c, cs = ds ++ [.pointer (some ⟨nblk n0 nb n, noff n, none⟩), .slice A r.length c] ∧ SK w lo n0 nb S ds ∧ r.length ≤ c ∧ RdS w lo A (syRow r) := by
  generalize e : ((n, r) :: S) = T at h
  cases h with
  | nil => cases e
  | cons h1 h2 h3 => cases e; exact ⟨_, _, _, rfl, h1, h2, h3⟩
end
/-- Rows of ints of the call's own, no two in one block. -/
structure Fam (w : World) (lo : Nat) (f : Nat → Value) (rows : List (List Int)) : Prop where
  own : ∀ i, i < rows.length → w.ownsRow lo 3 1 (f i) (rows.getD i []).length (ins (rows.getD i []))
  apart : ∀ i j k, i < rows.length → j < rows.length → i ≠ j → (f i).ownBlock = some k → (f j).ownBlock ≠ some k
/-- f, but v at i. -/
def setF (f : Nat → Value) (i : Nat) (v : Value) : Nat → Value := fun j => if j = i then v else f j
theorem setF_at (f : Nat → Value) (i : Nat) (v : Value) : setF f i v i = v := if_pos rfl
theorem setF_ne (f : Nat → Value) {i j : Nat} (v : Value) (h : j ≠ i) : setF f i v j = f j := if_neg h
section
variable {w w' w1 w2 : World} {lo : Nat} {f : Nat → Value} {rows : List (List Int)}
theorem Fam.keep {S : Nat → Prop} (h : Fam w lo f rows) (hf : Fr S w w') (hS : ∀ k, S k → Ty w k 3 → False) : Fam w' lo f rows :=
  ⟨fun i hi => own_fr (h.own i hi) hf fun k hk hs => hS k hs (own_ty (h.own i hi) hk), h.apart⟩
theorem Fam.bl (h : Fam w lo f rows) (hb : Bl w w') : Fam w' lo f rows := ⟨fun i hi => own_bl (h.own i hi) hb, h.apart⟩
theorem Fam.grow (h : Fam w lo f rows) {i : Nat} (hi : i < rows.length) {v2 : Value} {x : Int} (hb : Bl w w1) (ho : w2.ownsRow lo 3 1 v2 ((rows.getD i []).length + 1) (ins (rows.getD i [] ++ [x]))) (hg : w1.grownBy w2 (f i).ownBlock)
    (hl : v2.ownBlock = (f i).ownBlock ∨ v2.ownBlock = some w1.heap.size) : Fam w2 lo (setF f i v2) (rows.set i (rows.getD i [] ++ [x])) := by
  have hv : ∀ j k, j < rows.length → j ≠ i → (f j).ownBlock = some k → v2.ownBlock ≠ some k := fun j k hj hne hk e => by
    rcases hl with h1 | h1
    · exact h.apart j i k hj hi hne hk (h1 ▸ e)
    · rw [h1] at e
      injection e with e
      have := ((h.own j hj).lt k hk).2
      have := hb.size
      omega
  refine ⟨fun j hj => ?_, fun a b k ha hb' hab hk => ?_⟩
  · rw [List.length_set] at hj
    by_cases e : j = i
    · subst e
      have e2 : (rows.set j (rows.getD j [] ++ [x])).getD j [] = rows.getD j [] ++ [x] := by rw [List.getD_eq_getElem?_getD, List.getElem?_set, if_pos rfl, if_pos hj]; rfl
      rw [setF_at, e2, List.length_append]
      exact ho
    · have e2 : (rows.set i (rows.getD i [] ++ [x])).getD j [] = rows.getD j [] := by rw [List.getD_eq_getElem?_getD, List.getElem?_set, if_neg (fun h => e h.symm), ← List.getD_eq_getElem?_getD]
      rw [setF_ne _ _ e, e2]
      refine World.ownsRow.kept (own_bl (h.own j hj) hb) hg ?_
      cases hk : (f j).ownBlock with
      | none => exact .inl rfl
      | some k => exact .inr fun e3 => h.apart j i k hj hi e hk e3.symm
  · rw [List.length_set] at ha hb'
    by_cases e : a = i
    · subst e
      rw [setF_at] at hk
      rw [setF_ne _ _ (fun h => hab h.symm)]
      exact fun e3 => hv b k hb' (fun h => hab h.symm) e3 hk
    · rw [setF_ne _ _ e] at hk
      by_cases e2 : b = i
      · subst e2
        rw [setF_at]
        exact hv a k ha e hk
      · rw [setF_ne _ _ e2]
        exact h.apart a b k ha hb' hab hk
end
/-- The nodes: each one's places, and the productions of the first ones. -/
def NdM (w : World) (n0 nb N : Nat) (f : Nat → Value) (don : List Int) : Prop :=
  ∃ c0 cN : Array Value, Bk w n0 53 c0 ∧ Bk w nb 53 cN ∧ n0 ≠ nb ∧ c0.size = 2 ∧ cN.size = N * 2 ∧ c0[1]? = some (f 1) ∧ (∀ n, n < N → cN[n * 2 + 1]? = some (f (n + 2))) ∧
    don.length ≤ N ∧ ∀ i, i < don.length → cN[i * 2]? = some (.int .i64 (don.getD i 0))
section
variable {w w' : World} {n0 nb N : Nat} {f : Nat → Value} {don : List Int}
theorem NdM.keep {S : Nat → Prop} (h : NdM w n0 nb N f don) (hf : Fr S w w') (hS : ∀ k, S k → Ty w k 53 → False) : NdM w' n0 nb N f don := by
  obtain ⟨c0, cN, h0, hN, rest⟩ := h
  exact ⟨c0, cN, h0.fr hf fun hs => hS _ hs h0.ty, hN.fr hf fun hs => hS _ hs hN.ty, rest⟩
theorem NdM.bl (h : NdM w n0 nb N f don) (hb : Bl w w') : NdM w' n0 nb N f don := h.keep (S := fun _ => False) (Fr.of_bl hb) fun _ h _ => h
theorem NdM.cell (h : NdM w n0 nb N f don) {n : Nat} (hn : n < N + 1) : w.cell? ⟨nblk n0 nb n, noff n + 1, none⟩ = some (f (n + 1)) ∧ w.frozen? ⟨nblk n0 nb n, noff n + 1, none⟩ = false ∧ nblk n0 nb n < w.heap.size := by
  obtain ⟨c0, cN, h0, hN, _, _, _, h1, h2, _⟩ := h
  cases n with
  | zero => exact ⟨(h0.cell 1).trans h1, h0.free 1, h0.lt⟩
  | succ n =>
    rw [nblk_succ, noff_succ]
    exact ⟨(hN.cell _).trans (h2 n (by omega)), hN.free _, hN.lt⟩
theorem NdM.put (h : NdM w n0 nb N f don) {n : Nat} (hn : n < N + 1) (v : Value) : NdM (w.setCell ⟨nblk n0 nb n, noff n + 1, none⟩ v) n0 nb N (setF f (n + 1) v) don := by
  obtain ⟨c0, cN, h0, hN, hne, s0, sN, h1, h2, h3, h4⟩ := h
  cases n with
  | zero =>
    refine ⟨c0.setIfInBounds 1 v, cN, h0.put 1 v, hN.far (p := ⟨n0, 1, none⟩) (fun e => hne e.symm) v, hne, by simp [s0], sN, ?_, fun n hn => ?_, h3, h4⟩
    · rw [Array.getElem?_setIfInBounds, if_pos rfl, if_pos (by omega), setF_at]
    · rw [setF_ne _ _ (by omega)]; exact h2 n hn
  | succ m =>
    refine ⟨c0, cN.setIfInBounds (m * 2 + 1) v, h0.far (p := ⟨nb, m * 2 + 1, none⟩) hne v, hN.put (m * 2 + 1) v, hne, s0, by simp [sN], ?_, fun n hn => ?_, h3, fun i hi => ?_⟩
    · rw [setF_ne _ _ (by omega)]; exact h1
    · rw [Array.getElem?_setIfInBounds]
      by_cases e : m = n
      · subst e
        rw [if_pos rfl, if_pos (by omega), setF_at]
      · rw [if_neg (by omega), setF_ne _ _ (by omega)]; exact h2 n hn
    · rw [Array.getElem?_setIfInBounds, if_neg (by omega)]; exact h4 i hi
theorem NdM.prodCell (h : NdM w n0 nb N f don) {i : Nat} (hi : i < N) : (∃ u, w.cell? ⟨nb, i * 2, none⟩ = some u) ∧ w.frozen? ⟨nb, i * 2, none⟩ = false ∧ nb < w.heap.size := by
  obtain ⟨c0, cN, h0, hN, _, _, sN, _⟩ := h
  exact ⟨⟨_, (hN.cell _).trans (Array.getElem?_eq_getElem (by omega))⟩, hN.free _, hN.lt⟩
theorem NdM.prod (h : NdM w n0 nb N f don) {i : Nat} (hi : i < N) (hd : don.length = i) (p : Int) : NdM (w.setCell ⟨nb, i * 2, none⟩ (.int .i64 p)) n0 nb N f (don ++ [p]) := by
  obtain ⟨c0, cN, h0, hN, hne, s0, sN, h1, h2, h3, h4⟩ := h
  refine ⟨c0, cN.setIfInBounds (i * 2) (.int .i64 p), h0.far (p := ⟨nb, i * 2, none⟩) hne _, hN.put (i * 2) _, hne, s0, by simp [sN], h1, fun n hn => ?_, by rw [List.length_append, List.length_singleton]; omega, fun j hj => ?_⟩
  · rw [Array.getElem?_setIfInBounds, if_neg (by omega)]; exact h2 n hn
  · rw [List.length_append, List.length_singleton] at hj
    rw [Array.getElem?_setIfInBounds]
    by_cases e : i = j
    · subst e
      rw [if_pos rfl, if_pos (by omega), List.getD_eq_getElem?_getD, List.getElem?_append_right (by omega), hd, Nat.sub_self]; rfl
    · rw [if_neg (by omega), List.getD_eq_getElem?_getD, List.getElem?_append_left (by omega), ← List.getD_eq_getElem?_getD]
      exact h4 j (by omega)
end

/-- A derivation on its way. -/
structure DRel (lo dd n0 nb N : Nat) (u : List Int) (S : List (Nat × List Gr.Sy)) (ats : List (List Int)) (don : List Int) (f : Nat → Value) (vl : Value) (cs : List Value) (w : World) : Prop where
  bd : Bk w dd 63 #[f 0, vl]
  st : w.ownsRow lo 67 2 vl S.length cs
  sk : SK w lo n0 nb S cs
  ids : Dv.Ids S (N + 1)
  len : ats.length = N + 1
  fam : Fam w lo f (u :: ats)
  nd : NdM w n0 nb N f don
  los : lo ≤ dd ∧ lo ≤ n0 ∧ lo ≤ nb
section
variable {lo dd n0 nb N : Nat} {u : List Int} {S : List (Nat × List Gr.Sy)} {ats : List (List Int)} {don : List Int} {f : Nat → Value} {vl : Value} {cs : List Value} {w w' w1 w2 : World}
theorem DRel.lt (h : DRel lo dd n0 nb N u S ats don f vl cs w) : dd < w.heap.size ∧ n0 < w.heap.size ∧ nb < w.heap.size ∧ lo ≤ w.heap.size := by
  obtain ⟨c0, cN, h0, hN, _⟩ := h.nd
  exact ⟨h.bd.lt, h0.lt, hN.lt, Nat.le_trans h.los.1 (Nat.le_of_lt h.bd.lt)⟩
theorem DRel.keep {T : Nat → Prop} (h : DRel lo dd n0 nb N u S ats don f vl cs w) (hf : Fr T w w') (h0 : ∀ k, T k → lo ≤ k) (h1 : ∀ k, T k → Ty w k 63 → False) (h2 : ∀ k, T k → Ty w k 67 → False) (h3 : ∀ k, T k → Ty w k 43 → False)
    (h4 : ∀ k, T k → Ty w k 3 → False) (h5 : ∀ k, T k → Ty w k 53 → False) : DRel lo dd n0 nb N u S ats don f vl cs w' :=
  ⟨h.bd.fr hf fun hs => h1 _ hs h.bd.ty, own_fr h.st hf fun k hk hs => h2 k hs (own_ty h.st hk), h.sk.keep (below_fr hf h0 h.lt.2.2.2) (.of_fr hf h3), h.ids, h.len, h.fam.keep hf h4, h.nd.keep hf h5, h.los⟩
theorem DRel.bl (h : DRel lo dd n0 nb N u S ats don f vl cs w) (hb : Bl w w') : DRel lo dd n0 nb N u S ats don f vl cs w' := h.keep (T := fun _ => False) (Fr.of_bl hb) (fun _ h => h.elim) (fun _ h _ => h) (fun _ h _ => h) (fun _ h _ => h) (fun _ h _ => h) (fun _ h _ => h)
theorem DRel.cut {n : Nat} {r : List Gr.Sy} {vl' : Value} {ds : List Value} (h : DRel lo dd n0 nb N u ((n, r) :: S) ats don f vl cs w) (hb : Bk w' dd 63 #[f 0, vl']) (ho : w'.ownsRow lo 67 2 vl' S.length ds)
    (hs : SK w lo n0 nb S ds) (hf : Fr (fun k => k = dd) w w') : DRel lo dd n0 nb N u S ats don f vl' ds w' := by
  have no : ∀ t, t ≠ 63 → ∀ k, k = dd → Ty w k t → False := fun t ht k hk hT => by subst hk; exact hT.ne h.bd.ty ht
  exact ⟨hb, ho, hs.keep (below_fr hf (fun k hk => hk ▸ h.los.1) h.lt.2.2.2) (.of_fr hf (no _ (by decide))), h.ids.tail, h.len, h.fam.keep hf (no _ (by decide)), h.nd.keep hf (no _ (by decide)), h.los⟩
theorem DRel.more {n c : Nat} {r : List Gr.Sy} {A : Option Addr} {vl' : Value} (h : DRel lo dd n0 nb N u S ats don f vl cs w) (hn : n < N + 1) (hc : r.length ≤ c) (hr : RdS w lo A (syRow r))
    (hb : Bk w' dd 63 #[f 0, vl']) (ho : w'.ownsRow lo 67 2 vl' (S.length + 1) (cs ++ [.pointer (some ⟨nblk n0 nb n, noff n, none⟩), .slice A r.length c])) (hf : Fr (fun k => k = dd ∨ vl.ownBlock = some k) w w') :
    DRel lo dd n0 nb N u ((n, r) :: S) ats don f vl' (cs ++ [.pointer (some ⟨nblk n0 nb n, noff n, none⟩), .slice A r.length c]) w' := by
  have no : ∀ t, t ≠ 63 → t ≠ 67 → ∀ k, (k = dd ∨ vl.ownBlock = some k) → Ty w k t → False := fun t ht ht2 k hk hT => by
    rcases hk with hk | hk
    · subst hk; exact hT.ne h.bd.ty ht
    · exact hT.ne (own_ty h.st hk) ht2
  have hbl := below_fr hf (fun k hk => by
    rcases hk with hk | hk
    · exact hk ▸ h.los.1
    · exact (h.st.lt k hk).1) h.lt.2.2.2
  exact ⟨hb, ho, .cons (h.sk.keep hbl (.of_fr hf (no _ (by decide) (by decide)))) hc (hr.keep hbl (.of_fr hf (no _ (by decide) (by decide)))), .cons hn h.ids, h.len, h.fam.keep hf (no _ (by decide) (by decide)), h.nd.keep hf (no _ (by decide) (by decide)), h.los⟩
/-- What a row of ints of the derivation's own may be written in, and nothing else, leaves. -/
theorem DRel.rows (h : DRel lo dd n0 nb N u S ats don f vl cs w) {i : Nat} (hi : i < N + 2) (hb : Bl w w1) (hg : w1.grownBy w2 (f i).ownBlock) :
    Bk w2 dd 63 #[f 0, vl] ∧ w2.ownsRow lo 67 2 vl S.length cs ∧ SK w2 lo n0 nb S cs ∧ NdM w2 n0 nb N f don ∧ Fr (fun k => (f i).ownBlock = some k) w w2 := by
  have hf := grow_fr hb hg
  have ho := h.fam.own i (by rw [List.length_cons, h.len]; omega)
  have no : ∀ t, t ≠ 3 → ∀ k, (f i).ownBlock = some k → Ty w k t → False := fun t ht k hk hT => hT.ne (own_ty ho hk) ht
  exact ⟨h.bd.fr hf fun hs => no _ (by decide) _ hs h.bd.ty, own_fr h.st hf fun k hk hs => no _ (by decide) k hs (own_ty h.st hk), h.sk.keep (below_fr hf (fun k hk => (ho.lt k hk).1) h.lt.2.2.2) (.of_fr hf (no _ (by decide))), h.nd.keep hf (no _ (by decide)), hf⟩
theorem DRel.place (h : DRel lo dd n0 nb N u S ats don f vl cs w) {n : Nat} (hn : n < N + 1) {v2 : Value} {x : Int} (hb : Bl w w1) (ho : w2.ownsRow lo 3 1 v2 ((ats.getD n []).length + 1) (ins (ats.getD n [] ++ [x]))) (hg : w1.grownBy w2 (f (n + 1)).ownBlock)
    (hl : v2.ownBlock = (f (n + 1)).ownBlock ∨ v2.ownBlock = some w1.heap.size) :
    DRel lo dd n0 nb N u S (Dv.addAll ats n [x]) don (setF f (n + 1) v2) vl cs (w2.setCell ⟨nblk n0 nb n, noff n + 1, none⟩ v2) ∧ Below lo w (w2.setCell ⟨nblk n0 nb n, noff n + 1, none⟩ v2) := by
  obtain ⟨r1, r2, r3, r4, r5⟩ := h.rows (i := n + 1) (by omega) hb hg
  have hi : n + 1 < (u :: ats).length := by rw [List.length_cons, h.len]; omega
  have hF := h.fam.grow hi hb ho hg hl
  have hT : Ty w2 (nblk n0 nb n) 53 := by
    obtain ⟨c0, cN, h0, hN, _⟩ := r4
    cases n with
    | zero => exact h0.ty
    | succ n => exact hN.ty
  have hf : Fr (fun k => k = nblk n0 nb n) w2 (w2.setCell ⟨nblk n0 nb n, noff n + 1, none⟩ v2) := (Fr.refl _ w2).own _ _
  have no : ∀ t, t ≠ 53 → ∀ k, k = nblk n0 nb n → Ty w2 k t → False := fun t ht k hk h' => by subst hk; exact h'.ne hT ht
  have hlo : lo ≤ nblk n0 nb n := by
    cases n with
    | zero => exact h.los.2.1
    | succ n => exact h.los.2.2
  have hlo2 : lo ≤ w2.heap.size := Nat.le_trans h.lt.2.2.2 r5.size
  refine ⟨⟨?_, own_fr r2 hf fun k hk hs => no _ (by decide) k hs (own_ty r2 hk), r3.keep (below_fr hf (fun k hk => hk ▸ hlo) hlo2) (.of_fr hf (no _ (by decide))), h.ids, by rw [Dv.addAll_len]; exact h.len, hF.keep hf (no _ (by decide)), r4.put hn v2, h.los⟩, ?_⟩
  · rw [setF_ne _ _ (by omega)]
    exact r1.fr hf fun hs => no _ (by decide) _ hs r1.ty
  · exact Below.setCell (below_fr r5 (fun k hk => ((h.fam.own (n + 1) hi).lt k hk).1) h.lt.2.2.2) hlo _
theorem DRel.word (h : DRel lo dd n0 nb N u S ats don f vl cs w) {v2 : Value} {x : Int} (hb : Bl w w1) (ho : w2.ownsRow lo 3 1 v2 (u.length + 1) (ins (u ++ [x]))) (hg : w1.grownBy w2 (f 0).ownBlock)
    (hl : v2.ownBlock = (f 0).ownBlock ∨ v2.ownBlock = some w1.heap.size) :
    DRel lo dd n0 nb N (u ++ [x]) S ats don (setF f 0 v2) vl cs (w2.setCell ⟨dd, 0, none⟩ v2) ∧ Below lo w (w2.setCell ⟨dd, 0, none⟩ v2) := by
  obtain ⟨r1, r2, r3, r4, r5⟩ := h.rows (i := 0) (by omega) hb hg
  have hi : 0 < (u :: ats).length := by rw [List.length_cons]; omega
  have hF := h.fam.grow hi hb ho hg hl
  have hf : Fr (fun k => k = dd) w2 (w2.setCell ⟨dd, 0, none⟩ v2) := (Fr.refl _ w2).own _ _
  have no : ∀ t, t ≠ 63 → ∀ k, k = dd → Ty w2 k t → False := fun t ht k hk h' => by subst hk; exact h'.ne r1.ty ht
  have hlo2 : lo ≤ w2.heap.size := Nat.le_trans h.lt.2.2.2 r5.size
  refine ⟨⟨?_, own_fr r2 hf fun k hk hs => no _ (by decide) k hs (own_ty r2 hk), r3.keep (below_fr hf (fun k hk => hk ▸ h.los.1) hlo2) (.of_fr hf (no _ (by decide))), h.ids, h.len, hF.keep hf (no _ (by decide)), ?_, h.los⟩, ?_⟩
  · rw [setF_at]; exact r1.put 0 v2
  · obtain ⟨c0, cN, k1, k2, k3, k4, k5, k6, k7, k8⟩ := r4.keep hf (no _ (by decide))
    exact ⟨c0, cN, k1, k2, k3, k4, k5, by rw [setF_ne _ _ (by omega)]; exact k6, fun n hn => by rw [setF_ne _ _ (by omega)]; exact k7 n hn, k8⟩
  · exact Below.setCell (below_fr r5 (fun k hk => ((h.fam.own 0 hi).lt k hk).1) h.lt.2.2.2) h.los.1 _
theorem DRel.prod (h : DRel lo dd n0 nb N u S ats don f vl cs w) {i : Nat} (hi : i < N) (hd : don.length = i) (p : Int) :
    DRel lo dd n0 nb N u S ats (don ++ [p]) f vl cs (w.setCell ⟨nb, i * 2, none⟩ (.int .i64 p)) ∧ Below lo w (w.setCell ⟨nb, i * 2, none⟩ (.int .i64 p)) := by
  have hT : Ty w nb 53 := by obtain ⟨c0, cN, h0, hN, _⟩ := h.nd; exact hN.ty
  have hf : Fr (fun k => k = nb) w (w.setCell ⟨nb, i * 2, none⟩ (.int .i64 p)) := (Fr.refl _ w).own _ _
  have no : ∀ t, t ≠ 53 → ∀ k, k = nb → Ty w k t → False := fun t ht k hk h' => by subst hk; exact h'.ne hT ht
  exact ⟨⟨h.bd.fr hf fun hs => no _ (by decide) _ hs h.bd.ty, own_fr h.st hf fun k hk hs => no _ (by decide) k hs (own_ty h.st hk), h.sk.keep (below_fr hf (fun k hk => hk ▸ h.los.2.2) h.lt.2.2.2) (.of_fr hf (no _ (by decide))), h.ids, h.len, h.fam.keep hf (no _ (by decide)), h.nd.prod hi hd p, h.los⟩,
    Below.setCell (Below.refl _ _) h.los.2.2 _⟩
end
end Go.Proofs.Ytmdepbgcgkifpaa
