/- A derivation that is alone in closed sets is the only one; the only one is alone in the word's own sets. -/
import Derived.Test.YtdfhhbncmdpoeaaClAln
import Derived.Test.YtdfhhbncmdpoeaaClMth
import Derived.Test.YtdfhhbncmdpoeaaPlainS
namespace Go.Proofs.Ytdfhhbncmdpoeaa
open Go.RowKit
open Cf (Cm)

section
variable {ps : List Gr.Pr} {w : List Int}
theorem al_first {lx : List Nat} {r : List Gr.Sy} {a b : Nat} {nsx : List Al.No} {pl : List Nat} (h : Al.Nd ps w lx r a b nsx pl) : (pl ++ [b]).getD 0 0 = a := by
  rw [List.getD_eq_getElem?_getD, h.places.2]; rfl
theorem al_last (pl : List Nat) (b : Nat) : (pl ++ [b]).getD ((pl ++ [b]).length - 1) 0 = b := by
  rw [List.getD_eq_getElem?_getD, List.length_append, List.length_singleton, Nat.add_sub_cancel, List.getElem?_append_right (Nat.le_refl _), Nat.sub_self]; rfl
theorem al_tok {lx : List Nat} {r : List Gr.Sy} {a b : Nat} {nsx : List Al.No} {pl : List Nat} (h : Al.Nd ps w lx r a b nsx pl) : ∀ {k : Nat} {s : Gr.Sy} {e : Nat}, r[k]? = some s → s.non = false → (pl ++ [b])[k + 1]? = some e → ∃ d, (pl ++ [b])[k]? = some d ∧ e = d + 1 := by
  induction h with
  | nil => intro k s e h1; simp at h1
  | @tok l s' row a b ns pl hs hw h ih =>
    intro k s e h1 h2 h3
    cases k with
    | zero =>
      refine ⟨a, rfl, ?_⟩
      have h4 : (pl ++ [b])[0]? = some e := h3
      rw [h.places.2] at h4
      injection h4 with h4
      exact h4.symm
    | succ k => exact ih h1 h2 h3
  | @non l m s' row a c b i p ns ns' pl pl' hs hi hl h1' h2' ih1 ih2 =>
    intro k s e h1 h2 h3
    cases k with
    | zero =>
      have h4 : some s' = some s := h1
      injection h4 with h4
      rw [h4, h2] at hs
      cases hs
    | succ k => exact ih2 h1 h2 h3
theorem al_root {s : Int} {m : List Nat} {b : Nat} {nds : List Al.No} {pl : List Nat} (h : Al.Nd ps w m [⟨true, s⟩] 0 b nds pl) : ∃ j q l1 ns1 pl1, ps[j]? = some q ∧ q.left = s ∧ m = j :: l1 ∧ Al.Nd ps w l1 q.right 0 b ns1 pl1 ∧ nds = ⟨j, 0, pl1, b⟩ :: ns1 := by
  cases h with
  | tok h1 => cases h1
  | @non l1 m1 _ _ _ c _ j q ns1 ns2 pl1 pl2 h1 h2 h3 h4 h5 =>
    cases h5
    exact ⟨j, q, l1, ns1, pl1, h2, h3, by rw [List.append_nil], h4, by rw [List.append_nil]⟩
theorem al_two {l : List Nat} {r : List Gr.Sy} {a b : Nat} {nsx : List Al.No} {pl : List Nat} (h : Al.Nd ps w l r a b nsx pl) : ∀ {w' : List Int} {m : List Nat} {b' : Nat} {ns' : List Al.No} {pl' : List Nat}, Al.Nd ps w' m r a b' ns' pl' → (∃ x y, l ++ x = m ++ y) → l = m ∧ b = b' ∧ nsx = ns' ∧ pl = pl' := by
  induction h with
  | nil => intro w' m b' ns' pl' h _; cases h; exact ⟨rfl, rfl, rfl, rfl⟩
  | tok hs hw _ ih =>
    intro w' m b' ns' pl' h e
    cases h with
    | tok _ _ h => obtain ⟨h1, h2, h3, h4⟩ := ih h e; exact ⟨h1, h2, h3, by rw [h4]⟩
    | non h1 => rw [hs] at h1; exact absurd h1 (by decide)
  | @non l m s row a c b i p ns ns2 pl pl2 hs hi hl h1 h2 ih1 ih2 =>
    intro w' m' b' ns' pl' h e
    cases h with
    | tok h3 => rw [hs] at h3; exact absurd h3 (by decide)
    | @non l' m'' _ _ _ c' _ i' p' ns3 ns4 pl3 pl4 _ hi' hl' h3 h4 =>
      obtain ⟨x, y, e⟩ := e
      injection e with e1 e2
      subst e1
      rw [hi] at hi'
      injection hi' with hi'
      subst hi'
      have e2 : l ++ m ++ x = l' ++ m'' ++ y := e2
      obtain ⟨h5, h6, h7, h8⟩ := ih1 h3 ⟨m ++ x, m'' ++ y, by rw [← List.append_assoc, ← List.append_assoc]; exact e2⟩
      subst h5; subst h6; subst h7; subst h8
      rw [List.append_assoc, List.append_assoc] at e2
      obtain ⟨h9, h10, h11, h12⟩ := ih2 h4 ⟨x, y, List.append_cancel_left e2⟩
      subst h9; subst h10; subst h11; subst h12
      exact ⟨rfl, rfl, rfl, rfl⟩
end

section
variable {g : Gr.Gm} {xs : List Int} {L : List (List Ix)} {l o : List Int}
/-- The nodes of what is alone are alone. -/
theorem lone_of {P : List St4} {m : List Nat} {nds : List Al.No} {pl : List Nat} {a b : Nat} {r : List Gr.Sy} (hd : Al.Nd g.prods xs m r a b nds pl) (hno : ¬ OthersP g P (nds.map fun x => ((x.prod : Int), Dv.atOf x))) : ∀ x ∈ nds, Al.Lone g.prods xs (fun a y => (a, y) ∈ P) x := by
  intro x hx p hp
  obtain ⟨p', pre, lx, post, nsx, h1, _, h3, _⟩ := hd.within x hx
  rw [hp] at h1
  injection h1 with h1
  subst h1
  have hno2 : ¬ OtherP g P x.prod (x.at_ ++ [x.stop]) := fun h => hno ⟨x.prod, x.at_ ++ [x.stop], List.mem_map.2 ⟨x, hx, rfl⟩, h⟩
  unfold OtherP at hno2
  rw [al_first h3, al_last] at hno2
  constructor
  · intro y q hy hq hdt hl hf
    apply Classical.byContradiction
    intro hne
    refine hno2 (.inl ⟨p, y.prod, q, hp, hq, hl, hne, ?_⟩)
    rw [← hdt, ← hf]
    exact hy
  · intro k s e m' hk he hf hm hI hL
    rw [Nat.zero_add] at hI
    rcases hL with ⟨h4, h5, h6⟩ | ⟨h4, y, q, h5, h6, h7, h8, h9⟩
    · obtain ⟨d, h7, h8⟩ := al_tok h3 hk h4 he
      rw [h7]
      have : d = m' := by omega
      rw [this]
    · have hkl : k < (x.at_ ++ [x.stop]).length := by have := Ch.lt_of_get he; omega
      rw [List.getElem?_eq_getElem hkl]
      apply Classical.byContradiction
      intro hne
      refine hno2 (.inr ⟨p, k, s, _, e, hp, hk, h4, List.getElem?_eq_getElem hkl, he, m', hf, hm, fun e2 => hne (by rw [e2]), hI, ?_⟩)
      rw [← h8, ← h9]
      exact mem_end h5 h6 h7
theorem alone_nodes {m : List Nat} {nds : List Al.No} {pl : List Nat} (hl : l = Dv.ints m) (hd : Al.Nd g.prods xs m [⟨true, g.start⟩] 0 xs.length nds pl) : Dv.NodesOf g.prods g.start l (nds.map fun x => ((x.prod : Int), Dv.atOf x)) := by
  intro m2 w2 b2 nds2 pl2 h1 h2
  have e1 : m = m2 := ns_inj (hl.symm.trans h1)
  subst e1
  rw [(al_two hd h2 ⟨[], [], rfl⟩).2.2.1]
theorem alone_only (h : AloneP g xs L l) (ho : Dv.replayOf (okB g) g o = (xs, 0)) : o = l := by
  obtain ⟨hlen, hr, hc, hno⟩ := h
  obtain ⟨m, nds, pl, hl, hd⟩ := nds_of hr
  obtain ⟨m', nds', pl', hl', hd'⟩ := nds_of ho
  have hlo := lone_of hd (hno _ (alone_nodes hl hd))
  have hLo : ∀ x ∈ nds, Al.Lone g.prods xs (Ch.It g xs) x := fun x hx => (hlo x hx).mono (hd.bound_no (Nat.le_refl _) x hx) fun a y ha hi => hi.least (closed_has hc) (by omega)
  obtain ⟨j, q, l1, ns1, pl1, h1, h2, h3, h4, h5⟩ := al_root hd
  obtain ⟨j', q', l1', ns1', pl1', k1, k2, k3, k4, k5⟩ := al_root hd'
  subst h5
  have hroot := hLo ⟨j, 0, pl1, xs.length⟩ (List.mem_cons_self ..)
  obtain ⟨r1, r2⟩ := hroot q h1
  have hwh : Ch.It g xs xs.length ⟨j', 0 + q'.right.length, 0⟩ := Ch.It.come (w := xs) (Al.cm_of_nd k4) (r := []) (Ch.It.start k1 k2) k1 (by show q'.right.drop 0 = _; rw [List.append_nil]; rfl) (Nat.zero_le _) (Nat.le_refl _) rfl
  rw [Nat.zero_add] at hwh
  have e : j' = j := r1 ⟨j', q'.right.length, 0⟩ q' hwh k1 rfl (by rw [k2, h2]) rfl
  subst e
  have e2 : q' = q := Option.some.inj (k1.symm.trans h1)
  subst e2
  have key := Al.lone_one l1.length q'.right [] j' 0 0 0 xs.length q' l1 l1' ns1 ns1' pl1 pl1' (Nat.le_refl _) (Nat.le_refl _) h1 rfl h4 k4 (Ch.It.start h1 h2) r2 (fun x hx => hLo x (List.mem_cons_of_mem _ hx))
  rw [hl, hl', h3, k3, key.2]
end
end Go.Proofs.Ytdfhhbncmdpoeaa
