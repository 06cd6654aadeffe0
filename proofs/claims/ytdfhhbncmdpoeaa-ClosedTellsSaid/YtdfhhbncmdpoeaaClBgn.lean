/- kept.begun: the productions of all nonterminals that are next, in whatever order a map tells them. -/
import Derived.Test.YtdfhhbncmdpoeaaClStd
namespace Go.Proofs.Ytdfhhbncmdpoeaa
open Go.RowKit
open Go.Maps (Keyed)
attribute [local go_sem] Oper.semAt_some

/-- A step of a range over a map whose keys are known. -/
theorem wpListIn_next_of {H α : Type} {F : Fence} {n : Nat} {P : Program} {w : World} {ops : Array Oper} {rest : List Oper} {o : Oper} {a : Act} {Q : Exit → Act → World → Prop} (hg : o.guard = none) (it : Operand) (hop : o.op = Op.next it false) (k : TypeId) (K : Keyed P k) (R : Value → Option (DataW H × List MemPlace))
    (mk : α → Value) (kl : α → Lit) (ok : α → Prop) (hk : ∀ x, ok x → keyOf P k (mk x) = some (kl x)) (b r nn : Nat) (D : DataW H) (left : Lit → Bool) (cnt : Nat) (hleft : ∀ z, left z = true → ∃ x, ok x ∧ z = kl x)
    (hit : a.eval it = .pointer (some ⟨r, 0, none⟩)) (h : w.ranges P k R b r nn D left cnt)
    (hDone : (∀ z, left z = false) → wpListIn F n P ops Q rest (a.put o.dst (.tuple #[.bool false])) w)
    (hMore : ∀ (x : α) (v : Value) (w' : World) (cnt' : Nat), ok x → left (kl x) = true → w'.ranges P k R b r nn D (fun z => left z && !z.sameKey (kl x)) cnt' → cnt' < cnt → w.grownBy w' (some r) →
      (Instr.entry (.pointer (some ⟨r, 0, none⟩))).run P w' = .ok (.tuple #[mk x, v]) w' → wpListIn F n P ops Q rest (a.put o.dst (.tuple #[.bool true, mk x, v])) w') :
    wpListIn F n P ops Q (o :: rest) a w := by
  refine wpListIn_plain hg fun K' hK' => ?_
  unfold Oper.wpIn
  refine ⟨by simp [Oper.about, hop], ?_⟩
  rw [Oper.semAt_plain F _ _ (fun c hc => by rw [hop] at hc; cases hc)]
  rcases h.next K o.type with ⟨_, hl, hrun⟩ | ⟨key, v, z, y, w', cnt', hkey, hlk, _, _, hrun, hrg, hlt, hgr, _, hen⟩
  · simp [execOp, hop, hit, hrun, Result.andThen]
    exact hK' _ _ (hDone hl)
  · obtain ⟨x, hx, rfl⟩ := hleft z hlk
    obtain rfl : key = mk x := K.inj hkey (hk x hx)
    simp [execOp, hop, hit, hrun, Result.andThen]
    exact hK' _ _ (hMore x v w' cnt' hx hlk hrg hlt hgr hen)
theorem waits_ne {G : Kg} {g : Gr.Gm} {base : Nat} {K : Kw} {V : Int × Nat → Value} {P : List St4} {w : World} (h : KeptR G g base K V P w) (x : Int × Nat) : V x ≠ nilS ↔ Ch.waitL g P x ≠ [] := by
  refine ⟨h.full x, fun h1 h2 => ?_⟩
  obtain ⟨A, c, hv, _⟩ := own_form (h.rows x)
  rw [hv] at h2
  injection h2 with _ h2
  exact h1 (List.eq_nil_of_length_eq_zero h2)

theorem ClE.wt1 {G : Kg} {ps : List Gr.Pr} {base : Nat} {K : Kw} {V : Int × Nat → Value} {P : List St4} {B : Nat} {xs : List Int} {w : World} (h : ClE G ps base K V P B xs w) {t : St4} (ht : t ∈ P) {x : Int × Nat} (hw : Ch.waitOf ⟨G.t, G.n, G.s, ps⟩ t = some x) : wtOk x := by
  unfold Ch.waitOf at hw
  cases e : Ch.symAt ⟨G.t, G.n, G.s, ps⟩ t.2 with
  | none => rw [e] at hw; cases hw
  | some y =>
    rw [e] at hw
    have hw : (if y.non = true then some (y.n, t.1) else none) = some x := hw
    split at hw
    · rename_i hn
      injection hw with hw
      subst hw
      obtain ⟨p, hp, hs2⟩ := Ch.symAt_iff.1 e
      have hy := (h.ok.2.2.2.2.2.2.2 p (List.mem_of_getElem? hp)).2.2.2 y (List.mem_of_getElem? hs2)
      have h24 : G.n ≤ 24 := h.ok.2.2.2.1
      have h1 : y.n < G.n := hy.2.1 hn
      have h2 := (h.fine t ht).1
      exact ⟨hy.1, by show y.n < 1000000; omega, by show t.1 < 1000000; omega⟩
    · cases hw
theorem ClE.wt2 {G : Kg} {ps : List Gr.Pr} {base : Nat} {K : Kw} {V : Int × Nat → Value} {P : List St4} {B : Nat} {xs : List Int} {w : World} (h : ClE G ps base K V P B xs w) {x : Int × Nat} (hx : Ch.waitL ⟨G.t, G.n, G.s, ps⟩ P x ≠ []) : wtOk x := by
  obtain ⟨y, hy⟩ := List.exists_mem_of_ne_nil _ hx
  obtain ⟨t, ht, hw, _⟩ := Ch.mem_waitL.1 hy
  exact h.wt1 ht hw
theorem kpc_step {w w' W : World} {r : Nat} (h : KpC W w) (hg : w.grownBy w' (some r)) (hr : W.heap.size ≤ r) : KpC W w' := h.grown hg fun k e => by cases e; exact hr
set_option maxRecDepth 100000 in
set_option maxHeartbeats 4000000 in
theorem begun_in (G : Kg) (ps : List Gr.Pr) (base : Nat) (K : Kw) (V : Int × Nat → Value) (P : List St4) (B : Nat) (xs : List Int) (w : World) (h : ClE G ps base K V P B xs w) :
    ∃ N, SeqM 39 (.pointer (some ⟨K.p, 0, none⟩)) (ReqB ⟨G.t, G.n, G.s, ps⟩ P) N w := by
  obtain ⟨D, hown, hkeys⟩ := h.k.waits
  refine ⟨Maps.size D * 60, ?_⟩
  intro l J Jx W hW hJ hY h0
  have hE := h.bl hW
  have hownW : W.ownsMap Try.prog 104 heldR K.q P.length D := by
    obtain ⟨es, clock, hb, r⟩ := hown
    exact ⟨es, clock, (hW.block _ (heap_lt hb)).trans hb, r⟩
  have hne := fun x => waits_ne hE.k x
  have k6 : W.cell? ⟨K.p, 6, none⟩ = some (.map (some K.q)) := hE.k.kb.cell 6
  have kl := hE.k.kb.lt
  have HE := Lib.hid hE
  have HKy := Lib.hid hkeys
  have HNe := Lib.hid hne
  clear hE hown h hkeys hne hW
  refine callsIn_of_wp Try.func39 rfl trivial ?_ rfl
  simp only [Try.ntmps39, List.size_toArray, List.length_cons, List.length_nil, Nat.reduceAdd, Nat.reduceSub, Array.replicate_succ, Array.replicate_zero, List.push_toArray, List.append_toArray, List.nil_append, List.cons_append]
  gi_wp2_with (first
    | (gi_at_range; refine wpListIn_range_own _ rfl _ 75 rfl 104 34 (Keyed.of_law wt_law) Try.underlying75 heldR K.q _ D rfl hownW ?_; intro W1 hrg1 hg1 hs1)
    | gi_in)
  go_frame
  have HK1 : Hid (KpC W W1) := (KpC.refl W).grown hg1 (fun k e => by cases e)
  have HJ1 : Hid (J [] W1) := hJ _ _ _ _ h0 hg1 (fun r e => by cases e)
  gi_loopw [10] (fun _ wr => ∃ (left : Lit → Bool) (cnt : Nat) (ys : List SX), wr.ranges Try.prog 104 heldR K.q W.heap.size P.length D left cnt ∧ (∀ z, left z = true → Maps.has D z = true) ∧ J ys wr ∧ KpC W wr ∧ (∀ y ∈ ys, ReqB ⟨G.t, G.n, G.s, ps⟩ P y.1) ∧
    (∀ x, wtOk x → Maps.has D (wtKey x) = true → left (wtKey x) = false → ∀ s ∈ begL ⟨G.t, G.n, G.s, ps⟩ x, ∃ y ∈ ys, y.1 = s) ∧ ys.length + cnt * 60 ≤ Maps.size D * 60) (fun _ wr => wr.rangeLeft K.q W.heap.size)
  case atStart =>
    exact ⟨_, _, [], hrg1, fun _ h => h, HJ1.out, HK1.out, fun y hy => by simp at hy, fun x _ h1 h2 => by rw [h1] at h2; (cases h2), by simp⟩
  case round =>
    obtain ⟨left, cnt, ys, hrg, hsub, hJs, hkp, hreq, hall, hlen⟩ := hrel
    gi_wp2_with (first
      | (gi_at_next; refine wpListIn_next_of rfl _ rfl 104 (Keyed.of_law wt_law) heldR wtv wtKey wtOk (fun x hx => key_wt hx) K.q W.heap.size P.length D left cnt (fun z hz => by obtain ⟨x, h1, h2, _⟩ := HKy.out.has z (hsub z hz); exact ⟨x, h1, h2⟩) rfl hrg ?_ ?_)
      | gi_in)
    · intro hl0
      gi_wp2
      go_end0
      refine ⟨⟨_, rfl⟩, .inl ⟨ys, fun s hs => ?_, hreq, hJs⟩⟩
      obtain ⟨x, h1, h2⟩ := hs
      have hx := HE.out.wt2 h1
      exact hall x hx (HKy.out.mem hx ((HNe.out x).2 h1)) (hl0 _) s h2
    · intro x1 x2 v W2 cnt2 hx hlx hrg2 hlt hg2 hen
      have HX := Lib.hid hx
      have HWn : Hid (Ch.waitL ⟨G.t, G.n, G.s, ps⟩ P (x1, x2) ≠ []) := by
        obtain ⟨y, h1, h2, h3⟩ := HKy.out.has _ (hsub _ hlx)
        rw [wtKey_inj hx h1 h2]
        exact (HNe.out y).1 h3
      have hJ2 : J ys W2 := hJ _ _ _ _ hJs hg2 (fun r e => by cases e; exact ⟨Nat.le_refl _, hrg.iter_walk⟩)
      have hkp2 : KpC W W2 := kpc_step hkp hg2 (Nat.le_refl _)
      unfold wtv at hen
      have HB3 : Hid (Bl W2 (W2.alloc (.cells #[.int .i64 x1, .int .i64 (x2 : Int)] 104))) := (Bl.refl W2).alloc _
      have hE3 := (HE.out.kpc hkp2).bl HB3.out
      have hJ3 := hJ ys W2 _ none hJ2 (bl_grown HB3.out) (fun r e => by cases e)
      have HX3 := Lib.hid (Bk.new W2 104 #[.int .i64 x1, .int .i64 (x2 : Int)])
      have hnl : ys.length + 60 ≤ Maps.size D * 60 := by
        have := Nat.mul_le_mul_right 60 (show cnt2 + 1 ≤ cnt by omega)
        rw [Nat.succ_mul] at this
        omega
      have HB := Lib.hid (begin_two hE3 0 l x1 x2 J Jx (Maps.size D * 60) W.heap.size hx.2.2 hJ hY ys hnl hJ3)
      have HRg3 : Hid ((W2.alloc (.cells #[.int .i64 x1, .int .i64 (x2 : Int)] 104)).ranges Try.prog 104 heldR K.q W.heap.size P.length D (fun z => left z && !z.sameKey (wtKey (x1, x2))) cnt2) := hrg2.alloc _
      have y0 := HX3.out.cell 0
      have y1 := HX3.out.cell 1
      have yl := HX3.out.lt
      have HKp3 := Lib.hid (hkp2.bl HB3.out)
      clear hJ3 hE3 hJ2 hnl
      gi_wp2_with (refine ⟨trivial, (by first | rfl | (intro h; cases h)), ?_⟩; refine HB.out.mono ?_; rintro e W4 ⟨b, rfl, hp⟩; have HP := Lib.hid hp; clear hp)
      · rename_i hb
        rcases HP.out with ⟨rfl, _⟩ | ⟨rfl, zs, h1, h3⟩
        · exact absurd hb (by simp)
        · refine bodyPost_ret (results_none rfl _ _ _) rfl ⟨⟨_, rfl⟩, .inr ⟨ys ++ zs, fun y hy => ?_, h3⟩⟩
          rcases List.mem_append.mp hy with h | h
          · exact hreq y h
          · exact ⟨(x1, x2), HWn.out, h1 y h⟩
      · rename_i hb
        rcases HP.out with ⟨rfl, zs, h1, h3, h4⟩ | ⟨rfl, _⟩
        · have hr4 := HRg3.out.of_walks h4.walks
          refine ⟨⟨_, cnt2, ys ++ zs, hr4, fun z hz => hsub z (by rw [Bool.and_eq_true] at hz; exact hz.1), h3, HKp3.out.trans h4, fun y hy => ?_, fun x ho hh hl s hs => ?_, ?_⟩, ?_⟩
          · rcases List.mem_append.mp hy with h | h
            · exact hreq y h
            · refine ⟨(x1, x2), HWn.out, ?_⟩
              rw [← h1]
              exact List.mem_map.2 ⟨y, h, rfl⟩
          · by_cases e : x = (x1, x2)
            · subst e
              rw [← h1] at hs
              obtain ⟨y, h5, h6⟩ := List.mem_map.1 hs
              exact ⟨y, List.mem_append.mpr (.inr h5), h6⟩
            · rw [Maps.sameKey_ne (fun e2 => e (wtKey_inj ho HX.out e2)), Bool.not_false, Bool.and_true] at hl
              obtain ⟨y, h5, h6⟩ := hall x ho hh hl s hs
              exact ⟨y, List.mem_append.mpr (.inl h5), h6⟩
          · have hz : zs.length ≤ 60 := by
              have e : zs.length = (zs.map (·.1)).length := by rw [List.length_map]
              rw [e, h1]
              unfold begL
              rw [List.length_map]
              exact Nat.le_trans (ofK_len _ _ _) HE.out.h60
            have := Nat.mul_le_mul_right 60 (show cnt2 + 1 ≤ cnt by omega)
            rw [Nat.succ_mul] at this
            rw [List.length_append]
            omega
          · rw [hr4.left_eq, hrg.left_eq]; exact hlt
        · exact absurd hb (by simp)
end Go.Proofs.Ytdfhhbncmdpoeaa
