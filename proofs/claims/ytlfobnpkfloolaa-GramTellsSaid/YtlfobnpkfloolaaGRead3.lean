/- gram.Read itself. -/
import Derived.Test.YtlfobnpkfloolaaGRead2
namespace Go.Proofs.Ytlfobnpkfloolaa
open Go.RowKit

/-- Productions of one's own, as they are read. -/
def OwnP (w : World) (base : Nat) (v : Value) (hs : List Ph) : Prop := w.ownsRow base 43 2 v hs.length (phRow hs) ∧ ∀ h ∈ hs, h.own w base
section
variable {w w' : World} {base : Nat} {v : Value} {hs : List Ph}
theorem OwnP.nil : OwnP w base (.slice none 0 0) [] := ⟨World.ownsRow_nil _ _ _ _, by simp⟩
theorem OwnP.prs {A : Option Addr} {n c : Nat} (h : OwnP w base (.slice A n c) hs) : Prs w w.heap.size A (hs.map Ph.pr) := by
  obtain ⟨A', c', e, _⟩ := own_form h.1
  have hn : n = hs.length := by injection e
  subst hn
  exact ⟨hs, rfl, Rd.ownAny h.1, fun x hx => Rd.ownAny (h.2 x hx)⟩
theorem OwnP.bl (h : OwnP w base v hs) (hb : Bl w w') : OwnP w' base v hs := ⟨own_bl h.1 hb, fun x hx => own_bl (h.2 x hx) hb⟩
theorem OwnP.rdr (h : OwnP w base v hs) {B g : Nat} {s : Wr.St} (hg : Rdr w B g s) (hf : Fr (fun k => k = g) w w') : OwnP w' base v hs :=
  ⟨own_fr h.1 hf fun k hk e => hg.row h.1 (by decide) (by rw [hk, e]), fun x hx => own_fr (h.2 x hx) hf fun k hk e => hg.row (h.2 x hx) (by decide) (by rw [hk, e])⟩
theorem OwnP.put_ (h : OwnP w base v hs) {b o : Nat} {cs : Array Value} (hk : Bk w b 24 cs) (u : Value) : OwnP (w.setCell ⟨b, o, none⟩ u) base v hs :=
  ⟨own_put_ h.1 (hk.row h.1 (by decide)) u, fun x hx => own_put_ (h.2 x hx) (hk.row (h.2 x hx) (by decide)) u⟩
theorem OwnP.next {w1 w2 : World} {v' : Value} {l : Int} {ss : List Gr.Sy} {A : Option Addr} {c b1 : Nat} (h : OwnP w1 base v hs) (ho : w1.ownsRow b1 46 2 (.slice A ss.length c) ss.length (syRow ss)) (hb : base ≤ b1)
    (ho' : w2.ownsRow base 43 2 v' (hs.length + 1) (phRow hs ++ [.int .i64 l, .slice A ss.length c])) {o : Obj} (hg : (w1.alloc o).grownBy w2 v.ownBlock) : OwnP w2 base v' (hs ++ [⟨l, ss, A, c⟩]) := by
  have hkeep : ∀ (b n : Nat) (u : Value) (xs : List Value), w1.ownsRow b 46 2 u n xs → w2.ownsRow b 46 2 u n xs := fun b n u xs hu =>
    (hu.alloc o).kept hg (by
      by_cases hn : u.ownBlock = none
      · exact .inl hn
      · obtain ⟨k, hk⟩ := Option.ne_none_iff_exists'.1 hn
        refine .inr fun e => ?_
        rw [e] at hk
        exact own_apart h.1 hu (by decide) k hk (by rw [e, hk]))
  refine ⟨?_, ?_⟩
  · rw [phRow_snoc, List.length_append]; exact ho'
  · intro x hx
    rcases List.mem_append.1 hx with hx | hx
    · exact hkeep _ _ _ _ (h.2 x hx)
    · rw [List.mem_singleton] at hx
      subst hx
      exact hkeep _ _ _ _ (own_base ho fun k hk => Nat.le_trans hb (ho.lt k hk).1)
end

/-- What a list of productions leaves. -/
def LPPost (xs : List Gr.Pr) (s : Wr.St) (B g : Nat) (w : World) (e : Ending) (w' : World) : Prop :=
  ∃ (A : Option Addr) (c : Nat) (hs : List Ph), e = .returned (.slice A xs.length c) ∧ hs.map Ph.pr = xs ∧ OwnP w' w.heap.size (.slice A xs.length c) hs ∧ Rdr w' B g s ∧ Fr (fun k => k = g) w w'
theorem LPPost.mk {xs : List Gr.Pr} {s : Wr.St} {B g : Nat} {w w' : World} {v : Value} {hs : List Ph} (hx : hs.map Ph.pr = xs) (h1 : OwnP w' w.heap.size v hs) (h2 : Rdr w' B g s) (h3 : Fr (fun k => k = g) w w') : LPPost xs s B g w (.returned v) w' := by
  subst hx
  obtain ⟨A, c, rfl, _⟩ := own_form h1.1
  refine ⟨A, c, hs, by rw [List.length_map], rfl, ?_, h2, h3⟩
  rw [List.length_map]
  exact h1
theorem each_hs {hs : List Ph} {k : Nat} {s : Wr.St} (h : hs.map Ph.pr = (rps k s).1) : hs.length = k := by
  have := congrArg List.length h
  rw [List.length_map, rps_len] at this
  exact this
theorem Rdr.grownP {w w' : World} {B g : Nat} {s : Wr.St} {base n : Nat} {v : Value} {xs : List Value} (hg : Rdr w B g s) (h : w.ownsRow base 43 2 v n xs) (hb : B ≤ base) {o : Obj} (hw : (w.alloc o).grownBy w' v.ownBlock) : Rdr w' B g s :=
  (hg.alloc o).grown (h.alloc o) (by decide) hb hw
theorem map_snoc_pr {hs : List Ph} {xs : List Gr.Pr} (h : hs.map Ph.pr = xs) (p : Gr.Pr) (A : Option Addr) (c : Nat) : (hs ++ [(⟨p.left, p.right, A, c⟩ : Ph)]).map Ph.pr = xs ++ [p] := by rw [List.map_append, h]; rfl

set_option maxRecDepth 100000 in
set_option maxHeartbeats 1000000 in
theorem eachProd_any (B g : Nat) (s : Wr.St) (w : World) (h : Rdr w B g s) :
    Calls Try.prog 52 #[.pointer (some ⟨g, 0, none⟩), .int .i64 60, .func (.func 44) #[] #[], .pointer (some ⟨g, 0, none⟩)] w
      (LPPost (rpl s).1 (rpl s).2 B g w) := by
  obtain ⟨i0, hi, hz0, hz1, hz2⟩ := info_parts prod_info
  have HR := Lib.hid h
  have hB := h.le
  clear h
  go_enter Try.func52, Try.ntmps52
  go_wp2_with fail
  refine (num_any B g s 60 _ HR.out (by decide)).mono ?_
  rintro e w0 ⟨rfl, hr0, hf0⟩
  have hn := Wr.num_le s 60
  have HR0 := Lib.hid hr0
  have HF0 := Lib.hid hf0
  have HDone : Hid ((rps (Wr.num s 60).1 (Wr.num s 60).2).2.e = 0 → rpl s = rps (Wr.num s 60).1 (Wr.num s 60).2) := rpl_done
  have HWrong : Hid (∀ k, k ≤ (Wr.num s 60).1 → (rps k (Wr.num s 60).2).2.e ≠ 0 → rpl s = ([], (rps k (Wr.num s 60).2).2)) := fun k hk h => rpl_wrong hk h
  clear hr0 hf0
  generalize (Wr.num s 60).1 = n at *
  generalize (Wr.num s 60).2 = s1 at *
  go_wp2_with fail
  go_loopw [9, 13] (fun v i wr => ∃ (k : Nat) (hs : List Ph), k ≤ n ∧ i = .int .i64 k ∧ Hid (hs.map Ph.pr = (rps k s1).1) ∧ Hid (OwnP wr w.heap.size v hs) ∧ Hid (Rdr wr B g (rps k s1).2) ∧ Hid ((rps k s1).2.e = 0 ∨ k = 0) ∧ Hid (Fr (fun i => i = g) w wr)) (fun _ i _ => n - (intOf i).toNat)
  case atStart => exact ⟨0, [], Nat.zero_le _, rfl, rfl, OwnP.nil, HR0, .inr rfl, HF0⟩
  case round =>
    obtain ⟨k, hs, hk, rfl, HM, HO, HRD, HZ, HFR⟩ := hrel
    by_cases hlt : k < n
    · have hhs : hs.length ≤ 60 := by rw [each_hs HM.out]; omega
      have HSn := Lib.hid (rps_snoc k s1)
      by_cases he : (rps (k + 1) s1).2.e = 0
      · have he' : ((rp (rps k s1).2).2.e != 0) = false := by rw [rps_snoc] at he; simpa using he
        have HE := Lib.hid he; clear he
        go_wp2_with fail
        refine (readProd_any B g (rps k s1).2 _ HRD.out).mono ?_
        generalize (rps k s1).2 = s2 at HRD HSn he' ⊢
        generalize hp : (rp s2).1 = p at HSn ⊢
        generalize hs3 : (rp s2).2 = s3 at HSn he' ⊢
        have HP := Lib.hid hp; have HS3 := Lib.hid hs3; clear hp hs3
        rintro e w1 ⟨A1, c1, rfl, ho1, hr1, hf1⟩
        have HO1 := Lib.hid (HO.out.rdr HRD.out hf1)
        have HY1 := Lib.hid ho1
        have HR1 := Lib.hid hr1
        have HF1 : Hid (Fr (fun i => i = g) w w1) := HFR.out.same hf1
        have hs1 : w.heap.size ≤ w1.heap.size := HF1.out.size
        have hwr : w.heap.size ≤ wr.heap.size := HFR.out.size
        clear hr1 hf1 ho1
        go_wp2_with (at_builtin; refine wpList_append_own _ rfl (.tmp 15) (.tmp 19) 22 rfl w.heap.size 43 i0 (.agg #[.int .i64 0, .slice none 0 0]) 2 32 Try.underlying22 hi hz0 hz1 hz2 rfl (by decide) _ _ _ rfl (HO1.out.1.alloc _) ⟨w1.heap.size, 0, none⟩ 1 1 [.int .i64 p.left, .slice A1 p.right.length c1] rfl rfl (pair_new _ _ _ _) (by simp [Value.oneCell']) (by simp only [maxLen]; omega) (by omega) (by simp; omega) ?_; intro v' w2 hown' hgrow _; have HX := Lib.hid (HO1.out.next HY1.out hwr hown' hgrow); have HR2 := Lib.hid (HR1.out.grownP HO1.out.1 hB hgrow); have HF2 : Hid (Fr (fun i => i = g) w w2) := (HF1.out.alloc _).grown hgrow fun i hi hlt => absurd (HO1.out.1.lt i hi).1 (by omega); clear hown' hgrow; obtain ⟨A2, c2, hk2, _⟩ := HR2.out; have hcell : w2.cell? ⟨g, 1, none⟩ = some (.int .i64 s3.e) := hk2.cell 1; clear hk2)
        go_roundw
        case rel => exact ⟨k + 1, _, by omega, by go_num, by rw [HSn.out]; exact map_snoc_pr HM.out p A1 c1, HX, by rw [HSn.out]; exact HR2, .inl HE.out, HF2⟩
        case measure => simp [intOf]; omega
      · have he' : ((rp (rps k s1).2).2.e != 0) = true := by rw [rps_snoc] at he; simpa using he
        have HE := Lib.hid he; clear he
        go_wp2_with fail
        refine (readProd_any B g (rps k s1).2 _ HRD.out).mono ?_
        generalize (rps k s1).2 = s2 at HRD HSn he' ⊢
        generalize hp : (rp s2).1 = p at HSn ⊢
        generalize hs3 : (rp s2).2 = s3 at HSn he' ⊢
        have HP := Lib.hid hp; have HS3 := Lib.hid hs3; clear hp hs3
        rintro e w1 ⟨A1, c1, rfl, ho1, hr1, hf1⟩
        have HO1 := Lib.hid (HO.out.rdr HRD.out hf1)
        have HR1 := Lib.hid hr1
        have HF1 : Hid (Fr (fun i => i = g) w w1) := HFR.out.same hf1
        have hs1 : w.heap.size ≤ w1.heap.size := HF1.out.size
        clear hr1 hf1 ho1
        go_wp2_with (at_builtin; refine wpList_append_own _ rfl (.tmp 15) (.tmp 19) 22 rfl w.heap.size 43 i0 (.agg #[.int .i64 0, .slice none 0 0]) 2 32 Try.underlying22 hi hz0 hz1 hz2 rfl (by decide) _ _ _ rfl (HO1.out.1.alloc _) ⟨w1.heap.size, 0, none⟩ 1 1 [.int .i64 p.left, .slice A1 p.right.length c1] rfl rfl (pair_new _ _ _ _) (by simp [Value.oneCell']) (by simp only [maxLen]; omega) (by omega) (by simp; omega) ?_; intro v' w2 hown' hgrow _; have HR2 := Lib.hid (HR1.out.grownP HO1.out.1 hB hgrow); have HF2 : Hid (Fr (fun i => i = g) w w2) := (HF1.out.alloc _).grown hgrow fun i hi hlt => absurd (HO1.out.1.lt i hi).1 (by omega); clear hown' hgrow; obtain ⟨A2, c2, hk2, _⟩ := HR2.out; have hcell : w2.cell? ⟨g, 1, none⟩ = some (.int .i64 s3.e) := hk2.cell 1; clear hk2)
        go_ret
        rw [HWrong.out (k + 1) (by omega) HE.out]
        exact LPPost.mk rfl OwnP.nil (by rw [HSn.out]; exact HR2.out) HF2.out
    · go_wp2_with fail
      go_ret
      have e : k = n := by omega
      subst e
      by_cases h0 : (rps k s1).2.e = 0
      · rw [HDone.out h0]
        exact LPPost.mk HM.out HO.out HRD.out HFR.out
      · rcases HZ.out with hz | hz
        · exact absurd hz h0
        · subst hz
          rw [HWrong.out 0 (Nat.le_refl _) h0]
          exact LPPost.mk HM.out HO.out HRD.out HFR.out

set_option maxHeartbeats 400000 in
theorem listProd_any (B g : Nat) (s : Wr.St) (w : World) (h : Rdr w B g s) :
    Calls Try.prog 43 #[.pointer (some ⟨g, 0, none⟩), .int .i64 60, .func (.func 44) #[] #[]] w (LPPost (rpl s).1 (rpl s).2 B g w) := by
  have HR := Lib.hid h
  clear h
  go_enter Try.func43, Try.ntmps43
  go_wp2_with fail
  refine (eachProd_any B g s _ HR.out).mono ?_
  rintro e w' ⟨A, c, hs, rfl, h1, h2, h3, h4⟩
  have H1 := Lib.hid h1
  have H2 := Lib.hid h2
  have H3 := Lib.hid h3
  have H4 := Lib.hid h4
  clear h1 h2 h3 h4
  go_wp2_with fail
  go_ret
  exact ⟨A, c, hs, rfl, H1.out, H2.out, H3.out, H4.out⟩

/-- The states behind the first three numbers. -/
def t1 (s : Wr.St) : Wr.St := (Wr.num s 16).2
def t2 (s : Wr.St) : Wr.St := (Wr.num (t1 s) 24).2
def t3 (s : Wr.St) : Wr.St := (Wr.num (t2 s) 23).2
/-- A grammar, as it is read. -/
def rg (s : Wr.St) : Gr.Gm × Wr.St := (⟨((Wr.num s 16).1 : Int), ((Wr.num (t1 s) 24).1 : Int), ((Wr.num (t2 s) 23).1 : Int), (rpl (t3 s)).1⟩, (rpl (t3 s)).2)
/-- What readGrammar leaves. -/
def RGPost (g0 : Gr.Gm) (s : Wr.St) (B g : Nat) (w : World) (e : Ending) (w' : World) : Prop :=
  ∃ (A : Option Addr) (c b : Nat) (hs : List Ph), e = .returned (.agg #[.int .i64 g0.terms, .int .i64 g0.nons, .int .i64 g0.start, .slice A g0.prods.length c]) ∧ hs.map Ph.pr = g0.prods ∧ OwnP w' b (.slice A g0.prods.length c) hs ∧ Rdr w' B g s ∧ Fr (fun k => k = g) w w'

set_option maxRecDepth 100000 in
set_option maxHeartbeats 1000000 in
theorem readGrammar_any (B g : Nat) (s : Wr.St) (w : World) (h : Rdr w B g s) : Calls Try.prog 29 #[.pointer (some ⟨g, 0, none⟩)] w (RGPost (rg s).1 (rg s).2 B g w) := by
  have hB := h.le
  have hlt := h.lt
  have HR := Lib.hid ((h.alloc (.cells #[.int .i64 0, .int .i64 0, .int .i64 0, .slice none 0 0] 24)).alloc (.cells #[.int .i64 0, .int .i64 0, .int .i64 0, .slice none 0 0] 24))
  have HK0 := Lib.hid ((Bk.new w 24 #[.int .i64 0, .int .i64 0, .int .i64 0, .slice none 0 0]).alloc (.cells #[.int .i64 0, .int .i64 0, .int .i64 0, .slice none 0 0] 24))
  have HP0 : Hid (Bk ((w.alloc (.cells #[.int .i64 0, .int .i64 0, .int .i64 0, .slice none 0 0] 24)).alloc (.cells #[.int .i64 0, .int .i64 0, .int .i64 0, .slice none 0 0] 24)) (w.heap.size + 1) 24 #[.int .i64 0, .int .i64 0, .int .i64 0, .slice none 0 0]) := by
    have h := Bk.new (w.alloc (.cells #[.int .i64 0, .int .i64 0, .int .i64 0, .slice none 0 0] 24)) 24 #[.int .i64 0, .int .i64 0, .int .i64 0, .slice none 0 0]
    rw [World.size_alloc] at h
    exact h
  have hrg : Hid ((rg s).1 = ⟨((Wr.num s 16).1 : Int), ((Wr.num (t1 s) 24).1 : Int), ((Wr.num (t2 s) 23).1 : Int), (rpl (t3 s)).1⟩ ∧ (rg s).2 = (rpl (t3 s)).2) := ⟨rfl, rfl⟩
  have ht1 : Hid (t1 s = (Wr.num s 16).2 ∧ t2 s = (Wr.num (t1 s) 24).2 ∧ t3 s = (Wr.num (t2 s) 23).2) := ⟨rfl, rfl, rfl⟩
  clear h
  go_enter Try.func29, Try.ntmps29
  go_wp2_with fail
  refine (num_any B g s 16 _ HR.out (by decide)).mono ?_
  rw [← ht1.out.1]
  rintro e w1 ⟨rfl, hr1, hf1⟩
  generalize (Wr.num s 16).1 = na at *
  have HK1 := Lib.hid (HK0.out.fr hf1 (by omega))
  have HP1 := Lib.hid (HP0.out.fr hf1 (by omega))
  have HF1 := Lib.hid ((((Fr.refl _ w).alloc _).alloc _).same hf1)
  have hs1 : w.heap.size + 1 < w1.heap.size := HP1.out.lt
  have HR1 := Lib.hid (hr1.put_ (b := w.heap.size + 1) (o := 0) (by omega) (by omega) (.int .i64 (na : Int)))
  have HK2 := Lib.hid (HK1.out.far (p := ⟨w.heap.size + 1, 0, none⟩) (by simp) (.int .i64 (na : Int)))
  have HP2 := Lib.hid (HP1.out.put 0 (.int .i64 (na : Int)))
  have HF2 := Lib.hid (HF1.out.put_ (b := w.heap.size + 1) (o := 0) (by omega) (.int .i64 (na : Int)))
  have c0 : w1.cell? ⟨w.heap.size + 1, 0, none⟩ = some (.int .i64 0) := HP1.out.cell 0
  have e0 := HP1.out.free 0
  clear hr1 hf1
  go_wp2_with fail
  refine (num_any B g (t1 s) 24 _ HR1.out (by decide)).mono ?_
  rw [← ht1.out.2.1]
  rintro e w2 ⟨rfl, hr2, hf2⟩
  generalize (Wr.num (t1 s) 24).1 = nb at *
  have HK3 := Lib.hid (HK2.out.fr hf2 (by omega))
  have HP3 := Lib.hid (HP2.out.fr hf2 (by omega))
  have HF3 := Lib.hid (HF2.out.same hf2)
  have HR3 := Lib.hid (hr2.put_ (b := w.heap.size + 1) (o := 1) (by omega) (by omega) (.int .i64 (nb : Int)))
  have HK4 := Lib.hid (HK3.out.far (p := ⟨w.heap.size + 1, 1, none⟩) (by simp) (.int .i64 (nb : Int)))
  have HP4 := Lib.hid (HP3.out.put 1 (.int .i64 (nb : Int)))
  have HF4 := Lib.hid (HF3.out.put_ (b := w.heap.size + 1) (o := 1) (by omega) (.int .i64 (nb : Int)))
  have c1 : w2.cell? ⟨w.heap.size + 1, 1, none⟩ = some (.int .i64 0) := HP3.out.cell 1
  have e1 := HP3.out.free 1
  clear hr2 hf2
  go_wp2_with fail
  refine (num_any B g (t2 s) 23 _ HR3.out (by decide)).mono ?_
  rw [← ht1.out.2.2]
  rintro e w3 ⟨rfl, hr3, hf3⟩
  generalize (Wr.num (t2 s) 23).1 = nc at *
  have HK5 := Lib.hid (HK4.out.fr hf3 (by omega))
  have HP5 := Lib.hid (HP4.out.fr hf3 (by omega))
  have HF5 := Lib.hid (HF4.out.same hf3)
  have HR5 := Lib.hid (hr3.put_ (b := w.heap.size + 1) (o := 2) (by omega) (by omega) (.int .i64 (nc : Int)))
  have HK6 := Lib.hid (HK5.out.far (p := ⟨w.heap.size + 1, 2, none⟩) (by simp) (.int .i64 (nc : Int)))
  have HP6 := Lib.hid (HP5.out.put 2 (.int .i64 (nc : Int)))
  have HF6 := Lib.hid (HF5.out.put_ (b := w.heap.size + 1) (o := 2) (by omega) (.int .i64 (nc : Int)))
  have c2 : w3.cell? ⟨w.heap.size + 1, 2, none⟩ = some (.int .i64 0) := HP5.out.cell 2
  have e2 := HP5.out.free 2
  clear hr3 hf3
  go_wp2_with fail
  refine (listProd_any B g (t3 s) _ HR5.out).mono ?_
  generalize (rpl (t3 s)).1 = ps at *
  generalize (rpl (t3 s)).2 = s9 at *
  rintro e w4 ⟨A, c, hs, rfl, hm4, ho4, hr4, hf4⟩
  have HK7 := Lib.hid (HK6.out.fr hf4 (by omega))
  have HP7 := Lib.hid (HP6.out.fr hf4 (by omega))
  have HF7 := Lib.hid (HF6.out.same hf4)
  have HR7 := Lib.hid hr4
  have HO7 := Lib.hid ho4
  have HM7 := Lib.hid hm4
  have l0 : w4.cell? ⟨w.heap.size + 1, 0, none⟩ = some (.int .i64 (na : Int)) := HP7.out.cell 0
  have l1 : w4.cell? ⟨w.heap.size + 1, 1, none⟩ = some (.int .i64 (nb : Int)) := HP7.out.cell 1
  have l2 : w4.cell? ⟨w.heap.size + 1, 2, none⟩ = some (.int .i64 (nc : Int)) := HP7.out.cell 2
  have l3 : w4.cell? ⟨w.heap.size + 1, 3, none⟩ = some (.slice none 0 0) := HP7.out.cell 3
  have e3 := HP7.out.free 3
  have d0 : w4.cell? ⟨w.heap.size, 0, none⟩ = some (.int .i64 0) := HK7.out.cell 0
  have d1 : w4.cell? ⟨w.heap.size, 1, none⟩ = some (.int .i64 0) := HK7.out.cell 1
  have d2 : w4.cell? ⟨w.heap.size, 2, none⟩ = some (.int .i64 0) := HK7.out.cell 2
  have d3 : w4.cell? ⟨w.heap.size, 3, none⟩ = some (.slice none 0 0) := HK7.out.cell 3
  have f0 := HK7.out.free 0
  have f1 := HK7.out.free 1
  have f2 := HK7.out.free 2
  have f3 := HK7.out.free 3
  clear ho4 hr4 hf4 hm4
  go_wp2_with fail
  refine bodyPost_ret (v := .agg #[.int .i64 (na : Int), .int .i64 (nb : Int), .int .i64 (nc : Int), .slice A ps.length c]) (by simp [results, Try.results29, go_sem, *]) rfl ?_
  rw [hrg.out.1, hrg.out.2]
  have k1 := HK7.out.far (p := ⟨w.heap.size + 1, 3, none⟩) (by simp) (.slice A ps.length c)
  have o1 := HO7.out.put_ (o := 3) HP7.out (.slice A ps.length c)
  have o2 := o1.put_ (o := 0) k1 (.int .i64 (na : Int))
  have k2 := k1.put 0 (.int .i64 (na : Int))
  have o3 := o2.put_ (o := 1) k2 (.int .i64 (nb : Int))
  have k3 := k2.put 1 (.int .i64 (nb : Int))
  have o4 := o3.put_ (o := 2) k3 (.int .i64 (nc : Int))
  have k4 := k3.put 2 (.int .i64 (nc : Int))
  have o5 := o4.put_ (o := 3) k4 (.slice A ps.length c)
  refine ⟨A, c, _, hs, rfl, HM7.out, o5, ?_, ?_⟩
  · refine Rdr.put_ (Rdr.put_ (Rdr.put_ (Rdr.put_ (Rdr.put_ HR7.out ?_ ?_ _) ?_ ?_ _) ?_ ?_ _) ?_ ?_ _) ?_ ?_ _
    all_goals omega
  · refine Fr.put_ (Fr.put_ (Fr.put_ (Fr.put_ (Fr.put_ HF7.out ?_ _) ?_ _) ?_ _) ?_ _) ?_ _
    all_goals omega
end Go.Proofs.Ytlfobnpkfloolaa
