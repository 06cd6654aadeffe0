/- gram.Read's parts: symbols and productions, read one by one. -/
import Derived.Test.YtlfobnpkfloolaaGClone
import Derived.Test.YtlfobnpkfloolaaGBytes
namespace Go.Proofs.Ytlfobnpkfloolaa
open Go.RowKit

/-- The symbols of numbers. -/
def sys (l : List Nat) : List Gr.Sy := l.map Gr.sym
theorem sys_len (l : List Nat) : (sys l).length = l.length := by simp [sys]
theorem sys_snoc (l : List Nat) (n : Nat) : sys (l ++ [n]) = sys l ++ [Gr.sym n] := by simp [sys]

set_option maxRecDepth 100000 in
set_option maxHeartbeats 400000 in
theorem readSym_any (B g : Nat) (s : Wr.St) (w : World) (h : Rdr w B g s) :
    Calls Try.prog 54 #[.pointer (some ⟨g, 0, none⟩)] w (RPost (.agg #[.bool (Gr.sym (Wr.num s 47).1).non, .int .i64 (Gr.sym (Wr.num s 47).1).n]) (Wr.num s 47).2 B g w) := by
  have hB := h.le
  have hlt := h.lt
  have HR := Lib.hid (h.alloc (.cells #[.bool false, .int .i64 0] 46))
  have HK0 := Lib.hid (Bk.new w 46 #[.bool false, .int .i64 0])
  clear h
  go_enter Try.func54, Try.ntmps54
  go_wp2_with fail
  refine (num_any B g s 47 _ HR.out (by decide)).mono ?_
  rintro e w1 ⟨rfl, hr1, hf1⟩
  have HR1 := Lib.hid hr1
  have HK1 := Lib.hid (HK0.out.fr hf1 (by omega))
  have HF1 := Lib.hid (((Fr.refl _ w).alloc _).same hf1)
  have hn := Wr.num_le s 47
  clear hr1 hf1
  generalize (Wr.num s 47).1 = n at *
  generalize (Wr.num s 47).2 = s1 at *
  have k0 : w1.cell? ⟨w.heap.size, 0, none⟩ = some (.bool false) := HK1.out.cell 0
  have k1 : w1.cell? ⟨w.heap.size, 1, none⟩ = some (.int .i64 0) := HK1.out.cell 1
  have f0 := HK1.out.free 0
  have f1 := HK1.out.free 1
  have HE : Hid ((Gr.sym n).non = ((n : Int) % 2 == 1) ∧ (Gr.sym n).n = (n : Int) / 2) := by
    refine ⟨?_, by unfold Gr.sym; simp⟩
    show decide (n % 2 = 1) = _
    rw [Bool.eq_iff_iff]
    simp
    omega
  go_wp2_with fail
  refine bodyPost_ret (v := .agg #[.bool ((n : Int) % 2 == 1), .int .i64 ((n : Int) / 2)]) (by simp [results, Try.results54, go_sem, *]) rfl ⟨by rw [HE.out.1, HE.out.2], ?_, ?_⟩
  · iterate 2 refine Rdr.fr (S := fun k => k = w.heap.size) ?_ ((Fr.refl _ _).own _ _) (by omega) (NoByte.above fun k hk => by omega)
    exact HR1.out
  · iterate 2 refine Fr.setCell ?_ (p := ⟨w.heap.size, _, none⟩) (.inr (Nat.le_refl _)) _
    exact HF1.out

/-- What a list leaves: a row of its own. -/
def SPost (xs : List Gr.Sy) (s : Wr.St) (B g : Nat) (w : World) (e : Ending) (w' : World) : Prop :=
  ∃ A c, e = .returned (.slice A xs.length c) ∧ w'.ownsRow w.heap.size 46 2 (.slice A xs.length c) xs.length (syRow xs) ∧ Rdr w' B g s ∧ Fr (fun k => k = g) w w'
theorem SPost.mk {xs : List Gr.Sy} {s : Wr.St} {B g n : Nat} {w w' : World} {v : Value} (hn : n = xs.length) (h1 : w'.ownsRow w.heap.size 46 2 v n (syRow xs)) (h2 : Rdr w' B g s) (h3 : Fr (fun k => k = g) w w') : SPost xs s B g w (.returned v) w' := by
  subst hn
  obtain ⟨A, c, rfl, _⟩ := own_form h1
  exact ⟨A, c, rfl, h1, h2, h3⟩

theorem s_next {s1 : Wr.St} {B g k : Nat} {w w1 w2 : World} {v v' : Value} (hB : B ≤ w.heap.size) (ho : w1.ownsRow w.heap.size 46 2 v k (syRow (sys (Wr.many k s1 47).1)))
    (hr : Rdr w1 B g (Wr.num (Wr.many k s1 47).2 47).2) (hf : Fr (fun i => i = g) w w1)
    (ho' : w2.ownsRow w.heap.size 46 2 v' (k + 1) (syRow (sys (Wr.many k s1 47).1) ++ [.bool (Gr.sym (Wr.num (Wr.many k s1 47).2 47).1).non, .int .i64 (Gr.sym (Wr.num (Wr.many k s1 47).2 47).1).n])) {o : Obj} (hg : (w1.alloc o).grownBy w2 v.ownBlock) :
    w2.ownsRow w.heap.size 46 2 v' (k + 1) (syRow (sys (Wr.many (k + 1) s1 47).1)) ∧ Rdr w2 B g (Wr.many (k + 1) s1 47).2 ∧ Fr (fun i => i = g) w w2 := by
  have e := Wr.many_snoc k s1 47
  refine ⟨?_, ?_, ?_⟩
  · rw [e, sys_snoc, syRow_snoc]; exact ho'
  · rw [e]
    exact (hr.alloc o).grown (ho.alloc o) (by decide) hB hg
  · exact (hf.alloc o).grown hg fun i hi hlt => absurd (ho.lt i hi).1 (by omega)

theorem pair_new (w : World) (x y : Value) (t : TypeId) : ∀ j u, [x, y][j]? = some u → (w.alloc (.cells #[x, y] t)).cell? ((⟨w.heap.size, 0, none⟩ : Addr).add j) = some u := by
  intro j u hu
  exact World.news_of_block (cs := #[x, y]) (t := t) (fr := (0, 0)) (heap_alloc_new w _) j u (by simpa using hu)

set_option maxRecDepth 100000 in
set_option maxHeartbeats 1000000 in
theorem eachSym_any (B g : Nat) (s : Wr.St) (w : World) (h : Rdr w B g s) :
    Calls Try.prog 55 #[.pointer (some ⟨g, 0, none⟩), .int .i64 8, .func (.func 54) #[] #[], .pointer (some ⟨g, 0, none⟩)] w
      (SPost (sys (Wr.nums s 8 47).1) (Wr.nums s 8 47).2 B g w) := by
  obtain ⟨i0, hi, hz0, hz1, hz2⟩ := info_parts sym_info
  have HR := Lib.hid h
  have hB := h.le
  clear h
  go_enter Try.func55, Try.ntmps55
  go_wp2_with fail
  refine (num_any B g s 8 _ HR.out (by decide)).mono ?_
  rintro e w0 ⟨rfl, hr0, hf0⟩
  have hn := Wr.num_le s 8
  have HR0 := Lib.hid hr0
  have HF0 := Lib.hid hf0
  have HDone : Hid ((Wr.many (Wr.num s 8).1 (Wr.num s 8).2 47).2.e = 0 → Wr.nums s 8 47 = Wr.many (Wr.num s 8).1 (Wr.num s 8).2 47) := Wr.nums_done
  have HWrong : Hid (∀ k, k ≤ (Wr.num s 8).1 → (Wr.many k (Wr.num s 8).2 47).2.e ≠ 0 → Wr.nums s 8 47 = ([], (Wr.many k (Wr.num s 8).2 47).2)) := fun k hk h => Wr.nums_wrong hk h
  clear hr0 hf0
  generalize (Wr.num s 8).1 = n at *
  generalize (Wr.num s 8).2 = s1 at *
  go_wp2_with fail
  go_loopw [9, 13] (fun v i wr => ∃ k : Nat, k ≤ n ∧ i = .int .i64 k ∧ Hid (wr.ownsRow w.heap.size 46 2 v k (syRow (sys (Wr.many k s1 47).1))) ∧ Hid (Rdr wr B g (Wr.many k s1 47).2) ∧ Hid ((Wr.many k s1 47).2.e = 0 ∨ k = 0) ∧ Hid (Fr (fun i => i = g) w wr)) (fun _ i _ => n - (intOf i).toNat)
  case atStart => exact ⟨0, Nat.zero_le _, rfl, World.ownsRow_nil _ _ _ _, HR0, .inr rfl, HF0⟩
  case round =>
    obtain ⟨k, hk, rfl, HO, HRD, HZ, HFR⟩ := hrel
    by_cases hlt : k < n
    · by_cases he : (Wr.many (k + 1) s1 47).2.e = 0
      · have he' : ((Wr.num (Wr.many k s1 47).2 47).2.e != 0) = false := by rw [Wr.many_snoc] at he; simpa using he
        have HE := Lib.hid he; clear he
        go_wp2_with fail
        refine (readSym_any B g (Wr.many k s1 47).2 _ HRD.out).mono ?_
        rintro e w1 ⟨rfl, hr1, hf1⟩
        have HO1 := Lib.hid (own_fr HO.out hf1 fun i hi e => HRD.out.row HO.out (by decide) (by rw [hi, e]))
        have HR1 := Lib.hid hr1
        have HF1 : Hid (Fr (fun i => i = g) w w1) := HFR.out.same hf1
        have hs1 : w.heap.size ≤ w1.heap.size := HF1.out.size
        clear hr1 hf1
        go_wp2_with (at_builtin; refine wpList_append_own _ rfl (.tmp 15) (.tmp 19) 41 rfl w.heap.size 46 i0 (.agg #[.bool false, .int .i64 0]) 2 16 Try.underlying41 hi hz0 hz1 hz2 rfl (by decide) _ _ _ rfl (HO1.out.alloc _) ⟨w1.heap.size, 0, none⟩ 1 1 [.bool (Gr.sym (Wr.num (Wr.many k s1 47).2 47).1).non, .int .i64 (Gr.sym (Wr.num (Wr.many k s1 47).2 47).1).n] rfl rfl (pair_new _ _ _ _) (by simp [Value.oneCell']) (by simp only [maxLen]; omega) (by omega) (by simp; omega) ?_; intro v' w2 hown' hgrow _; have HX := Lib.hid (s_next hB HO1.out HR1.out HF1.out hown' hgrow); clear hown' hgrow; obtain ⟨A2, c2, hk2, _⟩ := HX.out.2.1; have hcell : w2.cell? ⟨g, 1, none⟩ = some (.int .i64 (Wr.num (Wr.many k s1 47).2 47).2.e) := (hk2.cell 1).trans (by rw [Wr.many_snoc]; rfl); clear hk2)
        go_roundw
        case rel => exact ⟨k + 1, by omega, by go_num, HX.out.1, HX.out.2.1, .inl HE.out, HX.out.2.2⟩
        case measure => simp [intOf]; omega
      · have he' : ((Wr.num (Wr.many k s1 47).2 47).2.e != 0) = true := by rw [Wr.many_snoc] at he; simpa using he
        have HE := Lib.hid he; clear he
        go_wp2_with fail
        refine (readSym_any B g (Wr.many k s1 47).2 _ HRD.out).mono ?_
        rintro e w1 ⟨rfl, hr1, hf1⟩
        have HO1 := Lib.hid (own_fr HO.out hf1 fun i hi e => HRD.out.row HO.out (by decide) (by rw [hi, e]))
        have HR1 := Lib.hid hr1
        have HF1 : Hid (Fr (fun i => i = g) w w1) := HFR.out.same hf1
        have hs1 : w.heap.size ≤ w1.heap.size := HF1.out.size
        clear hr1 hf1
        go_wp2_with (at_builtin; refine wpList_append_own _ rfl (.tmp 15) (.tmp 19) 41 rfl w.heap.size 46 i0 (.agg #[.bool false, .int .i64 0]) 2 16 Try.underlying41 hi hz0 hz1 hz2 rfl (by decide) _ _ _ rfl (HO1.out.alloc _) ⟨w1.heap.size, 0, none⟩ 1 1 [.bool (Gr.sym (Wr.num (Wr.many k s1 47).2 47).1).non, .int .i64 (Gr.sym (Wr.num (Wr.many k s1 47).2 47).1).n] rfl rfl (pair_new _ _ _ _) (by simp [Value.oneCell']) (by simp only [maxLen]; omega) (by omega) (by simp; omega) ?_; intro v' w2 hown' hgrow _; have HX := Lib.hid (s_next hB HO1.out HR1.out HF1.out hown' hgrow); clear hown' hgrow; obtain ⟨A2, c2, hk2, _⟩ := HX.out.2.1; have hcell : w2.cell? ⟨g, 1, none⟩ = some (.int .i64 (Wr.num (Wr.many k s1 47).2 47).2.e) := (hk2.cell 1).trans (by rw [Wr.many_snoc]; rfl); clear hk2)
        go_ret
        rw [HWrong.out (k + 1) (by omega) HE.out]
        exact SPost.mk rfl (World.ownsRow_nil _ _ _ _) HX.out.2.1 HX.out.2.2
    · go_wp2_with fail
      go_ret
      have e : k = n := by omega
      subst e
      by_cases h0 : (Wr.many k s1 47).2.e = 0
      · rw [HDone.out h0]
        exact SPost.mk (by rw [sys_len, Wr.many_len]) HO.out HRD.out HFR.out
      · rcases HZ.out with hz | hz
        · exact absurd hz h0
        · subst hz
          rw [HWrong.out 0 (Nat.le_refl _) h0]
          exact SPost.mk rfl HO.out HRD.out HFR.out

set_option maxHeartbeats 400000 in
theorem listSym_any (B g : Nat) (s : Wr.St) (w : World) (h : Rdr w B g s) :
    Calls Try.prog 53 #[.pointer (some ⟨g, 0, none⟩), .int .i64 8, .func (.func 54) #[] #[]] w (SPost (sys (Wr.nums s 8 47).1) (Wr.nums s 8 47).2 B g w) := by
  have HR := Lib.hid h
  clear h
  go_enter Try.func53, Try.ntmps53
  go_wp2_with fail
  refine (eachSym_any B g s _ HR.out).mono ?_
  rintro e w' ⟨A, c, rfl, h1, h2, h3⟩
  have H1 := Lib.hid h1
  have H2 := Lib.hid h2
  have H3 := Lib.hid h3
  clear h1 h2 h3
  go_wp2_with fail
  go_ret
  exact ⟨A, c, rfl, H1.out, H2.out, H3.out⟩

/-- A production, as it is read: where something goes wrong among its symbols it has none. -/
def rp (s : Wr.St) : Gr.Pr × Wr.St := (⟨((Wr.num s 23).1 : Int), sys (Wr.nums (Wr.num s 23).2 8 47).1⟩, (Wr.nums (Wr.num s 23).2 8 47).2)
/-- What readProd leaves. -/
def PPost (p : Gr.Pr) (s : Wr.St) (B g : Nat) (w : World) (e : Ending) (w' : World) : Prop :=
  ∃ A c, e = .returned (.agg #[.int .i64 p.left, .slice A p.right.length c]) ∧ w'.ownsRow w.heap.size 46 2 (.slice A p.right.length c) p.right.length (syRow p.right) ∧ Rdr w' B g s ∧ Fr (fun k => k = g) w w'
end Go.Proofs.Ytlfobnpkfloolaa
