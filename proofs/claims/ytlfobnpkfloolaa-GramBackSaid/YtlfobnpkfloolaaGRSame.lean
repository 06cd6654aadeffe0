/- The reference's Same: are grammars the same? -/
import Derived.Test.YtlfobnpkfloolaaGSame
namespace Go.Proofs.Ytlfobnpkfloolaa
open Go.RowKit

set_option maxRecDepth 100000 in
set_option maxHeartbeats 4000000 in
theorem rsame_any (t n s t' n' s' : Int) (A A' : Option Addr) (len len' c c' : Nat) (p q : List Gr.Pr) (w : World) (B : Nat) (hl : len = p.length) (hl' : len' = q.length) (hmax : len ≤ 9223372036854775807) (hml : ∀ x ∈ p, x.right.length ≤ 9223372036854775807)
    (hr : Prs w B A p) (hr' : Prs w B A' q) (hB : B ≤ w.heap.size) :
    Calls Try.prog 16 #[.agg #[.int .i64 t, .int .i64 n, .int .i64 s, .slice A len c], .agg #[.int .i64 t', .int .i64 n', .int .i64 s', .slice A' len' c']] w fun e w' => e = .returned (.bool (decide ((⟨t, n, s, p⟩ : Gr.Gm) = ⟨t', n', s', q⟩))) ∧ Bl w w' := by
  have HL := Lib.hid hl; clear hl
  have HL' := Lib.hid hl'; clear hl'
  have HM := Lib.hid hml; clear hml
  have HR : Hid (Prs ((w.alloc (.cells #[.int .i64 t, .int .i64 n, .int .i64 s, .slice A len c] 24)).alloc (.cells #[.int .i64 t', .int .i64 n', .int .i64 s', .slice A' len' c'] 24)) B A p) := (hr.alloc hB _).alloc (by simp; omega) _
  have HR' : Hid (Prs ((w.alloc (.cells #[.int .i64 t, .int .i64 n, .int .i64 s, .slice A len c] 24)).alloc (.cells #[.int .i64 t', .int .i64 n', .int .i64 s', .slice A' len' c'] 24)) B A' q) := (hr'.alloc hB _).alloc (by simp; omega) _
  have HB0 : Hid (Bl w ((w.alloc (.cells #[.int .i64 t, .int .i64 n, .int .i64 s, .slice A len c] 24)).alloc (.cells #[.int .i64 t', .int .i64 n', .int .i64 s', .slice A' len' c'] 24))) := ((Bl.refl w).alloc _).alloc _
  have HK := Lib.hid ((Bk.new w 24 #[.int .i64 t, .int .i64 n, .int .i64 s, .slice A len c]).alloc (.cells #[.int .i64 t', .int .i64 n', .int .i64 s', .slice A' len' c'] 24))
  have HK' : Hid (Bk ((w.alloc (.cells #[.int .i64 t, .int .i64 n, .int .i64 s, .slice A len c] 24)).alloc (.cells #[.int .i64 t', .int .i64 n', .int .i64 s', .slice A' len' c'] 24)) (w.heap.size + 1) 24 #[.int .i64 t', .int .i64 n', .int .i64 s', .slice A' len' c']) := by
    have h := Bk.new (w.alloc (.cells #[.int .i64 t, .int .i64 n, .int .i64 s, .slice A len c] 24)) 24 #[.int .i64 t', .int .i64 n', .int .i64 s', .slice A' len' c']
    rw [World.size_alloc] at h
    exact h
  clear hr hr'
  by_cases h1 : t = t'
  · subst h1
    by_cases h2 : n = n'
    · subst h2
      by_cases h3 : s = s'
      · subst h3
        by_cases h4 : len = len'
        · have hq4 : ((len : Int) != (len' : Int)) = false := by simp; omega
          have HE := Lib.hid (gm_eq t n s p q)
          have HN := Lib.hid h4; clear h4
          go_enter Try.func16, Try.ntmps16
          go_wp2_with fail
          generalize hw0 : (w.alloc (.cells #[.int .i64 t, .int .i64 n, .int .i64 s, .slice A len c] 24)).alloc (.cells #[.int .i64 t, .int .i64 n, .int .i64 s, .slice A' len' c'] 24) = w0 at HB0 HK HK' HR HR' ⊢
          have HW0 := Lib.hid hw0; clear hw0
          have k3 : w0.cell? ⟨w.heap.size, 3, none⟩ = some (.slice A len c) := HK.out.cell 3
          have k3' : w0.cell? ⟨w.heap.size + 1, 3, none⟩ = some (.slice A' len' c') := HK'.out.cell 3
          go_loopw [5] (fun i wr => ∃ (k z : Nat), k ≤ len ∧ i = .int .i64 k ∧ wr = w0.drewN z ∧ Hid (p.take k = q.take k)) (fun i _ => len - (intOf i).toNat)
          case atStart => exact ⟨0, 0, by omega, rfl, rfl, by simp [Hid]⟩
          case round =>
            obtain ⟨k, z, hk, rfl, rfl, HT⟩ := hrel
            by_cases hlt : k < len
            · have hj : k < p.length := by have := HL.out; omega
              have hj' : k < q.length := by have := HL'.out; have := HN.out; omega
              obtain ⟨b, off, Ax, cx, rfl, hb1, hrx, hc0, hc1⟩ := HR.out.at_ hj
              obtain ⟨b', off', Ax', cx', rfl, hb2, hrx', hc0', hc1'⟩ := HR'.out.at_ hj'
              have hlt' : k < len' := by have := HN.out; omega
              have hk0 : (0 : Int) ≤ (k : Int) := by omega
              have hk1 : (k : Int) < (len : Int) := by omega
              have hk2 : (k : Int) < (len' : Int) := by omega
              have HS := Lib.hid (gtake_succ hj hj' HT.out)
              have HD := Lib.hid (gtake_no hj hj')
              have hm := HM.out _ (List.getElem_mem hj)
              generalize p[k] = x at hc0 hc1 HS HD hrx hm
              generalize q[k] = x' at hc0' hc1' HS HD hrx'
              obtain ⟨cl, cs⟩ := x
              obtain ⟨cl', cs'⟩ := x'
              simp only at hc0 hc1 hc0' hc1' hm hrx hrx'
              have HX := Lib.hid hrx
              have HX' := Lib.hid hrx'
              clear hj hj' hrx hrx'
              by_cases g1 : cl = cl'
              · have hg1 : (cl != cl') = false := by simp [g1]
                by_cases g2 : cs.length = cs'.length
                · have hg2 : ((cs.length : Int) != (cs'.length : Int)) = false := by simp; omega
                  have HG1 := Lib.hid g1; have HG2 := Lib.hid g2; clear g1 g2
                  go_wp2_with fail
                  go_quiet (fail)
                  go_wp2_with fail
                  go_loopw [6] (fun i wr => ∃ (j y : Nat), j ≤ cs.length ∧ i = .int .i64 j ∧ wr = w0.drewN y ∧ Hid (cs.take j = cs'.take j)) (fun i _ => cs.length - (intOf i).toNat)
                  case atStart => exact ⟨0, _, by omega, rfl, World.drewN_drewN _ _ _, by simp [Hid]⟩
                  case round =>
                    obtain ⟨j, y, hjl, rfl, rfl, HTj⟩ := hrel
                    by_cases hlt2 : j < cs.length
                    · have hj2' : j < cs'.length := by have := HG2.out; omega
                      obtain ⟨bx, ox, rfl, _, d0, d1⟩ := HX.out.sym hlt2
                      obtain ⟨bx', ox', rfl, _, d0', d1'⟩ := HX'.out.sym hj2'
                      have hj0 : (0 : Int) ≤ (j : Int) := by omega
                      have hj1 : (j : Int) < (cs.length : Int) := by omega
                      have hj2 : (j : Int) < (cs'.length : Int) := by omega
                      have HS2 := Lib.hid (gtake_succ hlt2 hj2' HTj.out)
                      have HD2 := Lib.hid (gtake_no hlt2 hj2')
                      generalize cs[j] = u at d0 d1 HS2 HD2
                      generalize cs'[j] = u' at d0' d1' HS2 HD2
                      obtain ⟨cb, cn⟩ := u
                      obtain ⟨cb', cn'⟩ := u'
                      simp only at d0 d1 d0' d1'
                      by_cases hcc : cb = cb' ∧ cn = cn'
                      · obtain ⟨e1, e2⟩ := hcc
                        subst e1 e2
                        have HT2 := Lib.hid (HS2.out rfl)
                        cases cb
                        all_goals
                          go_wp2_with fail
                          go_quiet (fail)
                          go_wp2_with fail
                          go_roundw
                          case rel => exact ⟨j + 1, _, by omega, by go_num, rfl, HT2.out⟩
                          case measure => simp [intOf]; omega
                      · have HF : Hid (decide ((⟨t, n, s, p⟩ : Gr.Gm) = ⟨t, n, s, q⟩) = false) := by
                          unfold Hid
                          rw [HE.out]
                          refine decide_eq_false (HD.out fun e => ?_)
                          injection e with _ e
                          exact HD2.out (fun e => by injection e with e1 e2; exact hcc ⟨e1, e2⟩) e
                        by_cases hb : cb = cb'
                        · subst hb
                          have hn : (cn == cn') = false := by simp; intro e; exact hcc ⟨rfl, e⟩
                          clear hcc
                          cases cb
                          all_goals
                            go_wp2_with fail
                            go_quiet (fail)
                            go_wp2_with fail
                            go_ret
                            exact ⟨by rw [HF.out]; rfl, HB0.out.trans ⟨rfl, rfl, rfl, Nat.le_refl _, fun _ _ => rfl⟩⟩
                        · clear hcc
                          cases cb <;> cases cb' <;> first | (exact absurd rfl hb) | skip
                          all_goals
                            clear hb
                            go_wp2_with fail
                            go_quiet (fail)
                            go_wp2_with fail
                            go_ret
                            exact ⟨by rw [HF.out]; rfl, HB0.out.trans ⟨rfl, rfl, rfl, Nat.le_refl _, fun _ _ => rfl⟩⟩
                    · have HT2 : Hid (p.take (k + 1) = q.take (k + 1)) := HS.out (by
                        rw [HG1.out, gtake_all (by omega) (by have := HG2.out; omega) HTj.out])
                      go_wp2_with fail
                      go_roundw
                      case rel => exact ⟨k + 1, _, by omega, by go_num, rfl, HT2.out⟩
                      case measure => simp [intOf]; omega
                · have hg2 : ((cs.length : Int) != (cs'.length : Int)) = true := by simp; omega
                  have HF : Hid (decide ((⟨t, n, s, p⟩ : Gr.Gm) = ⟨t, n, s, q⟩) = false) := by
                    unfold Hid
                    rw [HE.out]
                    refine decide_eq_false (HD.out fun e => ?_)
                    injection e with _ e
                    exact g2 (by rw [e])
                  clear g1 g2
                  go_wp2_with fail
                  go_quiet (fail)
                  go_wp2_with fail
                  go_ret
                  exact ⟨by rw [HF.out]; rfl, HB0.out.trans ⟨rfl, rfl, rfl, Nat.le_refl _, fun _ _ => rfl⟩⟩
              · have hg1 : (cl != cl') = true := by simp [g1]
                have HF : Hid (decide ((⟨t, n, s, p⟩ : Gr.Gm) = ⟨t, n, s, q⟩) = false) := by
                  unfold Hid
                  rw [HE.out]
                  refine decide_eq_false (HD.out fun e => ?_)
                  injection e with e _
                  exact g1 e
                clear g1
                go_wp2_with fail
                go_quiet (fail)
                go_wp2_with fail
                go_ret
                exact ⟨by rw [HF.out]; rfl, HB0.out.trans ⟨rfl, rfl, rfl, Nat.le_refl _, fun _ _ => rfl⟩⟩
            · go_wp2_with fail
              go_ret
              have e : p = q := gtake_all (by have := HL.out; omega) (by have := HL'.out; have := HN.out; omega) HT.out
              exact ⟨by rw [HE.out, decide_eq_true e]; rfl, HB0.out.drewN z⟩
        · have hq : ((len : Int) != (len' : Int)) = true := by simp; omega
          have HF : Hid (decide ((⟨t, n, s, p⟩ : Gr.Gm) = ⟨t, n, s, q⟩) = false) := by
            unfold Hid; rw [decide_eq_false_iff_not]; intro e; injection e with _ _ _ e
            have h1 := HL.out; have h2 := HL'.out; rw [e] at h1; omega
          clear h4
          go_enter Try.func16, Try.ntmps16
          go_wp2_with fail
          go_ret
          exact ⟨by rw [HF.out]; rfl, HB0.out⟩
      · have hq : (s != s') = true := by simpa using h3
        have HE : Hid (decide ((⟨t, n, s, p⟩ : Gr.Gm) = ⟨t, n, s', q⟩) = false) := by unfold Hid; rw [decide_eq_false_iff_not]; intro e; injection e with _ _ e _; exact h3 e
        clear h3
        go_enter Try.func16, Try.ntmps16
        go_wp2_with fail
        go_ret
        exact ⟨by rw [HE.out]; rfl, HB0.out⟩
    · have hq : (n != n') = true := by simpa using h2
      have HE : Hid (decide ((⟨t, n, s, p⟩ : Gr.Gm) = ⟨t, n', s', q⟩) = false) := by unfold Hid; rw [decide_eq_false_iff_not]; intro e; injection e with _ e _ _; exact h2 e
      clear h2
      go_enter Try.func16, Try.ntmps16
      go_wp2_with fail
      go_ret
      exact ⟨by rw [HE.out]; rfl, HB0.out⟩
  · have hq : (t != t') = true := by simpa using h1
    have HE : Hid (decide ((⟨t, n, s, p⟩ : Gr.Gm) = ⟨t', n', s', q⟩) = false) := by unfold Hid; rw [decide_eq_false_iff_not]; intro e; injection e with e _ _ _; exact h1 e
    clear h1
    go_enter Try.func16, Try.ntmps16
    go_wp2_with fail
    go_ret
    exact ⟨by rw [HE.out]; rfl, HB0.out⟩
end Go.Proofs.Ytlfobnpkfloolaa
