/- gram.Same: are grammars the same? -/
import Derived.Test.YtlfobnpkfloolaaGMem
import Derived.Test.YtlfobnpkfloolaaVSame
import Derived.Laws.StructEq
namespace Go.Proofs.Ytlfobnpkfloolaa
open Go.RowKit

instance (a b : Gr.Sy) : Decidable (a = b) := decidable_of_iff (a.non = b.non ∧ a.n = b.n) (by cases a; cases b; simp)
instance (a b : Gr.Pr) : Decidable (a = b) := decidable_of_iff (a.left = b.left ∧ a.right = b.right) (by cases a; cases b; simp)
instance (a b : Gr.Gm) : Decidable (a = b) := decidable_of_iff (a.terms = b.terms ∧ a.nons = b.nons ∧ a.start = b.start ∧ a.prods = b.prods) (by cases a; cases b; simp)
theorem gtake_succ {α : Type} {l r : List α} {k : Nat} (h1 : k < l.length) (h2 : k < r.length) (h : l.take k = r.take k) (hc : l[k] = r[k]) : l.take (k + 1) = r.take (k + 1) := by
  rw [List.take_succ_eq_append_getElem h1, List.take_succ_eq_append_getElem h2, h, hc]
theorem gtake_all {α : Type} {l r : List α} {k : Nat} (h1 : l.length ≤ k) (h2 : r.length ≤ k) (h : l.take k = r.take k) : l = r := by
  rwa [List.take_of_length_le h1, List.take_of_length_le h2] at h
theorem gtake_no {α : Type} {l r : List α} {k : Nat} (h1 : k < l.length) (h2 : k < r.length) (hc : l[k] ≠ r[k]) : l ≠ r := by rintro rfl; exact hc rfl

set_option maxRecDepth 100000 in
set_option maxHeartbeats 1000000 in
theorem eqSyms_any (A A' : Option Addr) (len len' cap cap' : Nat) (l r : List Gr.Sy) (w : World) (B : Nat) (hl : len = l.length) (hl' : len' = r.length) (hmax : len ≤ 9223372036854775807)
    (hr : Rd w B A (syRow l)) (hr' : Rd w B A' (syRow r)) :
    Calls Try.prog 48 #[.slice A len cap, .slice A' len' cap'] w (Quiet (.bool (decide (l = r))) w) := by
  have HL := Lib.hid hl; clear hl
  have HL' := Lib.hid hl'; clear hl'
  have HR := Lib.hid hr; clear hr
  have HR' := Lib.hid hr'; clear hr'
  by_cases hne : len = len'
  · have hq : ((len : Int) != (len' : Int)) = false := by simp; omega
    have HN := Lib.hid hne; clear hne
    go_enter Try.func48, Try.ntmps48
    go_wp2
    go_loopw [13] (fun i wr => ∃ (k q : Nat), k ≤ len ∧ i = .int .i64 k ∧ wr = w.drewN q ∧ Hid (l.take k = r.take k)) (fun i _ => len - (intOf i).toNat)
    case atStart => exact ⟨0, 0, by omega, rfl, rfl, by simp [Hid]⟩
    case round =>
      obtain ⟨k, q, hk, rfl, rfl, HT⟩ := hrel
      by_cases hlt : k < len
      · have hj : k < l.length := by have := HL.out; omega
        have hj' : k < r.length := by have := HL'.out; have := HN.out; omega
        obtain ⟨b, off, rfl, _, hc0, hc1⟩ := HR.out.sym hj
        obtain ⟨b', off', rfl, _, hc0', hc1'⟩ := HR'.out.sym hj'
        have hlt' : k < len' := by have := HN.out; omega
        have hk0 : (0 : Int) ≤ (k : Int) := by omega
        have hk1 : (k : Int) < (len : Int) := by omega
        have hk2 : (k : Int) < (len' : Int) := by omega
        have HS := Lib.hid (gtake_succ hj hj' HT.out)
        have HD := Lib.hid (gtake_no hj hj')
        generalize l[k] = c at hc0 hc1 HS HD
        generalize r[k] = c' at hc0' hc1' HS HD
        obtain ⟨cb, cn⟩ := c
        obtain ⟨cb', cn'⟩ := c'
        simp only at hc0 hc1 hc0' hc1'
        clear hj hj'
        by_cases hcc : cb = cb' ∧ cn = cn'
        · obtain ⟨e1, e2⟩ := hcc
          subst e1 e2
          have HT2 := Lib.hid (HS.out rfl)
          cases cb
          all_goals
            go_wp2
            go_quiet (fail)
            go_wp2
            go_roundw
            case rel => exact ⟨k + 1, _, by omega, by go_num, rfl, HT2.out⟩
            case measure => simp [intOf]; omega
        · have HF : Hid (decide (l = r) = false) := decide_eq_false (HD.out fun e => by injection e with e1 e2; exact hcc ⟨e1, e2⟩)
          by_cases hb : cb = cb'
          · subst hb
            have hn : (cn == cn') = false := by simp; intro e; exact hcc ⟨rfl, e⟩
            clear hcc
            cases cb
            all_goals
              go_wp2
              go_quiet (fail)
              go_wp2
              go_ret
              exact ⟨by rw [HF.out]; rfl, _, World.drewN_drewN _ _ _⟩
          · clear hcc
            cases cb <;> cases cb' <;> first | (exact absurd rfl hb) | skip
            all_goals
              clear hb
              go_wp2
              go_quiet (fail)
              go_wp2
              go_ret
              exact ⟨by rw [HF.out]; rfl, _, World.drewN_drewN _ _ _⟩
      · go_wp2
        go_ret
        have e : l = r := gtake_all (by have := HL.out; omega) (by have := HL'.out; have := HN.out; omega) HT.out
        exact ⟨by rw [decide_eq_true e]; rfl, _, rfl⟩
  · have hq : ((len : Int) != (len' : Int)) = true := by simp; omega
    have hf : decide (l = r) = false := by simp; rintro rfl; have := HL.out; have := HL'.out; omega
    have HF := Lib.hid hf; clear hf
    go_enter Try.func48, Try.ntmps48
    go_wp2
    go_ret
    exact ⟨by rw [HF.out]; rfl, 0, rfl⟩

set_option maxRecDepth 100000 in
set_option maxHeartbeats 1000000 in
theorem sameProd_any (l l' : Int) (A A' : Option Addr) (len len' cap cap' : Nat) (x y : List Gr.Sy) (w : World) (B : Nat) (hl : len = x.length) (hl' : len' = y.length) (hmax : len ≤ 9223372036854775807)
    (hr : Rd w B A (syRow x)) (hr' : Rd w B A' (syRow y)) (hB : B ≤ w.heap.size) :
    Calls Try.prog 36 #[.agg #[.int .i64 l, .slice A len cap], .agg #[.int .i64 l', .slice A' len' cap']] w fun e w' => e = .returned (.bool (decide ((⟨l, x⟩ : Gr.Pr) = ⟨l', y⟩))) ∧ Bl w w' := by
  have HL := Lib.hid hl; clear hl
  have HL' := Lib.hid hl'; clear hl'
  have HR : Hid (Rd ((w.alloc (.cells #[.int .i64 l, .slice A len cap] 43)).alloc (.cells #[.int .i64 l', .slice A' len' cap'] 43)) B A (syRow x)) := (hr.alloc hB _).alloc (by simp; omega) _
  have HR' : Hid (Rd ((w.alloc (.cells #[.int .i64 l, .slice A len cap] 43)).alloc (.cells #[.int .i64 l', .slice A' len' cap'] 43)) B A' (syRow y)) := (hr'.alloc hB _).alloc (by simp; omega) _
  have HB0 : Hid (Bl w ((w.alloc (.cells #[.int .i64 l, .slice A len cap] 43)).alloc (.cells #[.int .i64 l', .slice A' len' cap'] 43))) := ((Bl.refl w).alloc _).alloc _
  clear hr hr'
  by_cases h : l = l'
  · subst h
    have HE : Hid (decide ((⟨l, x⟩ : Gr.Pr) = ⟨l, y⟩) = decide (x = y)) := by unfold Hid; rw [decide_eq_decide]; simp
    go_enter Try.func36, Try.ntmps36
    go_wp2_with fail
    refine (eqSyms_any A A' len len' cap cap' x y _ B HL.out HL'.out hmax HR.out HR'.out).mono ?_
    rintro e w1 ⟨rfl, q, rfl⟩
    generalize hd : decide (x = y) = d at HE ⊢
    have HD := Lib.hid hd; clear hd
    go_wp2_with fail
    go_ret
    exact ⟨by rw [HE.out]; rfl, HB0.out.drewN q⟩
  · have hq : (l == l') = false := by simpa using h
    have HE : Hid (decide ((⟨l, x⟩ : Gr.Pr) = ⟨l', y⟩) = false) := by unfold Hid; rw [decide_eq_false_iff_not]; intro e; injection e with e1 _; exact h e1
    clear h
    go_enter Try.func36, Try.ntmps36
    go_wp2_with fail
    go_ret
    exact ⟨by rw [HE.out]; rfl, HB0.out⟩

set_option maxRecDepth 100000 in
set_option maxHeartbeats 1000000 in
theorem eqProds_any (A A' : Option Addr) (len len' cap cap' : Nat) (l r : List Gr.Pr) (w : World) (B : Nat) (hl : len = l.length) (hl' : len' = r.length) (hmax : len ≤ 9223372036854775807) (hml : ∀ p ∈ l, p.right.length ≤ 9223372036854775807)
    (hr : Prs w B A l) (hr' : Prs w B A' r) (hB : B ≤ w.heap.size) :
    Calls Try.prog 35 #[.slice A len cap, .slice A' len' cap', .func (.func 36) #[] #[]] w fun e w' => e = .returned (.bool (decide (l = r))) ∧ Bl w w' := by
  have HL := Lib.hid hl; clear hl
  have HL' := Lib.hid hl'; clear hl'
  have HR := Lib.hid hr; clear hr
  have HR' := Lib.hid hr'; clear hr'
  have HM := Lib.hid hml; clear hml
  by_cases hne : len = len'
  · have hq : ((len : Int) != (len' : Int)) = false := by simp; omega
    have HN := Lib.hid hne; clear hne
    go_enter Try.func35, Try.ntmps35
    go_wp2_with fail
    go_loopw [17] (fun i wr => ∃ (k : Nat), k ≤ len ∧ i = .int .i64 k ∧ Hid (Bl w wr) ∧ Hid (l.take k = r.take k)) (fun i _ => len - (intOf i).toNat)
    case atStart => exact ⟨0, by omega, rfl, Bl.refl w, by simp [Hid]⟩
    case round =>
      obtain ⟨k, hk, rfl, HB, HT⟩ := hrel
      by_cases hlt : k < len
      · have hj : k < l.length := by have := HL.out; omega
        have hj' : k < r.length := by have := HL'.out; have := HN.out; omega
        obtain ⟨b, off, Ax, cx, rfl, hb1, hrx, hc0, hc1⟩ := (HR.out.bl hB HB.out).at_ hj
        obtain ⟨b', off', Ax', cx', rfl, hb2, hrx', hc0', hc1'⟩ := (HR'.out.bl hB HB.out).at_ hj'
        have hlt' : k < len' := by have := HN.out; omega
        have HS := Lib.hid (gtake_succ hj hj' HT.out)
        have HD := Lib.hid (gtake_no hj hj')
        have hm := HM.out _ (List.getElem_mem hj)
        have hwr : B ≤ wr.heap.size := Nat.le_trans hB HB.out.size
        have hbw : b' < wr.heap.size := by omega
        generalize l[k] = c at hc0 hc1 HS HD hrx hm
        generalize r[k] = c' at hc0' hc1' HS HD hrx'
        obtain ⟨cl, cs⟩ := c
        obtain ⟨cl', cs'⟩ := c'
        simp only at hc0 hc1 hc0' hc1' hm hrx hrx'
        have HX : Hid (Rd ((wr.alloc (.cells #[.int .i64 cl, .slice Ax cs.length cx] 43)).alloc (.cells #[.int .i64 cl', .slice Ax' cs'.length cx'] 43)) B Ax (syRow cs)) := (hrx.alloc hwr _).alloc (by simp; omega) _
        have HX' : Hid (Rd ((wr.alloc (.cells #[.int .i64 cl, .slice Ax cs.length cx] 43)).alloc (.cells #[.int .i64 cl', .slice Ax' cs'.length cx'] 43)) B Ax' (syRow cs')) := (hrx'.alloc hwr _).alloc (by simp; omega) _
        clear hj hj' hrx hrx'
        by_cases hcc : (⟨cl, cs⟩ : Gr.Pr) = ⟨cl', cs'⟩
        · have HT2 := Lib.hid (HS.out hcc)
          have HC : Hid (decide ((⟨cl, cs⟩ : Gr.Pr) = ⟨cl', cs'⟩) = true) := decide_eq_true hcc
          clear hcc
          go_wp2_with fail
          refine (sameProd_any cl cl' Ax Ax' cs.length cs'.length cx cx' cs cs' _ B rfl rfl hm HX.out HX'.out (by simp; omega)).mono ?_
          rintro e w1 ⟨rfl, hb3⟩
          rw [HC.out]
          have HB3 := Lib.hid (((HB.out.alloc _).alloc _).trans hb3); clear hb3
          go_wp2_with fail
          go_roundw
          case rel => exact ⟨k + 1, by omega, by go_num, HB3.out, HT2.out⟩
          case measure => simp [intOf]; omega
        · have HF : Hid (decide (l = r) = false) := decide_eq_false (HD.out hcc)
          have HC : Hid (decide ((⟨cl, cs⟩ : Gr.Pr) = ⟨cl', cs'⟩) = false) := decide_eq_false hcc
          clear hcc
          go_wp2_with fail
          refine (sameProd_any cl cl' Ax Ax' cs.length cs'.length cx cx' cs cs' _ B rfl rfl hm HX.out HX'.out (by simp; omega)).mono ?_
          rintro e w1 ⟨rfl, hb3⟩
          rw [HC.out]
          have HB3 := Lib.hid (((HB.out.alloc _).alloc _).trans hb3); clear hb3
          go_wp2_with fail
          go_ret
          exact ⟨by rw [HF.out]; rfl, HB3.out⟩
      · go_wp2_with fail
        go_ret
        have e : l = r := gtake_all (by have := HL.out; omega) (by have := HL'.out; have := HN.out; omega) HT.out
        exact ⟨by rw [decide_eq_true e]; rfl, HB.out⟩
  · have hq : ((len : Int) != (len' : Int)) = true := by simp; omega
    have hf : decide (l = r) = false := by simp; rintro rfl; have := HL.out; have := HL'.out; omega
    have HF := Lib.hid hf; clear hf
    go_enter Try.func35, Try.ntmps35
    go_wp2_with fail
    go_ret
    exact ⟨by rw [HF.out]; rfl, Bl.refl w⟩

theorem gm_eq (t n s : Int) (p q : List Gr.Pr) : decide ((⟨t, n, s, p⟩ : Gr.Gm) = ⟨t, n, s, q⟩) = decide (p = q) := by rw [decide_eq_decide]; simp

set_option maxRecDepth 100000 in
set_option maxHeartbeats 1000000 in
theorem gsame_any (t n s t' n' s' : Int) (A A' : Option Addr) (len len' c c' : Nat) (p q : List Gr.Pr) (w : World) (B : Nat) (hl : len = p.length) (hl' : len' = q.length) (hmax : len ≤ 9223372036854775807) (hml : ∀ x ∈ p, x.right.length ≤ 9223372036854775807)
    (hr : Prs w B A p) (hr' : Prs w B A' q) (hB : B ≤ w.heap.size) :
    Calls Try.prog 15 #[.agg #[.int .i64 t, .int .i64 n, .int .i64 s, .slice A len c], .agg #[.int .i64 t', .int .i64 n', .int .i64 s', .slice A' len' c']] w fun e w' => e = .returned (.bool (decide ((⟨t, n, s, p⟩ : Gr.Gm) = ⟨t', n', s', q⟩))) ∧ Bl w w' := by
  have HL := Lib.hid hl; clear hl
  have HL' := Lib.hid hl'; clear hl'
  have HM := Lib.hid hml; clear hml
  have HR : Hid (Prs ((w.alloc (.cells #[.int .i64 t, .int .i64 n, .int .i64 s, .slice A len c] 24)).alloc (.cells #[.int .i64 t', .int .i64 n', .int .i64 s', .slice A' len' c'] 24)) B A p) := (hr.alloc hB _).alloc (by simp; omega) _
  have HR' : Hid (Prs ((w.alloc (.cells #[.int .i64 t, .int .i64 n, .int .i64 s, .slice A len c] 24)).alloc (.cells #[.int .i64 t', .int .i64 n', .int .i64 s', .slice A' len' c'] 24)) B A' q) := (hr'.alloc hB _).alloc (by simp; omega) _
  have HB0 : Hid (Bl w ((w.alloc (.cells #[.int .i64 t, .int .i64 n, .int .i64 s, .slice A len c] 24)).alloc (.cells #[.int .i64 t', .int .i64 n', .int .i64 s', .slice A' len' c'] 24))) := ((Bl.refl w).alloc _).alloc _
  clear hr hr'
  by_cases h1 : t = t'
  · subst h1
    by_cases h2 : n = n'
    · subst h2
      by_cases h3 : s = s'
      · subst h3
        have HE := Lib.hid (gm_eq t n s p q)
        go_enter Try.func15, Try.ntmps15
        go_wp2_with fail
        refine (eqProds_any A A' len len' c c' p q _ B HL.out HL'.out hmax HM.out HR.out HR'.out (by simp; omega)).mono ?_
        rintro e w1 ⟨rfl, hb1⟩
        have HB1 := Lib.hid (HB0.out.trans hb1); clear hb1
        generalize hd : decide (p = q) = d at HE ⊢
        have HD := Lib.hid hd; clear hd
        go_wp2_with fail
        go_ret
        exact ⟨by rw [HE.out]; rfl, HB1.out⟩
      · have hq : (s == s') = false := by simpa using h3
        have HE : Hid (decide ((⟨t, n, s, p⟩ : Gr.Gm) = ⟨t, n, s', q⟩) = false) := by unfold Hid; rw [decide_eq_false_iff_not]; intro e; injection e with _ _ e _; exact h3 e
        clear h3
        go_enter Try.func15, Try.ntmps15
        go_wp2_with fail
        go_ret
        exact ⟨by rw [HE.out]; rfl, HB0.out⟩
    · have hq : (n == n') = false := by simpa using h2
      have HE : Hid (decide ((⟨t, n, s, p⟩ : Gr.Gm) = ⟨t, n', s', q⟩) = false) := by unfold Hid; rw [decide_eq_false_iff_not]; intro e; injection e with _ e _ _; exact h2 e
      clear h2
      go_enter Try.func15, Try.ntmps15
      go_wp2_with fail
      go_ret
      exact ⟨by rw [HE.out]; rfl, HB0.out⟩
  · have hq : (t == t') = false := by simpa using h1
    have HE : Hid (decide ((⟨t, n, s, p⟩ : Gr.Gm) = ⟨t', n', s', q⟩) = false) := by unfold Hid; rw [decide_eq_false_iff_not]; intro e; injection e with e _ _ _; exact h1 e
    clear h1
    go_enter Try.func15, Try.ntmps15
    go_wp2_with fail
    go_ret
    exact ⟨by rw [HE.out]; rfl, HB0.out⟩
end Go.Proofs.Ytlfobnpkfloolaa
