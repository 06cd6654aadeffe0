/- reach.showsOne and reach.Shows: do facts show what is reached? -/
import Derived.Test.YthjaidaibpdamaaKPost
import Derived.Test.YthjaidaibpdamaaGRight
import Derived.Test.YthjaidaibpdamaaESy
import Derived.Laws.StructEq
namespace Go.Proofs.Ythjaidaibpdamaa
open Go.RowKit

/-- Does the fact of a nonterminal but Start stand, if those of the others do? -/
def eOne (ps : List Gr.Pr) (l : List Fc) (non : Int) (f : Fc) : Bool :=
  if f.rank < 1 then decide (f.rank = 0 ∧ f.prod = 0) else decide (0 ≤ f.prod) && match ps[f.prod.toNat]? with
    | some p => decide (1 ≤ rkz l p.left.toNat ∧ rkz l p.left.toNat < f.rank) && syHas non p.right
    | none => false
/-- Of the first k nonterminals each fact stands. -/
def eTo (ps : List Gr.Pr) (l : List Fc) (st k : Nat) : Prop := ∀ m (h : m < l.length), m < k → m ≠ st → eOne ps l (m : Int) l[m] = true
/-- Do facts show what is reached? -/
def eshowsB (g : Gr.Gm) (l : List Fc) : Bool := okB g && decide ((l.length : Int) = g.nons) && decide (l[g.start.toNat]? = some ⟨1, 0⟩) && (List.range l.length).all fun m => decide (m = g.start.toNat) || match l[m]? with
  | some f => eOne g.prods l (m : Int) f
  | none => false
section
variable {t n : Int} {st : Nat} {ps : List Gr.Pr} {l : List Fc}
theorem eOne_low {non xr xp : Int} (h : xr < 1) : eOne ps l non ⟨xr, xp⟩ = decide (xr = 0 ∧ xp = 0) := by unfold eOne; rw [if_pos h]
theorem eOne_out {non xr xp : Int} (h1 : ¬ xr < 1) (h : xp < 0 ∨ (ps.length : Int) ≤ xp) : eOne ps l non ⟨xr, xp⟩ = false := by
  unfold eOne
  rw [if_neg h1]
  rcases h with h | h
  · rw [decide_eq_false (by show ¬ 0 ≤ xp; omega)]; rfl
  · simp only
    rw [List.getElem?_eq_none (by omega)]; simp
theorem eOne_at {non xr : Int} {k : Nat} (h1 : ¬ xr < 1) (hk : k < ps.length) : eOne ps l non ⟨xr, (k : Int)⟩ = (decide (1 ≤ rkz l ps[k].left.toNat ∧ rkz l ps[k].left.toNat < xr) && syHas non ps[k].right) := by
  unfold eOne
  rw [if_neg h1]
  simp only
  rw [Int.toNat_natCast, List.getElem?_eq_getElem hk, decide_eq_true (by omega), Bool.true_and]
theorem eshowsB_bad {s : Int} (h : okB ⟨t, n, s, ps⟩ = false) : eshowsB ⟨t, n, s, ps⟩ l = false := by unfold eshowsB; rw [h]; rfl
theorem eshowsB_len {s : Int} (h : (l.length : Int) ≠ n) : eshowsB ⟨t, n, s, ps⟩ l = false := by unfold eshowsB; rw [decide_eq_false h]; simp
theorem eshowsB_start {xr xp : Int} (hl : st < l.length) (he : l[st] = ⟨xr, xp⟩) (h : ¬ (xr = 1 ∧ xp = 0)) : eshowsB ⟨t, n, (st : Int), ps⟩ l = false := by
  unfold eshowsB
  have : decide (l[((⟨t, n, (st : Int), ps⟩ : Gr.Gm).start).toNat]? = some ⟨1, 0⟩) = false := by
    apply decide_eq_false
    show ¬ l[((st : Int)).toNat]? = some ⟨1, 0⟩
    rw [Int.toNat_natCast, List.getElem?_eq_getElem hl, he]
    intro e
    injection e with e
    injection e with e1 e2
    exact h ⟨e1, e2⟩
  rw [this]
  simp
theorem eshowsB_one {m : Nat} (hm : m < l.length) (hne : m ≠ st) (h : eOne ps l (m : Int) l[m] = false) : eshowsB ⟨t, n, (st : Int), ps⟩ l = false := by
  rw [Bool.eq_false_iff]
  intro e
  unfold eshowsB at e
  rw [Bool.and_eq_true, List.all_eq_true] at e
  have := e.2 m (List.mem_range.2 hm)
  rw [List.getElem?_eq_getElem hm] at this
  simp only at this
  rw [h, Bool.or_false, decide_eq_true_eq, Int.toNat_natCast] at this
  exact hne this
theorem eshowsB_all (hok : okB ⟨t, n, (st : Int), ps⟩ = true) (hl : (l.length : Int) = n) (hs : l[st]? = some ⟨1, 0⟩) (h : eTo ps l st l.length) : eshowsB ⟨t, n, (st : Int), ps⟩ l = true := by
  unfold eshowsB
  rw [hok, decide_eq_true hl, Bool.and_self, Bool.true_and, Bool.and_eq_true, List.all_eq_true]
  refine ⟨decide_eq_true (by show l[((st : Int)).toNat]? = _; rw [Int.toNat_natCast]; exact hs), fun m hm => ?_⟩
  have hm := List.mem_range.1 hm
  rw [List.getElem?_eq_getElem hm]
  show (decide (m = ((st : Int)).toNat) || eOne ps l (m : Int) l[m]) = true
  rw [Int.toNat_natCast]
  by_cases e : m = st
  · rw [decide_eq_true e]; rfl
  · rw [h m hm hm e, Bool.or_true]
theorem eTo_zero : eTo ps l st 0 := fun _ _ h => absurd h (by omega)
theorem eTo_succ {k : Nat} (h : eTo ps l st k) (hk : k < l.length) (ho : k = st ∨ eOne ps l (k : Int) l[k] = true) : eTo ps l st (k + 1) := fun m hm hlt hne => by
  by_cases e : m = k
  · subst e; exact ho.resolve_left hne
  · exact h m hm (by omega) hne
end

set_option maxRecDepth 100000 in
set_option maxHeartbeats 4000000 in
theorem eshowsOne_any (t n s : Int) (A : Option Addr) (len c : Nat) (ps : List Gr.Pr) (Af : Option Addr) (lf cf : Nat) (l : List Fc) (m : Nat) (w : World) (B : Nat)
    (hlen : len = ps.length) (hok : okB ⟨t, n, s, ps⟩ = true) (hr : Prs w B A ps) (hlf : lf = l.length) (hrl : Rd w B Af (fcRow l)) (hB : B ≤ w.heap.size) (hm : m < l.length) (hn : (l.length : Int) = n) :
    Calls Try.prog 18 #[.agg #[.int .i64 t, .int .i64 n, .int .i64 s, .slice A len c], .slice Af lf cf, .int .i64 m] w fun e w' =>
      e = .returned (.bool (eOne ps l (m : Int) l[m])) ∧ Bl w w' := by
  have hmax : len ≤ 1000000000 := by have := (ok_nons hok).2.2; omega
  have hlf60 : lf ≤ 24 := by have := (ok_nons hok).2.1; omega
  have hmlf : m < lf := by omega
  have HOK := Lib.hid hok; clear hok
  have HL := Lib.hid hlen; clear hlen
  have HA := Lib.hid hr; clear hr
  have HLF := Lib.hid hlf; clear hlf
  have HFl := Lib.hid hrl
  have HN := Lib.hid hn; clear hn
  obtain ⟨bf, off2, hAf, hbf, f0, f1⟩ := hrl.fact hm
  generalize hx : l[m] = x at *
  obtain ⟨xr, xp⟩ := x
  simp only at f0 f1
  subst hAf
  have hbw : bf < w.heap.size := by omega
  have f0a : (w.alloc (.cells #[.int .i64 t, .int .i64 n, .int .i64 s, .slice A len c] 24)).cell? ⟨bf, off2 + m * 2, none⟩ = some (.int .i64 xr) := (World.cell?_alloc_lt _ _ _ hbw).trans f0
  have f1a : (w.alloc (.cells #[.int .i64 t, .int .i64 n, .int .i64 s, .slice A len c] 24)).cell? ⟨bf, off2 + m * 2 + 1, none⟩ = some (.int .i64 xp) := (World.cell?_alloc_lt _ _ _ hbw).trans f1
  have HB : Hid (Bl w ((w.alloc (.cells #[.int .i64 t, .int .i64 n, .int .i64 s, .slice A len c] 24)).alloc (.cells #[.int .i64 xr, .int .i64 xp] 32))) := ((Bl.refl w).alloc _).alloc _
  clear hx hrl hm f0 f1
  by_cases h1 : xr < 1
  · have HV := Lib.hid (eOne_low (ps := ps) (l := l) (non := (m : Int)) (xp := xp) h1)
    by_cases h2 : xr = 0
    · subst h2
      by_cases h3 : xp = 0
      · subst h3
        go_enter Try.func18, Try.ntmps18
        go_wp2_with fail
        go_ret
        exact ⟨by rw [HV.out]; rfl, HB.out⟩
      · have hq : (xp == 0) = false := by simpa using h3
        have HD : Hid (decide ((0 : Int) = 0 ∧ xp = 0) = false) := decide_eq_false fun e => h3 e.2
        clear h3
        go_enter Try.func18, Try.ntmps18
        go_wp2_with fail
        go_ret
        exact ⟨by rw [HV.out, HD.out]; rfl, HB.out⟩
    · have hq : (xr == 0) = false := by simpa using h2
      have HD : Hid (decide (xr = 0 ∧ xp = 0) = false) := decide_eq_false fun e => h2 e.1
      clear h2
      go_enter Try.func18, Try.ntmps18
      go_wp2_with fail
      go_ret
      exact ⟨by rw [HV.out, HD.out]; rfl, HB.out⟩
  by_cases h2 : xp < 0
  · have HV := Lib.hid (eOne_out (ps := ps) (l := l) (non := (m : Int)) (xp := xp) h1 (.inl h2))
    go_enter Try.func18, Try.ntmps18
    go_wp2_with fail
    go_ret
    exact ⟨by rw [HV.out]; rfl, HB.out⟩
  by_cases h3 : (len : Int) ≤ xp
  · have HV := Lib.hid (eOne_out (ps := ps) (l := l) (non := (m : Int)) (xp := xp) h1 (.inr (by have := HL.out; omega)))
    go_enter Try.func18, Try.ntmps18
    go_wp2_with fail
    go_ret
    exact ⟨by rw [HV.out]; rfl, HB.out⟩
  obtain ⟨k, rfl⟩ : ∃ k : Nat, xp = (k : Int) := ⟨xp.toNat, by omega⟩
  have hkl : k < len := by omega
  have hk : k < ps.length := by have := HL.out; omega
  have HV := Lib.hid (eOne_at (l := l) (non := (m : Int)) h1 hk)
  obtain ⟨b, off, Ax, cx, rfl, hbB, hrx, hc0, hc1⟩ := (HA.out.bl hB HB.out).at_ hk
  obtain ⟨⟨o1, o2⟩, o3, o4⟩ := ok_syms HOK.out hk
  obtain ⟨q, hqe, hql⟩ : ∃ q : Nat, ps[k].left = (q : Int) ∧ q < lf := ⟨ps[k].left.toNat, by omega, by have := HN.out; have := HLF.out; omega⟩
  have hql2 : q < l.length := by have := HLF.out; omega
  obtain ⟨bf', off', hA', hbf', e0, e1⟩ := (HFl.out.bl hB HB.out).fact hql2
  cases hA'
  have HRX := Lib.hid hrx
  have hpl : ps[k].right.length ≤ 8 := o3
  have hbB2 : b < w.heap.size + 1 + 1 := by omega
  rw [hqe, Int.toNat_natCast, rkz_at hql2] at HV
  rw [hqe] at hc0
  clear hrx o1 o2 o3 o4 hqe h3 h2 e1
  generalize ps[k].right = right at *
  generalize l[q] = z at e0 HV
  obtain ⟨zr, zp⟩ := z
  simp only at e0 HV
  clear hk hql2
  have hz0 : (0 : Int) ≤ (q : Int) := by omega
  have hbf2 : bf < w.heap.size + 1 + 1 := by omega
  have HB2 : Hid (Bl w (((w.alloc (.cells #[.int .i64 t, .int .i64 n, .int .i64 s, .slice (some ⟨b, off, none⟩) len c] 24)).alloc (.cells #[.int .i64 xr, .int .i64 (k : Int)] 32)).alloc (.cells #[.int .i64 q, .slice Ax right.length cx] 35))) := HB.out.alloc _
  have e0a : (((w.alloc (.cells #[.int .i64 t, .int .i64 n, .int .i64 s, .slice (some ⟨b, off, none⟩) len c] 24)).alloc (.cells #[.int .i64 xr, .int .i64 (k : Int)] 32)).alloc (.cells #[.int .i64 q, .slice Ax right.length cx] 35)).cell? ⟨bf, off2 + q * 2, none⟩ = some (.int .i64 zr) := (World.cell?_alloc_lt _ _ _ (by simp; omega)).trans e0
  by_cases z1 : zr < 1
  · have HX : Hid (decide (1 ≤ zr ∧ zr < xr) = false) := decide_eq_false (by omega)
    go_enter Try.func18, Try.ntmps18
    go_wp2_with fail
    go_ret
    exact ⟨by rw [HV.out, HX.out]; rfl, HB2.out⟩
  by_cases z2 : xr ≤ zr
  · have HX : Hid (decide (1 ≤ zr ∧ zr < xr) = false) := decide_eq_false (by omega)
    go_enter Try.func18, Try.ntmps18
    go_wp2_with fail
    go_ret
    exact ⟨by rw [HV.out, HX.out]; rfl, HB2.out⟩
  have HX : Hid (decide (1 ≤ zr ∧ zr < xr) = true) := decide_eq_true (by omega)
  go_enter Try.func18, Try.ntmps18
  go_wp2_with fail
  refine (sycontains_any Ax right.length cx right (m : Int) _ B rfl (by omega) (HRX.out.bl (Nat.le_trans hB HB.out.size) ((Bl.refl _).alloc _)) (Nat.le_trans hB HB2.out.size)).mono ?_
  rintro e w3 ⟨rfl, hb3⟩
  have HB3 := Lib.hid (HB2.out.trans hb3)
  clear hb3
  cases hv : syHas (m : Int) right with
  | true =>
    rw [hv] at HV
    go_wp2_with fail
    go_ret
    exact ⟨by rw [HV.out, HX.out]; rfl, HB3.out⟩
  | false =>
    rw [hv] at HV
    go_wp2_with fail
    go_ret
    exact ⟨by rw [HV.out, HX.out]; rfl, HB3.out⟩

set_option maxRecDepth 100000 in
set_option maxHeartbeats 4000000 in
theorem eshows_any (t n s : Int) (A : Option Addr) (len c : Nat) (ps : List Gr.Pr) (Af : Option Addr) (lf cf : Nat) (l : List Fc) (w : World) (B : Nat)
    (hlen : len = ps.length) (hmax : len ≤ 9223372036854775807) (hr : Prs w B A ps) (hlf : lf = l.length) (hmf : lf ≤ 9223372036854775807) (hrl : Rd w B Af (fcRow l)) (hB : B ≤ w.heap.size) :
    Calls Try.prog 11 #[.agg #[.int .i64 t, .int .i64 n, .int .i64 s, .slice A len c], .slice Af lf cf] w fun e w' =>
      e = .returned (.bool (eshowsB ⟨t, n, s, ps⟩ l)) ∧ Bl w w' := by
  have HL := Lib.hid hlen; clear hlen
  have HA := Lib.hid hr; clear hr
  have HLF := Lib.hid hlf; clear hlf
  have HF := Lib.hid hrl; clear hrl
  have HB : Hid (Bl w (w.alloc (.cells #[.int .i64 t, .int .i64 n, .int .i64 s, .slice A len c] 24))) := (Bl.refl w).alloc _
  have HG : Hid (Bk (w.alloc (.cells #[.int .i64 t, .int .i64 n, .int .i64 s, .slice A len c] 24)) w.heap.size 24 #[.int .i64 t, .int .i64 n, .int .i64 s, .slice A len c]) := Bk.new w _ _
  go_enter Try.func11, Try.ntmps11
  go_wp2_with fail
  refine (right_any t n s A len c ps _ B HL.out hmax (HA.out.bl hB HB.out) (Nat.le_trans hB HB.out.size)).mono ?_
  rintro e w1 ⟨rfl, hb1⟩
  have HB1 := Lib.hid (HB.out.trans hb1)
  have HG1 := Lib.hid (HG.out.bl hb1)
  clear hb1
  cases hok : okB ⟨t, n, s, ps⟩ with
  | false =>
    have HV := Lib.hid (eshowsB_bad (l := l) hok)
    clear hok
    go_wp2_with fail
    go_ret
    exact ⟨by rw [HV.out]; rfl, HB1.out⟩
  | true =>
    obtain ⟨n1, n2, n3⟩ := ok_nons hok
    obtain ⟨s1, s2⟩ : 0 ≤ s ∧ s < n := by
      obtain ⟨_, _, _, _, h5, h6, _⟩ := (okB_iff _).1 hok
      exact ⟨h5, h6⟩
    have HOK := Lib.hid hok; clear hok
    obtain ⟨st, rfl⟩ : ∃ st : Nat, s = (st : Int) := ⟨s.toNat, by omega⟩
    have g1 : w1.cell? ⟨w.heap.size, 1, none⟩ = some (.int .i64 n) := HG1.out.cell 1
    have g2 : w1.cell? ⟨w.heap.size, 2, none⟩ = some (.int .i64 (st : Int)) := HG1.out.cell 2
    have glt : w.heap.size < w1.heap.size := HG1.out.lt
    by_cases hne : (lf : Int) = n
    · have hq : ((lf : Int) != n) = false := by simpa using hne
      have HN : Hid ((l.length : Int) = n) := by have := HLF.out; show (l.length : Int) = n; omega
      have hstl : st < lf := by omega
      have hst : st < l.length := by have := HLF.out; omega
      have hst0 : (0 : Int) ≤ (st : Int) := by omega
      clear hne
      obtain ⟨bf, off2, rfl, hbf, f0, f1⟩ := (HF.out.bl hB HB1.out).fact hst
      have HSt : Hid (∀ xr xp, l[st] = ⟨xr, xp⟩ → ¬ (xr = 1 ∧ xp = 0) → eshowsB ⟨t, n, (st : Int), ps⟩ l = false) := fun xr xp he h => eshowsB_start hst he h
      have HS1 : Hid (∀ xr xp, l[st] = ⟨xr, xp⟩ → xr = 1 → xp = 0 → l[st]? = some ⟨1, 0⟩) := fun xr xp he h1 h2 => by subst h1 h2; rw [List.getElem?_eq_getElem hst, he]
      generalize hx : l[st] = x at f0 f1 HSt HS1
      obtain ⟨xr, xp⟩ := x
      simp only at f0 f1
      have HSt := Lib.hid (HSt.out xr xp rfl)
      have HS1 := Lib.hid (HS1.out xr xp rfl)
      clear hx hst
      by_cases h1 : xr = 1
      · subst h1
        by_cases h2 : xp = 0
        · subst h2
          have HS2 := Lib.hid (HS1.out rfl rfl)
          go_wp2_with fail
          clear g1 g2 glt hq f0 f1
          go_loopw [27] (fun i wr => ∃ k : Nat, k ≤ lf ∧ i = .int .i64 k ∧ Hid (eTo ps l st k) ∧ Hid (Bl w1 wr)) (fun i _ => lf - (intOf i).toNat)
          case atStart => exact ⟨0, Nat.zero_le _, rfl, eTo_zero, Bl.refl _⟩
          case round =>
            obtain ⟨k, hk, rfl, HT, HBr⟩ := hrel
            by_cases hlt : k < lf
            · have hj : k < l.length := by have := HLF.out; omega
              have HKr := Lib.hid (HG1.out.bl HBr.out)
              have g0 : wr.cell? ⟨w.heap.size, 0, none⟩ = some (.int .i64 t) := HKr.out.cell 0
              have g1 : wr.cell? ⟨w.heap.size, 1, none⟩ = some (.int .i64 n) := HKr.out.cell 1
              have g2 : wr.cell? ⟨w.heap.size, 2, none⟩ = some (.int .i64 (st : Int)) := HKr.out.cell 2
              have g3 : wr.cell? ⟨w.heap.size, 3, none⟩ = some (.slice A len c) := HKr.out.cell 3
              have glt : w.heap.size < wr.heap.size := HKr.out.lt
              have HBw := Lib.hid (HB1.out.trans HBr.out)
              by_cases hks : k = st
              · subst hks
                have HX := Lib.hid (eTo_succ HT.out hj (.inl rfl))
                have hq : ((k : Int) != (k : Int)) = false := by simp
                clear hj
                go_wp2_with fail
                go_roundw
                case rel => exact ⟨k + 1, by omega, by go_num, HX.out, HBr.out⟩
                case measure => simp [intOf]; omega
              · have hq : ((k : Int) != (st : Int)) = true := by simp; omega
                have HGood := Lib.hid (fun h => eTo_succ HT.out hj (.inr h))
                have HBad := Lib.hid (fun h => eshowsB_one (t := t) (n := n) (ps := ps) hj hks h)
                have HCall := Lib.hid (eshowsOne_any t n (st : Int) A len c ps (some ⟨bf, off2, none⟩) lf cf l k wr B HL.out HOK.out (HA.out.bl hB HBw.out) HLF.out (HF.out.bl hB HBw.out) (Nat.le_trans hB HBw.out.size) hj HN.out)
                clear hks
                go_wp2_with fail
                refine HCall.out.mono ?_
                rintro e w2 ⟨rfl, hb2⟩
                have HB2 := Lib.hid (HBr.out.trans hb2); clear hb2 HCall
                cases hv : eOne ps l (k : Int) l[k] with
                | true =>
                  have HX := Lib.hid (HGood.out hv)
                  clear hv
                  go_wp2_with fail
                  go_roundw
                  case rel => exact ⟨k + 1, by omega, by go_num, HX.out, HB2.out⟩
                  case measure => simp [intOf]; omega
                | false =>
                  have HX := Lib.hid (HBad.out hv)
                  clear hv
                  go_wp2_with fail
                  go_ret
                  exact ⟨by rw [HX.out]; rfl, HB1.out.trans HB2.out⟩
            · have HX : Hid (eshowsB ⟨t, n, (st : Int), ps⟩ l = true) := eshowsB_all HOK.out HN.out HS2.out (by
                have h := HT.out
                rwa [show k = l.length by have := HLF.out; omega] at h)
              go_wp2_with fail
              go_ret
              exact ⟨by rw [HX.out]; rfl, HB1.out.trans HBr.out⟩
        · have hq2 : (xp == 0) = false := by simpa using h2
          have HV := Lib.hid (HSt.out (fun e => h2 e.2))
          clear h2
          go_wp2_with fail
          go_ret
          exact ⟨by rw [HV.out]; rfl, HB1.out⟩
      · have hq2 : (xr == 1) = false := by simpa using h1
        have HV := Lib.hid (HSt.out (fun e => h1 e.1))
        clear h1
        go_wp2_with fail
        go_ret
        exact ⟨by rw [HV.out]; rfl, HB1.out⟩
    · have hq : ((lf : Int) != n) = true := by simpa using hne
      have HV : Hid (eshowsB ⟨t, n, (st : Int), ps⟩ l = false) := eshowsB_len (by have := HLF.out; omega)
      clear hne
      go_wp2_with fail
      go_ret
      exact ⟨by rw [HV.out]; rfl, HB1.out⟩
end Go.Proofs.Ythjaidaibpdamaa
