/- The reference's stands and Reach: the facts, round by round, in place. -/
import Derived.Test.YthhgjdnbeeadhaaEReach
import Derived.Test.YthhgjdnbeeadhaaESyh
import Derived.Test.YthhgjdnbeeadhaaGRRight
namespace Go.Proofs.Ythhgjdnbeeadhaa
open Go.RowKit

theorem syHas_one {n : Int} {l : List Gr.Sy} {k : Nat} (hk : k < l.length) (h : (l[k].non && decide (l[k].n = n)) = true) : syHas n l = true := by
  unfold syHas
  rw [List.any_eq_true]
  exact ⟨_, List.getElem_mem hk, h⟩
theorem syHas_none {n : Int} {l : List Gr.Sy} (h : ∀ x ∈ l, (x.non && decide (x.n = n)) = false) : syHas n l = false := by
  rw [Bool.eq_false_iff]
  intro e
  unfold syHas at e
  rw [List.any_eq_true] at e
  obtain ⟨x, hx, e⟩ := e
  rw [h x hx] at e; cases e

set_option maxRecDepth 100000 in
set_option maxHeartbeats 1000000 in
theorem stands_any (left n : Int) (A : Option Addr) (len c : Nat) (right : List Gr.Sy) (w : World) (B : Nat)
    (hlen : len = right.length) (hmax : len ≤ 1000000000) (hr : Rd w B A (syRow right)) (hB : B ≤ w.heap.size) :
    Calls Try.prog 31 #[.agg #[.int .i64 left, .slice A len c], .int .i64 n] w fun e w' => e = .returned (.bool (syHas n right)) ∧ Bl w w' := by
  have HL := Lib.hid hlen; clear hlen
  have HA := Lib.hid hr; clear hr
  have HB0 : Hid (Bl w (w.alloc (.cells #[.int .i64 left, .slice A len c] 41))) := (Bl.refl w).alloc _
  have HK0 := Lib.hid (Bk.new w 41 #[.int .i64 left, .slice A len c])
  go_enter Try.func31, Try.ntmps31
  go_wp2_with fail
  generalize hw0 : w.alloc (.cells #[.int .i64 left, .slice A len c] 41) = w0 at HB0 HK0 ⊢
  have HW0 := Lib.hid hw0; clear hw0
  have HR0 := Lib.hid (HA.out.bl hB HB0.out)
  go_loop [5] (fun i => ∃ k : Nat, k ≤ len ∧ i = .int .i64 k ∧ Hid (∀ x ∈ right.take k, (x.non && decide (x.n = n)) = false)) (fun i => len - (intOf i).toNat)
  case atStart => exact ⟨0, Nat.zero_le _, rfl, by simp [Hid]⟩
  case round =>
    obtain ⟨k, hk, rfl, HT⟩ := hrel
    have kk0 : w0.cell? ⟨w.heap.size, 1, none⟩ = some (.slice A len c) := HK0.out.cell 1
    have klt : w.heap.size < w0.heap.size := HK0.out.lt
    by_cases hlt : k < len
    · have hj : k < right.length := by have := HL.out; omega
      obtain ⟨b, off, rfl, hbB, q0, q1⟩ := HR0.out.sym hj
      have HOne := Lib.hid (fun h => syHas_one (n := n) hj h)
      have HGood := Lib.hid (all_snoc hj HT.out)
      generalize right[k] = y at q0 q1 HOne HGood
      obtain ⟨yb, yn⟩ := y
      simp only at q0 q1 HOne HGood
      clear hj
      cases yb with
      | false =>
        have HY := Lib.hid (HGood.out rfl)
        go_wp2_with fail
        go_round
        case rel => exact ⟨k + 1, by omega, by go_num, HY.out⟩
        case measure => simp [intOf]; omega
      | true =>
        by_cases he : yn = n
        · subst he
          have HX := Lib.hid (HOne.out (by simp))
          go_wp2_with fail
          go_ret
          exact ⟨by rw [HX.out]; rfl, HB0.out⟩
        · have hq : (yn == n) = false := by simpa using he
          have HY := Lib.hid (HGood.out (by simp [he]))
          clear he
          go_wp2_with fail
          go_round
          case rel => exact ⟨k + 1, by omega, by go_num, HY.out⟩
          case measure => simp [intOf]; omega
    · have HX : Hid (syHas n right = false) := syHas_none (by
        have h := HT.out
        rw [List.take_of_length_le (by have := HL.out; omega)] at h
        exact h)
      go_wp2_with fail
      go_ret
      exact ⟨by rw [HX.out]; rfl, HB0.out⟩

/-- A row of facts of the call's own; the grammar at block gg. -/
structure ELRel (t n s : Int) (A : Option Addr) (len c N cl gl gg : Nat) (w0 : World) (cur : Rk.Fs) (w : World) : Prop where
  bg : Bk w gg 24 #[.int .i64 t, .int .i64 n, .int .i64 s, .slice A len c]
  own : w.ownsRow w0.heap.size 33 2 (.slice (some ⟨gl, 0, none⟩) N cl) N (fcRow (fz cur))
  len_ : cur.length = N
  b : Bl w0 w
section
variable {t n s : Int} {A : Option Addr} {len c N cl gl gg : Nat} {w0 : World} {cur cur' : Rk.Fs} {w w' : World}
theorem ELRel.bl_ (h : ELRel t n s A len c N cl gl gg w0 cur w) (hb : Bl w w') : ELRel t n s A len c N cl gl gg w0 cur w' := ⟨h.bg.bl hb, own_bl h.own hb, h.len_, h.b.trans hb⟩
theorem ELRel.is (h : ELRel t n s A len c N cl gl gg w0 cur w) (e : cur' = cur) : ELRel t n s A len c N cl gl gg w0 cur' w := by subst e; exact h
theorem ELRel.rd (h : ELRel t n s A len c N cl gl gg w0 cur w) : Rd w w.heap.size (some ⟨gl, 0, none⟩) (fcRow (fz cur)) := own_rd h.own
theorem ELRel.rank (h : ELRel t n s A len c N cl gl gg w0 cur w) {m : Nat} (hm : m < N) : w.cell? ⟨gl, m * 2, none⟩ = some (.int .i64 (Rk.rk cur m : Int)) := by
  have hl : m < (fz cur).length := by rw [fz_len, h.len_]; exact hm
  have e := (fcRow_at (fz cur) m hl).1
  rw [fz_rank] at e
  exact (h.own.cellAt _ (by omega)).trans e
theorem ELRel.free (h : ELRel t n s A len c N cl gl gg w0 cur w) (j : Nat) : w.frozen? ⟨gl, j, none⟩ = false := h.own.frozenAt j
theorem ELRel.isSome (h : ELRel t n s A len c N cl gl gg w0 cur w) {j : Nat} (hj : j < N * 2) : ∃ u, w.cell? ⟨gl, j, none⟩ = some u := by
  have hl : j < (fcRow (fz cur)).length := by rw [fcRow_len, fz_len, h.len_]; exact hj
  exact ⟨_, (h.own.cellAt j hj).trans (List.getElem?_eq_getElem hl)⟩
theorem ELRel.glt (h : ELRel t n s A len c N cl gl gg w0 cur w) : gl < w.heap.size := (h.own.lt gl rfl).2
theorem ELRel.put (h : ELRel t n s A len c N cl gl gg w0 cur w) {m r i : Nat} :
    ELRel t n s A len c N cl gl gg w0 (cur.set m (r, i)) ((w.setCell ⟨gl, m * 2, none⟩ (.int .i64 r)).setCell ⟨gl, m * 2 + 1, none⟩ (.int .i64 i)) := by
  have hfr : Fr (fun k => k = gl) w ((w.setCell ⟨gl, m * 2, none⟩ (.int .i64 r)).setCell ⟨gl, m * 2 + 1, none⟩ (.int .i64 i)) := ((Fr.refl _ w).own _ _).own _ _
  have h1 := (h.own.stored (m * 2) (.int .i64 r)).1
  have h2 := (h1.stored (m * 2 + 1) (.int .i64 i)).1
  have hlow := (h.own.lt gl rfl).1
  refine ⟨h.bg.fr hfr (fun e => h.bg.row h.own (by decide) (by rw [e]; rfl)), ?_, by rw [List.length_set]; exact h.len_, h.b.fr hfr fun k hk e => by omega⟩
  rw [fz_set, fcRow_set]
  exact h2
theorem ELRel.base {st : Nat} (ps : List Gr.Pr) (h : ELRel t n s A len c N cl gl gg w0 (Rk.zeros N) w) (hs : st < N) : ELRel t n s A len c N cl gl gg w0 (Rc.rounds' ps N st 0) (w.setCell ⟨gl, st * 2, none⟩ (.int .i64 1)) := by
  have hfr : Fr (fun k => k = gl) w (w.setCell ⟨gl, st * 2, none⟩ (.int .i64 1)) := (Fr.refl _ w).own _ _
  have h1 := (h.own.stored (st * 2) (.int .i64 1)).1
  have hlow := (h.own.lt gl rfl).1
  refine ⟨h.bg.fr hfr (fun e => h.bg.row h.own (by decide) (by rw [e]; rfl)), ?_, Rc.rounds'_length _ _, h.b.fr hfr fun k hk e => by omega⟩
  show World.ownsRow _ _ _ _ _ _ (fcRow (fz (Rc.base N st)))
  rw [fz_base hs]
  exact h1
end
/-- While the productions are gone through for one nonterminal: it has found none of the first j, or it is told. -/
def Look (ps : List Gr.Pr) (cur : Rk.Fs) (r m j : Nat) (fs : Rk.Fs) : Prop :=
  (fs = Rk.placed (Rc.pick ps) cur r m ∧ ∀ j', j' < j → ¬ Rc.hit ps cur r m j') ∨ (fs = Rk.placed (Rc.pick ps) cur r (m + 1) ∧ Rk.rk fs m ≠ 0)
section
variable {ps : List Gr.Pr} {cur fs : Rk.Fs} {r m j : Nat}
theorem Look.start : Look ps cur r m 0 (Rk.placed (Rc.pick ps) cur r m) := .inl ⟨rfl, fun j' h => absurd h (by omega)⟩
theorem rk_placed_at (ps : List Gr.Pr) (cur : Rk.Fs) (r m : Nat) : Rk.rk (Rk.placed (Rc.pick ps) cur r m) m = Rk.rk cur m := by
  unfold Rk.rk
  rw [Rk.placed_at _ _ _ (Nat.le_refl m)]
theorem Look.told (h : Look ps cur r m j fs) (h0 : Rk.rk fs m ≠ 0) : fs = Rk.placed (Rc.pick ps) cur r (m + 1) := by
  rcases h with ⟨rfl, _⟩ | ⟨rfl, _⟩
  · rw [rk_placed_at] at h0
    exact (Rk.placed_keep _ _ _ (.inl h0)).symm
  · rfl
theorem Look.all (h : Look ps cur r m ps.length fs) : fs = Rk.placed (Rc.pick ps) cur r (m + 1) := by
  rcases h with ⟨rfl, h⟩ | ⟨rfl, _⟩
  · exact (Rk.placed_keep _ _ _ (.inr (Rc.pick_not h))).symm
  · rfl
theorem Look.skip (h : Look ps cur r m j fs) (hn : Rk.rk fs m = 0) (hj : j < ps.length) (hr : 2 ≤ r) (hx : syHas (m : Int) ps[j].right = false ∨ Rk.rk fs ps[j].left.toNat + 1 ≠ r) : Look ps cur r m (j + 1) fs := by
  rcases h with ⟨rfl, h⟩ | ⟨_, h⟩
  · refine .inl ⟨rfl, Rc.hits_succ h ?_⟩
    rintro ⟨p, hp, h1, h2⟩
    rw [List.getElem?_eq_getElem hj] at hp
    injection hp with hp
    subst hp
    rw [← syHas_stands] at h1
    rcases hx with hx | hx
    · rw [hx] at h1; cases h1
    · exact hx ((Rk.placed_ahead _ _ _ hr).2 h2)
  · exact absurd hn h
theorem Look.put (h : Look ps cur r m j fs) (hn : Rk.rk fs m = 0) (hj : j < ps.length) (hr : 2 ≤ r) (hm : m < cur.length) (h1 : syHas (m : Int) ps[j].right = true) (h2 : Rk.rk fs ps[j].left.toNat + 1 = r) (j' : Nat) : Look ps cur r m j' (fs.set m (r, j)) := by
  rcases h with ⟨rfl, h⟩ | ⟨_, h⟩
  · rw [rk_placed_at] at hn
    have hp : Rc.pick ps cur r m = some j := Rc.pick_is ⟨ps[j], List.getElem?_eq_getElem hj, by rw [← syHas_stands]; exact h1, (Rk.placed_ahead _ _ _ hr).1 h2⟩ h
    refine .inr ⟨(Rk.placed_put _ _ _ hn hp hm).symm, ?_⟩
    unfold Rk.rk
    rw [List.getD_eq_getElem?_getD, List.getElem?_set, if_pos rfl, if_pos (by rw [Rk.placed_length]; exact hm)]
    show r ≠ 0
    omega
  · exact absurd hn h
end

set_option maxRecDepth 100000 in
set_option maxHeartbeats 4000000 in
theorem rreach_any (t n s : Int) (A : Option Addr) (len c : Nat) (ps : List Gr.Pr) (w : World) (B : Nat) (hlen : len = ps.length) (hmax : len ≤ 9223372036854775807) (hr : Prs w B A ps) (hB : B ≤ w.heap.size) :
    Calls Try.prog 17 #[.agg #[.int .i64 t, .int .i64 n, .int .i64 s, .slice A len c]] w (FPost (reachOf ⟨t, n, s, ps⟩) w) := by
  obtain ⟨i0, hi, hz0, hz1, hz2⟩ := info_parts fact_info
  have HL := Lib.hid hlen; clear hlen
  have HA := Lib.hid hr; clear hr
  have HBx : Hid (Bl w (w.alloc (.cells #[.int .i64 t, .int .i64 n, .int .i64 s, .slice A len c] 24))) := (Bl.refl w).alloc _
  have HGx : Hid (Bk (w.alloc (.cells #[.int .i64 t, .int .i64 n, .int .i64 s, .slice A len c] 24)) w.heap.size 24 #[.int .i64 t, .int .i64 n, .int .i64 s, .slice A len c]) := Bk.new w _ _
  go_enter Try.func17, Try.ntmps17
  go_wp2_with fail
  refine (rright_any t n s A len c ps _ B HL.out hmax (HA.out.bl hB HBx.out) (Nat.le_trans hB HBx.out.size)).mono ?_
  rintro e w1 ⟨rfl, hb1⟩
  have HB1 := Lib.hid (HBx.out.trans hb1)
  have HG1 := Lib.hid (HGx.out.bl hb1)
  clear hb1
  cases hok : okB ⟨t, n, s, ps⟩ with
  | false =>
    have HNo := Lib.hid (reachOf_no hok)
    clear hok
    go_wp2_with fail
    go_ret
    exact ⟨none, 0, 0, rfl, by rw [HNo.out]; rfl, by rw [HNo.out]; exact Rd.nil, HB1.out⟩
  | true =>
    obtain ⟨n1, n2, n3⟩ := ok_nons hok
    obtain ⟨s1, s2⟩ := ok_start hok
    have hl60 : len ≤ 60 := by have := HL.out; omega
    obtain ⟨N, rfl⟩ : ∃ N : Nat, n = (N : Int) := ⟨n.toNat, by omega⟩
    obtain ⟨st, rfl⟩ : ∃ st : Nat, s = (st : Int) := ⟨s.toNat, by omega⟩
    have hst : st < N := by omega
    have HYes := Lib.hid (reachOf_ok hok)
    have HOK := Lib.hid hok
    clear hok
    have g1 : w1.cell? ⟨w.heap.size, 1, none⟩ = some (.int .i64 (N : Int)) := HG1.out.cell 1
    have glt : w.heap.size < w1.heap.size := HG1.out.lt
    go_wp2_with (
      refine wpList_make_full _ rfl (.tmp 11) (.tmp 11) 30 rfl w.heap.size 33 i0 (.agg #[.int .i64 0, .int .i64 0]) 2 Try.underlying30 hi hz0 hz1 .i64 .i64 (N : Int) (N : Int) N rfl rfl rfl rfl (by rw [hz2]; omega) (by simp only [maxLen]; omega) (by omega) ?_
      intro w2 hown2 hg2
      have HK : Hid (ELRel t N st A len c N N w1.heap.size w.heap.size w (Rk.zeros N) w2) := ⟨HG1.out.grown hg2 (by simp), by rw [fz_zeros]; exact hown2, by unfold Rk.zeros; rw [List.length_replicate], HB1.out.grown hg2 (by simp)⟩
      clear hown2 hg2 g1 glt
      have k2 : w2.cell? ⟨w.heap.size, 2, none⟩ = some (.int .i64 (st : Int)) := HK.out.bg.cell 2
      have klt1 : w.heap.size < w2.heap.size := HK.out.bg.lt
      have klt2 : w1.heap.size < w2.heap.size := HK.out.glt
      have kf := HK.out.free (st * 2)
      obtain ⟨u0, ku⟩ := HK.out.isSome (j := st * 2) (by omega)
      have HKb := Lib.hid (HK.out.base ps hst))
    clear k2 klt1 klt2 kf ku HK
    go_loopw [4] (fun i wr => ∃ k r : Nat, k + 1 ≤ N ∧ r ≤ N + 1 ∧ i = .int .i64 r ∧ Hid (r = k + 2) ∧ Hid (ELRel t N st A len c N N w1.heap.size w.heap.size w (Rc.rounds' ps N st k) wr)) (fun i _ => N + 1 - (intOf i).toNat)
    case atStart => exact ⟨0, 2, by omega, by omega, rfl, rfl, HKb.out⟩
    case round =>
      obtain ⟨k, r, hk, hrn, rfl, HRk, HKk⟩ := hrel
      have g1 : wr.cell? ⟨w.heap.size, 1, none⟩ = some (.int .i64 (N : Int)) := HKk.out.bg.cell 1
      have glt : w.heap.size < wr.heap.size := HKk.out.bg.lt
      by_cases hrl : r ≤ N
      · have HRd : Hid (Rk.round (Rc.pick ps) (Rc.rounds' ps N st k) r = Rc.rounds' ps N st (k + 1)) := by rw [HRk.out]; exact (Rc.rounds'_succ ..).symm
        have hr2 : 2 ≤ r := by have := HRk.out; omega
        have hk2 : k + 1 + 1 ≤ N := by have := HRk.out; omega
        generalize hcur : Rc.rounds' ps N st k = cur at *
        have HCl := Lib.hid HKk.out.len_
        have HP0 := Lib.hid (HKk.out.is (Rk.placed_zero (Rc.pick ps) cur r))
        clear hcur
        go_wp2_with fail
        clear g1 glt
        go_loopw [5] (fun i wr2 => ∃ m : Nat, m ≤ N ∧ i = .int .i64 m ∧ Hid (ELRel t N st A len c N N w1.heap.size w.heap.size w (Rk.placed (Rc.pick ps) cur r m) wr2)) (fun i _ => N - (intOf i).toNat)
        case atStart => exact ⟨0, Nat.zero_le _, rfl, HP0.out⟩
        case round =>
          obtain ⟨m, hm, rfl, HRm⟩ := hrel
          have g1 : wr.cell? ⟨w.heap.size, 1, none⟩ = some (.int .i64 (N : Int)) := HRm.out.bg.cell 1
          have glt : w.heap.size < wr.heap.size := HRm.out.bg.lt
          by_cases hmN : m < N
          · go_wp2_with fail
            clear g1 glt
            go_loopw [6] (fun i wr3 => ∃ (j : Nat) (fs : Rk.Fs), j ≤ len ∧ i = .int .i64 j ∧ Hid (Look ps cur r m j fs) ∧ Hid (ELRel t N st A len c N N w1.heap.size w.heap.size w fs wr3)) (fun i _ => len - (intOf i).toNat)
            case atStart => exact ⟨0, _, Nat.zero_le _, rfl, Look.start, HRm.out⟩
            case round =>
              obtain ⟨j, fs, hj, rfl, HK, HRj⟩ := hrel
              have g3 : wr.cell? ⟨w.heap.size, 3, none⟩ = some (.slice A len c) := HRj.out.bg.cell 3
              have glt : w.heap.size < wr.heap.size := HRj.out.bg.lt
              have kr := HRj.out.rank hmN
              have glt1 := HRj.out.glt
              by_cases hjl : j < len
              · by_cases hz : Rk.rk fs m = 0
                · rw [hz] at kr
                  have hj' : j < ps.length := by have := HL.out; omega
                  have hb0 := HRj.out.b
                  have hBr : B ≤ wr.heap.size := Nat.le_trans hB hb0.size
                  obtain ⟨b, off, Ax, cx, rfl, hbB, hrx, hc0, hc1⟩ := (HA.out.bl hB hb0).at_ hj'
                  obtain ⟨⟨o1, o2⟩, o3, o4⟩ := ok_syms HOK.out hj'
                  obtain ⟨q, hqe, hql⟩ : ∃ q : Nat, ps[j].left = (q : Int) ∧ q < N := ⟨ps[j].left.toNat, by omega, by omega⟩
                  have hqe2 : ps[j].left.toNat = q := by omega
                  have HSkip := Lib.hid (fun h => HK.out.skip hz hj' hr2 h)
                  have HPut := Lib.hid (fun h1 h2 => HK.out.put hz hj' hr2 (by have := HCl.out; omega) h1 h2 (j + 1))
                  rw [hqe2] at HSkip HPut
                  have HRX := Lib.hid hrx
                  have hpl : ps[j].right.length ≤ 8 := o3
                  have hbw : b < wr.heap.size := by omega
                  rw [hqe] at hc0
                  clear hrx o1 o2 o3 o4 hb0 hqe hqe2 hz
                  generalize ps[j].right = right at *
                  have g3 : wr.cell? ⟨w.heap.size, 3, none⟩ = some (.slice (some ⟨b, off, none⟩) len c) := HRj.out.bg.cell 3
                  have HC0 : Hid (∀ W : World, Bl wr W → W.cell? ⟨b, off + j * 2, none⟩ = some (.int .i64 (q : Int))) := fun W hb => (Below.cell hb (p := ⟨b, off + j * 2, none⟩) hbw).trans hc0
                  clear hj'
                  go_wp2_with fail
                  refine (stands_any (q : Int) (m : Int) Ax right.length cx right wr wr.heap.size rfl (by omega) (HRX.out.more hBr) (Nat.le_refl _)).mono ?_
                  rintro e w4 ⟨rfl, hb4⟩
                  have HR4 := Lib.hid (HRj.out.bl_ hb4)
                  have hc0 := HC0.out w4 hb4
                  have hbw : b < w4.heap.size := Nat.lt_of_lt_of_le hbw hb4.size
                  clear hb4 g3 glt kr glt1 hc1
                  cases hs : syHas (m : Int) right with
                  | false =>
                    have HX := Lib.hid (HSkip.out (.inl hs))
                    clear hs
                    go_wp2_with fail
                    go_roundw
                    case rel => exact ⟨j + 1, fs, by omega, by go_num, HX.out, HR4.out⟩
                    case measure => simp [intOf]; omega
                  | true =>
                    have g3 : w4.cell? ⟨w.heap.size, 3, none⟩ = some (.slice (some ⟨b, off, none⟩) len c) := HR4.out.bg.cell 3
                    have glt : w.heap.size < w4.heap.size := HR4.out.bg.lt
                    have kr := HR4.out.rank hql
                    have glt1 := HR4.out.glt
                    by_cases hq : Rk.rk fs q + 1 = r
                    · have hqi : (((Rk.rk fs q : Nat) : Int) == (r : Int) - 1) = true := by simp; omega
                      have HX := Lib.hid (HPut.out hs hq)
                      have HR5 := Lib.hid (HR4.out.put (m := m) (r := r) (i := j))
                      have kf0 := HR4.out.free (m * 2)
                      have kf1 := HR4.out.free (m * 2 + 1)
                      obtain ⟨u0, ku0⟩ := HR4.out.isSome (j := m * 2) (by omega)
                      obtain ⟨u1, ku1⟩ := HR4.out.isSome (j := m * 2 + 1) (by omega)
                      clear hs hq
                      generalize Rk.rk fs q = xq at kr hqi
                      go_wp2_with fail
                      go_roundw
                      case rel => exact ⟨j + 1, _, by omega, by go_num, HX.out, HR5.out⟩
                      case measure => simp [intOf]; omega
                    · have hqi : (((Rk.rk fs q : Nat) : Int) == (r : Int) - 1) = false := by simp; omega
                      have HX := Lib.hid (HSkip.out (.inr hq))
                      clear hs hq
                      generalize Rk.rk fs q = xq at kr hqi
                      go_wp2_with fail
                      go_roundw
                      case rel => exact ⟨j + 1, fs, by omega, by go_num, HX.out, HR4.out⟩
                      case measure => simp [intOf]; omega
                · have hq : (((Rk.rk fs m : Nat) : Int) == 0) = false := by simp; omega
                  have HX := Lib.hid (HRj.out.is (HK.out.told hz).symm)
                  clear hz
                  generalize Rk.rk fs m = x at kr hq
                  go_wp2_with fail
                  go_roundw
                  case rel => exact ⟨m + 1, by omega, by go_num, HX.out⟩
                  case measure => simp [intOf]; omega
              · have HX := Lib.hid (HRj.out.is (Look.all (by have h := HK.out; rwa [show j = ps.length by have := HL.out; omega] at h)).symm)
                go_wp2_with fail
                go_roundw
                case rel => exact ⟨m + 1, by omega, by go_num, HX.out⟩
                case measure => simp [intOf]; omega
          · have HX := Lib.hid (HRm.out.is ((Rk.placed_end (Rc.pick ps) cur r (show cur.length ≤ m by have := HCl.out; omega)).trans HRd.out).symm)
            go_wp2_with fail
            go_roundw
            case rel => exact ⟨k + 1, r + 1, by omega, by omega, by go_num, by rw [HRk.out]; rfl, HX.out⟩
            case measure => simp [intOf]; omega
      · have hkN : k + 1 = N := by have := HRk.out; omega
        have HX : Hid (Rc.rounds' ps N st k = Rc.reach ps N st) := by
          show _ = Rc.rounds' ps N st (N - 1)
          rw [show N - 1 = k by omega]
        go_wp2_with fail
        go_ret
        refine ⟨_, N, N, rfl, ?_, ?_, HKk.out.b⟩
        · rw [HYes.out, fz_len, Rc.reach_length]; simp
        · rw [HYes.out]
          have h := HKk.out.rd
          rw [HX.out] at h
          simpa using h
end Go.Proofs.Ythhgjdnbeeadhaa
