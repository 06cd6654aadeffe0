/- probateref11.First: the sets, as bools. -/
import Derived.Test.YtgmnokmchjeflaaROf
import Derived.Test.YtgmnokmchjeflaaGRRight
import Derived.Test.YtgmnokmchjeflaaKRRanks
namespace Go.Proofs.Ytgmnokmchjeflaa
open Go.RowKit

def updF (F : Nat → Nat → Bool) (n t : Nat) (x : Bool) : Nat → Nat → Bool := fun n' t' => if n' = n then upd (F n) t x t' else F n' t'
theorem setRow_congr {F G : Nat → Nat → Bool} : ∀ {N : Nat}, (∀ n t, n < N → t < 32 → F n t = G n t) → setRow N F = setRow N G
  | 0, _ => rfl
  | N + 1, h => by rw [setRow_succ, setRow_succ, setRow_congr (fun n t hn => h n t (by omega)), bls_congr (fun b hb => h N b (by omega) hb)]
theorem setRow_set (F : Nat → Nat → Bool) (t : Nat) (x : Bool) (ht : t < 32) : ∀ {N n : Nat}, n < N → (setRow N F).set (n * 32 + t) (.bool x) = setRow N (updF F n t x)
  | 0, _, h => absurd h (by omega)
  | N + 1, n, h => by
    rw [setRow_succ, setRow_succ]
    by_cases e : n = N
    · subst e
      rw [List.set_append_right _ _ (by rw [setRow_len]; omega), setRow_len, show n * 32 + t - n * 32 = t by omega, bls_set]
      rw [setRow_congr (F := updF F n t x) (G := F) (fun m _ hm _ => by unfold updF; rw [if_neg (by omega)])]
      congr 1
      apply bls_congr
      intro b _
      unfold updF
      rw [if_pos rfl]
    · rw [List.set_append_left _ _ (by rw [setRow_len]; omega), setRow_set F t x ht (by omega)]
      congr 1
      apply bls_congr
      intro b _
      unfold updF
      rw [if_neg (fun h => e h.symm)]
theorem setRow_zeros (N : Nat) : setRow N (fun _ _ => false) = (madeCells (Value.cells (.agg zs32)) (N * 32)).toList := by
  have hc : Value.cells (.agg zs32) = zs32 := by rfl
  rw [hc]
  apply List.ext_getElem?
  intro j
  rcases Nat.lt_or_ge j (N * 32) with hj | hj
  · have e : j = j / 32 * 32 + j % 32 := by omega
    have h1 : (setRow N (fun _ _ => false))[j]? = some (.bool false) := by
      have h := setRow_at (N := N) (fun _ _ => false) (n := j / 32) (t := j % 32) (by omega) (by omega)
      rwa [← e] at h
    rw [h1]
    have hz : zs32.size = 32 := by rfl
    have hm : j % 32 < 32 := Nat.mod_lt _ (by decide)
    have hg : ∀ i (h : i < 32), zs32[i]? = some (.bool false) := fun i h => by
      unfold zs32
      rw [List.getElem?_toArray, bls_at _ h]
    have hg2 := hg (j % 32) hm
    have hg3 : zs32[j % 32]! = .bool false := by rw [getElem!_def, hg2]
    simp [madeCells, hj, hz]
    exact hg3.symm
  · rw [List.getElem?_eq_none (by rw [setRow_len]; exact hj), List.getElem?_eq_none (by simp [madeCells]; exact hj)]
/-- The sets, a row of the call's own. -/
structure SRel (w0 : World) (N gs cs : Nat) (F : Nat → Nat → Bool) (w : World) : Prop where
  own : w.ownsRow w0.heap.size 50 32 (.slice (some ⟨gs, 0, none⟩) N cs) N (setRow N F)
  b : Bl w0 w
section
variable {w0 w w' : World} {N gs cs : Nat} {F G : Nat → Nat → Bool}
theorem SRel.bl_ (h : SRel w0 N gs cs F w) (hb : Bl w w') : SRel w0 N gs cs F w' := ⟨own_bl h.own hb, h.b.trans hb⟩
theorem SRel.is (h : SRel w0 N gs cs F w) (e : ∀ n t, n < N → t < 32 → G n t = F n t) : SRel w0 N gs cs G w := ⟨by rw [setRow_congr e]; exact h.own, h.b⟩
theorem SRel.glt (h : SRel w0 N gs cs F w) : gs < w.heap.size := (h.own.lt gs rfl).2
theorem SRel.free (h : SRel w0 N gs cs F w) (j : Nat) : w.frozen? ⟨gs, j, none⟩ = false := h.own.frozenAt j
theorem SRel.rd (h : SRel w0 N gs cs F w) : Rd w w.heap.size (some ⟨gs, 0, none⟩) (setRow N F) := by
  intro _
  have hlt := (h.own.lt gs rfl).2
  refine ⟨gs, 0, rfl, hlt, fun j u hu => ?_⟩
  have := h.own.cells (g := gs) rfl j u hu
  unfold Addr.add at this
  split at this
  · rename_i hj; subst hj; simpa using this
  · simpa using this
theorem SRel.cell (h : SRel w0 N gs cs F w) {n t : Nat} (hn : n < N) (ht : t < 32) : w.cell? ⟨gs, n * 32 + t, none⟩ = some (.bool (F n t)) :=
  (h.own.cellAt (n * 32 + t) (by omega)).trans (setRow_at F hn ht)
theorem SRel.put (h : SRel w0 N gs cs F w) {n t : Nat} (hn : n < N) (ht : t < 32) (x : Bool) : SRel w0 N gs cs (updF F n t x) (w.setCell ⟨gs, n * 32 + t, none⟩ (.bool x)) := by
  have h1 := (h.own.stored (n * 32 + t) (.bool x)).1
  have hlow := (h.own.lt gs rfl).1
  refine ⟨by rw [← setRow_set F t x ht hn]; exact h1, h.b.fr ((Fr.refl (fun k => k = gs) w).own _ _) fun k hk e => by omega⟩
end
/-- The table behind r rounds, and i productions more. -/
def tabTo (ps : List Gr.Pr) (nl : Nat → Bool) (r i : Nat) : Nat → Nat → Bool := fun n t => Fi.run ((Fi.fSteps ps nl t).take i) (Fi.over (Fi.fSteps ps nl t) (fun _ => false) r) n
theorem tabTo_zero (ps : List Gr.Pr) (nl : Nat → Bool) (r : Nat) : tabTo ps nl r 0 = fun n t => Fi.over (Fi.fSteps ps nl t) (fun _ => false) r n := rfl
theorem tabTo_all (ps : List Gr.Pr) (nl : Nat → Bool) (r : Nat) {k : Nat} (hk : ps.length ≤ k) : tabTo ps nl r k = tabTo ps nl (r + 1) 0 := by
  funext n t
  unfold tabTo
  rw [List.take_of_length_le (by unfold Fi.fSteps; rw [List.length_map]; exact hk)]
  rfl
theorem tabTo_succ (ps : List Gr.Pr) (nl : Nat → Bool) (r : Nat) {i : Nat} (h : i < ps.length) (n t : Nat) :
    tabTo ps nl r (i + 1) n t = (tabTo ps nl r i n t || (decide (n = ps[i].left.toNat) && Fi.of (tabTo ps nl r i) nl ps[i].right t)) := by
  have hl : i < (Fi.fSteps ps nl t).length := by unfold Fi.fSteps; rw [List.length_map]; exact h
  unfold tabTo
  rw [List.take_succ_eq_append_getElem hl, Fi.run_append]
  have e : (Fi.fSteps ps nl t)[i] = (ps[i].left.toNat, fun c => Fi.of (fun n _ => c n) nl ps[i].right t) := by
    simp [Fi.fSteps]
  rw [e, Fi.run_cons, Fi.run_nil]
  show (_ || (decide _ && Fi.of (fun n _ => Fi.run ((Fi.fSteps ps nl t).take i) (Fi.over (Fi.fSteps ps nl t) (fun _ => false) r) n) nl ps[i].right t)) = _
  rw [Fi.of_col (fun n t => Fi.run ((Fi.fSteps ps nl t).take i) (Fi.over (Fi.fSteps ps nl t) (fun _ => false) r) n) nl t]
/-- As far as the terminals below j go. -/
def rowTo (F : Nat → Nat → Bool) (m : Nat) (one : Nat → Bool) (j : Nat) : Nat → Nat → Bool := fun n t => F n t || (decide (n = m) && (decide (t < j) && one t))
theorem rowTo_zero (F : Nat → Nat → Bool) (m : Nat) (one : Nat → Bool) : rowTo F m one 0 = F := by
  funext n t; unfold rowTo; rw [decide_eq_false (show ¬ t < 0 by omega)]; simp
theorem rowTo_skip (F : Nat → Nat → Bool) (m : Nat) {one : Nat → Bool} {j : Nat} (h : one j = false) : rowTo F m one (j + 1) = rowTo F m one j := by
  funext n t
  unfold rowTo
  by_cases e : t = j
  · subst e; rw [h]; simp
  · congr 3; apply decide_eq_decide.2; omega
theorem rowTo_put (F : Nat → Nat → Bool) (m : Nat) {one : Nat → Bool} {j : Nat} (h : one j = true) : updF (rowTo F m one j) m j true = rowTo F m one (j + 1) := by
  funext n t
  unfold updF
  by_cases e : n = m
  · subst e
    rw [if_pos rfl]
    unfold upd
    by_cases et : t = j
    · subst et; rw [if_pos rfl]; unfold rowTo; rw [h, decide_eq_true (Nat.lt_succ_self t)]; simp
    · rw [if_neg et]; unfold rowTo; congr 3; apply decide_eq_decide.2; omega
  · rw [if_neg e]; unfold rowTo; rw [decide_eq_false e]; simp
/-- What First leaves. -/
def setsN (g : Gr.Gm) : Nat := if okB g then g.nons.toNat else 0
theorem setsN_no {g : Gr.Gm} (h : okB g = false) : setsN g = 0 := by unfold setsN; rw [if_neg (by rw [h]; decide)]
theorem setsN_ok {g : Gr.Gm} (h : okB g = true) : setsN g = g.nons.toNat := by unfold setsN; rw [if_pos h]
def colF (g : Gr.Gm) : Nat → Nat → Bool := fun n t => Fi.colR g t n
def SetPost (g : Gr.Gm) (w : World) (e : Ending) (w' : World) : Prop :=
  ∃ A len c, e = .returned (.slice A len c) ∧ len = setsN g ∧ Rd w' w'.heap.size A (setRow (setsN g) (colF g)) ∧ Bl w w'
theorem SetPost.lit {g : Gr.Gm} {k : Nat} {w w' : World} {e : Ending} (h : SetPost g w e w') (hk : setsN g = k) : ∃ A c, e = .returned (.slice A k c) ∧ Rd w' w'.heap.size A (setRow k (colF g)) ∧ Bl w w' := by
  subst hk
  obtain ⟨A, len, c, he, hlen, hr, hb⟩ := h
  subst hlen
  exact ⟨A, c, he, hr, hb⟩
theorem set_info3 : (Try.prog.info? 50).map (fun i => (i.zero, i.size, i.bytes)) = some (some (.agg zs32), 32, 32) := by kernel_rfl

set_option maxRecDepth 100000 in
set_option maxHeartbeats 4000000 in
theorem rfirst_any (t n s : Int) (A : Option Addr) (len c : Nat) (ps : List Gr.Pr) (w : World) (B : Nat) (hlen : len = ps.length) (hmax : len ≤ 9223372036854775807) (hr : Prs w B A ps) (hB : B ≤ w.heap.size) :
    Calls Try.prog 18 #[.agg #[.int .i64 t, .int .i64 n, .int .i64 s, .slice A len c]] w (SetPost ⟨t, n, s, ps⟩ w) := by
  obtain ⟨iS, hiS, hzS0, hzS1, hzS2⟩ := info_parts set_info3
  have HL := Lib.hid hlen; clear hlen
  have HP : Hid (∀ w', Bl w w' → Prs w' w'.heap.size A ps) := fun _ hb => (hr.bl hB hb).more (Nat.le_trans hB hb.size)
  clear hr hB
  have HB0 : Hid (Bl w (w.alloc (.cells #[.int .i64 t, .int .i64 n, .int .i64 s, .slice A len c] 24))) := (Bl.refl w).alloc _
  have HG0 : Hid (Bk (w.alloc (.cells #[.int .i64 t, .int .i64 n, .int .i64 s, .slice A len c] 24)) w.heap.size 24 #[.int .i64 t, .int .i64 n, .int .i64 s, .slice A len c]) := Bk.new w _ _
  go_enter Try.func18, Try.ntmps18
  go_wp2_with fail
  refine (rright_any t n s A len c ps _ _ HL.out hmax (HP.out _ HB0.out) (Nat.le_refl _)).mono ?_
  rintro e w1 ⟨rfl, hb1⟩
  have HB1 := Lib.hid (HB0.out.trans hb1)
  have HG1 := Lib.hid (HG0.out.bl hb1)
  clear hb1
  cases hok : okB ⟨t, n, s, ps⟩ with
  | false =>
    have HV := Lib.hid (setsN_no hok)
    clear hok
    go_wp2_with fail
    go_ret
    exact ⟨none, 0, 0, rfl, HV.out.symm, by rw [HV.out]; exact Rd.nil, HB1.out⟩
  | true =>
    obtain ⟨n1, n2, n3⟩ := ok_nons hok
    obtain ⟨N, rfl⟩ : ∃ N : Nat, n = (N : Int) := ⟨n.toNat, by omega⟩
    have HV : Hid (setsN ⟨t, (N : Int), s, ps⟩ = N) := setsN_ok hok
    have HFa : Hid (factsOf false ⟨t, (N : Int), s, ps⟩ = fz (Rk.ranks false ps N)) := factsOf_ok hok
    have HNn : Hid (nlz (fz (Rk.ranks false ps N)) = Fi.nulls ⟨t, (N : Int), s, ps⟩) := nlz_nulls ⟨t, (N : Int), s, ps⟩
    have HOk : Hid (Gr.Ok ⟨t, (N : Int), s, ps⟩) := (okB_iff _).1 hok
    have HOK := Lib.hid hok
    have hlx60 : len ≤ 60 := by have := HL.out; omega
    clear hok
    have g0 : w1.cell? ⟨w.heap.size, 0, none⟩ = some (.int .i64 t) := HG1.out.cell 0
    have g1 : w1.cell? ⟨w.heap.size, 1, none⟩ = some (.int .i64 (N : Int)) := HG1.out.cell 1
    have g2 : w1.cell? ⟨w.heap.size, 2, none⟩ = some (.int .i64 s) := HG1.out.cell 2
    have g3 : w1.cell? ⟨w.heap.size, 3, none⟩ = some (.slice A len c) := HG1.out.cell 3
    have glt : w.heap.size < w1.heap.size := HG1.out.lt
    go_wp2_with fail
    refine (rranks_any t (N : Int) s A len c ps false _ w1.heap.size HL.out hmax (HP.out _ HB1.out) (Nat.le_refl _)).mono ?_
    intro e w2 h2
    obtain ⟨An, cn, he2, hr2, hb2⟩ := h2.lit (k := N) HFa.out (by rw [fz_len, Rk.ranks_length])
    subst he2
    have HN2 := Lib.hid hr2
    have HB2 := Lib.hid (HB1.out.trans hb2)
    have HG2 := Lib.hid (HG1.out.bl hb2)
    clear h2 hr2 hb2 g0 g1 g2 g3 glt HB1 HG1 HG0 HB0
    have g1 : w2.cell? ⟨w.heap.size, 1, none⟩ = some (.int .i64 (N : Int)) := HG2.out.cell 1
    have glt : w.heap.size < w2.heap.size := HG2.out.lt
    go_wp2_with (refine wpList_make_full _ rfl (.tmp 16) (.tmp 16) 31 rfl w2.heap.size 50 iS (.agg zs32) 32 Try.underlying31 hiS hzS0 hzS1 .i64 .i64 (N : Int) (N : Int) N rfl rfl rfl rfl (by rw [hzS2]; omega) (by simp only [maxLen]; omega) (Nat.le_refl _) ?_; intro w3 hown3 hg3; have HK := Lib.hid (SRel.mk (F := fun _ _ => false) (by rw [setRow_zeros]; exact hown3) ((Bl.refl w2).grown hg3 (by simp))); clear hown3 hg3)
    clear g1 glt
    go_loopw [5] (fun v wr => ∃ r : Nat, r ≤ N + 1 ∧ v = .int .i64 r ∧ Hid (SRel w2 N w2.heap.size N (tabTo ps (Fi.nulls ⟨t, (N : Int), s, ps⟩) r 0) wr)) (fun v _ => N + 1 - (intOf v).toNat)
    case atStart => exact ⟨0, Nat.zero_le _, rfl, HK.out⟩
    case round =>
      obtain ⟨r, hr, rfl, HKr⟩ := hrel
      have HGr := Lib.hid (HG2.out.bl HKr.out.b)
      have g1 : wr.cell? ⟨w.heap.size, 1, none⟩ = some (.int .i64 (N : Int)) := HGr.out.cell 1
      have glt : w.heap.size < wr.heap.size := HGr.out.lt
      by_cases hrl : r < N + 1
      · have hrl2 : (r : Int) < (N : Int) + 1 := by omega
        go_wp2_with fail
        clear g1 glt hrl2
        go_loopw [6] (fun v wr => ∃ i : Nat, i ≤ len ∧ v = .int .i64 i ∧ Hid (SRel w2 N w2.heap.size N (tabTo ps (Fi.nulls ⟨t, (N : Int), s, ps⟩) r i) wr)) (fun v _ => len - (intOf v).toNat)
        case atStart => exact ⟨0, Nat.zero_le _, rfl, HKr.out⟩
        case round =>
          obtain ⟨i, hi, rfl, HKi⟩ := hrel
          have hbi := HKi.out.b
          have HGi := Lib.hid (HG2.out.bl hbi)
          have g3 : wr.cell? ⟨w.heap.size, 3, none⟩ = some (.slice A len c) := HGi.out.cell 3
          have glt : w.heap.size < wr.heap.size := HGi.out.lt
          by_cases hil : i < len
          · have hj : i < ps.length := by have := HL.out; omega
            obtain ⟨b, off, Ax, cx, rfl, hbB, hrx2, hc02, hc12⟩ := (HP.out w2 HB2.out).at_ hj
            have hrx : Rd wr wr.heap.size Ax (syRow ps[i].right) := (hrx2.bl (Nat.le_refl _) hbi).more hbi.size
            have hc1 := (Below.cell hbi (p := ⟨b, off + i * 2 + 1, none⟩) hbB).trans hc12
            have hmem : ps[i] ∈ (⟨t, (N : Int), s, ps⟩ : Gr.Gm).prods := List.getElem_mem hj
            have HSy : Hid (Fi.SyOk N ps[i].right) := Fi.syOk_prod HOk.out hmem
            have hlm : ps[i].left.toNat < N := (Fi.ok_nums HOk.out hmem).1
            obtain ⟨⟨o1, o2⟩, o3, o4⟩ := ok_syms HOK.out hj
            have HSuc := Lib.hid (tabTo_succ ps (Fi.nulls ⟨t, (N : Int), s, ps⟩) r hj)
            have HPi := Lib.hid (fun (w' : World) (hb : Bl w2 w') => HP.out w' (HB2.out.trans hb))
            have hme : ps[i].left = ((ps[i].left.toNat : Nat) : Int) := by omega
            have HC0 : Hid (∀ w', Bl w2 w' → w'.cell? ⟨b, off + i * 2, none⟩ = some (.int .i64 (ps[i].left.toNat : Nat))) := fun w' hb => (Below.cell hb (p := ⟨b, off + i * 2, none⟩) hbB).trans (by rw [← hme]; exact hc02)
            have HRX := Lib.hid hrx
            have hpl : ps[i].right.length ≤ 8 := o3
            clear hrx o1 o2 o3 o4 hmem hme hc02 hrx2 hc12
            generalize ps[i].left.toNat = m at *
            generalize ps[i].right = right at *
            have hi0 : (0 : Int) ≤ (i : Int) := by omega
            have hi1 : (i : Int) < (len : Int) := by omega
            go_wp2_with fail
            refine (rof_any Ax right.length cx right (some ⟨w2.heap.size, 0, none⟩) N N (tabTo ps (Fi.nulls ⟨t, (N : Int), s, ps⟩) r i) An cn (fz (Rk.ranks false ps N)) wr wr.heap.size rfl (by omega) HRX.out HKi.out.rd (by rw [fz_len, Rk.ranks_length]) ((HN2.out.bl (Nat.le_refl _) hbi).more hbi.size) (Nat.le_refl _) HSy.out).mono ?_
            rw [HNn.out]
            rintro e w4 ⟨rfl, hb4⟩
            have HK4 := Lib.hid (HKi.out.bl_ hb4)
            have HG4 := Lib.hid (HGi.out.bl hb4)
            have HB4 := Lib.hid hb4
            have H7 := Lib.hid (Bk.new w4 50 zs32)
            clear hb4 g3 glt hc1
            generalize hone : Fi.of (tabTo ps (Fi.nulls ⟨t, (N : Int), s, ps⟩) r i) (Fi.nulls ⟨t, (N : Int), s, ps⟩) right = one at *
            go_wp2_with (first
              | (with_reducible refine wpList_alloc_agg rfl 50 rfl zs32 32 set_info ?_)
              | ((with_reducible refine wpList_store_bk ?hg 50 (.tmp 7) (.tmp 42) ?ho w4.heap.size 50 zs32 (bls 32 one).toArray ?hx ?hy H7.out ?hs ?hi (bls_all _) ?_); (case ho => with_reducible rfl); (case hg => rfl); (case hx => rfl); (case hy => rfl); (case hs => rw [bls_size]; rfl); (case hi => rw [bls_size]; exact set_size); intro w5 hb5 hf5))
            have hsz4 : w4.heap.size < w5.heap.size := hb5.lt
            have HB5 : Hid (Bl w4 w5) := ((Bl.refl w4).alloc (.cells zs32 50)).fr hf5 (by intro q hq e; omega)
            have HK5 := Lib.hid (HK4.out.bl_ HB5.out)
            have H75 := Lib.hid hb5
            have HBi5 := Lib.hid (HB4.out.trans HB5.out)
            have hne7 : w4.heap.size ≠ w2.heap.size := by have := HK4.out.glt; omega
            clear hb5 hf5 HB5 HK4 HG4 H7 HB4 hbi HBi5 HPi hsz4
            go_loopw [9] (fun v wr => ∃ j : Nat, j ≤ 32 ∧ v = .int .i64 j ∧ Hid (SRel w2 N w2.heap.size N (rowTo (tabTo ps (Fi.nulls ⟨t, (N : Int), s, ps⟩) r i) m one j) wr) ∧ Hid (Bk wr w4.heap.size 50 (bls 32 one).toArray)) (fun v _ => 32 - (intOf v).toNat)
            case atStart => exact ⟨0, Nat.zero_le _, rfl, by rw [rowTo_zero]; exact HK5.out, H75.out⟩
            case round =>
              obtain ⟨j, hj32, rfl, HKj, H7j⟩ := hrel
              have hbj := HKj.out.b
              have HGj := Lib.hid (HG2.out.bl hbj)
              have g3 : wr.cell? ⟨w.heap.size, 3, none⟩ = some (.slice (some ⟨b, off, none⟩) len c) := HGj.out.cell 3
              have glt : w.heap.size < wr.heap.size := HGj.out.lt
              have c0 := HC0.out wr hbj
              have hbw : b < wr.heap.size := Nat.lt_of_lt_of_le hbB hbj.size
              have h7lt : w4.heap.size < wr.heap.size := H7j.out.lt
              have hglt : w2.heap.size < wr.heap.size := HKj.out.glt
              have hmi0 : (0 : Int) ≤ (m : Int) := by omega
              have hmi1 : (m : Int) < (N : Int) := by omega
              by_cases hjl : j < 32
              · have hj0 : (0 : Int) ≤ (j : Int) := by omega
                have hj1 : (j : Int) < 32 := by omega
                have c7 : wr.cell? ⟨w4.heap.size, j, none⟩ = some (.bool (one j)) := by rw [H7j.out.cell j, List.getElem?_toArray, bls_at one hjl]
                have cs := HKj.out.cell hlm hjl
                have cf := HKj.out.free (m * 32 + j)
                clear hbj
                cases hoj : one j with
                | true =>
                  rw [hoj] at c7
                  have HPt := Lib.hid (HKj.out.put hlm hjl true)
                  rw [rowTo_put _ _ hoj] at HPt
                  have H7p := Lib.hid (H7j.out.far (p := ⟨w2.heap.size, m * 32 + j, none⟩) hne7 (.bool true))
                  clear hoj
                  go_wp2_with fail
                  go_roundw
                  case rel => exact ⟨j + 1, by omega, by go_num, HPt.out, H7p.out⟩
                  case measure => simp [intOf]; omega
                | false =>
                  rw [hoj] at c7
                  have HSk := Lib.hid (HKj.out.is (G := rowTo (tabTo ps (Fi.nulls ⟨t, (N : Int), s, ps⟩) r i) m one (j + 1)) (fun n' t' _ _ => by rw [rowTo_skip _ _ hoj]))
                  clear hoj
                  go_wp2_with fail
                  go_roundw
                  case rel => exact ⟨j + 1, by omega, by go_num, HSk.out, H7j.out⟩
                  case measure => simp [intOf]; omega
              · have HEnd := Lib.hid (HKj.out.is (G := tabTo ps (Fi.nulls ⟨t, (N : Int), s, ps⟩) r (i + 1)) (fun n' t' hn ht => by
                  rw [HSuc.out n' t']
                  unfold rowTo
                  rw [decide_eq_true (show t' < j by omega), Bool.true_and]))
                clear hbj
                go_wp2_with fail
                go_roundw
                case rel => exact ⟨i + 1, by omega, by go_num, HEnd.out⟩
                case measure => simp [intOf]; omega
          · have HEnd := Lib.hid (HKi.out.is (G := tabTo ps (Fi.nulls ⟨t, (N : Int), s, ps⟩) (r + 1) 0) (fun n' t' _ _ => by rw [tabTo_all ps (Fi.nulls ⟨t, (N : Int), s, ps⟩) r (show ps.length ≤ i by have := HL.out; omega)]))
            clear hbi
            go_wp2_with fail
            go_roundw
            case rel => exact ⟨r + 1, by omega, by go_num, HEnd.out⟩
            case measure => simp [intOf]; omega
      · have hrl2 : ¬ ((r : Int) < (N : Int) + 1) := by omega
        have hrN : r = N + 1 := by omega
        subst hrN
        go_wp2_with fail
        go_ret
        refine ⟨_, N, N, rfl, HV.out.symm, ?_, HB2.out.trans HKr.out.b⟩
        rw [HV.out]
        exact HKr.out.rd
end Go.Proofs.Ytgmnokmchjeflaa
