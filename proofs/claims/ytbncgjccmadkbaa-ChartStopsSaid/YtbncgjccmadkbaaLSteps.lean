/- left.steps: to which nonterminal each step leads, as a map. -/
import Derived.Test.YtbncgjccmadkbaaLKey
import Derived.Test.YtbncgjccmadkbaaRankS
import Derived.Maps.OwnOps
namespace Go.Proofs.Ytbncgjccmadkbaa
open Go.RowKit

/-- Where the loops stand: the facts, a row of the call's own; the map at the block ahead of it. -/
structure SRel (w0 : World) (ps : List Gr.Pr) (nl : Nat → Bool) (gf ln cn : Nat) (cur : Rk.Fs) (i k : Nat) (w : World) : Prop where
  own : w.ownsRow (w0.heap.size + 2) 96 2 (.slice (some ⟨gf, 0, none⟩) ln cn) ln (fcRow (fz cur))
  len_ : cur.length = ln
  map : ToK w (w0.heap.size + 1) ps nl i k
  b : Bl w0 w
section
variable {w0 w w2 : World} {ps : List Gr.Pr} {nl : Nat → Bool} {gf ln cn i k : Nat} {cur : Rk.Fs}
theorem SRel.bl_ (h : SRel w0 ps nl gf ln cn cur i k w) (hb : Bl w w2) : SRel w0 ps nl gf ln cn cur i k w2 := ⟨own_bl h.own hb, h.len_, h.map.bl hb, h.b.trans hb⟩
theorem SRel.alloc (h : SRel w0 ps nl gf ln cn cur i k w) (o : Obj) : SRel w0 ps nl gf ln cn cur i k (w.alloc o) := h.bl_ ((Bl.refl w).alloc o)
theorem SRel.put (h : SRel w0 ps nl gf ln cn cur i k w) (hk : ToK w2 (w0.heap.size + 1) ps nl i (k + 1)) (hg : w.grownBy w2 (some (w0.heap.size + 1))) : SRel w0 ps nl gf ln cn cur i (k + 1) w2 :=
  ⟨h.own.kept hg (.inr fun e => by have := (h.own.lt _ e).1; omega), h.len_, hk, h.b.grown hg fun j hj => by injection hj with hj; omega⟩
theorem SRel.skip (h : SRel w0 ps nl gf ln cn cur i k w) (hk : k ≤ 8) (hno : ∀ k', k ≤ k' → Lf.isStep ps nl (i, k') = false) : SRel w0 ps nl gf ln cn cur (i + 1) 0 w := ⟨h.own, h.len_, h.map.skip hk hno, h.b⟩
theorem SRel.rank (h : SRel w0 ps nl gf ln cn cur i k w) {m : Nat} (hm : m < ln) : w.cell? ⟨gf, m * 2, none⟩ = some (.int .i64 (Rk.rk cur m : Int)) := by
  have hl : m < (fz cur).length := by rw [fz_len, h.len_]; exact hm
  have e := (fcRow_at (fz cur) m hl).1
  rw [fz_rank] at e
  exact (h.own.cellAt _ (by omega)).trans e
theorem SRel.glt (h : SRel w0 ps nl gf ln cn cur i k w) : gf < w.heap.size := (h.own.lt gf rfl).2
end
/-- Behind what doesn't lead on no step stands. -/
theorem isStep_out {ps : List Gr.Pr} {nl : Nat → Bool} {i k : Nat} (hi : i < ps.length) (hk : ps[i].right.length ≤ k) : Lf.isStep ps nl (i, k) = false := by
  unfold Lf.isStep
  rw [List.getElem?_eq_getElem hi]
  dsimp only
  rw [List.getElem?_eq_none hk]
theorem isStep_behind {ps : List Gr.Pr} {nl : Nat → Bool} {i j : Nat} (hi : i < ps.length) (hj : j < ps[i].right.length) (h : (ps[i].right[j].non && nl ps[i].right[j].n.toNat) = false) {k : Nat} (hk : j < k) : Lf.isStep ps nl (i, k) = false := by
  rcases Nat.lt_or_ge k ps[i].right.length with hl | hl
  · rw [isStep_at hi hl, allNull_no hk (by omega) h, Bool.and_false]
  · exact isStep_out hi hl

set_option maxRecDepth 100000 in
set_option maxHeartbeats 8000000 in
theorem steps_any (t n s : Int) (A : Option Addr) (len c : Nat) (ps : List Gr.Pr) (w : World) (B : Nat) (hlen : len = ps.length) (hr : Prs w B A ps) (hB : B ≤ w.heap.size) (hok : okB ⟨t, n, s, ps⟩ = true) :
    Calls Try.prog 75 #[.agg #[.int .i64 t, .int .i64 n, .int .i64 s, .slice A len c]] w fun e w' =>
      ∃ b : Nat, e = .returned (.map (some b)) ∧ w.heap.size ≤ b ∧ ToMap w' b ps (Fi.nulls ⟨t, n, s, ps⟩) ∧ Bl w w' := by
  have HL := Lib.hid hlen; clear hlen
  have HA := Lib.hid hr; clear hr
  obtain ⟨n1, n2, n3⟩ := ok_nons hok
  obtain ⟨N, rfl⟩ : ∃ N : Nat, n = (N : Int) := ⟨n.toNat, by omega⟩
  have hl60 : len ≤ 60 := by have := HL.out; omega
  have HOK := Lib.hid hok
  have HYes : Hid (factsOf false ⟨t, (N : Int), s, ps⟩ = fz (Rk.ranks false ps N)) := factsOf_ok (terms := false) hok
  have HRl : Hid ((Rk.ranks false ps N).length = N) := Rk.ranks_length false ps N
  have HNl : Hid (∀ m, Fi.nulls ⟨t, (N : Int), s, ps⟩ m = decide (Rk.rk (Rk.ranks false ps N) m ≠ 0)) := fun _ => rfl
  have H8 : Hid (∀ p ∈ ps, p.right.length ≤ 8) := fun p hp => by
    obtain ⟨j, hj, rfl⟩ := List.mem_iff_getElem.1 hp
    exact (ok_syms hok hj).2.1
  clear hok
  generalize Fi.nulls ⟨t, (N : Int), s, ps⟩ = nl at HNl ⊢
  have HG0 := Lib.hid ((Bk.new w 24 #[.int .i64 t, .int .i64 N, .int .i64 s, .slice A len c]).alloc (.map #[] 0))
  have HB0 : Hid (Bl w ((w.alloc (.cells #[.int .i64 t, .int .i64 N, .int .i64 s, .slice A len c] 24)).alloc (.map #[] 0))) := ((Bl.refl w).alloc _).alloc _
  have HM0 : Hid (ToK ((w.alloc (.cells #[.int .i64 t, .int .i64 N, .int .i64 s, .slice A len c] 24)).alloc (.map #[] 0)) (w.heap.size + 1) ps nl 0 0) := by
    have h := ToK.begin_ (w.alloc (.cells #[.int .i64 t, .int .i64 N, .int .i64 s, .slice A len c] 24)) ps nl
    rw [World.size_alloc] at h
    exact h
  have HS0 : Hid (((w.alloc (.cells #[.int .i64 t, .int .i64 N, .int .i64 s, .slice A len c] 24)).alloc (.map #[] 0)).heap.size = w.heap.size + 2) := by simp [Hid]
  have hmm := @run_makeMap Try.prog
  go_enter Try.func75, Try.ntmps75
  go_wp2_with fail
  refine (nullable_new t N s A len c ps _ B HL.out (by omega) (HA.out.bl hB HB0.out) (Nat.le_trans hB HB0.out.size)).mono ?_
  intro e w1 h
  obtain ⟨Af, cf, he, hof, hbf⟩ := h.lit (k := N) HYes.out (by rw [fz_len]; exact HRl.out)
  subst he
  rw [HS0.out] at hof
  obtain ⟨gf, rfl⟩ := own_some hof (by omega)
  have HR1 : Hid (SRel w ps nl gf N cf (Rk.ranks false ps N) 0 0 w1) := ⟨hof, HRl.out, HM0.out.bl hbf, HB0.out.trans hbf⟩
  have HK1 := Lib.hid (HG0.out.bl hbf)
  clear h hof hbf HB0 HM0 HG0 HS0
  have g3 : w1.cell? ⟨w.heap.size, 3, none⟩ = some (.slice A len c) := HK1.out.cell 3
  have glt : w.heap.size < w1.heap.size := HK1.out.lt
  go_wp2_with fail
  clear g3 glt HK1
  go_loopw [15] (fun i wr => ∃ k : Nat, k ≤ len ∧ i = .int .i64 k ∧ Hid (SRel w ps nl gf N cf (Rk.ranks false ps N) k 0 wr)) (fun i _ => len - (intOf i).toNat)
  case atStart => exact ⟨0, Nat.zero_le _, rfl, HR1.out⟩
  case round =>
    obtain ⟨k, hk, rfl, HR⟩ := hrel
    by_cases hlt : k < len
    · have hj : k < ps.length := by have := HL.out; omega
      obtain ⟨b, off, Ax, cx, rfl, hbB, hrx, hc0, hc1⟩ := (HA.out.bl hB HR.out.b).at_ hj
      have hBr : B ≤ wr.heap.size := Nat.le_trans hB HR.out.b.size
      obtain ⟨_, o3, o4⟩ := ok_syms HOK.out hj
      have HSy : Hid (∀ x ∈ ps[k].right, x.non = true → 0 ≤ x.n ∧ x.n < (N : Int)) := o4
      have HRX := Lib.hid hrx
      have HAt := Lib.hid (fun (j : Nat) (h : j < ps[k].right.length) => isStep_at (nl := nl) hj h)
      have HTo := Lib.hid (fun (j : Nat) (h : j < ps[k].right.length) => to_at (k := j) hj h)
      have HOut := Lib.hid (fun (j : Nat) (h : ps[k].right.length ≤ j) => isStep_out (nl := nl) hj h)
      have HBe := Lib.hid (fun (j : Nat) (h : j < ps[k].right.length) h2 (k' : Nat) h3 => isStep_behind (nl := nl) (k := k') hj h h2 h3)
      have h8 : ps[k].right.length ≤ 8 := o3
      have HR6 := Lib.hid (HR.out.alloc (.cells #[.int .i64 ps[k].left, .slice Ax ps[k].right.length cx] 45))
      have HBx : Hid (Bl wr (wr.alloc (.cells #[.int .i64 ps[k].left, .slice Ax ps[k].right.length cx] 45))) := (Bl.refl wr).alloc _
      clear hrx o3 o4
      generalize ps[k].left = left at *
      generalize ps[k].right = right at *
      clear hj
      go_wp2_with fail
      go_loopw [23] (fun i wy => ∃ j : Nat, j ≤ right.length ∧ i = .int .i64 j ∧ Hid (Fi.allNull nl (right.take j) = true) ∧ Hid (SRel w ps nl gf N cf (Rk.ranks false ps N) k j wy) ∧ Hid (Fr (fun q => q = w.heap.size + 1) wr wy)) (fun i _ => right.length - (intOf i).toNat)
      case atStart => exact ⟨0, Nat.zero_le _, rfl, rfl, HR6.out, Fr.of_bl HBx.out⟩
      case round =>
        obtain ⟨j, hjl, rfl, HN, HRj, HF⟩ := hrel
        by_cases hjt : j < right.length
        · obtain ⟨b2, off2, rfl, hb2, q0, q1⟩ := (HRX.out.fr hBr HF.out (HRX.out.notin fun k hk => by omega)).sym hjt
          have HSj := Lib.hid (HSy.out _ (List.getElem_mem hjt))
          have HA1 := Lib.hid (HAt.out j hjt)
          have HT1 := Lib.hid (HTo.out j hjt)
          have HB1 := Lib.hid (HBe.out j hjt)
          have HN1 := Lib.hid (allNull_succ (nl := nl) hjt)
          have hbw : b2 < wr.heap.size := Nat.lt_of_lt_of_le hb2 (Nat.le_trans hBr HF.out.size)
          rw [HN.out] at HA1 HN1
          generalize right[j] = y at *
          obtain ⟨yb, yn⟩ := y
          simp only at q0 q1
          cases yb with
          | false =>
            have HX := Lib.hid ((HRj.out.alloc (.cells #[.bool false, .int .i64 yn] 48)).skip (by omega) fun k' hk' => by
              rcases Nat.lt_or_ge j k' with h | h
              · exact HB1.out rfl k' h
              · obtain rfl : k' = j := by omega
                exact HA1.out)
            go_wp2_with fail
            go_roundw
            case rel => exact ⟨k + 1, by omega, by go_num, HX.out⟩
            case measure => simp [intOf]; omega
          | true =>
            obtain ⟨m, hme, hmN⟩ : ∃ m : Nat, yn = (m : Int) ∧ m < N := by
              have := HSj.out rfl
              exact ⟨yn.toNat, by simp only at this; omega, by simp only at this; omega⟩
            subst hme
            have HSt : Hid (Lf.isStep ps nl (k, j) = true) := HA1.out
            have HTm : Hid (Lf.to ps (k, j) = m) := HT1.out
            have HX := Lib.hid (HRj.out.alloc (.cells #[.bool true, .int .i64 m] 48))
            have HKs := Lib.hid (Bk.new wr 48 #[.bool true, .int .i64 m])
            have HFx := Lib.hid (HF.out.alloc (.cells #[.bool true, .int .i64 m] 48))
            have hml := HRj.out.map.lt
            have HRk : Hid (nl m = decide (Rk.rk (Rk.ranks false ps N) m ≠ 0)) := HNl.out m
            have hm0 : (0 : Int) ≤ (m : Int) := by omega
            have hm1 : (m : Int) < (N : Int) := by omega
            have HRa := Lib.hid (fun (i k : Nat) (w' : World) (h : SRel w ps nl gf N cf (Rk.ranks false ps N) i k w') => h.rank hmN)
            generalize Rk.rk (Rk.ranks false ps N) m = x at HRk HRa
            by_cases hx : x = 0
            · subst hx
              have HNo : Hid (nl m = false) := by rw [HRk.out]; rfl
              go_wp2_with (at_mapUpdate; refine wpList_step_put rfl (.tmp 31) (.tmp 34) (.tmp 36) rfl HX.out.map (by have := HL.out; omega) H8.out HSt.out HTm.out rfl rfl rfl (by omega) ?_; intro w5 hk5 hg5; have HR5 := Lib.hid (HX.out.put hk5 hg5); have HK5 := Lib.hid (HKs.out.grown hg5 (by intro e; injection e with e; omega)); have q5 : w5.cell? ⟨wr.heap.size, 1, none⟩ = some (.int .i64 (m : Int)) := HK5.out.cell 1; have r5 := HRa.out _ _ _ HR5.out; have l5 : wr.heap.size < w5.heap.size := HK5.out.lt; have l6 : gf < w5.heap.size := HR5.out.glt; clear hk5 hg5)
              have HY := Lib.hid (HR5.out.skip (by omega) fun k' hk' => HB1.out (by rw [Bool.true_and]; exact HNo.out) k' (by omega))
              go_roundw
              case rel => exact ⟨k + 1, by omega, by go_num, HY.out⟩
              case measure => simp [intOf]; omega
            · have hq : ((x : Int) == 0) = false := by simp; omega
              have HYe : Hid (nl m = true) := by rw [HRk.out]; exact decide_eq_true hx
              have HN2 : Hid (Fi.allNull nl (right.take (j + 1)) = true) := by rw [HN1.out]; exact HYe.out
              clear hx HRk
              generalize (x : Int) = xi at hq HRa
              go_wp2_with (at_mapUpdate; refine wpList_step_put rfl (.tmp 31) (.tmp 34) (.tmp 36) rfl HX.out.map (by have := HL.out; omega) H8.out HSt.out HTm.out rfl rfl rfl (by omega) ?_; intro w5 hk5 hg5; have HR5 := Lib.hid (HX.out.put hk5 hg5); have HK5 := Lib.hid (HKs.out.grown hg5 (by intro e; injection e with e; omega)); have HF5 := Lib.hid (HFx.out.grown hg5 (by intro k hk _; injection hk with hk; omega)); have q5 : w5.cell? ⟨wr.heap.size, 1, none⟩ = some (.int .i64 (m : Int)) := HK5.out.cell 1; have r5 := HRa.out _ _ _ HR5.out; have l5 : wr.heap.size < w5.heap.size := HK5.out.lt; have l6 : gf < w5.heap.size := HR5.out.glt; clear hk5 hg5)
              go_roundw
              case rel => exact ⟨j + 1, by omega, by go_num, HN2.out, HR5.out, HF5.out⟩
              case measure => simp [intOf]; omega
        · have HX := Lib.hid (HRj.out.skip (by omega) fun k' hk' => HOut.out k' (by omega))
          go_wp2_with fail
          go_roundw
          case rel => exact ⟨k + 1, by omega, by go_num, HX.out⟩
          case measure => simp [intOf]; omega
    · have hke : k = ps.length := by have := HL.out; omega
      subst hke
      go_wp2_with fail
      go_ret
      exact ⟨_, rfl, by omega, HR.out.map.done, HR.out.b⟩
end Go.Proofs.Ytbncgjccmadkbaa
