/- first.First: the sets, put together over and over till nothing is new. -/
import Derived.Test.YtgmnokmchjeflaaFRegion
import Derived.Test.YtgmnokmchjeflaaLAgain
import Derived.Test.YtgmnokmchjeflaaGRight
namespace Go.Proofs.Ytgmnokmchjeflaa
open Go.RowKit

/-- The numbers that a grammar has: none, if it may not be. -/
def firstsOf (g : Gr.Gm) : List Nat := if okB g then Fi.numR g else []
theorem firstsOf_no {g : Gr.Gm} (h : okB g = false) : firstsOf g = [] := by unfold firstsOf; rw [if_neg (by rw [h]; decide)]
theorem firstsOf_ok {g : Gr.Gm} (h : okB g = true) : firstsOf g = Fi.numR g := by unfold firstsOf; rw [if_pos h]
theorem firstsOf_len {g : Gr.Gm} (h : okB g = true) : (firstsOf g).length = g.nons.toNat := by rw [firstsOf_ok h, Fi.numR_len]
theorem firstsOf_short (g : Gr.Gm) : (firstsOf g).length ≤ 24 := by
  cases h : okB g with
  | true => rw [firstsOf_len h]; obtain ⟨t, n, s, ps⟩ := g; have := ok_nons h; simp only; omega
  | false => rw [firstsOf_no h]; simp
theorem set_same_nat {l : List Nat} {m : Nat} (hm : m < l.length) {v : Nat} (h : v = l.getD m 0) : l.set m v = l := by
  subst h
  apply List.ext_getElem?
  intro j
  rw [List.getElem?_set]
  by_cases e : m = j
  · subst e
    rw [if_pos rfl, if_pos hm, List.getD_eq_getElem?_getD, List.getElem?_eq_getElem hm]; rfl
  · rw [if_neg e]

set_option maxRecDepth 100000 in
set_option maxHeartbeats 4000000 in
theorem first_any (t n s : Int) (A : Option Addr) (len c : Nat) (ps : List Gr.Pr) (w : World) (B : Nat) (hlen : len = ps.length) (hmax : len ≤ 9223372036854775807) (hr : Prs w B A ps) (hB : B ≤ w.heap.size) :
    Calls Try.prog 24 #[.agg #[.int .i64 t, .int .i64 n, .int .i64 s, .slice A len c]] w (UPost (firstsOf ⟨t, n, s, ps⟩) w) := by
  have HL := Lib.hid hlen; clear hlen
  have HA := Lib.hid hr; clear hr
  have HBx : Hid (Bl w (w.alloc (.cells #[.int .i64 t, .int .i64 n, .int .i64 s, .slice A len c] 24))) := (Bl.refl w).alloc _
  have HGx : Hid (Bk (w.alloc (.cells #[.int .i64 t, .int .i64 n, .int .i64 s, .slice A len c] 24)) w.heap.size 24 #[.int .i64 t, .int .i64 n, .int .i64 s, .slice A len c]) := Bk.new w _ _
  have hmf : ∀ (fn : Fn) (first cap : Array Value) (w : World), (Instr.makeFunc fn first cap).run Try.prog w = .ok (.func fn first cap) w := fun _ _ _ _ => rfl
  cases hok : okB ⟨t, n, s, ps⟩ with
  | false =>
    have HNo := Lib.hid (firstsOf_no hok)
    have HOK := Lib.hid hok
    clear hok
    go_enter Try.func24, Try.ntmps24
    go_wp2_with fail
    go_step3
    go_wp2_with fail
    refine (right_any t n s A len c ps _ B HL.out hmax (HA.out.bl hB HBx.out) (Nat.le_trans hB HBx.out.size)).mono ?_
    rintro e w1 ⟨rfl, hb1⟩
    rw [HOK.out]
    have HB1 := Lib.hid (HBx.out.trans hb1)
    clear hb1
    go_wp2_with fail
    try rw [Exit.noGoto_ret]
    go_ret
    exact ⟨none, 0, 0, rfl, by rw [HNo.out]; rfl, by rw [HNo.out]; exact Rd.nil, HB1.out⟩
  | true =>
    obtain ⟨n1, n2, n3⟩ := ok_nons hok
    have hl60 : len ≤ 60 := by have := HL.out; omega
    obtain ⟨N, rfl⟩ : ∃ N : Nat, n = (N : Int) := ⟨n.toNat, by omega⟩
    have HYes := Lib.hid (firstsOf_ok hok)
    have HOK := Lib.hid hok
    have HOk : Hid (Gr.Ok ⟨t, (N : Int), s, ps⟩) := (okB_iff _).1 hok
    clear hok
    go_enter Try.func24, Try.ntmps24
    go_wp2_with fail
    refine wp_scope_again 0 (fun g a' w' => ∃ (gl gn gf : Nat) (An : Option Addr) (cn : Nat) (F : List Nat) (u6 u7 u8 u9 u10 u11 u12 u13 u14 u15 u16 u17 u18 u19 u20 u21 u22 u23 u24 u25 u26 u27 u28 : Value),
      a' = { tmps := #[.agg #[.int .i64 t, .int .i64 (N : Int), .int .i64 s, .slice A len c], .pointer (some ⟨w.heap.size, 0, none⟩), .slice none 0 0, .pointer (some ⟨gl, 0, none⟩), .pointer (some ⟨gn, 0, none⟩),
        .func (.func 30) #[] #[.pointer (some ⟨gl, 0, none⟩), .pointer (some ⟨gn, 0, none⟩)], u6, u7, u8, u9, u10, u11, u12, u13, u14, u15, u16, u17, u18, u19, u20, u21, u22, u23, u24, u25, u26, u27, u28], defers := [] } ∧
      Hid (FRel t N s A len c N N w.heap.size gl gn gf An cn (fz (Rk.ranks false ps N)) w F w') ∧ Hid (Fi.Under ⟨t, (N : Int), s, ps⟩ (Fi.nulls ⟨t, (N : Int), s, ps⟩) F) ∧ Hid (g + Fi.fullN N F = N * 32)) rfl ?_ ?_
    · intro HX
      have HX := Lib.hid HX
      go_wp2_with fail
      refine (right_any t N s A len c ps _ B HL.out hmax (HA.out.bl hB HBx.out) (Nat.le_trans hB HBx.out.size)).mono ?_
      rintro e w1 ⟨rfl, hb1⟩
      rw [HOK.out]
      have HB1 := Lib.hid (HBx.out.trans hb1)
      have HG1 := Lib.hid (HGx.out.bl hb1)
      clear hb1
      go_wp2_with fail
      refine firstRegion t s A len c N ps w w1 B w.heap.size _ _ _ _ _ _ _ _ _ _ _ _ _ _ _ _ _ _ _ _ _ _ _ _ _ _ _ _ _ HL.out HOK.out HA.out hB HG1.out HB1.out (fun _ a a' _ h hq => by obtain ⟨ta, da⟩ := a; obtain ⟨tb, db⟩ := a'; cases h; exact hq) ?_
      intro gl gn gf An cn x11 x12 x13 x14 x15 w2 hk
      have HK := Lib.hid hk
      clear hk
      go_wp2_with fail
      go_step3
      rename_i hKK
      refine hKK _ _ (HX.out _ _ ⟨N * 32 - Fi.fullN N (List.replicate N 0), gl, gn, gf, An, cn, List.replicate N 0, _, _, _, _, _, _, _, _, _, _, _, _, _, _, _, _, _, _, _, _, _, _, _, rfl, HK.out, Fi.Under.zeros ⟨t, (N : Int), s, ps⟩ _, ?_⟩)
      have h := Fi.fullN_le N (List.replicate N 0)
      show _ + _ = _
      omega
    · rintro g a' w1 ⟨gl, gn, gf, An, cn, F, u6, u7, u8, u9, u10, u11, u12, u13, u14, u15, u16, u17, u18, u19, u20, u21, u22, u23, u24, u25, u26, u27, u28, rfl, HK, HU, HM⟩
      have k3 : w1.cell? ⟨w.heap.size, 3, none⟩ = some (.slice A len c) := HK.out.bg.cell 3
      have klt : w.heap.size < w1.heap.size := HK.out.bg.lt
      go_wp2_with fail
      clear k3 klt
      go_loopw [20] (fun i wr => ∃ k : Nat, k ≤ len ∧ i = .int .i64 k ∧ Hid (Fi.ShutTo ⟨t, (N : Int), s, ps⟩ (Fi.nulls ⟨t, (N : Int), s, ps⟩) F k) ∧ Hid (FRel t N s A len c N N w.heap.size gl gn gf An cn (fz (Rk.ranks false ps N)) w F wr)) (fun i _ => len - (intOf i).toNat)
      case atStart => exact ⟨0, Nat.zero_le _, rfl, Fi.shutTo_zero, HK.out⟩
      case round =>
        obtain ⟨k, hk, rfl, HS, HKr⟩ := hrel
        by_cases hlt : k < len
        · have hj : k < ps.length := by have := HL.out; omega
          have hbw := HKr.out.b
          obtain ⟨b, off, Ax, cx, rfl, hbB, hrx, hc0, hc1⟩ := (HA.out.bl hB hbw).at_ hj
          have hgk : (⟨t, (N : Int), s, ps⟩ : Gr.Gm).prods[k]? = some ps[k] := List.getElem?_eq_getElem hj
          have hmem : ps[k] ∈ (⟨t, (N : Int), s, ps⟩ : Gr.Gm).prods := List.getElem_mem hj
          have HPut := Lib.hid (HU.out.put HOk.out hmem)
          have HSuc := Lib.hid (Fi.shutTo_succ HS.out hgk)
          have HSy : Hid (Fi.SyOk N ps[k].right) := Fi.syOk_prod HOk.out hmem
          have hlm : ps[k].left.toNat < N := (Fi.ok_nums HOk.out hmem).1
          obtain ⟨⟨o1, o2⟩, o3, o4⟩ := ok_syms HOK.out hj
          have HOl : Hid (Fi.ofN F (Fi.nulls ⟨t, (N : Int), s, ps⟩) ps[k].right < 4294967296) := Fi.ofN_lt HU.out.lt fun x hx e => (HSy.out x hx).2.2 e
          have HLt := Lib.hid (Fi.fullN_lt (N := N) (F := F) HU.out.len_ hlm (HU.out.lt _) HOl.out)
          have HGr := Lib.hid (fun (w2 : World) (hk2 : FRel t N s (some ⟨b, off, none⟩) len c N N w.heap.size gl gn gf An cn (fz (Rk.ranks false ps N)) w F w2) (hr2 : Rd w2 w2.heap.size Ax (syRow (ps[k]'hj).right)) => grows_any t N s (some ⟨b, off, none⟩) len c N N w.heap.size gl gn gf An cn (fz (Rk.ranks false ps N)) w F w2 ps[k].left.toNat ps[k].right Ax cx hk2 (by rw [fz_len, Rk.ranks_length]) hr2 hlm HSy.out o3 HU.out.lt)
          have hnn : nlz (fz (Rk.ranks false ps N)) = Fi.nulls ⟨t, (N : Int), s, ps⟩ := nlz_nulls ⟨t, (N : Int), s, ps⟩
          rw [hnn] at HGr
          have hme : ps[k].left = ((ps[k].left.toNat : Nat) : Int) := by omega
          rw [hme] at hc0
          have HRX := Lib.hid hrx
          have HLm := Lib.hid (HU.out.lt ps[k].left.toNat)
          have HFl : Hid (F.length = N) := HU.out.len_
          clear hrx o1 o2 o3 o4 hgk hmem hnn hme
          generalize ps[k].left.toNat = m at *
          generalize ps[k].right = right at *
          generalize hv : F.getD m 0 ||| Fi.ofN F (Fi.nulls ⟨t, (N : Int), s, ps⟩) right = v at *
          have hbw1 : b < wr.heap.size := by have := hbw.size; omega
          have HKa := Lib.hid (HKr.out.alloc (.cells #[.int .i64 m, .slice Ax right.length cx] 37))
          have HRa := Lib.hid ((HRX.out.alloc (Nat.le_trans hB hbw.size) (.cells #[.int .i64 m, .slice Ax right.length cx] 37)).more (B' := (wr.alloc (.cells #[.int .i64 m, .slice Ax right.length cx] 37)).heap.size) (by rw [World.size_alloc]; have := hbw.size; omega))
          have HCall := Lib.hid (HGr.out _ HKa.out HRa.out)
          clear hbw hj
          go_wp2_with fail
          refine HCall.out.mono ?_
          rintro e w2 ⟨rfl, hk2⟩
          by_cases hne : v = F.getD m 0
          · rw [decide_eq_false (by rw [hne]; simp)]
            have e1 := set_same_nat (by rw [HFl.out]; exact hlm) hne
            rw [e1] at hk2
            have HX := Lib.hid hk2
            have HY := Lib.hid (HSuc.out hne)
            clear hk2 hne
            go_wp2_with fail
            go_roundw
            case rel => exact ⟨k + 1, by omega, by go_num, HY.out, HX.out⟩
            case measure => simp [intOf]; omega
          · rw [decide_eq_true hne]
            have HX := Lib.hid hk2
            have hlf := HLt.out hne
            have HMm : Hid (N * 32 - Fi.fullN N (F.set m v) < g) := by have h1 := HM.out; have h2 := Fi.fullN_le N (F.set m v); show _ - _ < g; omega
            have HMe : Hid (N * 32 - Fi.fullN N (F.set m v) + Fi.fullN N (F.set m v) = N * 32) := by have h2 := Fi.fullN_le N (F.set m v); show _ + _ = _; omega
            clear hk2 hne hlf
            go_wp2_with fail
            go_step3
            exact ⟨rfl, _, HMm.out, gl, gn, gf, An, cn, F.set m v, _, _, _, _, _, _, _, _, _, _, _, _, _, _, _, _, _, _, _, _, _, _, _, rfl, HX.out, HPut.out, HMe.out⟩
        · have HE : Hid (F = Fi.numR ⟨t, (N : Int), s, ps⟩) := HU.out.done HOk.out (by
            have h := HS.out
            rwa [show k = ps.length by have := HL.out; omega] at h)
          have k3 : wr.cell? ⟨gl, 0, none⟩ = some (.slice (some ⟨gf, 0, none⟩) N N) := HKr.out.bl.cell 0
          have klt : gl < wr.heap.size := HKr.out.bl.lt
          go_wp2_with fail
          try rw [Exit.noGoto_ret]
          go_ret
          refine ⟨_, N, N, rfl, ?_, ?_, HKr.out.b⟩
          · rw [HYes.out, Fi.numR_len]; simp
          · rw [HYes.out, ← HE.out]; exact HKr.out.rd
end Go.Proofs.Ytgmnokmchjeflaa
