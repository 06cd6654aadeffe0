/- The reference's Way: tables of ways in memory. -/
import Derived.Test.YthhgjdnbeeadhaaLAll
import Derived.Test.YthhgjdnbeeadhaaLTo
import Derived.Test.YthhgjdnbeeadhaaFoApp
import Derived.Deep.RegionHeld3
namespace Go.Proofs.Ythhgjdnbeeadhaa
open Go.RowKit

namespace Lf
section
variable {ps : List Gr.Pr} {nl : Nat → Bool} {b : Nat} {tbl : Wt} {r a : Nat} {x : Stp}
theorem hit_frm (h : frm ps x ≠ a) : hit ps b tbl r a x = false := by unfold hit; rw [decide_eq_false h, Bool.false_and]
theorem hit_one (h : frm ps x = a) (hr : r = 1) : hit ps b tbl r a x = decide (to ps x = b) := by unfold hit; rw [decide_eq_true h, Bool.true_and, if_pos hr]
theorem hit_more (h : frm ps x = a) (hr : r ≠ 1) : hit ps b tbl r a x = decide ((tbl.getD (to ps x) []).length + 1 = r) := by unfold hit; rw [decide_eq_true h, Bool.true_and, if_neg hr]
theorem mk_one (hr : r = 1) : mk ps tbl r x = [x] := by unfold mk; rw [if_pos hr]
theorem mk_more (hr : r ≠ 1) : mk ps tbl r x = x :: tbl.getD (to ps x) [] := by unfold mk; rw [if_neg hr]
theorem all_at {i : Nat} (hi : i < (all ps nl).length) : ∃ (h1 : (all ps nl)[i].1 < ps.length) (h2 : (all ps nl)[i].2 < ps[(all ps nl)[i].1].right.length), ps[(all ps nl)[i].1].right[(all ps nl)[i].2].non = true ∧ frm ps (all ps nl)[i] = ps[(all ps nl)[i].1].left.toNat := by
  obtain ⟨p, s, h1, h2, h3, _, h5, _⟩ := step_some (mem_all.1 (List.getElem_mem hi))
  obtain ⟨h6, h7⟩ := List.getElem?_eq_some_iff.1 h1
  subst h7
  obtain ⟨h8, h9⟩ := List.getElem?_eq_some_iff.1 h2
  subst h9
  exact ⟨h6, h8, h3, h5⟩
end
end Lf

/-- The table of ways, with all steps and the grammar. -/
structure WRel (w0 : World) (gg : Nat) (G : Array Value) (N : Nat) (Aa : Option Addr) (al : List Lf.Stp) (gl cl : Nat) (tbl : Lf.Wt) (w : World) : Prop where
  bg : Bk w gg 24 G
  best : TabT w w0.heap.size 67 48 stCells gl N cl tbl
  all : RdT w 67 Aa (stRow al)
  b : Bl w0 w
/-- And its copy. -/
structure WRel2 (w0 : World) (gg : Nat) (G : Array Value) (N : Nat) (Aa : Option Addr) (al : List Lf.Stp) (gl cl : Nat) (tbl : Lf.Wt) (gn cn : Nat) (nx : Lf.Wt) (w : World) : Prop where
  one : WRel w0 gg G N Aa al gl cl tbl w
  nxt : TabT w w0.heap.size 67 48 stCells gn N cn nx
  ne : gl ≠ gn
section
variable {w0 w w2 : World} {gg : Nat} {G : Array Value} {N : Nat} {Aa : Option Addr} {al : List Lf.Stp} {gl cl : Nat} {tbl tbl' : Lf.Wt} {gn cn : Nat} {nx nx' : Lf.Wt}
theorem WRel.bl_ (h : WRel w0 gg G N Aa al gl cl tbl w) (hb : Bl w w2) : WRel w0 gg G N Aa al gl cl tbl w2 := ⟨h.bg.bl hb, h.best.bl hb, h.all.keep (.of_bl hb), h.b.trans hb⟩
theorem WRel.is (h : WRel w0 gg G N Aa al gl cl tbl w) (e : tbl' = tbl) : WRel w0 gg G N Aa al gl cl tbl' w := by subst e; exact h
theorem WRel2.bl_ (h : WRel2 w0 gg G N Aa al gl cl tbl gn cn nx w) (hb : Bl w w2) : WRel2 w0 gg G N Aa al gl cl tbl gn cn nx w2 := ⟨h.one.bl_ hb, h.nxt.bl hb, h.ne⟩
theorem WRel2.alloc (h : WRel2 w0 gg G N Aa al gl cl tbl gn cn nx w) (o : Obj) : WRel2 w0 gg G N Aa al gl cl tbl gn cn nx (w.alloc o) := h.bl_ ((Bl.refl w).alloc o)
theorem WRel2.is (h : WRel2 w0 gg G N Aa al gl cl tbl gn cn nx w) (e : nx' = nx) : WRel2 w0 gg G N Aa al gl cl tbl gn cn nx' w := by subst e; exact h
theorem WRel2.put (h : WRel2 w0 gg G N Aa al gl cl tbl gn cn nx w) {m : Nat} {A : Option Addr} {k d : Nat} {r : List Lf.Stp} (hk : k = r.length) (hd : k ≤ d) (hr : RdT w 67 A (stRow r)) :
    WRel2 w0 gg G N Aa al gl cl tbl gn cn (nx.set m r) (w.setCell ⟨gn, m, none⟩ (.slice A k d)) := by
  have hg := h.nxt.glt
  have hfr : Fr (fun k => k = gn) w (w.setCell ⟨gn, m, none⟩ (.slice A k d)) := (Fr.refl _ w).own _ _
  obtain ⟨cs, h1, h2, h3⟩ := id h.nxt
  refine ⟨⟨h.one.bg.fr hfr (fun e => h.nxt.row_bk h.one.bg (by decide) e), h.one.best.other h.nxt h.ne (by decide) m _, h.one.all.keep (KeepT.put h1 (by decide) _), h.one.b.fr hfr fun k hk e => by omega⟩, h.nxt.put (by decide) hk hd hr, h.ne⟩
theorem WRel2.next (h : WRel2 w0 gg G N Aa al gl cl tbl gn cn nx w) : WRel w0 gg G N Aa al gn cn nx w := ⟨h.one.bg, h.nxt, h.one.all, h.one.b⟩
theorem WRel.copy (h : WRel w0 gg G N Aa al gl cl tbl w) {cs : List Value} (hc : RowsT w 67 stCells cs tbl)
    (ho : w2.ownsRow w0.heap.size 48 1 (.slice (some ⟨gn, 0, none⟩) (0 + N) cn) (0 + N) ([] ++ cs))
    (hg : (w.alloc (.cells #[] 48)).grownBy w2 (Value.slice (some ⟨w.heap.size, 0, none⟩) 0 0).ownBlock)
    (hv : (Value.slice (some ⟨w.heap.size, 0, none⟩) 0 0).ownBlock = some gn ∨ gn = (w.alloc (.cells #[] 48)).heap.size) :
    WRel2 w0 gg G N Aa al gl cl tbl gn cn tbl w2 := by
  rw [Nat.zero_add, List.nil_append] at ho
  have hbl : Bl w w2 := ((Bl.refl w).alloc _).grown hg fun k hk => by
    have : w.heap.size = k := by simpa [Value.ownBlock] using hk
    omega
  have hgl := h.best.glt.2
  have hne : gl ≠ gn := by
    rcases hv with e | e
    · have : w.heap.size = gn := by simpa [Value.ownBlock] using e
      omega
    · have : gn = w.heap.size + 1 := by simpa using e
      omega
  exact ⟨h.bl_ hbl, ⟨cs, ho, hc.keep (.of_bl hbl), h.best.len⟩, hne⟩
end
theorem stl_info : (Try.prog.info? 48).map (fun i => (i.zero, i.size, i.bytes)) = some (some (.slice none 0 0), 1, 24) := by kernel_rfl

set_option maxRecDepth 100000 in
set_option maxHeartbeats 8000000 in
theorem lway_any (t n s : Int) (A : Option Addr) (len c : Nat) (ps : List Gr.Pr) (m : Nat) (w : World) (B : Nat) (hlen : len = ps.length) (hr : Prs w B A ps) (hB : B ≤ w.heap.size) (hok : okB ⟨t, n, s, ps⟩ = true) (hm : m < n.toNat) :
    Calls Try.prog 18 #[.agg #[.int .i64 t, .int .i64 n, .int .i64 s, .slice A len c], .int .i64 m] w fun e w' =>
      ∃ A' len' c', e = .returned (.slice A' len' c') ∧ len' = (Lf.told ps (Fi.nulls ⟨t, n, s, ps⟩) n.toNat m).length ∧ RdT w' 67 A' (stRow (Lf.told ps (Fi.nulls ⟨t, n, s, ps⟩) n.toNat m)) ∧ Bl w w' := by
  obtain ⟨i0, hi, hz0, hz1, hz2⟩ := info_parts st_info
  obtain ⟨i1, hj, hy0, hy1, hy2⟩ := info_parts stl_info
  have HL := Lib.hid hlen; clear hlen
  have HP : Hid (∀ w', Bl w w' → Prs w' w'.heap.size A ps) := fun _ hb => (hr.bl hB hb).more (Nat.le_trans hB hb.size)
  clear hr hB
  have HOK := Lib.hid hok
  obtain ⟨n1, n2, n3⟩ := ok_nons hok
  have hlx60 : len ≤ 60 := by have := HL.out; omega
  obtain ⟨N, rfl⟩ : ∃ N : Nat, n = (N : Int) := ⟨n.toNat, by omega⟩
  rw [Int.toNat_natCast] at hm ⊢
  have HOk : Hid (Gr.Ok ⟨t, (N : Int), s, ps⟩) := (okB_iff _).1 hok
  have HB0 : Hid (Bl w (w.alloc (.cells #[.int .i64 t, .int .i64 (N : Int), .int .i64 s, .slice A len c] 24))) := (Bl.refl w).alloc _
  have HG0 : Hid (Bk (w.alloc (.cells #[.int .i64 t, .int .i64 (N : Int), .int .i64 s, .slice A len c] 24)) w.heap.size 24 #[.int .i64 t, .int .i64 (N : Int), .int .i64 s, .slice A len c]) := Bk.new w _ _
  clear hok
  go_enter Try.func18, Try.ntmps18
  go_wp2_with fail
  refine (rright_any t N s A len c ps _ _ HL.out (by omega) (HP.out _ HB0.out) (Nat.le_refl _)).mono ?_
  rintro e w1 ⟨rfl, hb1⟩
  have HB1 := Lib.hid (HB0.out.trans hb1)
  have HG1 := Lib.hid (HG0.out.bl hb1)
  rw [HOK.out]
  clear hb1 HB0 HG0
  have g0 : w1.cell? ⟨w.heap.size, 0, none⟩ = some (.int .i64 t) := HG1.out.cell 0
  have g1 : w1.cell? ⟨w.heap.size, 1, none⟩ = some (.int .i64 (N : Int)) := HG1.out.cell 1
  have g2 : w1.cell? ⟨w.heap.size, 2, none⟩ = some (.int .i64 s) := HG1.out.cell 2
  have g3 : w1.cell? ⟨w.heap.size, 3, none⟩ = some (.slice A len c) := HG1.out.cell 3
  have glt : w.heap.size < w1.heap.size := HG1.out.lt
  go_wp2_with fail
  refine (lall_any t N s A len c ps _ _ HL.out (HP.out _ HB1.out) (Nat.le_refl _) HOK.out).mono ?_
  rintro e w2 ⟨Aa, la, ca, rfl, hla, hoa, hb2⟩
  have HB2 := Lib.hid (HB1.out.trans hb2)
  have HG2 := Lib.hid (HG1.out.bl hb2)
  have HA2 := Lib.hid (RdT.of_own hoa)
  have HLa := Lib.hid hla
  have hla480 : la ≤ 480 := by
    rw [hla, Lf.all_is]
    have := Lf.stTo_len (ps := ps) (nl := Fi.nulls ⟨t, (N : Int), s, ps⟩) (fun p hp => by
      obtain ⟨j, hj, rfl⟩ := List.mem_iff_getElem.1 hp
      exact (ok_syms HOK.out hj).2.1) ps.length (Nat.le_refl _)
    have := HL.out
    omega
  clear hla hoa hb2 g0 g1 g2 g3 glt HB1 HG1
  have g1 : w2.cell? ⟨w.heap.size, 1, none⟩ = some (.int .i64 (N : Int)) := HG2.out.cell 1
  have glt : w.heap.size < w2.heap.size := HG2.out.lt
  go_wp2_with (refine wpList_make_full _ rfl (.tmp 28) (.tmp 28) 66 rfl w.heap.size 48 i1 (.slice none 0 0) 1 Try.underlying66 hj hy0 hy1 .i64 .i64 (N : Int) (N : Int) N rfl rfl rfl rfl (by rw [hy2]; omega) (by simp only [maxLen]; omega) (by omega) ?_; intro w3 hown3 hg3; have HK : Hid (WRel w w.heap.size #[.int .i64 t, .int .i64 (N : Int), .int .i64 s, .slice A len c] N Aa (Lf.all ps (Fi.nulls ⟨t, (N : Int), s, ps⟩)) w2.heap.size N (Lf.bw ps (Fi.nulls ⟨t, (N : Int), s, ps⟩) N m 0) w3) := ⟨HG2.out.grown hg3 (by simp), TabT.made hown3, HA2.out.keep (KeepT.of_bl ((Bl.refl w2).grown hg3 (by simp))), HB2.out.grown hg3 (by simp)⟩; clear hown3 hg3)
  clear g1 glt HB2 HG2 HA2
  rw [HLa.out]
  have HAl8 : Hid ((Lf.all ps (Fi.nulls ⟨t, (N : Int), s, ps⟩)).length ≤ 480) := by rw [← HLa.out]; exact hla480
  have HAt : Hid (∀ i (hi : i < (Lf.all ps (Fi.nulls ⟨t, (N : Int), s, ps⟩)).length), _) := fun i hi => Lf.all_at (ps := ps) (nl := Fi.nulls ⟨t, (N : Int), s, ps⟩) hi
  have HNum : Hid (∀ i (hi : i < (Lf.all ps (Fi.nulls ⟨t, (N : Int), s, ps⟩)).length), Lf.to ps (Lf.all ps (Fi.nulls ⟨t, (N : Int), s, ps⟩))[i] < N) := fun i hi => (Lf.step_nums HOk.out (Lf.mem_all.1 (List.getElem_mem hi))).2
  clear hla480
  go_loopw [6, 7] (fun v i wr => ∃ k r gl cl : Nat, k ≤ N ∧ r ≤ N + 1 ∧ v = .slice (some ⟨gl, 0, none⟩) N cl ∧ i = .int .i64 r ∧ Hid (r = k + 1) ∧ Hid (WRel w w.heap.size #[.int .i64 t, .int .i64 (N : Int), .int .i64 s, .slice A len c] N Aa (Lf.all ps (Fi.nulls ⟨t, (N : Int), s, ps⟩)) gl cl (Lf.bw ps (Fi.nulls ⟨t, (N : Int), s, ps⟩) N m k) wr)) (fun _ i _ => N + 1 - (intOf i).toNat)
  case atStart => exact ⟨0, 1, _, _, Nat.zero_le _, by omega, rfl, rfl, rfl, HK.out⟩
  case round =>
    obtain ⟨k, r, gl, cl, hk, hrn, rfl, rfl, HRk, HKk⟩ := hrel
    have g1 : wr.cell? ⟨w.heap.size, 1, none⟩ = some (.int .i64 (N : Int)) := HKk.out.bg.cell 1
    have glt : w.heap.size < wr.heap.size := HKk.out.bg.lt
    by_cases hrl : r ≤ N
    · have HRd : Hid (Lf.tblAt ps (Fi.nulls ⟨t, (N : Int), s, ps⟩) m (Lf.bw ps (Fi.nulls ⟨t, (N : Int), s, ps⟩) N m k) r N 0 = Lf.bw ps (Fi.nulls ⟨t, (N : Int), s, ps⟩) N m (k + 1)) := by rw [HRk.out]; exact (Lf.bw_succ ..).symm
      have HLe : Hid (∀ a, ((Lf.bw ps (Fi.nulls ⟨t, (N : Int), s, ps⟩) N m k).getD a []).length ≤ 24) := fun a => by
        have := Lf.bw_le ps (Fi.nulls ⟨t, (N : Int), s, ps⟩) N m k a
        omega
      have HCl : Hid ((Lf.bw ps (Fi.nulls ⟨t, (N : Int), s, ps⟩) N m k).length = N) := Lf.bw_length ..
      generalize hcur : Lf.bw ps (Fi.nulls ⟨t, (N : Int), s, ps⟩) N m k = cur at *
      have HCur := Lib.hid hcur; clear hcur
      generalize hal : Lf.all ps (Fi.nulls ⟨t, (N : Int), s, ps⟩) = al at *
      have HAll := Lib.hid hal; clear hal
      obtain ⟨cs, hcs1, hcs2, _⟩ := id HKk.out.best
      have HCs := Lib.hid hcs2
      have HOa := Lib.hid (hcs1.alloc (.cells #[] 48))
      clear hcs1 hcs2
      have own0 : Hid ((wr.alloc (.cells #[] 48)).ownsRow w.heap.size 48 1 (.slice (some ⟨wr.heap.size, 0, none⟩) 0 0) 0 []) := World.ownsRow_lit (base := w.heap.size) (e := 48) (size := 1) wr #[] 0 (by omega) (by simp [maxLen]) rfl
      have HCsl : Hid (cs.length = N) := by rw [HCs.out.1]; exact HCl.out
      go_wp2_with (at_builtin; go_loud (refine wpList_append_lies _ rfl (.tmp 36) (.tmp 37) 66 rfl w.heap.size 48 i1 (.slice none 0 0) 1 24 Try.underlying66 hj hy0 hy1 hy2 rfl (by decide) _ _ _ rfl own0.out ⟨gl, 0, none⟩ N cl cs rfl (by rw [HCsl.out, Nat.mul_one]) (HOa.out.cells rfl) (rowsT_one HCs.out) (by omega) (by simp only [maxLen]; omega) (by omega) (by simp; omega) _ rfl ?_; intro gn cn w4 hown4 hg4 hv4 _; have HR := Lib.hid (HKk.out.copy HCs.out hown4 hg4 hv4); clear hown4 hg4 hv4; rw [Nat.zero_add]))
      clear g1 glt own0 HOa HCs HCsl
      have HSt := Lib.hid (HR.out.is (Lf.tblAt_zero ps (Fi.nulls ⟨t, (N : Int), s, ps⟩) m cur r)); clear HR
      go_loopw [9] (fun i wr2 => ∃ a : Nat, a ≤ N ∧ i = .int .i64 a ∧ Hid (WRel2 w w.heap.size #[.int .i64 t, .int .i64 (N : Int), .int .i64 s, .slice A len c] N Aa al gl cl cur gn cn (Lf.tblAt ps (Fi.nulls ⟨t, (N : Int), s, ps⟩) m cur r a 0) wr2)) (fun i _ => N - (intOf i).toNat)
      case atStart => exact ⟨0, Nat.zero_le _, rfl, HSt.out⟩
      case round =>
        obtain ⟨a, ha, rfl, HRa⟩ := hrel
        have g1 : wr.cell? ⟨w.heap.size, 1, none⟩ = some (.int .i64 (N : Int)) := HRa.out.one.bg.cell 1
        have glt : w.heap.size < wr.heap.size := HRa.out.one.bg.lt
        by_cases haN : a < N
        · go_wp2_with fail
          clear g1 glt
          go_loopw [10] (fun i wr3 => ∃ j : Nat, j ≤ al.length ∧ i = .int .i64 j ∧ Hid (WRel2 w w.heap.size #[.int .i64 t, .int .i64 (N : Int), .int .i64 s, .slice A len c] N Aa al gl cl cur gn cn (Lf.tblAt ps (Fi.nulls ⟨t, (N : Int), s, ps⟩) m cur r a j) wr3)) (fun i _ => al.length - (intOf i).toNat)
          case atStart => exact ⟨0, Nat.zero_le _, rfl, HRa.out⟩
          case round =>
            obtain ⟨j, hjl, rfl, HRj⟩ := hrel
            have hal480 : al.length ≤ 480 := HAl8.out
            have haCl : a < cur.length := Nat.lt_of_lt_of_eq haN HCl.out.symm
            have HBr := Lib.hid HRj.out.one.b
            have glt : w.heap.size < wr.heap.size := HRj.out.one.bg.lt
            obtain ⟨An, dn, kn, _, _⟩ := HRj.out.nxt.read haN
            have gnl := HRj.out.nxt.glt.2
            have ha0 : (0 : Int) ≤ (a : Int) := by omega
            have ha1 : (a : Int) < (N : Int) := by omega
            by_cases hlt : j < al.length
            · by_cases hz : ((Lf.tblAt ps (Fi.nulls ⟨t, (N : Int), s, ps⟩) m cur r a j).getD a []) = []
              · have HZ := Lib.hid hz
                rw [hz] at kn
                have hjAll : j < (Lf.all ps (Fi.nulls ⟨t, (N : Int), s, ps⟩)).length := by rw [HAll.out]; exact hlt
                obtain ⟨hx1, hx2, hx3, hx4⟩ := HAt.out j hlt
                have hto := HNum.out j hlt
                have HPut := Lib.hid (fun h => Lf.tblAt_put ps (Fi.nulls ⟨t, (N : Int), s, ps⟩) m cur r a haCl hjAll hz h)
                have HSkip := Lib.hid (fun h => Lf.tblAt_skip ps (Fi.nulls ⟨t, (N : Int), s, ps⟩) m cur r a haCl hjAll hz h)
                have hxe : (Lf.all ps (Fi.nulls ⟨t, (N : Int), s, ps⟩))[j] = al[j] := by simp only [HAll.out]
                rw [hxe] at HPut HSkip
                obtain ⟨ba, oa, hAa, hba, hx5, hx6⟩ := HRj.out.one.all.rd.stp hlt
                clear hz hxe hjAll
                generalize al[j] = x at *
                have HFr := Lib.hid (fun h => Lf.hit_frm (ps := ps) (b := m) (tbl := cur) (r := r) (a := a) (x := x) h)
                have HOne := Lib.hid (fun h1 h2 => Lf.hit_one (ps := ps) (b := m) (tbl := cur) (r := r) (a := a) (x := x) h1 h2)
                have HMore := Lib.hid (fun h1 h2 => Lf.hit_more (ps := ps) (b := m) (tbl := cur) (r := r) (a := a) (x := x) h1 h2)
                have HM1 := Lib.hid (fun h => Lf.mk_one (ps := ps) (tbl := cur) (r := r) (x := x) h)
                have HM2 := Lib.hid (fun h => Lf.mk_more (ps := ps) (tbl := cur) (r := r) (x := x) h)
                obtain ⟨p, d⟩ := x
                simp only at hx1 hx2 hx3 hx4 hto hx5 hx6
                subst hAa
                have HTo := fun (wx : World) (hb : Bl w wx) => lto_any t (N : Int) s A len c ps p d wx wx.heap.size HL.out (HP.out _ hb) (Nat.le_refl _) HOK.out hx1 hx2 hx3
                obtain ⟨b, off, Ax, cx, hAe, hbB, hrx, hc0, hc1⟩ := (HP.out _ HBr.out).at_ hx1
                obtain ⟨⟨o1, o2⟩, o3, o4⟩ := ok_syms HOK.out hx1
                have hpl : p < len := by have := HL.out; omega
                have hle : ps[p].left = ((Lf.frm ps (p, d) : Nat) : Int) := by rw [hx4]; omega
                rw [hle] at hc0
                have hp0 : (0 : Int) ≤ (p : Int) := by omega
                have hp1 : (p : Int) < (len : Int) := by omega
                have hT := Lib.hid HTo
                clear hrx hc1 hx1 hx2 hx3 hx4 o1 o2 o3 o4 hle HTo
                generalize hfx : Lf.frm ps (p, d) = fx at *
                generalize htx : Lf.to ps (p, d) = tx at *
                subst hAe
                have g3 : wr.cell? ⟨w.heap.size, 3, none⟩ = some (.slice (some ⟨b, off, none⟩) len c) := HRj.out.one.bg.cell 3
                have g0 : wr.cell? ⟨w.heap.size, 0, none⟩ = some (.int .i64 t) := HRj.out.one.bg.cell 0
                have g1 : wr.cell? ⟨w.heap.size, 1, none⟩ = some (.int .i64 (N : Int)) := HRj.out.one.bg.cell 1
                have g2 : wr.cell? ⟨w.heap.size, 2, none⟩ = some (.int .i64 s) := HRj.out.one.bg.cell 2
                have HRx := Lib.hid (HRj.out.alloc (.cells #[.int .i64 (p : Int), .int .i64 (d : Int)] 67))
                have HXx := Lib.hid (Bk.new wr 67 #[.int .i64 (p : Int), .int .i64 (d : Int)])
                by_cases hfa : fx = a
                · subst hfa
                  by_cases hr1 : r = 1
                  · have HH := Lib.hid (HOne.out rfl hr1)
                    have HMk := Lib.hid (HM1.out hr1)
                    have hq1 : (((r : Nat) : Int) == 1) = true := by simp; omega
                    have hq3 : decide ((1 : Int) < (r : Int)) = false := decide_eq_false (by omega)
                    clear hr1
                    go_wp2_with fail
                    refine (hT.out _ (HBr.out.alloc _)).mono ?_
                    rintro e v1 ⟨rfl, hb1⟩
                    have HR6 := Lib.hid (HRx.out.bl_ hb1)
                    have HX6 := Lib.hid (HXx.out.bl hb1)
                    clear hb1 g0 g1 g2 g3 kn hx5 hx6 hc0 glt gnl hba
                    have x0 : v1.cell? ⟨wr.heap.size, 0, none⟩ = some (.int .i64 (p : Int)) := HX6.out.cell 0
                    have x1 : v1.cell? ⟨wr.heap.size, 1, none⟩ = some (.int .i64 (d : Int)) := HX6.out.cell 1
                    have xlt : wr.heap.size < v1.heap.size := HX6.out.lt
                    obtain ⟨An6, dn6, kn6, _, _⟩ := HR6.out.nxt.read haN
                    have gnl6 := HR6.out.nxt.glt.2
                    have kf6 := HR6.out.nxt.free fx
                    by_cases htm : tx = m
                    · have HX : Hid (WRel2 w w.heap.size #[.int .i64 t, .int .i64 (N : Int), .int .i64 s, .slice (some ⟨b, off, none⟩) len c] N (some ⟨ba, oa, none⟩) al gl cl cur gn cn (Lf.tblAt ps (Fi.nulls ⟨t, (N : Int), s, ps⟩) m cur r fx (j + 1)) ((v1.setCell ⟨gn, fx, none⟩ (.slice (some ⟨v1.heap.size, 0, none⟩) 1 1)).alloc (.cells #[.int .i64 (p : Int), .int .i64 (d : Int)] 67))) := by
                        rw [← World.setCell_alloc_past _ _ _ _ gnl6]
                        rw [HPut.out (by rw [HH.out]; exact decide_eq_true htm), HMk.out]
                        exact (HR6.out.alloc _).put (r := [(p, d)]) rfl (Nat.le_refl _) (RdT.of_own (World.ownsRow_lit (base := v1.heap.size) (e := 67) (size := 2) v1 #[.int .i64 (p : Int), .int .i64 (d : Int)] 1 (Nat.le_refl _) (by simp [maxLen]) rfl))
                      subst htm
                      go_wp2_with fail
                      go_roundw
                      case rel => exact ⟨j + 1, by omega, by go_num, HX.out⟩
                      case measure => simp [intOf]; omega
                    · have HX := Lib.hid (HR6.out.is (HSkip.out (by rw [HH.out]; exact decide_eq_false htm)))
                      have hq : (((tx : Nat) : Int) == (m : Int)) = false := by simp; omega
                      clear htm
                      go_wp2_with fail
                      go_roundw
                      case rel => exact ⟨j + 1, by omega, by go_num, HX.out⟩
                      case measure => simp [intOf]; omega
                  · have hr2 : 1 < r := by have := HRk.out; omega
                    have HH := Lib.hid (HMore.out rfl hr1)
                    have HMk := Lib.hid (HM2.out hr1)
                    have hq1 : (((r : Nat) : Int) == 1) = false := by simp; omega
                    go_wp2_with fail
                    refine (hT.out _ (HBr.out.alloc _)).mono ?_
                    rintro e v1 ⟨rfl, hb1⟩
                    have HR6 := Lib.hid (HRx.out.bl_ hb1)
                    have HX6 := Lib.hid (HXx.out.bl hb1)
                    clear hb1 g0 g1 g2 g3 kn hx5 hx6 hc0 glt gnl hba
                    obtain ⟨Ab, db, kb, _, hrb⟩ := HR6.out.one.best.read hto
                    have HRb := Lib.hid hrb
                    have gbl := HR6.out.one.best.glt.2
                    have hbl24 := HLe.out tx
                    have tx0 : (0 : Int) ≤ (tx : Int) := by omega
                    have tx1 : (tx : Int) < (N : Int) := by omega
                    clear hrb
                    generalize hlb : (cur.getD tx []).length = lb at *
                    have HLb := Lib.hid hlb; clear hlb
                    by_cases hlr : lb + 1 = r
                    · have HPt := Lib.hid (HPut.out (by rw [HH.out]; exact decide_eq_true hlr))
                      have hq2 : (((lb : Nat) : Int) == (r : Int) - 1) = true := by simp; omega
                      have gnl6 := HR6.out.nxt.glt.2
                      have HS : Hid (∀ w1 w2, Bl v1 w1 → Fr (fun k => k = gn) w1 w2 → w2.cell? ⟨w.heap.size, 0, none⟩ = some (.int .i64 t) ∧ w2.cell? ⟨w.heap.size, 1, none⟩ = some (.int .i64 (N : Int)) ∧ w2.cell? ⟨w.heap.size, 2, none⟩ = some (.int .i64 s) ∧ w2.cell? ⟨w.heap.size, 3, none⟩ = some (.slice (some ⟨b, off, none⟩) len c) ∧ w2.cell? ⟨wr.heap.size, 0, none⟩ = some (.int .i64 (p : Int)) ∧ w2.cell? ⟨wr.heap.size, 1, none⟩ = some (.int .i64 (d : Int)) ∧ w2.cell? ⟨gl, tx, none⟩ = some (.slice Ab lb db)) := fun w1 w2 hb hf => by
                        have b1 := (HR6.out.one.bg.bl hb).fr hf (HR6.out.nxt.row_bk HR6.out.one.bg (by decide))
                        have b2 := (HX6.out.bl hb).fr hf (HR6.out.nxt.row_bk HX6.out (by decide))
                        exact ⟨b1.cell 0, b1.cell 1, b1.cell 2, b1.cell 3, b2.cell 0, b2.cell 1, (hf.cell (p := ⟨gl, tx, none⟩) (Nat.lt_of_lt_of_le gbl hb.size) HR6.out.ne).trans ((Below.cell hb (p := ⟨gl, tx, none⟩) gbl).trans kb)⟩
                      obtain ⟨An6, dn6, kn6, _, _⟩ := HR6.out.nxt.read haN
                      have HN : Hid (∀ w1, Bl v1 w1 → w1.cell? ⟨gn, fx, none⟩ = some (.slice An6 ((Lf.tblAt ps (Fi.nulls ⟨t, (N : Int), s, ps⟩) m cur r fx j).getD fx []).length dn6) ∧ w1.frozen? ⟨gn, fx, none⟩ = false) := fun w1 hb =>
                        ⟨(Below.cell hb (p := ⟨gn, fx, none⟩) gnl6).trans kn6, (HR6.out.bl_ hb).nxt.free fx⟩
                      have HBc : Hid (Bl v1 v1.drew) := (Bl.refl v1).drew
                      clear kn6
                      go_wp2_with fail
                      have tk1 : True := trivial
                      go_region_held3 (fun w' => w'.cell? ⟨w.heap.size, 0, none⟩ = some (.int .i64 t) ∧ w'.cell? ⟨w.heap.size, 1, none⟩ = some (.int .i64 (N : Int)) ∧ w'.cell? ⟨w.heap.size, 2, none⟩ = some (.int .i64 s) ∧ w'.cell? ⟨w.heap.size, 3, none⟩ = some (.slice (some ⟨b, off, none⟩) len c) ∧ w'.cell? ⟨wr.heap.size, 0, none⟩ = some (.int .i64 (p : Int)) ∧ w'.cell? ⟨wr.heap.size, 1, none⟩ = some (.int .i64 (d : Int)) ∧ w'.cell? ⟨gl, tx, none⟩ = some (.slice Ab lb db)) (first | exact HS.out _ _ HBc.out (Fr.refl _ _) | exact HS.out _ _ (HBc.out.alloc _) (Fr.refl _ _) | exact HS.out _ _ HBc.out ((Fr.refl _ _).own _ _)) (first
                        | (go_at_call 33; have _t := tk1; ((with_reducible refine (hT.out _ (HR6.out.one.b.alloc _).drew).mono ?_); rintro e v2 ⟨rfl, hb2⟩; have HLit := Lib.hid (own_bl (World.ownsRow_lit (base := v1.heap.size) (e := 67) (size := 2) v1 #[.int .i64 (p : Int), .int .i64 (d : Int)] 1 (Nat.le_refl _) (by simp [maxLen]) rfl) (Bl.undrew hb2)); have HBx : Hid (Bl v1 v2) := ((Bl.refl v1).alloc _).trans (Bl.undrew hb2); clear HBc; have HBc := Lib.hid HBx.out; clear tk1 hb2))
                        | (go_at_call 33; have _t := tk1; ((with_reducible refine (hT.out _ HR6.out.one.b.drew).mono ?_); rintro e v2 ⟨rfl, hb2⟩; have HBx : Hid (Bl v1 v2) := Bl.undrew hb2; clear HBc; have HBc := Lib.hid HBx.out; have HLit := Lib.hid (World.ownsRow_lit (base := v1.heap.size) (e := 67) (size := 2) v2 #[.int .i64 (p : Int), .int .i64 (d : Int)] 1 HBc.out.size (by simp [maxLen]) rfl); clear tk1 hb2))
                        | (refine step_append_rdN rfl (.tmp 103) (.tmp 109) 48 rfl v1.heap.size 67 i0 (.agg #[.int .i64 0, .int .i64 0]) 2 16 Try.underlying48 hi hz0 hz1 hz2 rfl (by decide) (.slice (some ⟨v1.heap.size, 0, none⟩) 1 1) 1 [.int .i64 (p : Int), .int .i64 (d : Int)] rfl HLit.out _ Ab lb db (stRow (cur.getD tx [])) rfl (HRb.out.keep (.of_bl (by first | exact HBc.out.alloc _ | exact HBc.out))).rd ((stRow_len _).trans (by rw [HLb.out])) (stRow_one _) (by simp only [maxLen]; omega) (by omega) (by first | exact (HBc.out.alloc _).size | exact HBc.out.size) ?_; intro v3 x2 hown2 hg2; obtain ⟨A2, d2, hv2, hd2⟩ := own_form hown2; subst hv2; have HO2 := Lib.hid hown2; have HD2 := Lib.hid hd2; have HBx : Hid (Bl v1 x2) := (by first | exact (HBc.out.alloc _).grown hg2 (fun k hk => (HLit.out.lt k hk).1) | exact HBc.out.grown hg2 (fun k hk => (HLit.out.lt k hk).1)); clear HBc; have HBc := Lib.hid HBx.out; obtain ⟨kc1, kc2⟩ := HN.out _ HBc.out; have gnl7 : gn < x2.heap.size := Nat.lt_of_lt_of_le gnl6 HBc.out.size; clear hown2 hg2 hd2)
                        | (refine step_append_rdN rfl (.tmp 103) (.tmp 109) 48 rfl v1.heap.size 67 i0 (.agg #[.int .i64 0, .int .i64 0]) 2 16 Try.underlying48 hi hz0 hz1 hz2 rfl (by decide) (.slice (some ⟨v2.heap.size, 0, none⟩) 1 1) 1 [.int .i64 (p : Int), .int .i64 (d : Int)] rfl HLit.out _ Ab lb db (stRow (cur.getD tx [])) rfl (HRb.out.keep (.of_bl (by first | exact HBc.out.alloc _ | exact HBc.out))).rd ((stRow_len _).trans (by rw [HLb.out])) (stRow_one _) (by simp only [maxLen]; omega) (by omega) (by first | exact (HBc.out.alloc _).size | exact HBc.out.size) ?_; intro v3 x2 hown2 hg2; obtain ⟨A2, d2, hv2, hd2⟩ := own_form hown2; subst hv2; have HO2 := Lib.hid hown2; have HD2 := Lib.hid hd2; have HBx : Hid (Bl v1 x2) := (by first | exact (HBc.out.alloc _).grown hg2 (fun k hk => (HLit.out.lt k hk).1) | exact HBc.out.grown hg2 (fun k hk => (HLit.out.lt k hk).1)); clear HBc; have HBc := Lib.hid HBx.out; obtain ⟨kc1, kc2⟩ := HN.out _ HBc.out; have gnl7 : gn < x2.heap.size := Nat.lt_of_lt_of_le gnl6 HBc.out.size; clear hown2 hg2 hd2)
                        | fail)
                      all_goals
                        have HX := Lib.hid ((HR6.out.bl_ HBc.out).put (m := fx) (A := A2) (k := 1 + lb) (d := d2) (r := (p, d) :: cur.getD tx []) (by rw [List.length_cons, HLb.out, Nat.add_comm]) HD2.out (RdT.of_own HO2.out))
                        go_wp2_with fail
                        go_roundw
                        case rel => exact ⟨j + 1, by omega, by go_num, by rw [HPt.out, HMk.out]; exact HX.out⟩
                        case measure => simp [intOf]; omega
                    · have HX := Lib.hid (HR6.out.is (HSkip.out (by rw [HH.out]; exact decide_eq_false hlr)))
                      have hq2 : (((lb : Nat) : Int) == (r : Int) - 1) = false := by simp; omega
                      clear hlr
                      go_wp2_with fail
                      go_roundw
                      case rel => exact ⟨j + 1, by omega, by go_num, HX.out⟩
                      case measure => simp [intOf]; omega
                · have HX := Lib.hid (HRx.out.is (HSkip.out (HFr.out hfa)))
                  have hq : (((fx : Nat) : Int) == (a : Int)) = false := by simp; omega
                  clear hfa
                  go_wp2_with fail
                  go_roundw
                  case rel => exact ⟨j + 1, by omega, by go_num, HX.out⟩
                  case measure => simp [intOf]; omega
              · have HX := Lib.hid (HRj.out.is (Lf.tblAt_stop ps (Fi.nulls ⟨t, (N : Int), s, ps⟩) m cur r a haCl (by rw [HAll.out]; exact hjl) hz).symm)
                have hz2 : ((Lf.tblAt ps (Fi.nulls ⟨t, (N : Int), s, ps⟩) m cur r a j).getD a []).length ≠ 0 := fun e => hz (List.eq_nil_of_length_eq_zero e)
                clear hz
                generalize ((Lf.tblAt ps (Fi.nulls ⟨t, (N : Int), s, ps⟩) m cur r a j).getD a []).length = ln at kn hz2
                have hq : (((ln : Nat) : Int) == 0) = false := by simp; omega
                clear hz2
                go_wp2_with fail
                go_roundw
                case rel => exact ⟨a + 1, by omega, by go_num, HX.out⟩
                case measure => simp [intOf]; omega
            · have HX := Lib.hid (HRj.out.is (nx' := Lf.tblAt ps (Fi.nulls ⟨t, (N : Int), s, ps⟩) m cur r (a + 1) 0) (by rw [Lf.tblAt_turn, HAll.out, show j = al.length by omega]))
              clear kn
              go_wp2_with fail
              go_roundw
              case rel => exact ⟨a + 1, by omega, by go_num, HX.out⟩
              case measure => simp [intOf]; omega
        · have HX : Hid (WRel w w.heap.size #[.int .i64 t, .int .i64 (N : Int), .int .i64 s, .slice A len c] N Aa al gn cn (Lf.bw ps (Fi.nulls ⟨t, (N : Int), s, ps⟩) N m (k + 1)) wr) := (HRa.out.is (by rw [← HRd.out, show a = N by omega])).next
          go_wp2_with fail
          go_roundw
          case rel => exact ⟨k + 1, r + 1, gn, cn, by have := HRk.out; omega, by omega, rfl, by go_num, by rw [HRk.out]; rfl, HX.out⟩
          case measure => simp [intOf]; omega
    · have hkN : k = N := by have := HRk.out; omega
      subst hkN
      obtain ⟨Ar, dr, kr, _, hrr⟩ := HKk.out.best.read hm
      have HRr := Lib.hid hrr
      have hglb := HKk.out.best.glt.2
      have hm0 : (0 : Int) ≤ (m : Int) := by omega
      have hm1 : (m : Int) < (k : Int) := by omega
      clear hrr
      go_wp2_with fail
      go_ret
      exact ⟨_, _, _, rfl, rfl, HRr.out, HKk.out.b⟩
end Go.Proofs.Ythhgjdnbeeadhaa
