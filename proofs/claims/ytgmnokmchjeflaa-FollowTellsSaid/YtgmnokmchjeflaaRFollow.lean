/- probateref12.Follow: the sets, as bools. -/
import Derived.Test.YtgmnokmchjeflaaRFirst
import Derived.Test.YtgmnokmchjeflaaFoMem
namespace Go.Proofs.Ytgmnokmchjeflaa
open Go.RowKit

theorem of_colF {g : Gr.Gm} (hg : Gr.Ok g) {l : List Gr.Sy} (hs : Fi.SyOk g.nons.toNat l) (t : Nat) : Fi.of (colF g) (Fi.nulls g) l t = Fi.of (Fi.tb (Fi.numR g)) (Fi.nulls g) l t := by
  have hb : ∀ s ∈ l, s.non = true → s.n.toNat < g.nons.toNat := fun s hx e => by have h1 := (hs s hx).2.1 e; have h2 := (hs s hx).1; omega
  cases h : Fi.of (colF g) (Fi.nulls g) l t with
  | true => exact (Fi.of_mono (F := colF g) (G := Fi.tb (Fi.numR g)) (N := g.nons.toNat) (fun n hn hb => by rw [Fi.tb_numR' hg hn]; exact hb) hb h).symm
  | false =>
    cases h2 : Fi.of (Fi.tb (Fi.numR g)) (Fi.nulls g) l t with
    | false => rfl
    | true =>
      rw [Fi.of_mono (F := Fi.tb (Fi.numR g)) (G := colF g) (N := g.nons.toNat) (fun n hn hb => by rw [Fi.tb_numR' hg hn] at hb; exact hb) hb h2] at h
      cases h
/-- What Follow leaves. -/
def colWF (g : Gr.Gm) : Nat → Nat → Bool := fun n t => Fi.colW g t n
def SetWPost (g : Gr.Gm) (w : World) (e : Ending) (w' : World) : Prop :=
  ∃ A len c, e = .returned (.slice A len c) ∧ len = setsN g ∧ Rd w' w'.heap.size A (setRow (setsN g) (colWF g)) ∧ Bl w w'
theorem SetWPost.lit {g : Gr.Gm} {k : Nat} {w w' : World} {e : Ending} (h : SetWPost g w e w') (hk : setsN g = k) : ∃ A c, e = .returned (.slice A k c) ∧ Rd w' w'.heap.size A (setRow k (colWF g)) ∧ Bl w w' := by
  subst hk
  obtain ⟨A, len, c, he, hlen, hr, hb⟩ := h
  subst hlen
  exact ⟨A, c, he, hr, hb⟩
/-- The table behind r rounds, i productions, and k places. -/
def wt (g : Gr.Gm) (r i k : Nat) : Nat → Nat → Bool := Fi.wTab g (Fi.tb (Fi.numR g)) (Fi.nulls g) r i k
section
variable {g : Gr.Gm} {r i k : Nat} {p : Gr.Pr}
theorem wt_start (g : Gr.Gm) : updF (fun _ _ => false) g.start.toNat 16 true = wt g 0 0 0 := by
  unfold wt
  rw [Fi.wTab_base]
  funext n t
  unfold updF Fi.wBase
  by_cases e : n = g.start.toNat
  · rw [if_pos e]
    unfold upd
    by_cases et : t = 16
    · rw [if_pos et]; simp [e, et]
    · rw [if_neg et]; simp [et]
  · rw [if_neg e]; simp [e]
theorem wt_next (hp : g.prods[i]? = some p) (hk : p.right.length ≤ k) : wt g r i k = wt g r (i + 1) 0 := Fi.wTab_next hp hk
theorem wt_round (hi : g.prods.length ≤ i) : wt g r i 0 = wt g (r + 1) 0 0 := Fi.wTab_round hi
theorem wt_term (hp : g.prods[i]? = some p) {s : Gr.Sy} (hs : p.right[k]? = some s) (hn : s.non = false) : wt g r i (k + 1) = wt g r i k := Fi.wTab_term hp hs hn
theorem wt_end (g : Gr.Gm) : wt g (g.nons.toNat + 1) 0 0 = colWF g := by funext n t; exact Fi.colW_wTab g n t
/-- What a place puts in: by what Of told, and by the set of the production's nonterminal. -/
def inOf (F : Nat → Nat → Bool) (left : Nat) (one : Nat → Bool) (all : Bool) : Nat → Bool := fun t => one t || (all && F left t)
theorem wt_non (hg : Gr.Ok g) (hp : g.prods[i]? = some p) {s : Gr.Sy} (hs : p.right[k]? = some s) (hn : s.non = true) (n t : Nat) (ht : t < 32) :
    wt g r i (k + 1) n t = rowTo (wt g r i k) s.n.toNat (inOf (wt g r i k) p.left.toNat (Fi.of (colF g) (Fi.nulls g) (p.right.drop (k + 1))) (Fi.allNull (Fi.nulls g) (p.right.drop (k + 1)))) 32 n t := by
  have hsy : Fi.SyOk g.nons.toNat (p.right.drop (k + 1)) := fun x hx => Fi.syOk_prod hg (List.mem_of_getElem? hp) x (List.mem_of_mem_drop hx)
  unfold wt
  rw [Fi.wTab_non hp hs hn]
  unfold rowTo inOf Fi.beh
  rw [decide_eq_true ht, Bool.true_and, of_colF hg hsy]
end
theorem rowTo_own (F : Nat → Nat → Bool) (m : Nat) (one : Nat → Bool) (n j : Nat) : rowTo F m one j n j = F n j := by
  unfold rowTo; rw [decide_eq_false (Nat.lt_irrefl j)]; simp

set_option maxRecDepth 100000 in
set_option maxHeartbeats 8000000 in
theorem rfollow_any (t n s : Int) (A : Option Addr) (len c : Nat) (ps : List Gr.Pr) (w : World) (B : Nat) (hlen : len = ps.length) (hmax : len ≤ 9223372036854775807) (hr : PrsC w B A ps) (hB : B ≤ w.heap.size) :
    Calls Try.prog 11 #[.agg #[.int .i64 t, .int .i64 n, .int .i64 s, .slice A len c]] w (SetWPost ⟨t, n, s, ps⟩ w) := by
  obtain ⟨iS, hiS, hzS0, hzS1, hzS2⟩ := info_parts set_info3
  have HL := Lib.hid hlen; clear hlen
  have HP : Hid (∀ w', Bl w w' → PrsC w' w'.heap.size A ps) := fun _ hb => (hr.bl hB hb).more (Nat.le_trans hB hb.size)
  clear hr hB
  have HB0 : Hid (Bl w (w.alloc (.cells #[.int .i64 t, .int .i64 n, .int .i64 s, .slice A len c] 24))) := (Bl.refl w).alloc _
  have HG0 : Hid (Bk (w.alloc (.cells #[.int .i64 t, .int .i64 n, .int .i64 s, .slice A len c] 24)) w.heap.size 24 #[.int .i64 t, .int .i64 n, .int .i64 s, .slice A len c]) := Bk.new w _ _
  go_enter Try.func11, Try.ntmps11
  go_wp2_with fail
  refine (rright_any t n s A len c ps _ _ HL.out hmax (HP.out _ HB0.out).prs (Nat.le_refl _)).mono ?_
  rintro e w1 ⟨rfl, hb1⟩
  have HB1 := Lib.hid (HB0.out.trans hb1)
  have HG1 := Lib.hid (HG0.out.bl hb1)
  clear hb1
  cases hok : okB ⟨t, n, s, ps⟩ with
  | false =>
    have HV := Lib.hid (setsN_no hok)
    clear hok
    go_wp2_with fail
    go_ret
    exact ⟨none, 0, 0, rfl, HV.out.symm, by rw [HV.out]; exact Rd.nil, HB1.out⟩
  | true =>
    obtain ⟨n1, n2, n3⟩ := ok_nons hok
    obtain ⟨N, rfl⟩ : ∃ N : Nat, n = (N : Int) := ⟨n.toNat, by omega⟩
    have HOk : Hid (Gr.Ok ⟨t, (N : Int), s, ps⟩) := (okB_iff _).1 hok
    have hst := Fi.start_lt HOk.out
    obtain ⟨S, rfl⟩ : ∃ S : Nat, s = (S : Int) := ⟨s.toNat, by have h5 : (0 : Int) ≤ s := HOk.out.2.2.2.2.1; omega⟩
    have hS : S < N := hst
    have HV : Hid (setsN ⟨t, (N : Int), (S : Int), ps⟩ = N) := setsN_ok hok
    have HFa : Hid (factsOf false ⟨t, (N : Int), (S : Int), ps⟩ = fz (Rk.ranks false ps N)) := factsOf_ok hok
    have HNn : Hid (nlz (fz (Rk.ranks false ps N)) = Fi.nulls ⟨t, (N : Int), (S : Int), ps⟩) := nlz_nulls ⟨t, (N : Int), (S : Int), ps⟩
    have HOK := Lib.hid hok
    have hlx60 : len ≤ 60 := by have := HL.out; omega
    have HFz : Hid ((fz (Rk.ranks false ps N)).length = N) := by unfold Hid; rw [fz_len, Rk.ranks_length]
    clear hok hst
    have g0 : w1.cell? ⟨w.heap.size, 0, none⟩ = some (.int .i64 t) := HG1.out.cell 0
    have g1 : w1.cell? ⟨w.heap.size, 1, none⟩ = some (.int .i64 (N : Int)) := HG1.out.cell 1
    have g2 : w1.cell? ⟨w.heap.size, 2, none⟩ = some (.int .i64 (S : Int)) := HG1.out.cell 2
    have g3 : w1.cell? ⟨w.heap.size, 3, none⟩ = some (.slice A len c) := HG1.out.cell 3
    have glt : w.heap.size < w1.heap.size := HG1.out.lt
    go_wp2_with fail
    refine (rranks_any t (N : Int) S A len c ps false _ w1.heap.size HL.out hmax (HP.out _ HB1.out).prs (Nat.le_refl _)).mono ?_
    intro e w2 h2
    obtain ⟨An, cn, he2, hr2, hb2⟩ := h2.lit (k := N) HFa.out HFz.out
    subst he2
    have HN2 := Lib.hid hr2
    have HB2 := Lib.hid (HB1.out.trans hb2)
    have HG2 := Lib.hid (HG1.out.bl hb2)
    clear h2 hr2 hb2 g0 g1 g2 g3 glt HB1 HG1 HG0 HB0
    have g0 : w2.cell? ⟨w.heap.size, 0, none⟩ = some (.int .i64 t) := HG2.out.cell 0
    have g1 : w2.cell? ⟨w.heap.size, 1, none⟩ = some (.int .i64 (N : Int)) := HG2.out.cell 1
    have g2 : w2.cell? ⟨w.heap.size, 2, none⟩ = some (.int .i64 (S : Int)) := HG2.out.cell 2
    have g3 : w2.cell? ⟨w.heap.size, 3, none⟩ = some (.slice A len c) := HG2.out.cell 3
    have glt : w.heap.size < w2.heap.size := HG2.out.lt
    go_wp2_with fail
    refine (rfirst_any t (N : Int) S A len c ps _ w2.heap.size HL.out hmax (HP.out _ HB2.out).prs (Nat.le_refl _)).mono ?_
    intro e w3 h3
    obtain ⟨As, cs, he3, hr3, hb3⟩ := h3.lit HV.out
    subst he3
    have HF3 := Lib.hid hr3
    have HN3 := Lib.hid (rd_on HN2.out hb3)
    have HB3 := Lib.hid (HB2.out.trans hb3)
    have HG3 := Lib.hid (HG2.out.bl hb3)
    clear h3 hr3 hb3 g0 g1 g2 g3 glt HB2 HG2 HN2
    have g1 : w3.cell? ⟨w.heap.size, 1, none⟩ = some (.int .i64 (N : Int)) := HG3.out.cell 1
    have glt : w.heap.size < w3.heap.size := HG3.out.lt
    have hS0 : (0 : Int) ≤ (S : Int) := by omega
    have hS1 : (S : Int) < (N : Int) := by omega
    go_wp2_with (refine wpList_make_full _ rfl (.tmp 21) (.tmp 21) 31 rfl w3.heap.size 50 iS (.agg zs32) 32 Try.underlying31 hiS hzS0 hzS1 .i64 .i64 (N : Int) (N : Int) N rfl rfl rfl rfl (by rw [hzS2]; omega) (by simp only [maxLen]; omega) (Nat.le_refl _) ?_; intro w4 hown4 hg4; have HK := Lib.hid (SRel.mk (F := fun _ _ => false) (by rw [setRow_zeros]; exact hown4) ((Bl.refl w3).grown hg4 (by simp))); have HG4 := Lib.hid (HG3.out.grown hg4 (by simp)); have k2 : w4.cell? ⟨w.heap.size, 2, none⟩ = some (.int .i64 (S : Int)) := HG4.out.cell 2; have ks := HK.out.cell hS (t := 16) (by decide); have kf := HK.out.free (S * 32 + 16); have kg := HK.out.glt; have kl := HG4.out.lt; clear hown4 hg4)
    have HK0 := Lib.hid ((HK.out.put hS (t := 16) (by decide) true).is (G := wt ⟨t, (N : Int), (S : Int), ps⟩ 0 0 0) (fun n' t' _ _ => by rw [← wt_start]; rfl))
    clear g1 glt k2 ks kf kg kl HK HG4
    go_loopw [6] (fun v wr => ∃ r : Nat, r ≤ N + 1 ∧ v = .int .i64 r ∧ Hid (SRel w3 N w3.heap.size N (wt ⟨t, (N : Int), (S : Int), ps⟩ r 0 0) wr)) (fun v _ => N + 1 - (intOf v).toNat)
    case atStart => exact ⟨0, Nat.zero_le _, rfl, HK0.out⟩
    case round =>
      obtain ⟨r, hr, rfl, HKr⟩ := hrel
      have HGr := Lib.hid (HG3.out.bl HKr.out.b)
      have g1 : wr.cell? ⟨w.heap.size, 1, none⟩ = some (.int .i64 (N : Int)) := HGr.out.cell 1
      have glt : w.heap.size < wr.heap.size := HGr.out.lt
      by_cases hrl : r < N + 1
      · have hrl2 : (r : Int) < (N : Int) + 1 := by omega
        go_wp2_with fail
        clear g1 glt hrl2
        go_loopw [7] (fun v wr => ∃ i : Nat, i ≤ len ∧ v = .int .i64 i ∧ Hid (SRel w3 N w3.heap.size N (wt ⟨t, (N : Int), (S : Int), ps⟩ r i 0) wr)) (fun v _ => len - (intOf v).toNat)
        case atStart => exact ⟨0, Nat.zero_le _, rfl, HKr.out⟩
        case round =>
          obtain ⟨i, hi, rfl, HKi⟩ := hrel
          obtain ⟨wi, rfl⟩ : ∃ wi : World, wi = wr := ⟨_, rfl⟩
          have HGi := Lib.hid (HG3.out.bl HKi.out.b)
          have g3 : wi.cell? ⟨w.heap.size, 3, none⟩ = some (.slice A len c) := HGi.out.cell 3
          have glt : w.heap.size < wi.heap.size := HGi.out.lt
          by_cases hil : i < len
          · have hj : i < ps.length := by have := HL.out; omega
            have HBi := Lib.hid (HB3.out.trans HKi.out.b)
            obtain ⟨b, off, Ax, cx, rfl, hbB, hrx, hc0, hc1, hcx, hcm⟩ := (HP.out _ HBi.out).at_ hj
            have HX : Hid (∀ w', Bl w w' → Rd w' w'.heap.size Ax (syRow ps[i].right)) := by
              obtain ⟨b2, off2, Ax2, cx2, e2, _, hr2, _, h12, _⟩ := (HP.out _ (Bl.refl w)).at_ hj
              injection e2 with e2
              injection e2 with e3 e4
              subst e3 e4
              have h13 := (Below.cell HBi.out (p := ⟨b, off + i * 2 + 1, none⟩) (by have := World.block_lt_of_cell? _ _ h12; exact this)).trans h12
              rw [h13] at hc1
              injection hc1 with hc1
              injection hc1 with hc1 _ _
              subst hc1
              exact fun _ hb => rd_on hr2 hb
            have hgi : (⟨t, (N : Int), (S : Int), ps⟩ : Gr.Gm).prods[i]? = some ps[i] := List.getElem?_eq_getElem hj
            have HSy : Hid (Fi.SyOk N ps[i].right) := Fi.syOk_prod HOk.out (List.getElem_mem hj)
            have hlm : ps[i].left.toNat < N := (Fi.ok_nums HOk.out (List.getElem_mem hj)).1
            obtain ⟨⟨o1, o2⟩, o3, o4⟩ := ok_syms HOK.out hj
            have HNx := Lib.hid (fun k => wt_next (r := r) (k := k) hgi)
            have HTm := Lib.hid (fun k s => wt_term (r := r) (k := k) (s := s) hgi)
            have HNo := Lib.hid (fun k s => wt_non (r := r) (k := k) (s := s) HOk.out hgi)
            have hme : ps[i].left = ((ps[i].left.toNat : Nat) : Int) := by omega
            rw [hme] at hc0
            clear hrx o1 o2 o4 hgi hme
            generalize ps[i].left.toNat = ml at *
            generalize ps[i].right = right at *
            have hr8 : right.length ≤ 8 := o3
            have hi0 : (0 : Int) ≤ (i : Int) := by omega
            have hi1 : (i : Int) < (len : Int) := by omega
            have HKa := Lib.hid (HKi.out.bl_ ((Bl.refl wi).alloc (.cells #[.int .i64 ml, .slice Ax right.length cx] 37)))
            have HPa := Lib.hid (Bk.new wi 37 #[.int .i64 ml, .slice Ax right.length cx])
            have hwi : w3.heap.size ≤ wi.heap.size := HKi.out.b.size
            clear hj o3
            go_wp2_with fail
            clear g3 glt hc0 hc1 hbB
            go_loopw [9] (fun v wr => ∃ k : Nat, k ≤ right.length ∧ v = .int .i64 k ∧ Hid (SRel w3 N w3.heap.size N (wt ⟨t, (N : Int), (S : Int), ps⟩ r i k) wr) ∧ Hid (Bk wr wi.heap.size 37 #[.int .i64 ml, .slice Ax right.length cx])) (fun v _ => right.length - (intOf v).toNat)
            case atStart => exact ⟨0, Nat.zero_le _, rfl, HKa.out, HPa.out⟩
            case round =>
              obtain ⟨k, hk, rfl, HKk, HPk⟩ := hrel
              obtain ⟨wk, rfl⟩ : ∃ wk : World, wk = wr := ⟨_, rfl⟩
              have p1 : wk.cell? ⟨wi.heap.size, 1, none⟩ = some (.slice Ax right.length cx) := HPk.out.cell 1
              have plt : wi.heap.size < wk.heap.size := HPk.out.lt
              by_cases hkl : k < right.length
              · have HBk := Lib.hid (HB3.out.trans HKk.out.b)
                obtain ⟨bs, os, rfl, hbs, hs0, hs1⟩ := (HX.out _ HBk.out).sym hkl
                have HC1 : Hid (∀ w', Bl w w' → w'.cell? ⟨bs, os + k * 2 + 1, none⟩ = some (.int .i64 right[k].n)) := fun w' hb => by
                  obtain ⟨b5, o5, e5, _, _, h5⟩ := (HX.out _ hb).sym hkl
                  injection e5 with e5
                  injection e5 with e6 e7
                  subst e6 e7
                  exact h5
                have hgk : right[k]? = some right[k] := List.getElem?_eq_getElem hkl
                have hsn := (HSy.out _ (List.getElem_mem hkl)).1
                have hsm := (HSy.out _ (List.getElem_mem hkl)).2.1
                have HTm := Lib.hid (HTm.out k _ hgk)
                have HNo := Lib.hid (HNo.out k _ hgk)
                have hk0 : (0 : Int) ≤ (k : Int) := by omega
                have hk1 : (k : Int) < (right.length : Int) := by omega
                clear hgk
                generalize right[k] = sy at *
                obtain ⟨yn, yv⟩ := sy
                simp only at hs0 hs1 hsn hsm
                obtain ⟨nv, rfl⟩ : ∃ nv : Nat, yv = (nv : Int) := ⟨yv.toNat, by omega⟩
                have hbsw : bs < wk.heap.size := hbs
                cases yn with
                | false =>
                  have HX2 := Lib.hid (HKk.out.is (G := wt ⟨t, (N : Int), (S : Int), ps⟩ r i (k + 1)) (fun n' t' _ _ => by rw [HTm.out rfl]))
                  go_wp2_with fail
                  go_roundw
                  case rel => exact ⟨k + 1, by omega, by go_num, HX2.out, HPk.out⟩
                  case measure => simp [intOf]; omega
                | true =>
                  have hm : nv < N := by have := hsm rfl; omega
                  have hxl : (right.drop (k + 1)).length = right.length - (k + 1) := List.length_drop ..
                  have hrc : Rd wk wk.heap.size (if cx = k + 1 then some ⟨bs, os, none⟩ else (some (⟨bs, os, none⟩ : Addr)).map (·.add ((k + 1) * 2))) (syRow (right.drop (k + 1))) := (HX.out _ HBk.out).sy_cut hcx
                  have hsl := fun (wx : World) => run_slice_tail (P := Try.prog) (t := 35) (e := 39) (size := 2) Try.underlying35 sy_size (some ⟨bs, os, none⟩) right.length cx (k + 1) ((k : Int) + 1) (by omega) (by omega) wx
                  generalize (if cx = k + 1 then some (⟨bs, os, none⟩ : Addr) else (some (⟨bs, os, none⟩ : Addr)).map (·.add ((k + 1) * 2))) = Ay at hrc hsl
                  have hwr : IntKind.i64.wrap ((k : Int) + 1) = (k : Int) + 1 := by simp [IntKind.wrap, IntKind.bits, IntKind.signed]; omega
                  have HSyd : Hid (Fi.SyOk N (right.drop (k + 1))) := fun x hx => HSy.out x (List.mem_of_mem_drop hx)
                  have HXl := Lib.hid hxl.symm
                  have HRc := Lib.hid hrc
                  have HNv := Lib.hid (HNo.out rfl)
                  clear hxl hrc HTm HNo
                  generalize right.drop (k + 1) = rest at *
                  go_wp2_with fail
                  refine (rof_any Ay (right.length - (k + 1)) (cx - (k + 1)) rest As N cs (colF ⟨t, (N : Int), (S : Int), ps⟩) An cn (fz (Rk.ranks false ps N)) wk wk.heap.size HXl.out (by omega) HRc.out (rd_on HF3.out HKk.out.b) HFz.out.symm (rd_on HN3.out HKk.out.b) (Nat.le_refl _) HSyd.out).mono ?_
                  rw [HNn.out]
                  rintro e w5 ⟨rfl, hb5⟩
                  have HK5 := Lib.hid (HKk.out.bl_ hb5)
                  have HP5 := Lib.hid (HPk.out.bl hb5)
                  have H10 := Lib.hid (Bk.new w5 50 zs32)
                  clear hb5 p1 plt hs0 hs1 hsl hwr
                  generalize Fi.of (colF ⟨t, (N : Int), (S : Int), ps⟩) (Fi.nulls ⟨t, (N : Int), (S : Int), ps⟩) rest = one at *
                  generalize Fi.allNull (Fi.nulls ⟨t, (N : Int), (S : Int), ps⟩) rest = all at *
                  go_wp2_with (first
                    | (with_reducible refine wpList_alloc_agg rfl 50 rfl zs32 32 set_info ?_)
                    | ((with_reducible refine wpList_store_bk ?hg 50 (.tmp 10) (.tmp 70) ?ho w5.heap.size 50 zs32 (bls 32 one).toArray ?hx ?hy H10.out ?hs ?hi (bls_all _) ?_); (case ho => with_reducible rfl); (case hg => rfl); (case hx => rfl); (case hy => rfl); (case hs => rw [bls_size]; rfl); (case hi => rw [bls_size]; exact set_size); intro w6 hb6 hf6))
                  have HB6 : Hid (Bl w5 w6) := ((Bl.refl w5).alloc (.cells zs32 50)).fr hf6 (by intro q hq e; omega)
                  have HK6 := Lib.hid (HK5.out.bl_ HB6.out)
                  have HP6 := Lib.hid (HP5.out.bl HB6.out)
                  have H106 := Lib.hid hb6
                  have hne10 : w5.heap.size ≠ w3.heap.size := by have := HK5.out.glt; omega
                  have hneP : wi.heap.size ≠ w3.heap.size := fun e => by
                    have h := HP5.out.row HK5.out.own (by decide)
                    rw [e] at h
                    exact h rfl
                  clear hb6 hf6 HB6 HK5 HP5 H10
                  go_loopw [12] (fun v wr => ∃ j : Nat, j ≤ 32 ∧ v = .int .i64 j ∧ Hid (SRel w3 N w3.heap.size N (rowTo (wt ⟨t, (N : Int), (S : Int), ps⟩ r i k) nv (inOf (wt ⟨t, (N : Int), (S : Int), ps⟩ r i k) ml one all) j) wr) ∧ Hid (Bk wr wi.heap.size 37 #[.int .i64 ml, .slice (some ⟨bs, os, none⟩) right.length cx]) ∧ Hid (Bk wr w5.heap.size 50 (bls 32 one).toArray)) (fun v _ => 32 - (intOf v).toNat)
                  case atStart => exact ⟨0, Nat.zero_le _, rfl, by rw [rowTo_zero]; exact HK6.out, HP6.out, H106.out⟩
                  case round =>
                    obtain ⟨j, hj32, rfl, HKj, HPj, H10j⟩ := hrel
                    by_cases hjl : j < 32
                    · have HBj := Lib.hid (HB3.out.trans HKj.out.b)
                      have p0 : wr.cell? ⟨wi.heap.size, 0, none⟩ = some (.int .i64 ml) := HPj.out.cell 0
                      have p1 : wr.cell? ⟨wi.heap.size, 1, none⟩ = some (.slice (some ⟨bs, os, none⟩) right.length cx) := HPj.out.cell 1
                      have plt : wi.heap.size < wr.heap.size := HPj.out.lt
                      have hs1 := HC1.out wr HBj.out
                      have hbsw2 : bs < wr.heap.size := World.block_lt_of_cell? _ _ hs1
                      have c10 : wr.cell? ⟨w5.heap.size, j, none⟩ = some (.bool (one j)) := by rw [H10j.out.cell j, List.getElem?_toArray, bls_at one hjl]
                      have lt10 : w5.heap.size < wr.heap.size := H10j.out.lt
                      have cl := HKj.out.cell hlm hjl
                      rw [rowTo_own] at cl
                      have cm := HKj.out.cell hm hjl
                      have cf := HKj.out.free (nv * 32 + j)
                      have cg := HKj.out.glt
                      have hj0 : (0 : Int) ≤ (j : Int) := by omega
                      have hj1 : (j : Int) < 32 := by omega
                      have hm0 : (0 : Int) ≤ (nv : Int) := by omega
                      have hm1 : (nv : Int) < (N : Int) := by omega
                      have hl0 : (0 : Int) ≤ (ml : Int) := by omega
                      have hl1 : (ml : Int) < (N : Int) := by omega
                      cases hoj : one j with
                      | true =>
                        have hone : inOf (wt ⟨t, (N : Int), (S : Int), ps⟩ r i k) ml one all j = true := by unfold inOf; rw [hoj]; rfl
                        rw [hoj] at c10
                        have HPt := Lib.hid (HKj.out.put hm hjl true)
                        rw [rowTo_put _ _ hone] at HPt
                        have H10p := Lib.hid (H10j.out.far (p := ⟨w3.heap.size, nv * 32 + j, none⟩) hne10 (.bool true))
                        have HPp := Lib.hid (HPj.out.far (p := ⟨w3.heap.size, nv * 32 + j, none⟩) hneP (.bool true))
                        go_wp2_with fail
                        go_roundw
                        case rel => exact ⟨j + 1, by omega, by go_num, HPt.out, HPp.out, H10p.out⟩
                        case measure => simp [intOf]; omega
                      | false =>
                        rw [hoj] at c10
                        cases all with
                        | false =>
                          have hone : inOf (wt ⟨t, (N : Int), (S : Int), ps⟩ r i k) ml one false j = false := by unfold inOf; rw [hoj]; rfl
                          have HSk := Lib.hid (HKj.out.is (G := rowTo (wt ⟨t, (N : Int), (S : Int), ps⟩ r i k) nv (inOf (wt ⟨t, (N : Int), (S : Int), ps⟩ r i k) ml one false) (j + 1)) (fun n' t' _ _ => by rw [rowTo_skip _ _ hone]))
                          go_wp2_with fail
                          go_roundw
                          case rel => exact ⟨j + 1, by omega, by go_num, HSk.out, HPj.out, H10j.out⟩
                          case measure => simp [intOf]; omega
                        | true =>
                          cases hTl : wt ⟨t, (N : Int), (S : Int), ps⟩ r i k ml j with
                          | true =>
                            have hone : inOf (wt ⟨t, (N : Int), (S : Int), ps⟩ r i k) ml one true j = true := by unfold inOf; rw [hoj, hTl]; rfl
                            rw [hTl] at cl
                            have HPt := Lib.hid (HKj.out.put hm hjl true)
                            rw [rowTo_put _ _ hone] at HPt
                            have H10p := Lib.hid (H10j.out.far (p := ⟨w3.heap.size, nv * 32 + j, none⟩) hne10 (.bool true))
                            have HPp := Lib.hid (HPj.out.far (p := ⟨w3.heap.size, nv * 32 + j, none⟩) hneP (.bool true))
                            go_wp2_with fail
                            go_roundw
                            case rel => exact ⟨j + 1, by omega, by go_num, HPt.out, HPp.out, H10p.out⟩
                            case measure => simp [intOf]; omega
                          | false =>
                            have hone : inOf (wt ⟨t, (N : Int), (S : Int), ps⟩ r i k) ml one true j = false := by unfold inOf; rw [hoj, hTl]; rfl
                            rw [hTl] at cl
                            have HSk := Lib.hid (HKj.out.is (G := rowTo (wt ⟨t, (N : Int), (S : Int), ps⟩ r i k) nv (inOf (wt ⟨t, (N : Int), (S : Int), ps⟩ r i k) ml one true) (j + 1)) (fun n' t' _ _ => by rw [rowTo_skip _ _ hone]))
                            go_wp2_with fail
                            go_roundw
                            case rel => exact ⟨j + 1, by omega, by go_num, HSk.out, HPj.out, H10j.out⟩
                            case measure => simp [intOf]; omega
                    · have hje : j = 32 := by omega
                      have HEnd := Lib.hid (HKj.out.is (G := wt ⟨t, (N : Int), (S : Int), ps⟩ r i (k + 1)) (fun n' t' hn ht => by rw [HNv.out n' t' ht, hje]; rfl))
                      clear hje
                      go_wp2_with fail
                      go_roundw
                      case rel => exact ⟨k + 1, by omega, by go_num, HEnd.out, HPj.out⟩
                      case measure => simp [intOf]; omega
              · have HX2 := Lib.hid (HKk.out.is (G := wt ⟨t, (N : Int), (S : Int), ps⟩ r (i + 1) 0) (fun n' t' _ _ => by rw [HNx.out k (by omega)]))
                go_wp2_with fail
                go_roundw
                case rel => exact ⟨i + 1, by omega, by go_num, HX2.out⟩
                case measure => simp [intOf]; omega
          · have HEnd := Lib.hid (HKi.out.is (G := wt ⟨t, (N : Int), (S : Int), ps⟩ (r + 1) 0 0) (fun n' t' _ _ => by rw [wt_round (g := ⟨t, (N : Int), (S : Int), ps⟩) (show ps.length ≤ i by have := HL.out; omega)]))
            go_wp2_with fail
            go_roundw
            case rel => exact ⟨r + 1, by omega, by go_num, HEnd.out⟩
            case measure => simp [intOf]; omega
      · have hrl2 : ¬ ((r : Int) < (N : Int) + 1) := by omega
        have hrN : r = N + 1 := by omega
        subst hrN
        have HEnd := Lib.hid (HKr.out.is (G := colWF ⟨t, (N : Int), (S : Int), ps⟩) (fun n' t' _ _ => by rw [← wt_end]; rfl))
        go_wp2_with fail
        go_ret
        refine ⟨_, N, N, rfl, HV.out.symm, ?_, HB3.out.trans HKr.out.b⟩
        rw [HV.out]
        exact HEnd.out.rd
end Go.Proofs.Ytgmnokmchjeflaa
