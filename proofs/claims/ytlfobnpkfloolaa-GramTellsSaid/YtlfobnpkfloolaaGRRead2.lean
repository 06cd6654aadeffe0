/- The reference's Read itself. -/
import Derived.Test.YtlfobnpkfloolaaGRRead
namespace Go.Proofs.Ytlfobnpkfloolaa
open Go.RowKit

theorem nat_sym (n : Nat) : ((n : Int) % 2 == 1) = (Gr.sym n).non ∧ (n : Int) / 2 = (Gr.sym n).n := by
  refine ⟨?_, by unfold Gr.sym; simp⟩
  show _ = decide (n % 2 = 1)
  rw [Bool.eq_iff_iff]
  simp
  omega

set_option maxRecDepth 100000 in
set_option maxHeartbeats 4000000 in
theorem rread_any (A : Option Addr) (len cap : Nat) (l : List Nat) (w : World) (B : Nat) (hl : len = l.length) (hmax : len ≤ cap) (hcap : cap ≤ 9223372036854775807) (hr : Rd w B A (bys l)) (hB : B ≤ w.heap.size) (hby : ∀ c ∈ l, c < 256) :
    Calls Try.prog 12 #[.slice A len cap] w (RdPost (readOf l).1 (readOf l).2 w) := by
  obtain ⟨i0, hi, hz0, hz1, hz2⟩ := info_parts sym_info
  obtain ⟨j0, hj, hy0, hy1, hy2⟩ := info_parts prod_info
  have HZ : Hid (Wr.fin (Gr.rdGm l).2 = 0 → (Gr.rdGm l).2.e = 0) := fin_zero
  have HW : Hid (Wr.fin (Gr.rdGm l).2 ≠ 0 → readOf l = (⟨0, 0, 0, []⟩, Wr.fin (Gr.rdGm l).2)) := readOf_wrong
  have HFo : Hid (Wr.fin (Gr.rdGm l).2 = 0 → okB (Gr.rdGm l).1 = false → readOf l = (⟨0, 0, 0, []⟩, 2)) := readOf_form
  have HOk : Hid (Wr.fin (Gr.rdGm l).2 = 0 → okB (Gr.rdGm l).1 = true → readOf l = ((Gr.rdGm l).1, 0)) := readOf_ok
  have HG : Hid (Gr.rdGm l = (⟨((Wr.num ⟨l, 0⟩ 16).1 : Int), ((Wr.num (Gr.st1 l) 24).1 : Int), ((Wr.num (Gr.st2 l) 23).1 : Int), (Gr.rdPrs (Wr.num (Gr.st3 l) 60).1 (Gr.st4 l)).1⟩, (Gr.rdPrs (Wr.num (Gr.st3 l) 60).1 (Gr.st4 l)).2)) := rfl
  have HSt : Hid ((Wr.num ⟨l, 0⟩ 16).2 = Gr.st1 l ∧ (Wr.num (Gr.st1 l) 24).2 = Gr.st2 l ∧ (Wr.num (Gr.st2 l) 23).2 = Gr.st3 l ∧ (Wr.num (Gr.st3 l) 60).2 = Gr.st4 l) := ⟨rfl, rfl, rfl, rfl⟩
  have h60 := Wr.num_le (Gr.st3 l) 60
  generalize readOf l = D at *
  have HR0 : Hid (RRd (((w.alloc (.cells #[.int .i64 0, .int .i64 0, .int .i64 0, .slice none 0 0] 24)).alloc (.cells #[.slice A len cap, .int .i64 0] 62)).alloc (.cells #[.int .i64 0, .int .i64 0, .int .i64 0, .slice none 0 0] 24)) B (w.heap.size + 1) ⟨l, 0⟩) := by
    refine RRd.alloc (o := .cells #[.int .i64 0, .int .i64 0, .int .i64 0, .slice none 0 0] 24) ⟨A, cap, l, ?_, (hr.alloc hB _).alloc (by simp; omega) _, by omega, hcap, hby, fun _ => rfl, ⟨hby, fun h => absurd rfl h⟩, by simp; omega⟩
    have h := Bk.new (w.alloc (.cells #[.int .i64 0, .int .i64 0, .int .i64 0, .slice none 0 0] 24)) 62 #[.slice A len cap, .int .i64 0]
    rw [World.size_alloc] at h
    rw [← hl]
    exact h
  have HK0 := Lib.hid (((Bk.new w 24 #[.int .i64 0, .int .i64 0, .int .i64 0, .slice none 0 0]).alloc (.cells #[.slice A len cap, .int .i64 0] 62)).alloc (.cells #[.int .i64 0, .int .i64 0, .int .i64 0, .slice none 0 0] 24))
  have HP0 : Hid (Bk (((w.alloc (.cells #[.int .i64 0, .int .i64 0, .int .i64 0, .slice none 0 0] 24)).alloc (.cells #[.slice A len cap, .int .i64 0] 62)).alloc (.cells #[.int .i64 0, .int .i64 0, .int .i64 0, .slice none 0 0] 24)) (w.heap.size + 1 + 1) 24 #[.int .i64 0, .int .i64 0, .int .i64 0, .slice none 0 0]) := by
    have h := Bk.new ((w.alloc (.cells #[.int .i64 0, .int .i64 0, .int .i64 0, .slice none 0 0] 24)).alloc (.cells #[.slice A len cap, .int .i64 0] 62)) 24 #[.int .i64 0, .int .i64 0, .int .i64 0, .slice none 0 0]
    rw [World.size_alloc, World.size_alloc] at h
    exact h
  have HB0 : Hid (Bl w (((w.alloc (.cells #[.int .i64 0, .int .i64 0, .int .i64 0, .slice none 0 0] 24)).alloc (.cells #[.slice A len cap, .int .i64 0] 62)).alloc (.cells #[.int .i64 0, .int .i64 0, .int .i64 0, .slice none 0 0] 24))) := (((Bl.refl w).alloc _).alloc _).alloc _
  clear hr hby hl
  go_enter Try.func12, Try.ntmps12
  go_wp2_with fail
  refine (rnum_any B (w.heap.size + 1) ⟨l, 0⟩ 16 _ HR0.out (by decide)).mono ?_
  rw [HSt.out.1]
  rintro e w1 ⟨rfl, hr1, hf1⟩
  generalize (Wr.num ⟨l, 0⟩ 16).1 = na at *
  have HB1 : Hid (Bl w w1) := HB0.out.fr hf1 fun i hi e => by omega
  have HK1 := Lib.hid (HK0.out.fr hf1 (by omega))
  have HP1 := Lib.hid (HP0.out.fr hf1 (by omega))
  have hs1 : w.heap.size + 1 + 1 < w1.heap.size := HP1.out.lt
  have HR1 := Lib.hid (hr1.put_ (b := w.heap.size + 1 + 1) (o := 0) (by omega) (by omega) (.int .i64 (na : Int)))
  have HK2 := Lib.hid (HK1.out.far (p := ⟨w.heap.size + 1 + 1, 0, none⟩) (by simp; omega) (.int .i64 (na : Int)))
  have HP2 := Lib.hid (HP1.out.put 0 (.int .i64 (na : Int)))
  have HB2 : Hid (Bl w (w1.setCell ⟨w.heap.size + 1 + 1, 0, none⟩ (.int .i64 (na : Int)))) := HB1.out.fr (S := fun i => i = w.heap.size + 1 + 1) ((Fr.refl _ w1).own 0 _) fun i hi e => by omega
  have c0 : w1.cell? ⟨w.heap.size + 1 + 1, 0, none⟩ = some (.int .i64 0) := HP1.out.cell 0
  have e0 := HP1.out.free 0
  clear hr1 hf1
  go_wp2_with fail
  refine (rnum_any B (w.heap.size + 1) (Gr.st1 l) 24 _ HR1.out (by decide)).mono ?_
  rw [HSt.out.2.1]
  rintro e w2 ⟨rfl, hr2, hf2⟩
  generalize (Wr.num (Gr.st1 l) 24).1 = nb at *
  have HB3 : Hid (Bl w w2) := HB2.out.fr hf2 fun i hi e => by omega
  have HK3 := Lib.hid (HK2.out.fr hf2 (by omega))
  have HP3 := Lib.hid (HP2.out.fr hf2 (by omega))
  have HR3 := Lib.hid (hr2.put_ (b := w.heap.size + 1 + 1) (o := 1) (by omega) (by omega) (.int .i64 (nb : Int)))
  have HK4 := Lib.hid (HK3.out.far (p := ⟨w.heap.size + 1 + 1, 1, none⟩) (by simp; omega) (.int .i64 (nb : Int)))
  have HP4 := Lib.hid (HP3.out.put 1 (.int .i64 (nb : Int)))
  have HB4 : Hid (Bl w (w2.setCell ⟨w.heap.size + 1 + 1, 1, none⟩ (.int .i64 (nb : Int)))) := HB3.out.fr (S := fun i => i = w.heap.size + 1 + 1) ((Fr.refl _ w2).own 1 _) fun i hi e => by omega
  have c1 : w2.cell? ⟨w.heap.size + 1 + 1, 1, none⟩ = some (.int .i64 0) := HP3.out.cell 1
  have e1 := HP3.out.free 1
  clear hr2 hf2
  go_wp2_with fail
  refine (rnum_any B (w.heap.size + 1) (Gr.st2 l) 23 _ HR3.out (by decide)).mono ?_
  rw [HSt.out.2.2.1]
  rintro e w3 ⟨rfl, hr3, hf3⟩
  generalize (Wr.num (Gr.st2 l) 23).1 = nc at *
  have HB5 : Hid (Bl w w3) := HB4.out.fr hf3 fun i hi e => by omega
  have HK5 := Lib.hid (HK4.out.fr hf3 (by omega))
  have HP5 := Lib.hid (HP4.out.fr hf3 (by omega))
  have HR5 := Lib.hid (hr3.put_ (b := w.heap.size + 1 + 1) (o := 2) (by omega) (by omega) (.int .i64 (nc : Int)))
  have HK6 := Lib.hid (HK5.out.far (p := ⟨w.heap.size + 1 + 1, 2, none⟩) (by simp; omega) (.int .i64 (nc : Int)))
  have HP6 := Lib.hid (HP5.out.put 2 (.int .i64 (nc : Int)))
  have HB6 : Hid (Bl w (w3.setCell ⟨w.heap.size + 1 + 1, 2, none⟩ (.int .i64 (nc : Int)))) := HB5.out.fr (S := fun i => i = w.heap.size + 1 + 1) ((Fr.refl _ w3).own 2 _) fun i hi e => by omega
  have c2 : w3.cell? ⟨w.heap.size + 1 + 1, 2, none⟩ = some (.int .i64 0) := HP5.out.cell 2
  have e2 := HP5.out.free 2
  clear hr3 hf3
  go_wp2_with fail
  refine (rnum_any B (w.heap.size + 1) (Gr.st3 l) 60 _ HR5.out (by decide)).mono ?_
  rw [HSt.out.2.2.2]
  rintro e w4 ⟨rfl, hr4, hf4⟩
  generalize (Wr.num (Gr.st3 l) 60).1 = n at *
  generalize Gr.st4 l = s4 at *
  have HQ0 : Hid (QRel w B na nb nc s4 0 w4) := ⟨none, 0, [], rfl, rfl, OwnP.nil, HP6.out.fr hf4 (by omega), HK6.out.fr hf4 (by omega), hr4, HB6.out.fr hf4 fun i hi e => by omega⟩
  clear hr4 hf4 c0 c1 c2 e0 e1 e2 hs1
  clear HB0 HB1 HB2 HB3 HB4 HB5 HB6 HK0 HK1 HK2 HK3 HK4 HK5 HK6 HP0 HP1 HP2 HP3 HP4 HP5 HP6 HR0 HR1 HR3 HR5 HSt
  go_wp2_with fail
  go_loopw [7] (fun i wr => ∃ k : Nat, k ≤ n ∧ i = .int .i64 k ∧ Hid (QRel w B na nb nc s4 k wr)) (fun i _ => n - (intOf i).toNat)
  case atStart => exact ⟨0, Nat.zero_le _, rfl, HQ0⟩
  case round =>
    obtain ⟨k, hk, rfl, HQ⟩ := hrel
    obtain ⟨wo, rfl⟩ : ∃ wo : World, wo = wr := ⟨_, rfl⟩
    obtain ⟨Av, cv, hs, hm, hlen, ho, hg, hz, hrd, hb⟩ := HQ.out
    have HM := Lib.hid hm; have HLen := Lib.hid hlen; have HO := Lib.hid ho; have HGg := Lib.hid hg; have HZz := Lib.hid hz; have HRd := Lib.hid hrd; have HBo := Lib.hid hb
    have ge : wo.cell? ⟨w.heap.size + 1, 1, none⟩ = some (.int .i64 (Gr.rdPrs k s4).2.e) := hrd.wrongs
    have hwo3 : w.heap.size + 1 + 1 < wo.heap.size := hg.lt
    clear hm hlen ho hg hz hrd hb
    by_cases hgo : k < n ∧ (Gr.rdPrs k s4).2.e = 0
    · obtain ⟨hlt, hze⟩ := hgo
      have hze' : ((Gr.rdPrs k s4).2.e == 0) = true := by simpa using hze
      clear hze
      have HSn := Lib.hid (rdPrs_snoc k s4)
      have HPr : Hid (∀ st : Wr.St, Gr.rdPr st = (⟨((Wr.num st 23).1 : Int), sys (Wr.many (Wr.num (Wr.num st 23).2 8).1 (Wr.num (Wr.num st 23).2 8).2 47).1⟩, (Wr.many (Wr.num (Wr.num st 23).2 8).1 (Wr.num (Wr.num st 23).2 8).2 47).2)) := fun _ => rfl
      have HPs := Lib.hid (HPr.out (Gr.rdPrs k s4).2)
      have HRa := Lib.hid (HRd.out.alloc (.cells #[.int .i64 0, .slice none 0 0] 43))
      have HKp := Lib.hid (Bk.new wo 43 #[.int .i64 0, .slice none 0 0])
      have HFa : Hid (Fr (fun i => i = w.heap.size + 1) wo (wo.alloc (.cells #[.int .i64 0, .slice none 0 0] 43))) := (Fr.refl _ wo).alloc _
      generalize hst : (Gr.rdPrs k s4).2 = st at *
      have HST := Lib.hid hst; clear hst HPr
      go_wp2_with fail
      refine (rnum_any B (w.heap.size + 1) st 23 _ HRa.out (by decide)).mono ?_
      generalize (Wr.num st 23).1 = lf at *
      generalize (Wr.num st 23).2 = st1 at *
      rintro e w5 ⟨rfl, hr5, hf5⟩
      have HK5 := Lib.hid (HKp.out.fr hf5 (by omega))
      have HF5 := Lib.hid (HFa.out.same hf5)
      have c0 : w5.cell? ⟨wo.heap.size, 0, none⟩ = some (.int .i64 0) := HK5.out.cell 0
      have e0 := HK5.out.free 0
      have HR5 := Lib.hid (hr5.put_ (b := wo.heap.size) (o := 0) (by omega) (by omega) (.int .i64 (lf : Int)))
      have HK6 := Lib.hid (HK5.out.put 0 (.int .i64 (lf : Int)))
      have HF6 := Lib.hid (HF5.out.put_ (b := wo.heap.size) (o := 0) (Nat.le_refl _) (.int .i64 (lf : Int)))
      clear hr5 hf5
      go_wp2_with fail
      refine (rnum_any B (w.heap.size + 1) st1 8 _ HR5.out (by decide)).mono ?_
      have h8 := Wr.num_le st1 8
      generalize (Wr.num st1 8).1 = m at *
      generalize (Wr.num st1 8).2 = st2 at *
      rintro e w6 ⟨rfl, hr6, hf6⟩
      have HN0 : Hid (NRel wo B (w.heap.size + 1) wo.heap.size lf st2 0 w6) := ⟨none, 0, World.ownsRow_nil _ _ _ _, HK6.out.fr hf6 (by omega), hr6, HF6.out.same hf6⟩
      clear hr6 hf6 c0 e0 HK5 HK6 HF5 HF6 HR5 HKp HRa HFa
      go_wp2_with fail
      generalize hgp : wo.heap.size = gp at *
      have HGP := Lib.hid hgp; clear hgp
      go_loopw [10] (fun i wr => ∃ j : Nat, j ≤ m ∧ i = .int .i64 j ∧ Hid (NRel wo B (w.heap.size + 1) gp lf st2 j wr)) (fun i _ => m - (intOf i).toNat)
      case atStart => exact ⟨0, Nat.zero_le _, rfl, HN0⟩
      case round =>
        obtain ⟨j, hjm, rfl, HN⟩ := hrel
        obtain ⟨As, cs, hos, hks, hrs, hfs⟩ := HN.out
        have HOs := Lib.hid hos; have HKs := Lib.hid hks; have HRs := Lib.hid hrs; have HFs := Lib.hid hfs
        have hgpw : gp < wr.heap.size := hks.lt
        clear hos hks hrs hfs HN
        by_cases hlt2 : j < m
        · go_wp2_with fail
          refine (rnum_any B (w.heap.size + 1) (Wr.many j st2 47).2 47 _ HRs.out (by decide)).mono ?_
          rintro e w7 ⟨rfl, hr7, hf7⟩
          have HSy := Lib.hid (nat_sym (Wr.num (Wr.many j st2 47).2 47).1)
          have HO7 := Lib.hid (own_fr HOs.out hf7 fun i hi e => HRs.out.row HOs.out (by decide) (by rw [hi, e]))
          have HK7 := Lib.hid (HKs.out.fr hf7 (by omega))
          have HR7 := Lib.hid hr7
          have HF7 := Lib.hid (HFs.out.same hf7)
          have hs7 : gp < w7.heap.size := HK7.out.lt
          have p1 : w7.cell? ⟨gp, 1, none⟩ = some (.slice As j cs) := HK7.out.cell 1
          have HNx := Lib.hid (fun (w8 : World) (v8 : Value) (o : Obj) ho8 hg8 => n_next (w4 := w8) (v4 := v8) (o := o) HGP.out (Nat.le_trans hB (by omega)) (by omega) HO7.out HK7.out HR7.out HF7.out ho8 HSy.out.1 HSy.out.2 hg8)
          have hn47 := Wr.num_le (Wr.many j st2 47).2 47
          clear hr7 hf7
          generalize (Wr.num (Wr.many j st2 47).2 47).1 = nn at *
          go_wp2_with (at_builtin; refine wpList_append_own _ rfl (.tmp 53) (.tmp 60) 41 rfl gp 46 i0 (.agg #[.bool false, .int .i64 0]) 2 16 Try.underlying41 hi hz0 hz1 hz2 rfl (by decide) _ _ _ rfl (HO7.out.alloc _) ⟨w7.heap.size, 0, none⟩ 1 1 [.bool ((nn : Int) % 2 == 1), .int .i64 ((nn : Int) / 2)] rfl rfl (pair_new _ _ _ _) (by simp [Value.oneCell']) (by simp only [maxLen]; omega) (by omega) (by simp; omega) ?_; intro v8 w8 hown8 hg8 _; obtain ⟨A8, c8, hv8, _⟩ := own_form hown8; subst hv8; have HX := Lib.hid (HNx.out _ _ _ hown8 hg8); have hk8 := (HK7.out.alloc _).grown hg8 (fun e => HK7.out.row HO7.out (by decide) e.symm); have p2 : w8.cell? ⟨gp, 1, none⟩ = some (.slice As j cs) := hk8.cell 1; have p3 := hk8.free 1; clear hown8 hg8 hk8)
          go_roundw
          case rel => exact ⟨j + 1, by omega, by go_num, HX⟩
          case measure => simp [intOf]; omega
        · have hjm' : j = m := by omega
          subst hjm'
          have hrow : Hid (wr.ownsRow gp 46 2 (.slice As j cs) j (syRow (sys (Wr.many j st2 47).1))) := HOs
          have hlen : Hid ((sys (Wr.many j st2 47).1).length = j) := by unfold Hid; rw [sys_len, Wr.many_len]
          have HSt2 : Hid ((Gr.rdPrs (k + 1) s4).2 = (Wr.many j st2 47).2) := by unfold Hid; rw [HSn.out]; show (Gr.rdPr st).2 = _; rw [HPs.out]
          have HPv : Hid ((Gr.rdPr st).1 = ⟨(lf : Int), sys (Wr.many j st2 47).1⟩) := by unfold Hid; rw [HPs.out]
          generalize sys (Wr.many j st2 47).1 = ss at *
          have hgw : w.heap.size + 1 + 1 < wr.heap.size := Nat.lt_of_lt_of_le (by omega) (Nat.le_of_lt hgpw)
          have HGr := Lib.hid (HGg.out.fr HFs.out (by omega))
          have hOr := HO.out.rrd HRd.out HFs.out
          have HRow : Hid (wr.ownsRow w.heap.size 43 2 (.slice Av k cv) k (phRow hs)) := by have := hOr.1; rw [HLen.out] at this; exact this
          have g3 : wr.cell? ⟨w.heap.size + 1 + 1, 3, none⟩ = some (.slice Av k cv) := HGr.out.cell 3
          have p0 : wr.cell? ⟨gp, 0, none⟩ = some (.int .i64 (lf : Int)) := HKs.out.cell 0
          have p1 : wr.cell? ⟨gp, 1, none⟩ = some (.slice As j cs) := HKs.out.cell 1
          have HNx := Lib.hid (fun (w8 : World) (v8 : Value) (o : Obj) ho8 hg8 => q_next (w5 := w8) (v5 := v8) (o := o) (As := As) (cs := cs) (left := (lf : Int)) (ss := ss) (gp := gp) (by omega) HM.out HLen.out HO.out HGg.out HZz.out HBo.out HRd.out (by rw [hlen.out]; exact hrow.out) (by rw [HSt2.out]; exact HRs.out) HFs.out hB (by rw [HST.out]; exact HPv.out) ho8 hg8)
          clear hOr
          go_wp2_with (at_builtin; refine wpList_append_own _ rfl (.tmp 64) (.tmp 66) 22 rfl w.heap.size 43 j0 (.agg #[.int .i64 0, .slice none 0 0]) 2 32 Try.underlying22 hj hy0 hy1 hy2 rfl (by decide) _ _ _ rfl (HRow.out.alloc _) ⟨wr.heap.size, 0, none⟩ 1 1 [.int .i64 (lf : Int), .slice As j cs] rfl rfl (pair_new _ _ _ _) (by simp [Value.oneCell']) (by simp only [maxLen]; omega) (by omega) (by simp; omega) ?_; intro v8 w8 hown8 hg8 _; obtain ⟨A8, c8, hv8, _⟩ := own_form hown8; subst hv8; have HX := Lib.hid (HNx.out _ _ _ (by rw [hlen.out]; exact hown8) hg8); have hk8 := (HGr.out.alloc _).grown hg8 (fun e => HGr.out.row HRow.out (by decide) e.symm); have p2 : w8.cell? ⟨w.heap.size + 1 + 1, 3, none⟩ = some (.slice Av k cv) := hk8.cell 3; have p3 := hk8.free 3; clear hown8 hg8 hk8)
          go_roundw
          case rel => exact ⟨k + 1, by omega, by go_num, HX⟩
          case measure => simp [intOf]; omega
    · have HStay : Hid ((Gr.rdPrs n s4).2 = (Gr.rdPrs k s4).2) := by
        unfold Hid
        by_cases he : (Gr.rdPrs k s4).2.e = 0
        · rw [show k = n by omega]
        · exact rdPrs_stays hk he
      have HKn : Hid ((Gr.rdPrs k s4).2.e = 0 → k = n) := fun he => by omega
      have hgo' : (k < n ∧ ((Gr.rdPrs k s4).2.e == 0) = false) ∨ ¬ k < n := by
        by_cases h1 : k < n
        · exact .inl ⟨h1, by simp; intro h; exact hgo ⟨h1, h⟩⟩
        · exact .inr h1
      clear hgo
      generalize hst : (Gr.rdPrs k s4).2 = st at *
      have HST := Lib.hid hst; clear hst
      have HPs : Hid (Prs wo wo.heap.size Av (Gr.rdPrs k s4).1) := by unfold Hid; rw [← HM.out]; exact HO.out.prs
      have hpl : Hid ((Gr.rdPrs k s4).1.length = k) := by unfold Hid; rw [← HM.out, List.length_map, HLen.out]
      generalize hps : (Gr.rdPrs k s4).1 = ps at *
      have HPS := Lib.hid hps; clear hps
      have HR2 : Hid ((Gr.rdGm l).2 = st) := by unfold Hid; rw [HG.out]; exact HStay.out
      have d0 : wo.cell? ⟨w.heap.size, 0, none⟩ = some (.int .i64 0) := HZz.out.cell 0
      have d1 : wo.cell? ⟨w.heap.size, 1, none⟩ = some (.int .i64 0) := HZz.out.cell 1
      have d2 : wo.cell? ⟨w.heap.size, 2, none⟩ = some (.int .i64 0) := HZz.out.cell 2
      have d3 : wo.cell? ⟨w.heap.size, 3, none⟩ = some (.slice none 0 0) := HZz.out.cell 3
      have f0 := HZz.out.free 0
      have f1 := HZz.out.free 1
      have f2 := HZz.out.free 2
      have f3 := HZz.out.free 3
      have l0 : wo.cell? ⟨w.heap.size + 1 + 1, 0, none⟩ = some (.int .i64 (na : Int)) := HGg.out.cell 0
      have l1 : wo.cell? ⟨w.heap.size + 1 + 1, 1, none⟩ = some (.int .i64 (nb : Int)) := HGg.out.cell 1
      have l2 : wo.cell? ⟨w.heap.size + 1 + 1, 2, none⟩ = some (.int .i64 (nc : Int)) := HGg.out.cell 2
      have l3 : wo.cell? ⟨w.heap.size + 1 + 1, 3, none⟩ = some (.slice Av k cv) := HGg.out.cell 3
      by_cases hfin : Wr.fin st = 0
      · have hRe : st.e = 0 := fin_zero hfin
        have hkn : k = n := HKn.out hRe
        have hRR : (Gr.rdGm l).1 = ⟨na, nb, nc, ps⟩ := by rw [HG.out, ← HPS.out, hkn]
        have hfin2 : Wr.fin (Gr.rdGm l).2 = 0 := by rw [HR2.out]; exact hfin
        have HFo' := Lib.hid (HFo.out hfin2)
        have HOk' := Lib.hid (HOk.out hfin2)
        have HRR := Lib.hid hRR
        have HFin := Lib.hid hfin
        clear hRe hkn hRR hfin2 hfin
        cases hok : okB ⟨na, nb, nc, ps⟩ with
        | false =>
          have hD : D = (⟨0, 0, 0, []⟩, 2) := HFo'.out (by rw [HRR.out]; exact hok)
          subst hD
          have HOKF := Lib.hid hok; clear hok
          rcases hgo' with ⟨hlt, hze⟩ | hlt
          all_goals
            go_wp2_with fail
            refine (rend_any B (w.heap.size + 1) st _ HRd.out).mono ?_
            rintro e w' ⟨rfl, rfl⟩
            rw [HFin.out]
            go_wp2_with fail
            refine (rright_any na nb nc Av k cv ps _ wo.heap.size hpl.out.symm (by omega) HPs.out (Nat.le_refl _)).mono ?_
            rintro e w9 ⟨rfl, hb9⟩
            rw [HOKF.out]
            have HB9 := Lib.hid (HBo.out.trans hb9)
            have HZ9 := Lib.hid (HZz.out.bl hb9)
            have d0 : w9.cell? ⟨w.heap.size, 0, none⟩ = some (.int .i64 0) := HZ9.out.cell 0
            have d1 : w9.cell? ⟨w.heap.size, 1, none⟩ = some (.int .i64 0) := HZ9.out.cell 1
            have d2 : w9.cell? ⟨w.heap.size, 2, none⟩ = some (.int .i64 0) := HZ9.out.cell 2
            have d3 : w9.cell? ⟨w.heap.size, 3, none⟩ = some (.slice none 0 0) := HZ9.out.cell 3
            have f0 := HZ9.out.free 0
            have f1 := HZ9.out.free 1
            have f2 := HZ9.out.free 2
            have f3 := HZ9.out.free 3
            clear hb9
            go_wp2_with fail
            refine bodyPost_ret (v := .tuple #[.agg #[.int .i64 0, .int .i64 0, .int .i64 0, .slice none 0 0], .int .i64 2]) (by simp [results, Try.results12, go_sem, *]) rfl ?_
            exact RdPost.none (HB9.out.fr ((((Fr.refl (fun k => k = w.heap.size) _).own 0 _).own 1 _).own 2 _ |>.own 3 _) fun i hi e => by omega)
        | true =>
          have hD : D = (⟨na, nb, nc, ps⟩, 0) := by rw [HOk'.out (by rw [HRR.out]; exact hok), HRR.out]
          subst hD
          have HOKF := Lib.hid hok; clear hok
          rcases hgo' with ⟨hlt, hze⟩ | hlt
          all_goals
            go_wp2_with fail
            refine (rend_any B (w.heap.size + 1) st _ HRd.out).mono ?_
            rintro e w' ⟨rfl, rfl⟩
            rw [HFin.out]
            go_wp2_with fail
            refine (rright_any na nb nc Av k cv ps _ wo.heap.size hpl.out.symm (by omega) HPs.out (Nat.le_refl _)).mono ?_
            rintro e w9 ⟨rfl, hb9⟩
            rw [HOKF.out]
            have HB9 := Lib.hid (HBo.out.trans hb9)
            have HZ9 := Lib.hid (HZz.out.bl hb9)
            have HO9 := Lib.hid (HO.out.bl hb9)
            have HG9 := Lib.hid (HGg.out.bl hb9)
            have d0 : w9.cell? ⟨w.heap.size, 0, none⟩ = some (.int .i64 0) := HZ9.out.cell 0
            have d1 : w9.cell? ⟨w.heap.size, 1, none⟩ = some (.int .i64 0) := HZ9.out.cell 1
            have d2 : w9.cell? ⟨w.heap.size, 2, none⟩ = some (.int .i64 0) := HZ9.out.cell 2
            have d3 : w9.cell? ⟨w.heap.size, 3, none⟩ = some (.slice none 0 0) := HZ9.out.cell 3
            have f0 := HZ9.out.free 0
            have f1 := HZ9.out.free 1
            have f2 := HZ9.out.free 2
            have f3 := HZ9.out.free 3
            have l0 : w9.cell? ⟨w.heap.size + 1 + 1, 0, none⟩ = some (.int .i64 (na : Int)) := HG9.out.cell 0
            have l1 : w9.cell? ⟨w.heap.size + 1 + 1, 1, none⟩ = some (.int .i64 (nb : Int)) := HG9.out.cell 1
            have l2 : w9.cell? ⟨w.heap.size + 1 + 1, 2, none⟩ = some (.int .i64 (nc : Int)) := HG9.out.cell 2
            have l3 : w9.cell? ⟨w.heap.size + 1 + 1, 3, none⟩ = some (.slice Av k cv) := HG9.out.cell 3
            clear hb9
            go_wp2_with fail
            refine bodyPost_ret (v := .tuple #[.agg #[.int .i64 (na : Int), .int .i64 (nb : Int), .int .i64 (nc : Int), .slice Av k cv], .int .i64 0]) (by simp [results, Try.results12, go_sem, *]) rfl ?_
            have hf9 : Fr (fun k => k = w.heap.size) w9 ((((w9.setCell ⟨w.heap.size, 0, none⟩ (.int .i64 (na : Int))).setCell ⟨w.heap.size, 1, none⟩ (.int .i64 (nb : Int))).setCell ⟨w.heap.size, 2, none⟩ (.int .i64 (nc : Int))).setCell ⟨w.heap.size, 3, none⟩ (.slice Av k cv)) := ((((Fr.refl (fun k => k = w.heap.size) w9).own 0 _).own 1 _).own 2 _).own 3 _
            have o2 := HO9.out.put_ (o := 0) HZ9.out (.int .i64 (na : Int))
            have k2 := HZ9.out.put 0 (.int .i64 (na : Int))
            have o3 := o2.put_ (o := 1) k2 (.int .i64 (nb : Int))
            have k3 := k2.put 1 (.int .i64 (nb : Int))
            have o4 := o3.put_ (o := 2) k3 (.int .i64 (nc : Int))
            have k4 := k3.put 2 (.int .i64 (nc : Int))
            have o5 := (o4.put_ (o := 3) k4 (.slice Av k cv)).prs
            rw [HM.out] at o5
            refine ⟨Av, cv, by rw [hpl.out], o5, HB9.out.fr hf9 fun i hi e => by omega⟩
      · have hD := HW.out (by rw [HR2.out]; exact hfin)
        rw [HR2.out] at hD
        subst hD
        have hq : (Wr.fin st != 0) = true := by simpa using hfin
        clear hfin
        rcases hgo' with ⟨hlt, hze⟩ | hlt
        all_goals
          go_wp2_with fail
          refine (rend_any B (w.heap.size + 1) st _ HRd.out).mono ?_
          rintro e w' ⟨rfl, rfl⟩
          go_wp2_with fail
          refine (rend_any B (w.heap.size + 1) st _ HRd.out).mono ?_
          rintro e w' ⟨rfl, rfl⟩
          go_wp2_with fail
          refine bodyPost_ret (v := .tuple #[.agg #[.int .i64 0, .int .i64 0, .int .i64 0, .slice none 0 0], .int .i64 (Wr.fin st)]) (by simp [results, Try.results12, go_sem, *]) rfl ?_
          exact RdPost.none (HBo.out.fr ((((Fr.refl (fun k => k = w.heap.size) _).own 0 _).own 1 _).own 2 _ |>.own 3 _) fun i hi e => by omega)
end Go.Proofs.Ytlfobnpkfloolaa
