/- ReachShows' contract. -/
import Derived.Test.YthjaidaibpdamaaELaw2
import Derived.RegionTactic
import Derived.Deep.QuietTactic
import Derived.BigQuiet
namespace Go.Proofs.Ythjaidaibpdamaa
open Go.RowKit

set_option maxRecDepth 100000 in
set_option maxHeartbeats 8000000 in
theorem reachShows_any (t n s : Int) (A : Option Addr) (len c : Nat) (ps : List Gr.Pr) (Af : Option Addr) (lf cf : Nat) (l : List Fc) (W : World)
    (hlen : len = ps.length) (hmax : len ≤ 9223372036854775807) (hr : Prs W W.heap.size A ps) (hlf : lf = l.length) (hmf : lf ≤ 9223372036854775807) (hrl : Rd W W.heap.size Af (fcRow l)) :
    Calls Try.prog 4 #[.agg #[.int .i64 t, .int .i64 n, .int .i64 s, .slice A len c], .slice Af lf cf] W fun e w' => e = .returned (.bool true) ∧ Bl W w' := by
  have HL := Lib.hid hlen; clear hlen
  have HLF := Lib.hid hlf; clear hlf
  have HP : Hid (∀ w', Bl W w' → Prs w' w'.heap.size A ps) := fun _ hb => (hr.bl (Nat.le_refl _) hb).more hb.size
  have HF : Hid (∀ w', Bl W w' → Rd w' w'.heap.size Af (fcRow l)) := fun _ hb => rd_on hrl hb
  clear hr hrl
  have HB0 : Hid (Bl W (W.alloc (.cells #[.int .i64 t, .int .i64 n, .int .i64 s, .slice A len c] 24))) := (Bl.refl W).alloc _
  have HK0 := Lib.hid (Bk.new W 24 #[.int .i64 t, .int .i64 n, .int .i64 s, .slice A len c])
  go_enter Try.func4, Try.ntmps4
  go_wp2_with fail
  refine (awake10_any _).mono ?_
  rintro e w1 ⟨rfl, hb1⟩
  have HB1 := Lib.hid (HB0.out.trans hb1)
  have HK1 := Lib.hid (HK0.out.bl hb1)
  clear hb1 HB0 HK0
  have k0 : w1.cell? ⟨W.heap.size, 0, none⟩ = some (.int .i64 t) := HK1.out.cell 0
  have k1 : w1.cell? ⟨W.heap.size, 1, none⟩ = some (.int .i64 n) := HK1.out.cell 1
  have k2 : w1.cell? ⟨W.heap.size, 2, none⟩ = some (.int .i64 s) := HK1.out.cell 2
  have k3 : w1.cell? ⟨W.heap.size, 3, none⟩ = some (.slice A len c) := HK1.out.cell 3
  go_wp2_with fail
  refine (large9_any t n s A len c ps _ w1.heap.size HL.out hmax (HP.out _ HB1.out) (Nat.le_refl _)).mono ?_
  rintro e w2 ⟨rfl, hb2⟩
  have HB2 := Lib.hid (HB1.out.trans hb2)
  have HK2 := Lib.hid (HK1.out.bl hb2)
  clear hb2 k0 k1 k2 k3 HB1 HK1
  cases hlg : lgB ps with
  | true =>
    go_wp2_with fail
    go_ret
    exact ⟨rfl, HB2.out⟩
  | false =>
  clear hlg
  by_cases h100 : 100 < lf
  · go_wp2_with fail
    go_ret
    exact ⟨rfl, HB2.out⟩
  have k0 : w2.cell? ⟨W.heap.size, 0, none⟩ = some (.int .i64 t) := HK2.out.cell 0
  have k1 : w2.cell? ⟨W.heap.size, 1, none⟩ = some (.int .i64 n) := HK2.out.cell 1
  have k2 : w2.cell? ⟨W.heap.size, 2, none⟩ = some (.int .i64 s) := HK2.out.cell 2
  have k3 : w2.cell? ⟨W.heap.size, 3, none⟩ = some (.slice A len c) := HK2.out.cell 3
  go_wp2_with fail
  refine (rright_any t n s A len c ps _ w2.heap.size HL.out hmax (HP.out _ HB2.out) (Nat.le_refl _)).mono ?_
  rintro e w3 ⟨rfl, hb3⟩
  have HB3 := Lib.hid (HB2.out.trans hb3)
  have HK3 := Lib.hid (HK2.out.bl hb3)
  clear hb3 k0 k1 k2 k3 HB2 HK2
  cases hok : okB ⟨t, n, s, ps⟩ with
  | false =>
    go_wp2_with fail
    go_ret
    exact ⟨rfl, HB3.out⟩
  | true =>
  obtain ⟨n1, n2, n3⟩ := ok_nons hok
  obtain ⟨N, rfl⟩ : ∃ N : Nat, n = (N : Int) := ⟨n.toNat, by omega⟩
  have HOK := Lib.hid hok; clear hok
  have k0 : w3.cell? ⟨W.heap.size, 0, none⟩ = some (.int .i64 t) := HK3.out.cell 0
  have k1 : w3.cell? ⟨W.heap.size, 1, none⟩ = some (.int .i64 (N : Int)) := HK3.out.cell 1
  have k2 : w3.cell? ⟨W.heap.size, 2, none⟩ = some (.int .i64 s) := HK3.out.cell 2
  have k3 : w3.cell? ⟨W.heap.size, 3, none⟩ = some (.slice A len c) := HK3.out.cell 3
  have HRight : Hid (∀ {m : Nat} (hm : m < l.length), eshowsB ⟨t, (N : Int), s, ps⟩ l = true → 0 < l[m].rank → ∀ (ho : m < (reachOf ⟨t, (N : Int), s, ps⟩).length),
    (reachOf ⟨t, (N : Int), s, ps⟩)[m].rank ≠ 0 ∧ (reachOf ⟨t, (N : Int), s, ps⟩)[m].rank ≤ l[m].rank) := fun hm h hf ho => eshows_right h hm hf ho
  have HOwn := Lib.hid (eshows_own HOK.out)
  have HOl : Hid ((reachOf ⟨t, (N : Int), s, ps⟩).length = N) := reachOf_len HOK.out
  have HSh : Hid (eshowsB ⟨t, (N : Int), s, ps⟩ l = true → lf = N) := fun h => by
    have := (eshowsB_true h).2.1
    have := HLF.out
    show lf = N
    omega
  go_wp2_with fail
  refine (reach_any t N s A len c ps _ w3.heap.size HL.out hmax (HP.out _ HB3.out) (Nat.le_refl _)).mono ?_
  intro e v h
  obtain ⟨Ao, co, he, hro, hbo⟩ := h.lit rfl HOl.out
  subst he
  have HB := Lib.hid (HB3.out.trans hbo)
  have HK := Lib.hid (HK3.out.bl hbo)
  have HO := Lib.hid hro
  clear h hro hbo k0 k1 k2 k3 HB3 HK3
  have k0 : v.cell? ⟨W.heap.size, 0, none⟩ = some (.int .i64 t) := HK.out.cell 0
  have k1 : v.cell? ⟨W.heap.size, 1, none⟩ = some (.int .i64 (N : Int)) := HK.out.cell 1
  have k2 : v.cell? ⟨W.heap.size, 2, none⟩ = some (.int .i64 s) := HK.out.cell 2
  have k3 : v.cell? ⟨W.heap.size, 3, none⟩ = some (.slice A len c) := HK.out.cell 3
  go_wp2_with fail
  refine (eshows_any t N s A len c ps Ao N co _ _ v.heap.size HL.out hmax (HP.out _ HB.out) HOl.out.symm (by omega) HO.out (Nat.le_refl _)).mono ?_
  rw [HOwn.out]
  rintro e v1 ⟨rfl, hb1⟩
  have HB1 := Lib.hid (HB.out.trans hb1)
  have HK1 := Lib.hid (HK.out.bl hb1)
  have HO1 := Lib.hid (rd_on HO.out hb1)
  clear hb1 k0 k1 k2 k3 HB HK HO
  have k0 : v1.cell? ⟨W.heap.size, 0, none⟩ = some (.int .i64 t) := HK1.out.cell 0
  have k1 : v1.cell? ⟨W.heap.size, 1, none⟩ = some (.int .i64 (N : Int)) := HK1.out.cell 1
  have k2 : v1.cell? ⟨W.heap.size, 2, none⟩ = some (.int .i64 s) := HK1.out.cell 2
  have k3 : v1.cell? ⟨W.heap.size, 3, none⟩ = some (.slice A len c) := HK1.out.cell 3
  go_wp2_with fail
  refine (eshows_any t N s A len c ps Af lf cf l _ v1.heap.size HL.out hmax (HP.out _ HB1.out) HLF.out hmf (HF.out _ HB1.out) (Nat.le_refl _)).mono ?_
  rintro e v2 ⟨rfl, hb2⟩
  have HB2 := Lib.hid (HB1.out.trans hb2)
  have HO2 := Lib.hid (rd_on HO1.out hb2)
  have HF2 := Lib.hid (HF.out _ HB2.out)
  clear hb2 k0 k1 k2 k3 HB1 HK1 HO1
  cases hsh : eshowsB ⟨t, (N : Int), s, ps⟩ l with
  | false =>
    go_wp2_with fail
    go_ret
    exact ⟨rfl, HB2.out⟩
  | true =>
  have HS := Lib.hid hsh
  have hlN : lf = N := HSh.out hsh
  clear hsh
  go_wp2_with fail
  go_loopw [41] (fun i wr => ∃ k : Nat, k ≤ lf ∧ i = .int .i64 k ∧ Hid (Bl v2 wr)) (fun i _ => lf - (intOf i).toNat)
  case atStart => exact ⟨0, Nat.zero_le _, rfl, Bl.refl _⟩
  case round =>
    obtain ⟨k, hk, rfl, HBr⟩ := hrel
    by_cases hlt : k < lf
    · have hj : k < l.length := by have := HLF.out; omega
      have hkN : k < N := by omega
      have hjo := Nat.lt_of_lt_of_eq hkN HOl.out.symm
      obtain ⟨bf, off, rfl, hbf, f0, f1⟩ := (HF2.out.bl (Nat.le_refl _) HBr.out).fact hj
      obtain ⟨bo, oo, rfl, hbo, o0, o1⟩ := (HO2.out.bl (Nat.le_refl _) HBr.out).fact hjo
      have HRk := Lib.hid (fun h => HRight.out hj HS.out h hjo)
      generalize l[k] = x at f0 f1 HRk
      obtain ⟨xr, xp⟩ := x
      generalize (reachOf _)[k] = y at o0 o1 HRk
      obtain ⟨yr, yp⟩ := y
      simp only at f0 f1 o0 o1
      have hsz : v2.heap.size ≤ wr.heap.size := HBr.out.size
      have hbw : bo < wr.heap.size := by omega
      have hk0 : (0 : Int) ≤ (k : Int) := by omega
      have o0a : (wr.alloc (.cells #[.int .i64 xr, .int .i64 xp] 32)).cell? ⟨bo, oo + k * 2, none⟩ = some (.int .i64 yr) := (World.cell?_alloc_lt _ _ _ hbw).trans o0
      clear hj hjo o1
      by_cases hx : 0 < xr
      · obtain ⟨r1, r2⟩ : yr ≠ 0 ∧ yr ≤ xr := HRk.out hx
        have hq : (yr == 0) = false := by simpa using r1
        have hd1 : decide (0 < xr) = true := decide_eq_true hx
        have hd2 : decide (xr < yr) = false := decide_eq_false (by omega)
        clear r1
        go_wp2_with fail
        go_quiet (fail)
        go_wp2_with fail
        go_roundw
        case rel => exact ⟨k + 1, by omega, by go_num, by first | exact (HBr.out.alloc _).drewN _ | exact (HBr.out.alloc _).drew⟩
        case measure => simp [intOf]; omega
      · have hd1 : decide (0 < xr) = false := decide_eq_false hx
        go_wp2_with fail
        go_quiet (fail)
        go_wp2_with fail
        go_roundw
        case rel => exact ⟨k + 1, by omega, by go_num, by first | exact (HBr.out.alloc _).drewN _ | exact (HBr.out.alloc _).drew⟩
        case measure => simp [intOf]; omega
    · go_wp2_with fail
      go_ret
      exact ⟨rfl, HB2.out.trans HBr.out⟩
end Go.Proofs.Ythjaidaibpdamaa
