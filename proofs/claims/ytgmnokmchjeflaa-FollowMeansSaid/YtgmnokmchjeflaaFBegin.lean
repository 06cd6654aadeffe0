/- first.begin: what symbols begin with, put together. -/
import Derived.Test.YtgmnokmchjeflaaFMem
import Derived.BigQuiet
namespace Go.Proofs.Ytgmnokmchjeflaa
open Go.RowKit

theorem drop_at {α : Type} {l : List α} {k : Nat} {y : α} (h : l[k]? = some y) : l.drop k = y :: l.drop (k + 1) := by
  obtain ⟨hk, rfl⟩ := List.getElem?_eq_some_iff.1 h
  exact List.drop_eq_getElem_cons hk
theorem pow_mod {m : Nat} (h : m ≤ 16) : (2 : Int) ^ m % 4294967296 = ((2 ^ m : Nat) : Int) := by
  have h2 : 2 ^ m < 4294967296 := Nat.lt_of_le_of_lt (Nat.pow_le_pow_right (by decide) h) (by decide)
  have e : (2 : Int) ^ m = ((2 ^ m : Nat) : Int) := (Int.natCast_pow 2 m).symm
  rw [e]
  exact Int.emod_eq_of_lt (Int.natCast_nonneg _) (Int.ofNat_lt.2 h2)
section
variable {F : List Nat} {nl : Nat → Bool} {l : List Gr.Sy} {k acc m : Nat}
theorem begin_term {y : Gr.Sy} (hy : l[k]? = some y) (hn : y.non = false) (h : acc ||| Fi.ofN F nl (l.drop k) = Fi.ofN F nl l) (ha : Fi.allNull nl (l.drop k) = Fi.allNull nl l) : acc ||| 2 ^ y.n.toNat = Fi.ofN F nl l ∧ Fi.allNull nl l = false := by
  rw [drop_at hy] at h ha
  rw [Fi.ofN_cons, hn, if_neg (by decide)] at h
  refine ⟨h, ?_⟩
  rw [← ha]
  unfold Fi.allNull
  rw [List.all_cons, hn]; rfl
theorem begin_stop {y : Gr.Sy} (hy : l[k]? = some y) (hn : y.non = true) (hz : nl y.n.toNat = false) (h : acc ||| Fi.ofN F nl (l.drop k) = Fi.ofN F nl l) (ha : Fi.allNull nl (l.drop k) = Fi.allNull nl l) : acc ||| F.getD y.n.toNat 0 = Fi.ofN F nl l ∧ Fi.allNull nl l = false := by
  rw [drop_at hy] at h ha
  rw [Fi.ofN_cons, hn, if_pos rfl, hz, if_neg (by decide), Nat.or_zero] at h
  refine ⟨h, ?_⟩
  rw [← ha]
  unfold Fi.allNull
  rw [List.all_cons, hn, hz]; rfl
theorem begin_on {y : Gr.Sy} (hy : l[k]? = some y) (hn : y.non = true) (hz : nl y.n.toNat = true) (h : acc ||| Fi.ofN F nl (l.drop k) = Fi.ofN F nl l) (ha : Fi.allNull nl (l.drop k) = Fi.allNull nl l) :
    (acc ||| F.getD y.n.toNat 0) ||| Fi.ofN F nl (l.drop (k + 1)) = Fi.ofN F nl l ∧ Fi.allNull nl (l.drop (k + 1)) = Fi.allNull nl l := by
  rw [drop_at hy] at h ha
  rw [Fi.ofN_cons, hn, if_pos rfl, hz, if_pos rfl] at h
  refine ⟨by rw [Nat.or_assoc]; exact h, ?_⟩
  rw [← ha]
  unfold Fi.allNull
  rw [List.all_cons, hn, hz]; rfl
theorem begin_end (hk : l.length ≤ k) (h : acc ||| Fi.ofN F nl (l.drop k) = Fi.ofN F nl l) (ha : Fi.allNull nl (l.drop k) = Fi.allNull nl l) : acc = Fi.ofN F nl l ∧ Fi.allNull nl l = true := by
  rw [List.drop_of_length_le hk] at h ha
  refine ⟨by rw [← h]; exact (Nat.or_zero _).symm, ha.symm⟩
end

set_option maxRecDepth 100000 in
set_option maxHeartbeats 2000000 in
theorem begin_any (Ax : Option Addr) (lx cx : Nat) (l : List Gr.Sy) (Af : Option Addr) (nons cf : Nat) (F : List Nat) (An : Option Addr) (cn : Nat) (fs : List Fc) (w : World) (B : Nat)
    (hl : lx = l.length) (hmax : lx ≤ 9223372036854775807) (hr : Rd w B Ax (syRow l)) (hF : nons = F.length) (hrF : Rd w B Af (us F)) (hfs : nons = fs.length) (hrn : Rd w B An (fcRow fs)) (hB : B ≤ w.heap.size)
    (hs : Fi.SyOk nons l) (hlt : ∀ n, F.getD n 0 < 4294967296) :
    Calls Try.prog 23 #[.slice Ax lx cx, .slice Af nons cf, .slice An nons cn] w fun e w' =>
      e = .returned (.tuple #[.int .u32 (Fi.ofN F (nlz fs) l : Int), .bool (Fi.allNull (nlz fs) l)]) ∧ Bl w w' := by
  have HL := Lib.hid hl; clear hl
  have HA := Lib.hid hr; clear hr
  have HFl := Lib.hid hF; clear hF
  have HFr := Lib.hid hrF; clear hrF
  have HNl := Lib.hid hfs; clear hfs
  have HNr := Lib.hid hrn; clear hrn
  have HS := Lib.hid hs; clear hs
  have HLT := Lib.hid hlt; clear hlt
  go_enter Try.func23, Try.ntmps23
  go_wp2_with fail
  go_loopw [8, 13] (fun sv i wr => ∃ k acc : Nat, k ≤ lx ∧ i = .int .i64 k ∧ sv = .int .u32 (acc : Int) ∧ Hid (acc < 4294967296) ∧ Hid (acc ||| Fi.ofN F (nlz fs) (l.drop k) = Fi.ofN F (nlz fs) l) ∧ Hid (Fi.allNull (nlz fs) (l.drop k) = Fi.allNull (nlz fs) l) ∧ Hid (Bl w wr)) (fun _ i _ => lx - (intOf i).toNat)
  case atStart => exact ⟨0, 0, Nat.zero_le _, rfl, rfl, (by decide : (0 : Nat) < 4294967296), by show 0 ||| _ = _; rw [Nat.zero_or]; rfl, rfl, Bl.refl w⟩
  case round =>
    obtain ⟨k, acc, hk, rfl, rfl, HC, HO, HN, HB⟩ := hrel
    by_cases hlt : k < lx
    · have hj : k < l.length := by have := HL.out; omega
      obtain ⟨b, off, rfl, hbB, q0, q1⟩ := (HA.out.bl hB HB.out).sym hj
      have HSk := Lib.hid (HS.out _ (List.getElem_mem hj))
      have HY : Hid (l[k]? = some l[k]) := List.getElem?_eq_getElem hj
      have HT := Lib.hid (fun y hy hn => begin_term (y := y) hy hn HO.out HN.out)
      have HP := Lib.hid (fun y hy hn hz => begin_stop (y := y) hy hn hz HO.out HN.out)
      have HW := Lib.hid (fun y hy hn hz => begin_on (y := y) hy hn hz HO.out HN.out)
      have hBr : B ≤ wr.heap.size := Nat.le_trans hB HB.out.size
      generalize l[k] = y at q0 q1 HSk HY
      obtain ⟨yb, yn⟩ := y
      simp only at q0 q1 HSk
      obtain ⟨s0, s1, s2⟩ := HSk.out
      obtain ⟨m, rfl⟩ : ∃ m : Nat, yn = (m : Int) := ⟨yn.toNat, by omega⟩
      have hac := HC.out
      clear hj HSk
      cases yb with
      | false =>
        have hm16 := s2 rfl
        obtain ⟨e1, e2⟩ := HT.out _ HY.out rfl
        have HO1 : Hid (bits .or .u32 (acc : Int) ((2 : Int) ^ m % 4294967296) = (Fi.ofN F (nlz fs) l : Int)) := by
          have h2 : 2 ^ m < 4294967296 := Nat.lt_of_le_of_lt (Nat.pow_le_pow_right (by decide) (show m ≤ 16 by omega)) (by decide)
          have h3 := pow_mod (m := m) (by omega)
          rw [Int.toNat_natCast] at e1
          show bits .or .u32 (acc : Int) ((2 : Int) ^ m % 4294967296) = _
          rw [h3, or_nat acc (2 ^ m) hac h2, e1]
        have HE2 := Lib.hid e2
        clear s1 s2 HT HP HW e1 e2
        go_wp2_with fail
        go_ret2
        exact ⟨by rw [HE2.out, ← HO1.out]; rfl, HB.out.alloc _⟩
      | true =>
        have hmn := s1 rfl
        have hmn2 : m < nons := by omega
        have hmf : m < F.length := by have := HFl.out; omega
        have hmz : m < fs.length := by have := HNl.out; omega
        have hlm := HLT.out m
        obtain ⟨bf, of, rfl, hbf, f0⟩ := (HFr.out.bl hB HB.out).u32 hmf
        obtain ⟨bn, on, rfl, hbn, z0, z1⟩ := (HNr.out.bl hB HB.out).fact hmz
        have hor := or_nat acc (F.getD m 0) hac hlm
        rw [← rkz_at hmz] at z0
        have HNl1 : Hid (nlz fs m = decide (rkz fs m ≠ 0)) := rfl
        have hbfw : bf < wr.heap.size := by omega
        have hbnw : bn < wr.heap.size := by omega
        clear s1 s2 HT z1 hmz hmf
        have HPx : Hid (nlz fs m = false → acc ||| F.getD m 0 = Fi.ofN F (nlz fs) l ∧ Fi.allNull (nlz fs) l = false) := fun h => HP.out _ HY.out rfl h
        have HWx : Hid (nlz fs m = true → (acc ||| F.getD m 0) ||| Fi.ofN F (nlz fs) (l.drop (k + 1)) = Fi.ofN F (nlz fs) l ∧ Fi.allNull (nlz fs) (l.drop (k + 1)) = Fi.allNull (nlz fs) l) := fun h => HW.out _ HY.out rfl h
        have HLv : Hid (acc ||| F.getD m 0 < 4294967296) := Nat.or_lt_two_pow (n := 32) hac hlm
        clear hlm HP HW
        generalize F.getD m 0 = v at *
        generalize rkz fs m = z at *
        have HOR := Lib.hid hor
        clear hor
        by_cases hz : z = 0
        · subst hz
          obtain ⟨e1, e2⟩ := HPx.out (by rw [HNl1.out]; rfl)
          rw [e1] at HOR
          have HE2 := Lib.hid e2
          clear e1 e2
          go_wp2_with fail
          go_ret2
          exact ⟨by rw [HE2.out, ← HOR.out]; rfl, HB.out.alloc _⟩
        · have hq : (z == 0) = false := by simpa using hz
          obtain ⟨e1, e2⟩ := HWx.out (by rw [HNl1.out]; exact decide_eq_true hz)
          have HE1 := Lib.hid e1
          have HE2 := Lib.hid e2
          clear e1 e2 hz
          go_wp2_with fail
          go_roundw
          case rel => exact ⟨k + 1, acc ||| v, by omega, by go_num, by rw [HOR.out], HLv.out, HE1.out, HE2.out, HB.out.alloc _⟩
          case measure => simp [intOf]; omega
    · obtain ⟨e1, e2⟩ := begin_end (show l.length ≤ k by have := HL.out; omega) HO.out HN.out
      have HE1 := Lib.hid e1; have HE2 := Lib.hid e2
      clear e1 e2
      go_wp2_with fail
      go_ret2
      exact ⟨by rw [HE1.out, HE2.out]; rfl, HB.out⟩
end Go.Proofs.Ytgmnokmchjeflaa
