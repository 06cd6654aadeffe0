/- The reference's Same of nodes. -/
import Derived.Test.YtmdepbgcgkifpaaTNds
import Derived.Test.YtmdepbgcgkifpaaISame
namespace Go.Proofs.Ytmdepbgcgkifpaa
open Go.RowKit

theorem quiet_more {P : Program} {f : FuncId} {args : Array Value} {w : World} {q n : Nat} {v : Value} (h : Calls P f args (w.drewN (q + n)) (Quiet v (w.drewN (q + n)))) : Calls P f args (w.drewN (q + n)) fun e w'' => e = .returned v ∧ ∃ m, w'' = w.drewN (q + m) :=
  h.mono fun _ _ ⟨he, m, hm⟩ => ⟨he, n + m, by rw [hm, World.drewN_drewN, Nat.add_assoc]⟩
theorem nd_take {l r : List Nh} {k : Nat} (h1 : k < l.length) (h2 : k < r.length) (h : (l.take k).map Nh.nd = (r.take k).map Nh.nd) (hc : l[k].nd = r[k].nd) : (l.take (k + 1)).map Nh.nd = (r.take (k + 1)).map Nh.nd := by
  rw [List.take_succ_eq_append_getElem h1, List.take_succ_eq_append_getElem h2, List.map_append, List.map_append, h, List.map_cons, List.map_cons, hc]
theorem nd_no {l r : List Nh} {k : Nat} (h1 : k < l.length) (h2 : k < r.length) (hc : l[k].nd ≠ r[k].nd) : l.map Nh.nd ≠ r.map Nh.nd := fun e => hc (by
  have h3 : (l.map Nh.nd)[k]? = (r.map Nh.nd)[k]? := by rw [e]
  rw [List.getElem?_map, List.getElem?_map, List.getElem?_eq_getElem h1, List.getElem?_eq_getElem h2] at h3
  injection h3)
set_option maxRecDepth 100000 in
set_option maxHeartbeats 1000000 in
theorem nsame_any (A A' : Option Addr) (la la' ca ca' : Nat) (nd nd' : List (Int × List Int)) (w : World) (B : Nat) (hla : la = nd.length) (hla' : la' = nd'.length) (hmax : la ≤ 1000000) (hm : ∀ x ∈ nd, x.2.length ≤ 9223372036854775807) (hr : NRd w B A nd) (hr' : NRd w B A' nd') :
    Calls Try.prog 13 #[.slice A la ca, .slice A' la' ca'] w (Quiet (.bool (decide (nd = nd'))) w) := by
  obtain ⟨hs, rfl, hrh⟩ := hr.rows
  obtain ⟨ks, rfl, hrk⟩ := hr'.rows
  rw [List.length_map] at hla hla'
  have HL := Lib.hid hla
  have HL' := Lib.hid hla'
  have HR := Lib.hid hrh
  have HR' := Lib.hid hrk
  have HM := Lib.hid hm
  clear hla hla' hr hr' hrh hrk hm
  by_cases hne : la = la'
  · have hq : ((la : Int) != (la' : Int)) = false := by simp; omega
    have HN := Lib.hid hne; clear hne
    go_enter Try.func13, Try.ntmps13
    go_wp2_with fail
    go_loopw [5] (fun i wr => ∃ (k q : Nat), k ≤ la ∧ i = .int .i64 k ∧ wr = w.drewN q ∧ Hid ((hs.take k).map Nh.nd = (ks.take k).map Nh.nd)) (fun i _ => la - (intOf i).toNat)
    case atStart => exact ⟨0, 0, by omega, rfl, rfl, by simp [Hid]⟩
    case round =>
      obtain ⟨k, q, hk, rfl, rfl, HT⟩ := hrel
      by_cases hlt : k < la
      · have hj : k < hs.length := by have := HL.out; omega
        have hj' : k < ks.length := by have := HL'.out; have := HN.out; omega
        obtain ⟨b, off, rfl, _, c0, c1⟩ := Rd.two HR.out.1 hj
        obtain ⟨b', off', rfl, _, c0', c1'⟩ := Rd.two HR'.out.1 hj'
        have HS := Lib.hid (nd_take hj hj' HT.out)
        have HD := Lib.hid (nd_no hj hj')
        have HA := Lib.hid (HR.out.2 _ (List.getElem_mem hj))
        have HA' := Lib.hid (HR'.out.2 _ (List.getElem_mem hj'))
        have HM2 := Lib.hid (HM.out _ (List.mem_map.2 ⟨_, List.getElem_mem hj, rfl⟩))
        generalize hs[k] = h at *
        generalize ks[k] = h' at *
        obtain ⟨p, row, Ax, cx⟩ := h
        obtain ⟨p', row', Ax', cx'⟩ := h'
        simp only [Nh.nd] at c0 c1 c0' c1' HS HD HA HA' HM2
        have i0 : (0 : Int) ≤ (k : Int) := by omega
        have i1 : (k : Int) < (la : Int) := by omega
        have i2 : (k : Int) < (la' : Int) := by have := HN.out; omega
        clear hj hj'
        by_cases hp : p = p'
        · subst hp
          have hq1 : (p != p) = false := by simp
          have HC := Lib.hid (fun (wx : World) => isame_any Ax Ax' row.length row'.length cx cx' row row' (wx) B rfl rfl HM2.out)
          cases he : decide (row = row') with
          | true =>
            have HX : Hid ((hs.take (k + 1)).map Nh.nd = (ks.take (k + 1)).map Nh.nd) := HS.out (by rw [of_decide_eq_true he])
            rw [he] at HC
            clear he
            go_wp2_with fail
            go_quiet (first | (go_at_call 12; exact quiet_more (HC.out _ HA.out HA'.out)))
            go_wp2_with fail
            go_roundw
            case rel => exact ⟨k + 1, _, by omega, by go_num, rfl, HX.out⟩
            case measure => simp [intOf]; omega
          | false =>
            have hf : decide (hs.map Nh.nd = ks.map Nh.nd) = false := decide_eq_false (HD.out (fun e => by injection e with _ e; exact of_decide_eq_false he e))
            have HF := Lib.hid hf; clear hf
            rw [he] at HC
            clear he
            go_wp2_with fail
            go_quiet (first | (go_at_call 12; exact quiet_more (HC.out _ HA.out HA'.out)))
            go_wp2_with fail
            go_ret
            exact ⟨by rw [HF.out]; rfl, _, World.drewN_drewN _ _ _⟩
        · have hq1 : (p != p') = true := by simpa using hp
          have hf : decide (hs.map Nh.nd = ks.map Nh.nd) = false := decide_eq_false (HD.out (fun e => by injection e with e _; exact hp e))
          have HF := Lib.hid hf; clear hf hp
          go_wp2_with fail
          go_quiet (fail)
          go_wp2_with fail
          go_ret
          exact ⟨by rw [HF.out]; rfl, _, World.drewN_drewN _ _ _⟩
      · have e : hs.map Nh.nd = ks.map Nh.nd := by
          have h1 := HT.out; have h2 := HL.out; have h3 := HL'.out; have h4 := HN.out
          rw [List.take_of_length_le (by omega), List.take_of_length_le (by omega)] at h1
          exact h1
        have HX := Lib.hid e; clear e
        go_wp2_with fail
        go_ret
        exact ⟨by rw [decide_eq_true HX.out]; rfl, _, rfl⟩
  · have hq : ((la : Int) != (la' : Int)) = true := by simp; omega
    have hf : decide (hs.map Nh.nd = ks.map Nh.nd) = false := decide_eq_false fun e => hne (by
      have := congrArg List.length e
      rw [List.length_map, List.length_map] at this
      rw [HL.out, HL'.out, this])
    have HF := Lib.hid hf; clear hf
    go_enter Try.func13, Try.ntmps13
    go_wp2_with fail
    go_ret
    exact ⟨by rw [HF.out]; rfl, 0, rfl⟩
end Go.Proofs.Ytmdepbgcgkifpaa
