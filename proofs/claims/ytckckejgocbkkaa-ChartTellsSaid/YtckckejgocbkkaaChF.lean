/- chart.Stop: where a word stops. -/
import Derived.Test.YtckckejgocbkkaaChD
import Derived.Test.YtckckejgocbkkaaChE
import Derived.Test.YtckckejgocbkkaaLeftS
import Derived.OwnWalk
import Derived.BigQuiet
import Derived.Laws.StructEq
namespace Go.Proofs.Ytckckejgocbkkaa
open Go.RowKit

/-- What is wanted at a place. -/
def wantAt (wd : List Int) (a : Nat) : Nat := match wd[a]? with | some t => t.toNat | none => 16
/-- The first of sets, from place a on, at which what is wanted is not next. -/
def stopFrom (g : Gr.Gm) (wd : List Int) : Nat → List (List Ch.Im) → Option (Nat × Nat)
  | _, [] => none
  | a, l :: ls => if (nxtN g (l.map Ch.Im.ix)).testBit (wantAt wd a) = true then stopFrom g wd (a + 1) ls else some (a, nxtN g (l.map Ch.Im.ix))
theorem stopFrom_drop {g : Gr.Gm} {wd : List Int} {L : List (List Ch.Im)} {k : Nat} (h : k < L.length) : stopFrom g wd k (L.drop k) = if (nxtN g (L[k].map Ch.Im.ix)).testBit (wantAt wd k) = true then stopFrom g wd (k + 1) (L.drop (k + 1)) else some (k, nxtN g (L[k].map Ch.Im.ix)) := by
  rw [List.drop_eq_getElem_cons h]; rfl
def stopV : Option (Nat × Nat) → Value
  | none => .tuple #[.int .i64 0, .int .u32 0, .bool false]
  | some (a, b) => .tuple #[.int .i64 (a : Int), .int .u32 (b : Int), .bool true]
def StopP (g : Gr.Gm) (wd : List Int) (w : World) (e : Ending) (w' : World) : Prop :=
  ∃ L, (fitB g wd = true → Ch.IsSets g wd L) ∧ (fitB g wd = false → L = []) ∧ e = .returned (stopV (stopFrom g wd 0 L)) ∧ Bl w w'
theorem inc_few {g : Gr.Gm} (hg : Gr.Ok g) {wd : List Int} {b : Nat} {l : List Ch.Im} (hi : Ch.Inc l) (h : ∀ x, x ∈ l ↔ Ch.It g wd b x) (hb : b ≤ 24) : l.length ≤ 13500 := by
  have h1 := Ch.few hi.nodup (a := b) (fun x hx => ((h x).1 hx).small hg)
  omega

set_option maxRecDepth 100000 in
set_option maxHeartbeats 4000000 in
theorem cstop_any (t n s : Int) (A : Option Addr) (len c : Nat) (ps : List Gr.Pr) (Aw : Option Addr) (lw cw : Nat) (xs : List Int) (w : World) (B : Nat) (hlen : len = ps.length) (hmax : len ≤ 9223372036854775807) (hr : PrsC w B A ps) (hlw : lw = xs.length) (hmw : lw ≤ 9223372036854775807) (hrw : Rd w B Aw (ins xs)) (hB : B ≤ w.heap.size) :
    Calls Try.prog 8 #[.agg #[.int .i64 t, .int .i64 n, .int .i64 s, .slice A len c], .slice Aw lw cw] w (StopP ⟨t, n, s, ps⟩ xs w) := by
  have HB0 : Hid (Bl w (w.alloc (.cells #[.int .i64 t, .int .i64 n, .int .i64 s, .slice A len c] 24))) := (Bl.refl w).alloc _
  have HK0 := Lib.hid (Bk.new w 24 #[.int .i64 t, .int .i64 n, .int .i64 s, .slice A len c])
  have HSe := Lib.hid (csets_any t n s A len c ps Aw lw cw xs (w.alloc (.cells #[.int .i64 t, .int .i64 n, .int .i64 s, .slice A len c] 24)) B hlen hmax (hr.bl hB HB0.out) hlw hmw (hrw.bl hB HB0.out) (Nat.le_trans hB HB0.out.size))
  have HR := Lib.hid (fun (wx : World) (hb : Bl w wx) => (hr.bl hB hb).prs.more (Nat.le_trans hB hb.size))
  have HRw := Lib.hid (fun (wx : World) (hb : Bl w wx) => hrw.bl hB hb)
  have HNt := Lib.hid (fun (Ai : Option Addr) (ci : Nat) (l : List Ch.Im) (wx : World) (hb : Bl w wx) (hl : l.length ≤ 1000000000) (hri : Rd wx wx.heap.size Ai (imRow l)) => cnext_any t n s A len c ps Ai l.length ci (l.map Ch.Im.ix) wx wx.heap.size hlen hmax ((hr.bl hB hb).prs.more (Nat.le_trans hB hb.size)) (by rw [List.length_map]) hl (by rw [← imRow_ix]; exact hri) (Nat.le_refl _))
  have HLw := Lib.hid hlw
  clear hr hrw hlen hlw
  go_enter Try.func8, Try.ntmps8
  have k0 := HK0.out.cell 0
  have k1 := HK0.out.cell 1
  have k2 := HK0.out.cell 2
  have k3 := HK0.out.cell 3
  go_wp2_with fail
  refine HSe.out.mono ?_
  rintro e w1 ⟨A1, L, c1, rfl, hc1, hsr, hb1, hyes, hno⟩
  have HB1 := Lib.hid (HB0.out.trans hb1)
  have HK1 := Lib.hid (HK0.out.bl hb1)
  have HSR := Lib.hid hsr
  have HYes := Lib.hid hyes
  have HNo := Lib.hid hno
  -- what is known where there are sets
  have HFt : Hid (0 < L.length → Gr.Ok ⟨t, n, s, ps⟩ ∧ xs.length ≤ 24 ∧ (∀ x ∈ xs, 0 ≤ x ∧ x < 16) ∧ L.length = xs.length + 1 ∧ ∀ (b : Nat) (l : List Ch.Im), L[b]? = some l → l.length ≤ 13500) := fun hpos => by
    cases hf : fitB ⟨t, n, s, ps⟩ xs with
    | false => rw [hno hf] at hpos; simp at hpos
    | true =>
      obtain ⟨hok, _, h24⟩ := fit_good hf
      have hset := hyes hf
      refine ⟨hok, h24, fun x hx => ?_, hset.1, fun b l hl => ?_⟩
      · have h2 := ((Wd.fits_iff _ _).1 (fitB_iff.mp hf).2)
        have h3 := h2.2 x hx
        have h4 := ((Wd.okW_iff xs).1 h2.1).2 x hx
        have h5 := hok.2.1
        simp only at h3 h5
        omega
      · exact inc_few hok (hset.2 b l hl).1 (hset.2 b l hl).2 (by have := Ch.lt_of_get hl; have := hset.1; omega)
  clear hb1 hsr hyes hno k0 k1 k2 k3 hc1
  generalize hLL : L.length = ll at *
  have HLL := Lib.hid hLL
  clear hLL
  go_wp2_with fail
  go_loopw [15] (fun i wr => ∃ k : Nat, k ≤ ll ∧ i = .int .i64 k ∧ Hid (stopFrom ⟨t, n, s, ps⟩ xs 0 L = stopFrom ⟨t, n, s, ps⟩ xs k (L.drop k)) ∧ Hid (Bk wr w.heap.size 24 #[.int .i64 t, .int .i64 n, .int .i64 s, .slice A len c]) ∧ Hid (SetsR wr A1 L) ∧ Hid (Bl w wr)) (fun i _ => ll - (intOf i).toNat)
  case atStart => exact ⟨0, Nat.zero_le _, rfl, rfl, HK1.out, HSR.out, HB1.out⟩
  case round =>
    obtain ⟨k, hk, rfl, HSt, HK, HS, HB⟩ := hrel
    by_cases hlt : k < ll
    · have hik : (k : Int) < (ll : Int) := by omega
      have hlt2 : k < L.length := by have := HLL.out; omega
      obtain ⟨hok, h24, htok, hllen, hfew⟩ := HFt.out (by omega)
      have hl25 : ll ≤ 25 := by omega
      clear hllen
      obtain ⟨b, off, Ai, ci, rfl, hbb, hc0, hci, hri⟩ := HS.out.at_ hlt2
      have hl2 := hfew k _ (List.getElem?_eq_getElem hlt2)
      have HCall := Lib.hid (HNt.out Ai ci L[k] wr HB.out (by omega) hri)
      have HSd := Lib.hid (stopFrom_drop (g := ⟨t, n, s, ps⟩) (wd := xs) hlt2)
      have HNl := Lib.hid (nxtN_lt ⟨t, n, s, ps⟩ (L[k].map Ch.Im.ix))
      generalize nxtN ⟨t, n, s, ps⟩ (L[k].map Ch.Im.ix) = z at *
      generalize L[k].length = lk at *
      clear hri hci hl2 hfew hlt2
      have k0 : wr.cell? ⟨w.heap.size, 0, none⟩ = some (.int .i64 t) := HK.out.cell 0
      have k1 : wr.cell? ⟨w.heap.size, 1, none⟩ = some (.int .i64 n) := HK.out.cell 1
      have k2 : wr.cell? ⟨w.heap.size, 2, none⟩ = some (.int .i64 s) := HK.out.cell 2
      have k3 : wr.cell? ⟨w.heap.size, 3, none⟩ = some (.slice A len c) := HK.out.cell 3
      have kl := HK.out.lt
      go_wp2_with fail
      refine HCall.out.mono ?_
      rintro e w5 ⟨rfl, hb5⟩
      have HK5 := Lib.hid (HK.out.bl hb5)
      have HS5 := Lib.hid (HS.out.bl hb5)
      have HB5 := Lib.hid (HB.out.trans hb5)
      clear hb5 k0 k1 k2 k3 kl hc0
      have HZ : Hid (z < 4294967296) := by have := HNl.out; show _ < _; omega
      by_cases hkw : k < lw
      · have hkx : k < xs.length := by have := HLw.out; omega
        obtain ⟨bw, ow, rfl, hbw, cw0⟩ := (HRw.out w5 HB5.out).int hkx
        have hbwl : bw < w5.heap.size := by have := HB5.out.size; omega
        have hkwi : (k : Int) < (lw : Int) := by omega
        obtain ⟨x, hx, hx16⟩ : ∃ x : Nat, xs[k] = (x : Int) ∧ x < 16 := by
          have := htok xs[k] (List.getElem_mem hkx)
          exact ⟨xs[k].toNat, by omega, by omega⟩
        have HWt : Hid (wantAt xs k = x) := by
          show _ = _
          unfold wantAt
          rw [List.getElem?_eq_getElem hkx]
          show xs[k].toNat = x
          omega
        rw [hx] at cw0
        have hbt := bit_test (z := z) x HZ.out
        clear hkx hx htok
        cases hbit : z.testBit x with
        | true =>
          rw [hbit] at hbt
          have HN : Hid (stopFrom ⟨t, n, s, ps⟩ xs 0 L = stopFrom ⟨t, n, s, ps⟩ xs (k + 1) (L.drop (k + 1))) := by show _ = _; rw [HSt.out, HSd.out, HWt.out, if_pos hbit]
          have hbt2 : bits .and .u32 ((z : Int) / 2 ^ x) 1 = 1 := hbt
          clear hbt
          go_wp2_with fail
          go_roundw
          case rel => exact ⟨k + 1, by omega, by go_num, HN.out, HK5.out, HS5.out, HB5.out⟩
          case measure => simp [intOf]; omega
        | false =>
          rw [hbit] at hbt
          have HN : Hid (stopFrom ⟨t, n, s, ps⟩ xs 0 L = some (k, z)) := by show _ = _; rw [HSt.out, HSd.out, HWt.out, if_neg (by rw [hbit]; simp)]
          have hbt2 : bits .and .u32 ((z : Int) / 2 ^ x) 1 = 0 := hbt
          clear hbt
          go_wp2_with fail
          go_ret3
          exact ⟨L, HYes.out, HNo.out, by rw [HN.out]; rfl, HB5.out⟩
      · have hkwi : ¬ (k : Int) < (lw : Int) := by omega
        have HWt : Hid (wantAt xs k = 16) := by
          show _ = _
          unfold wantAt
          rw [List.getElem?_eq_none (by have := HLw.out; omega)]
        have hbt := bit_test (z := z) 16 HZ.out
        clear htok
        cases hbit : z.testBit 16 with
        | true =>
          rw [hbit] at hbt
          have HN : Hid (stopFrom ⟨t, n, s, ps⟩ xs 0 L = stopFrom ⟨t, n, s, ps⟩ xs (k + 1) (L.drop (k + 1))) := by show _ = _; rw [HSt.out, HSd.out, HWt.out, if_pos hbit]
          have hbt2 : bits .and .u32 ((z : Int) / 65536) 1 = 1 := hbt
          clear hbt
          go_wp2_with fail
          go_roundw
          case rel => exact ⟨k + 1, by omega, by go_num, HN.out, HK5.out, HS5.out, HB5.out⟩
          case measure => simp [intOf]; omega
        | false =>
          rw [hbit] at hbt
          have HN : Hid (stopFrom ⟨t, n, s, ps⟩ xs 0 L = some (k, z)) := by show _ = _; rw [HSt.out, HSd.out, HWt.out, if_neg (by rw [hbit]; simp)]
          have hbt2 : bits .and .u32 ((z : Int) / 65536) 1 = 0 := hbt
          clear hbt
          go_wp2_with fail
          go_ret3
          exact ⟨L, HYes.out, HNo.out, by rw [HN.out]; rfl, HB5.out⟩
    · have hik : ¬ (k : Int) < (ll : Int) := by omega
      have HN : Hid (stopFrom ⟨t, n, s, ps⟩ xs 0 L = none) := by show _ = _; rw [HSt.out, List.drop_of_length_le (by have := HLL.out; omega)]; rfl
      go_wp2_with fail
      go_ret3
      exact ⟨L, HYes.out, HNo.out, by rw [HN.out]; rfl, HB.out⟩
end Go.Proofs.Ytckckejgocbkkaa
/- A small grammar's sets, counted out. -/
namespace Go.Proofs.Ytckckejgocbkkaa
open Go.RowKit
namespace Ch
open Gr (Gm)

def stepI (g : Gm) (wd : List Int) (a : Nat) : Nat → Nat → St → Option St
  | 0, _, _ => none
  | n + 1, i, f => match (f.S a)[i]? with
    | none => some f
    | some x => stepI g wd a n (i + 1) (followI g wd f a x)
theorem stepI_good {g : Gm} {wd : List Int} {a : Nat} : ∀ (n i : Nat) (f f' : St), Good g wd a i f → stepI g wd a n i f = some f' → ∃ j, Good g wd a j f' ∧ (f'.S a).length ≤ j
  | 0, _, _, _, _, h => by cases h
  | n + 1, i, f, f', hg, h => by
    unfold stepI at h
    cases e : (f.S a)[i]? with
    | none =>
      rw [e] at h
      injection h with h
      subst h
      exact ⟨i, hg, List.getElem?_eq_none_iff.1 e⟩
    | some x =>
      rw [e] at h
      exact stepI_good n (i + 1) _ f' (hg.step e) h
def allI (g : Gm) (wd : List Int) : Nat → Nat → St → Option St
  | 0, _, f => some f
  | m + 1, a, f => match stepI g wd a 100 0 f with
    | none => none
    | some f' => allI g wd m (a + 1) f'
theorem allI_good {g : Gm} {wd : List Int} : ∀ (m a : Nat) (f f' : St), Good g wd a 0 f → allI g wd m a f = some f' → Good g wd (a + m) 0 f'
  | 0, a, f, f', hg, h => by injection h with h; subst h; exact hg
  | m + 1, a, f, f', hg, h => by
    unfold allI at h
    cases e : stepI g wd a 100 0 f with
    | none => rw [e] at h; cases h
    | some f1 =>
      rw [e] at h
      obtain ⟨j, h1, h2⟩ := stepI_good 100 0 f f1 hg e
      have h3 := h1.done h2 (List.Perm.refl _)
      rw [upd_self] at h3
      have h4 := allI_good m (a + 1) f1 f' h3 h
      rwa [show a + 1 + m = a + (m + 1) by omega] at h4
instance (l : List Im) : Decidable (Inc l) := by unfold Inc; infer_instance
def okSets (g : Gm) (wd : List Int) (M : List (List Im)) : Bool := match allI g wd (wd.length + 1) 0 (puts ⟨fun _ => [], fun _ => []⟩ 0 (begs g 0 g.start)) with
  | none => false
  | some f => decide (M.length = wd.length + 1) && (List.range (wd.length + 1)).all fun b => match M[b]? with
    | none => false
    | some l => decide (Inc l) && (l.all fun x => decide (x ∈ f.S b)) && (f.S b).all fun x => decide (x ∈ l)
theorem okSets_is {g : Gm} {wd : List Int} {M : List (List Im)} (h : okSets g wd M = true) : IsSets g wd M := by
  unfold okSets at h
  cases e : allI g wd (wd.length + 1) 0 (puts ⟨fun _ => [], fun _ => []⟩ 0 (begs g 0 g.start)) with
  | none => rw [e] at h; cases h
  | some f =>
    rw [e] at h
    simp only [Bool.and_eq_true, decide_eq_true_eq, List.all_eq_true, List.mem_range] at h
    obtain ⟨h1, h2⟩ := h
    have hg := allI_good _ 0 _ f (Good.begin_ g wd) e
    rw [Nat.zero_add] at hg
    refine ⟨h1, fun b l hl => ?_⟩
    have hb : b < wd.length + 1 := by have := lt_of_get hl; omega
    have h3 := h2 b hb
    rw [hl] at h3
    simp only [Bool.and_eq_true, decide_eq_true_eq, List.all_eq_true] at h3
    obtain ⟨⟨h4, h5⟩, h6⟩ := h3
    exact ⟨h4, fun x => ⟨fun hx => (hg.toBase.all (by omega) x).1 (h5 x hx), fun hx => h6 x ((hg.toBase.all (by omega) x).2 hx)⟩⟩
end Ch
def ps18 : List Gr.Pr := [⟨0, [⟨false, 0⟩, ⟨true, 0⟩, ⟨false, 1⟩]⟩, ⟨0, []⟩]
def g18 : Gr.Gm := ⟨2, 1, 0, ps18⟩
def ms18 : List (List Ch.Im) := [[⟨0, 0, 0⟩, ⟨1, 0, 0⟩], [⟨0, 0, 1⟩, ⟨0, 1, 0⟩, ⟨0, 2, 0⟩, ⟨1, 0, 1⟩]]
def ms18a : List (List Ch.Im) := ms18 ++ [[⟨0, 0, 2⟩, ⟨0, 1, 1⟩, ⟨0, 2, 1⟩, ⟨1, 0, 2⟩]]
def ms18b : List (List Ch.Im) := ms18 ++ [[⟨0, 3, 0⟩]]
theorem is18 : Ch.IsSets g18 [0] ms18 := Ch.okSets_is (by decide +kernel)
theorem is18a : Ch.IsSets g18 [0, 0] ms18a := Ch.okSets_is (by decide +kernel)
theorem is18b : Ch.IsSets g18 [0, 1] ms18b := Ch.okSets_is (by decide +kernel)
theorem st18a : stopFrom g18 [0, 0] 0 ms18a = some (2, 3) := by decide +kernel
theorem st18b : stopFrom g18 [0, 1] 0 ms18b = none := by decide +kernel
theorem nx18 : nextN g18 ((ms18[0]'(by decide)).map Ch.Im.ix) = 65537 := by decide +kernel
theorem fit18 : fitB g18 [0] = true ∧ fitB g18 [0, 0] = true ∧ fitB g18 [0, 1] = true := by decide +kernel
theorem ok18 : okB g18 = true := by decide +kernel
end Go.Proofs.Ytckckejgocbkkaa
/- The reference's Same: are sets the same? -/
namespace Go.Proofs.Ytckckejgocbkkaa
open Go.RowKit

/-- Sets whose rows aren't greater than may be. -/
def Few (L : List (List Ch.Im)) : Prop := L.length ≤ 1000000000 ∧ ∀ (b : Nat) (l : List Ch.Im), L[b]? = some l → l.length ≤ 1000000000
theorem ctk_succ {α : Type} {l r : List α} {k : Nat} (h1 : k < l.length) (h2 : k < r.length) (h : l.take k = r.take k) (hc : l[k] = r[k]) : l.take (k + 1) = r.take (k + 1) := by
  rw [List.take_succ_eq_append_getElem h1, List.take_succ_eq_append_getElem h2, h, hc]
theorem ctk_all {α : Type} {l r : List α} {k : Nat} (h1 : l.length ≤ k) (h2 : r.length ≤ k) (h : l.take k = r.take k) : l = r := by
  rwa [List.take_of_length_le h1, List.take_of_length_le h2] at h
theorem ctk_no {α : Type} {l r : List α} {k : Nat} (h1 : k < l.length) (h2 : k < r.length) (hc : l[k] ≠ r[k]) : l ≠ r := by rintro rfl; exact hc rfl
theorem sets_no {L M : List (List Ch.Im)} {k : Nat} (h1 : k < L.length) (h2 : k < M.length) (h : L[k] ≠ M[k]) : decide (L = M) = false := decide_eq_false fun e => by subst e; exact h rfl

set_option maxRecDepth 100000 in
set_option maxHeartbeats 4000000 in
theorem csame_any (Aa Ab : Option Addr) (la lb ca cb : Nat) (L M : List (List Ch.Im)) (w : World) (hla : la = L.length) (hlb : lb = M.length) (hL : SetsR w Aa L) (hM : SetsR w Ab M) (fL : Few L) (fM : Few M) :
    Calls Try.prog 10 #[.slice Aa la ca, .slice Ab lb cb] w fun e w' => e = .returned (.bool (decide (L = M))) ∧ Bl w w' := by
  have HLa := Lib.hid hla
  have HLb := Lib.hid hlb
  have HL := Lib.hid (fun (wx : World) (hb : Bl w wx) => hL.bl hb)
  have HM := Lib.hid (fun (wx : World) (hb : Bl w wx) => hM.bl hb)
  have HfL := Lib.hid fL
  have HfM := Lib.hid fM
  have hmax : la ≤ 1000000000 := by rw [hla]; exact fL.1
  have hmaxb : lb ≤ 1000000000 := by rw [hlb]; exact fM.1
  clear hL hM fL fM hla hlb
  have HB0 : Hid (Bl w w) := Bl.refl w
  go_enter Try.func10, Try.ntmps10
  by_cases hne : la = lb
  · have hq : ((la : Int) != (lb : Int)) = false := by simp; omega
    have HN := Lib.hid hne; clear hne
    go_wp2_with fail
    go_loopw [5] (fun i wr => ∃ k : Nat, k ≤ la ∧ i = .int .i64 k ∧ Hid (L.take k = M.take k) ∧ Hid (Bl w wr)) (fun i _ => la - (intOf i).toNat)
    case atStart => exact ⟨0, Nat.zero_le _, rfl, rfl, HB0.out⟩
    case round =>
      obtain ⟨k, hk, rfl, HT, HB⟩ := hrel
      by_cases hlt : k < la
      · have hlt2 : k < L.length := by have := HLa.out; omega
        have hlt3 : k < M.length := by have := HLb.out; have := HN.out; omega
        have hlt' : k < lb := by have := HN.out; omega
        have hk0 : (0 : Int) ≤ (k : Int) := by omega
        have hk1 : (k : Int) < (la : Int) := by omega
        have hk2 : (k : Int) < (lb : Int) := by omega
        have HAt := Lib.hid (fun (wx : World) (hb : Bl w wx) => (HL.out wx hb).at_ hlt2)
        have HBt := Lib.hid (fun (wx : World) (hb : Bl w wx) => (HM.out wx hb).at_ hlt3)
        have hl9 := HfL.out.2 k _ (List.getElem?_eq_getElem hlt2)
        have hm9 := HfM.out.2 k _ (List.getElem?_eq_getElem hlt3)
        have HS := Lib.hid (ctk_succ hlt2 hlt3 HT.out)
        have HD := Lib.hid (sets_no hlt2 hlt3)
        obtain ⟨b1, o1, A1, c1, rfl, hb1, hc1, hz1, hr1⟩ := HAt.out wr HB.out
        obtain ⟨b2, o2, A2, c2, rfl, hb2, hc2, hz2, hr2⟩ := HBt.out wr HB.out
        have HR1 := Lib.hid (fun (wx : World) (hb : Bl wr wx) => hr1.bl (Nat.le_refl _) hb)
        have HR2 := Lib.hid (fun (wx : World) (hb : Bl wr wx) => hr2.bl (Nat.le_refl _) hb)
        have HC1 := Lib.hid (fun (wx : World) (hb : Bl wr wx) => (Below.cell hb (p := ⟨b1, o1 + k, none⟩) hb1).trans hc1)
        have HC2 := Lib.hid (fun (wx : World) (hb : Bl wr wx) => (Below.cell hb (p := ⟨b2, o2 + k, none⟩) hb2).trans hc2)
        clear hr1 hr2 hz1 hz2 HAt HBt
        generalize L[k] = l at *
        generalize M[k] = m at *
        have HLl := Lib.hid (rfl : l.length = l.length)
        generalize hll : l.length = ll at *
        generalize hml : m.length = ml at *
        have Hll := Lib.hid hll
        have Hml := Lib.hid hml
        clear hll hml HLl hlt2 hlt3
        by_cases hlm : ll = ml
        · subst hlm
          have hq2 : ((ll : Int) != (ll : Int)) = false := by simp
          go_upto_region 6 with fail
          go_quiet (fail)
          go_wp2_with fail
          go_loopw [6] (fun i wr2 => ∃ j : Nat, j ≤ ll ∧ i = .int .i64 j ∧ Hid (l.take j = m.take j) ∧ Hid (Bl wr wr2)) (fun i _ => ll - (intOf i).toNat)
          case atStart => exact ⟨0, Nat.zero_le _, rfl, rfl, (Bl.refl wr).drewN _⟩
          case round =>
            obtain ⟨j, hj, rfl, HT2, HB2⟩ := hrel
            have d1 := HC1.out _ HB2.out
            have d2 := HC2.out _ HB2.out
            by_cases hjl : j < ll
            · have hj1 : j < l.length := by have := Hll.out; omega
              have hj2 : j < m.length := by have := Hml.out; omega
              have hj0 : (0 : Int) ≤ (j : Int) := by omega
              have hji : (j : Int) < (ll : Int) := by omega
              obtain ⟨b3, o3, rfl, hb3, x0, x1, x2⟩ := (HR1.out _ HB2.out).item hj1
              obtain ⟨b4, o4, rfl, hb4, y0, y1, y2⟩ := (HR2.out _ HB2.out).item hj2
              have HS2 := Lib.hid (ctk_succ hj1 hj2 HT2.out)
              have HD2 := Lib.hid (ctk_no hj1 hj2)
              generalize l[j] = x at *
              generalize m[j] = y at *
              obtain ⟨xp, xd, xf⟩ := x
              obtain ⟨yp, yd, yf⟩ := y
              simp only at x0 x1 x2 y0 y1 y2
              clear hj1 hj2
              by_cases e1 : xp = yp
              · subst e1
                by_cases e2 : xd = yd
                · subst e2
                  by_cases e3 : xf = yf
                  · subst e3
                    go_upto_region 11 with fail
                    go_quiet (fail)
                    go_wp2_with fail
                    go_roundw
                    case rel => exact ⟨j + 1, by omega, by go_num, HS2.out rfl, HB2.out.drewN _⟩
                    case measure => simp [intOf]; omega
                  · have q3 : ((xf : Int) == (yf : Int)) = false := by simp; omega
                    have HF : Hid (decide (L = M) = false) := HD.out (HD2.out fun e => by injection e with _ _ e; exact e3 e)
                    go_upto_region 11 with fail
                    go_quiet (fail)
                    go_wp2_with fail
                    go_ret
                    exact ⟨by rw [HF.out]; rfl, HB.out.trans (HB2.out.drewN _)⟩
                · have q2 : ((xd : Int) == (yd : Int)) = false := by simp; omega
                  have HF : Hid (decide (L = M) = false) := HD.out (HD2.out fun e => by injection e with _ e _; exact e2 e)
                  go_upto_region 11 with fail
                  go_quiet (fail)
                  go_wp2_with fail
                  go_ret
                  exact ⟨by rw [HF.out]; rfl, HB.out.trans (HB2.out.drewN _)⟩
              · have q1 : ((xp : Int) == (yp : Int)) = false := by simp; omega
                have HF : Hid (decide (L = M) = false) := HD.out (HD2.out fun e => by injection e with e _ _; exact e1 e)
                go_upto_region 11 with fail
                go_quiet (fail)
                go_wp2_with fail
                go_ret
                exact ⟨by rw [HF.out]; rfl, HB.out.trans (HB2.out.drewN _)⟩
            · have hji : ¬ (j : Int) < (ll : Int) := by omega
              have HE : Hid (l = m) := ctk_all (by have := Hll.out; omega) (by have := Hml.out; omega) HT2.out
              go_wp2_with fail
              go_roundw
              case rel => exact ⟨k + 1, by omega, by go_num, HS.out HE.out, HB.out.trans HB2.out⟩
              case measure => simp [intOf]; omega
        · have hq2 : ((ll : Int) != (ml : Int)) = true := by simp; omega
          have HF : Hid (decide (L = M) = false) := HD.out fun e => hlm (by rw [← Hll.out, ← Hml.out, e])
          go_upto_region 6 with fail
          go_quiet (fail)
          go_wp2_with fail
          go_ret
          exact ⟨by rw [HF.out]; rfl, HB.out.drewN _⟩
      · have hik : ¬ (k : Int) < (la : Int) := by omega
        have HE : Hid (decide (L = M) = true) := decide_eq_true (ctk_all (by have := HLa.out; omega) (by have := HLb.out; have := HN.out; omega) HT.out)
        go_wp2_with fail
        go_ret
        exact ⟨by rw [HE.out]; rfl, HB.out⟩
  · have hq : ((la : Int) != (lb : Int)) = true := by simp; omega
    have HF : Hid (decide (L = M) = false) := decide_eq_false fun e => hne (by rw [HLa.out, HLb.out, e])
    go_wp2_with fail
    go_ret
    exact ⟨by rw [HF.out]; rfl, HB0.out⟩
end Go.Proofs.Ytckckejgocbkkaa
