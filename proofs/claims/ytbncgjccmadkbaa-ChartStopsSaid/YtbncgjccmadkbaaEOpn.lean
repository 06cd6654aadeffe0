/- reach.Reach's closure: is a symbol a nonterminal that isn't reached yet? And slices.IndexFunc with it. -/
import Derived.Test.YtbncgjccmadkbaaFactS
import Derived.Test.YtbncgjccmadkbaaListS
namespace Go.Proofs.Ytbncgjccmadkbaa
open Go.RowKit

/-- What the closure captures: the variable of the facts at gl; and the facts, a row of the call's own; the grammar at block gg. -/
structure ERel (t n s : Int) (A : Option Addr) (len c nons cf gg gl gf : Nat) (w0 : World) (cur : Rk.Fs) (w : World) : Prop where
  bg : Bk w gg 24 #[.int .i64 t, .int .i64 n, .int .i64 s, .slice A len c]
  bl : Bk w gl 93 #[.slice (some ⟨gf, 0, none⟩) nons cf]
  own : w.ownsRow w0.heap.size 96 2 (.slice (some ⟨gf, 0, none⟩) nons cf) nons (fcRow (fz cur))
  len_ : cur.length = nons
  b : Bl w0 w
section
variable {t n s : Int} {A : Option Addr} {len c nons cf gg gl gf : Nat} {w0 : World} {cur cur' : Rk.Fs} {w w' : World}
theorem ERel.bl_ (h : ERel t n s A len c nons cf gg gl gf w0 cur w) (hb : Bl w w') : ERel t n s A len c nons cf gg gl gf w0 cur w' :=
  ⟨h.bg.bl hb, h.bl.bl hb, own_bl h.own hb, h.len_, h.b.trans hb⟩
theorem ERel.alloc (h : ERel t n s A len c nons cf gg gl gf w0 cur w) (o : Obj) : ERel t n s A len c nons cf gg gl gf w0 cur (w.alloc o) := h.bl_ ((Bl.refl w).alloc o)
theorem ERel.is (h : ERel t n s A len c nons cf gg gl gf w0 cur w) (e : cur' = cur) : ERel t n s A len c nons cf gg gl gf w0 cur' w := by subst e; exact h
theorem ERel.rd (h : ERel t n s A len c nons cf gg gl gf w0 cur w) : Rd w w.heap.size (some ⟨gf, 0, none⟩) (fcRow (fz cur)) := own_rd h.own
theorem ERel.rank (h : ERel t n s A len c nons cf gg gl gf w0 cur w) {m : Nat} (hm : m < nons) : w.cell? ⟨gf, m * 2, none⟩ = some (.int .i64 (Rk.rk cur m : Int)) := by
  have hl : m < (fz cur).length := by rw [fz_len, h.len_]; exact hm
  have e := (fcRow_at (fz cur) m hl).1
  rw [fz_rank] at e
  exact (h.own.cellAt _ (by omega)).trans e
theorem ERel.free (h : ERel t n s A len c nons cf gg gl gf w0 cur w) (j : Nat) : w.frozen? ⟨gf, j, none⟩ = false := h.own.frozenAt j
theorem ERel.glt (h : ERel t n s A len c nons cf gg gl gf w0 cur w) : gf < w.heap.size := (h.own.lt gf rfl).2
theorem ERel.isSome (h : ERel t n s A len c nons cf gg gl gf w0 cur w) {j : Nat} (hj : j < nons * 2) : ∃ u, w.cell? ⟨gf, j, none⟩ = some u := by
  have hl : j < (fcRow (fz cur)).length := by rw [fcRow_len, fz_len, h.len_]; exact hj
  exact ⟨_, (h.own.cellAt j hj).trans (List.getElem?_eq_getElem hl)⟩
theorem ERel.put (h : ERel t n s A len c nons cf gg gl gf w0 cur w) {m r i : Nat} :
    ERel t n s A len c nons cf gg gl gf w0 (cur.set m (r, i)) ((w.setCell ⟨gf, m * 2, none⟩ (.int .i64 r)).setCell ⟨gf, m * 2 + 1, none⟩ (.int .i64 i)) := by
  have hfr : Fr (fun k => k = gf) w ((w.setCell ⟨gf, m * 2, none⟩ (.int .i64 r)).setCell ⟨gf, m * 2 + 1, none⟩ (.int .i64 i)) := ((Fr.refl _ w).own _ _).own _ _
  have ne : ∀ {g : Nat} {ty : TypeId} {cs : Array Value}, Bk w g ty cs → 96 ≠ ty → ¬ g = gf := fun hk hne e => hk.row h.own hne (by rw [e]; rfl)
  have h1 := (h.own.stored (m * 2) (.int .i64 r)).1
  have h2 := (h1.stored (m * 2 + 1) (.int .i64 i)).1
  have hlow := (h.own.lt gf rfl).1
  refine ⟨h.bg.fr hfr (ne h.bg (by decide)), h.bl.fr hfr (ne h.bl (by decide)), ?_, by rw [List.length_set]; exact h.len_, h.b.fr hfr fun k hk e => by omega⟩
  rw [fz_set, fcRow_set]
  exact h2
theorem ERel.row_ne (h : ERel t n s A len c nons cf gg gl gf w0 cur w) {g : Nat} {cs : Array Value} {ty : TypeId} (hb : Bk w g ty cs) (hne : 96 ≠ ty) : g ≠ gf := fun e => hb.row h.own hne (by rw [e]; rfl)
end

set_option maxRecDepth 100000 in
set_option maxHeartbeats 1000000 in
theorem opn_any (t n s : Int) (A : Option Addr) (len c nons cf gg gl gf : Nat) (w0 : World) (cur : Rk.Fs) (sb : Bool) (sn : Int) (w : World)
    (hk : ERel t n s A len c nons cf gg gl gf w0 cur w) (hs : sb = true → 0 ≤ sn ∧ sn < (nons : Int)) :
    Calls Try.prog 74 #[.agg #[.bool sb, .int .i64 sn], .pointer (some ⟨gl, 0, none⟩)] w fun e w' => e = .returned (.bool (Rc.opn cur ⟨sb, sn⟩)) ∧ Bl w w' := by
  have HB : Hid (Bl w (w.alloc (.cells #[.bool sb, .int .i64 sn] 48))) := (Bl.refl w).alloc _
  have HK := Lib.hid (hk.alloc (.cells #[.bool sb, .int .i64 sn] 48))
  cases sb with
  | false =>
    clear hk
    go_enter Try.func74, Try.ntmps74
    go_wp2_with fail
    go_ret
    exact ⟨rfl, HB.out⟩
  | true =>
    obtain ⟨h1, h2⟩ := hs rfl
    obtain ⟨m, rfl⟩ : ∃ m : Nat, sn = (m : Int) := ⟨sn.toNat, by omega⟩
    have hm : m < nons := by omega
    have hmm : (0 : Int) ≤ (m : Int) := by omega
    have kk0 : w.cell? ⟨gl, 0, none⟩ = some (.slice (some ⟨gf, 0, none⟩) nons cf) := hk.bl.cell 0
    have klt : gl < w.heap.size := hk.bl.lt
    have klt2 : gf < w.heap.size := hk.glt
    have kr := hk.rank hm
    have HV : Hid (Rc.opn cur ⟨true, (m : Int)⟩ = decide ((Rk.rk cur m : Int) = 0)) := by
      unfold Rc.opn
      simp only [Bool.true_and, Int.toNat_natCast]
      exact decide_eq_decide.2 (by omega)
    generalize (Rk.rk cur m : Int) = x at kr HV
    clear hk h1 h2 hs
    by_cases hx : x = 0
    · have HV2 : Hid (Rc.opn cur ⟨true, (m : Int)⟩ = true) := by rw [HV.out]; exact decide_eq_true hx
      subst hx
      go_enter Try.func74, Try.ntmps74
      go_wp2_with fail
      go_ret
      exact ⟨by rw [HV2.out]; rfl, HB.out⟩
    · have hq : (x == 0) = false := by simpa using hx
      have HV2 : Hid (Rc.opn cur ⟨true, (m : Int)⟩ = false) := by rw [HV.out]; exact decide_eq_false hx
      clear hx
      go_enter Try.func74, Try.ntmps74
      go_wp2_with fail
      go_ret
      exact ⟨by rw [HV2.out]; rfl, HB.out⟩

/-- What IndexFunc tells. -/
def Found (cur : Rk.Fs) (right : List Gr.Sy) (r : Int) : Prop := (r < 0 ∧ ∀ s ∈ right, Rc.opn cur s = false) ∨ ∃ j : Nat, r = (j : Int) ∧ ∃ h : j < right.length, Rc.opn cur right[j] = true
set_option maxRecDepth 100000 in
set_option maxHeartbeats 1000000 in
theorem indexf_any (t n s : Int) (A : Option Addr) (len c nons cf gg gl gf : Nat) (w0 : World) (cur : Rk.Fs) (Ax : Option Addr) (lx cx : Nat) (right : List Gr.Sy) (w : World) (B : Nat)
    (hk : ERel t n s A len c nons cf gg gl gf w0 cur w) (hl : lx = right.length) (hmax : lx ≤ 9223372036854775807) (hr : Rd w B Ax (syRow right)) (hB : B ≤ w.heap.size)
    (hs : ∀ x ∈ right, x.non = true → 0 ≤ x.n ∧ x.n < (nons : Int)) :
    Calls Try.prog 73 #[.slice Ax lx cx, .func (.func 74) #[] #[.pointer (some ⟨gl, 0, none⟩)]] w fun e w' => ∃ r : Int, e = .returned (.int .i64 r) ∧ Found cur right r ∧ Bl w w' := by
  have HL := Lib.hid hl; clear hl
  have HA := Lib.hid hr; clear hr
  have HK := Lib.hid hk; clear hk
  have HS := Lib.hid hs; clear hs
  go_enter Try.func73, Try.ntmps73
  go_wp2_with fail
  go_loopw [8] (fun i wr => ∃ k : Nat, k ≤ lx ∧ i = .int .i64 k ∧ Hid (∀ x ∈ right.take k, Rc.opn cur x = false) ∧ Hid (Bl w wr)) (fun i _ => lx - (intOf i).toNat)
  case atStart => exact ⟨0, Nat.zero_le _, rfl, by simp [Hid], Bl.refl w⟩
  case round =>
    obtain ⟨k, hk, rfl, HT, HB⟩ := hrel
    by_cases hlt : k < lx
    · have hj : k < right.length := by have := HL.out; omega
      obtain ⟨b, off, rfl, hbB, q0, q1⟩ := (HA.out.bl hB HB.out).sym hj
      have HGood := Lib.hid (all_snoc hj HT.out)
      have HSk := Lib.hid (HS.out _ (List.getElem_mem hj))
      have HF : Hid (Rc.opn cur right[k] = true → Found cur right (k : Int)) := fun h => .inr ⟨k, rfl, hj, h⟩
      have HC := Lib.hid (fun (hs : right[k].non = true → 0 ≤ right[k].n ∧ right[k].n < (nons : Int)) => opn_any t n s A len c nons cf gg gl gf w0 cur right[k].non right[k].n wr (HK.out.bl_ HB.out) hs)
      have HC := Lib.hid (HC.out HSk.out)
      have HE : Hid (Rc.opn cur ⟨right[k].non, right[k].n⟩ = Rc.opn cur right[k]) := rfl
      generalize right[k] = y at *
      obtain ⟨yb, yn⟩ := y
      simp only at q0 q1
      clear hj
      go_wp2_with fail
      refine HC.out.mono ?_
      rintro e w1 ⟨rfl, hb1⟩
      have HB1 := Lib.hid (HB.out.trans hb1); clear hb1 HC
      cases hv : Rc.opn cur ⟨yb, yn⟩ with
      | true =>
        have HX := Lib.hid (HF.out hv)
        clear hv
        go_wp2_with fail
        go_ret
        exact ⟨_, rfl, HX.out, HB1.out⟩
      | false =>
        have HX := Lib.hid (HGood.out hv)
        clear hv
        go_wp2_with fail
        go_roundw
        case rel => exact ⟨k + 1, by omega, by go_num, HX.out, HB1.out⟩
        case measure => simp [intOf]; omega
    · go_wp2_with fail
      go_ret
      refine ⟨-1, rfl, .inl ⟨by decide, ?_⟩, HB.out⟩
      have h := HT.out
      rw [List.take_of_length_le (by have := HL.out; omega)] at h
      exact h
end Go.Proofs.Ytbncgjccmadkbaa
