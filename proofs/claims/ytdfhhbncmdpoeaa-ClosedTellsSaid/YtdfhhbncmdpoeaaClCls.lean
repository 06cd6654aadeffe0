/- closed.Closed: are sets closed? -/
import Derived.Test.YtdfhhbncmdpoeaaClAll
namespace Go.Proofs.Ytdfhhbncmdpoeaa
open Go.RowKit

/-- Sets are closed. -/
def ClosedP (g : Gr.Gm) (xs : List Int) (L : List (List Ix)) : Prop := keepB g xs.length L = true ∧ AllIn g xs (L.length - 1) (putS (doneS L L.length 0))
theorem keepB_ok {g : Gr.Gm} {m : Nat} {L : List (List Ix)} (h : keepB g m L = true) : Gr.Ok g ∧ 0 < L.length ∧ L.length ≤ m + 1 ∧ ∀ a l, L[a]? = some l → ∀ x ∈ l, standB g.prods a x = true := by
  unfold keepB at h
  rw [Bool.and_eq_true, Bool.and_eq_true, decide_eq_true_eq] at h
  exact ⟨(okB_iff g).1 h.1.1, h.1.2.1, h.1.2.2, standsB_iff.1 h.2⟩
theorem kept_all {g : Gr.Gm} {m : Nat} {L : List (List Ix)} (h : keepB g m L = true) {s : St4} : s ∈ putS (doneS L L.length 0) ↔ ∃ l, L[s.1]? = some l ∧ s.2.ix ∈ l := by
  rw [mem_putS, mem_done]
  constructor
  · rintro ⟨l, hl, x, hx, e⟩
    obtain ⟨y, rfl, _, _⟩ := standB_iff.1 ((keepB_ok h).2.2.2 _ l hl x hx)
    rw [ix_im] at e
    exact ⟨l, hl, by rw [← e]; exact hx⟩
  · rintro ⟨l, hl, hx⟩
    exact ⟨l, hl, s.2.ix, hx, ix_im _⟩
theorem kept_fine {g : Gr.Gm} {m : Nat} {L : List (List Ix)} (h : keepB g m L = true) {s : St4} (hs : s ∈ putS (doneS L L.length 0)) : s.1 ≤ L.length - 1 ∧ imIn g s.2 ∧ s.2.frm ≤ s.1 := by
  obtain ⟨l, hl, hx⟩ := (kept_all h).1 hs
  obtain ⟨y, e, ⟨p, hp, hd⟩, hf⟩ := standB_iff.1 ((keepB_ok h).2.2.2 _ l hl _ hx)
  have e2 : s.2 = y := by have := congrArg Ix.im e; rwa [ix_im, ix_im] at this
  rw [e2]
  exact ⟨by have := Ch.lt_of_get hl; omega, ⟨p, hp, hd⟩, hf⟩
/-- What keep keeps. -/
theorem kept_env {G : Kg} {ps : List Gr.Pr} {L : List (List Ix)} {w w' : World} {B : Nat} {xs : List Int} {K : Kw} {V : Int × Nat → Value} {base : Nat} (hk : keepB ⟨G.t, G.n, G.s, ps⟩ xs.length L = true) (hL : L.length ≤ 100) (hM : ∀ l ∈ L, l.length ≤ 2000) (hlen : G.len = ps.length) (hr : Prs w B G.A ps) (hB : B ≤ w.heap.size) (hrw : Rd w B G.Aw (ins xs))
    (h : KeptR { G with lw := L.length - 1 } ⟨G.t, G.n, G.s, ps⟩ base K V (putS (doneS L L.length 0)) w') (hb : Bl w w') : ClE { G with lw := L.length - 1 } ps base K V (putS (doneS L L.length 0)) B xs w' where
  k := h
  len := hlen
  ok := (keepB_ok hk).1
  prs := hr.bl hB hb
  rw_ := hrw.bl hB hb
  lw := by have := (keepB_ok hk).2.2.1; show L.length - 1 ≤ xs.length; omega
  hB := Nat.le_trans hB hb.size
  atl := fun s hs => (kept_fine hk hs).1
  fine := fun s hs => ⟨by have := (kept_fine hk hs).1; omega, (kept_fine hk hs).2⟩
  few := by
    have h1 := putS_len (doneS L L.length 0)
    have h2 := doneS_len hM L.length 0
    have h3 : L.length * 2000 ≤ 100 * 2000 := Nat.mul_le_mul_right _ hL
    omega

theorem keepP_yes {G : Kg} {g : Gr.Gm} {m : Nat} {L : List (List Ix)} {w w' : World} {e : Ending} (hk : keepB g m L = true) (h : KeepP G g m L w e w') : ∃ K V, e = .returned (.tuple #[.pointer (some ⟨K.p, 0, none⟩), .bool true]) ∧ KeptR { G with lw := L.length - 1 } g w.heap.size K V (putS (doneS L L.length 0)) w' ∧ Bl w w' := by
  rcases h with ⟨_, h⟩ | ⟨h, _⟩
  · exact h
  · rw [hk] at h; cases h
theorem keepP_no {G : Kg} {g : Gr.Gm} {m : Nat} {L : List (List Ix)} {w w' : World} {e : Ending} (hk : keepB g m L = false) (h : KeepP G g m L w e w') : e = .returned (.tuple #[.pointer none, .bool false]) ∧ Bl w w' := by
  rcases h with ⟨h, _⟩ | ⟨_, h⟩
  · rw [hk] at h; cases h
  · exact h
set_option maxRecDepth 100000 in
set_option maxHeartbeats 2000000 in
theorem closed_any (t n s : Int) (A : Option Addr) (len c : Nat) (ps : List Gr.Pr) (Aw : Option Addr) (lw cw : Nat) (xs : List Int) (As : Option Addr) (ls cs : Nat) (L : List (List Ix)) (w : World) (B : Nat) (hlen : len = ps.length) (hmax : len ≤ 9223372036854775807) (hr : Prs w B A ps) (hlw : lw = xs.length) (hcw : lw ≤ cw) (hrw : Rd w B Aw (ins xs)) (hls : ls = L.length) (hL : L.length ≤ 100) (hM : ∀ l ∈ L, l.length ≤ 2000) (hs : SetsX w B As L) (hB : B ≤ w.heap.size) :
    Calls Try.prog 8 #[.agg #[.int .i64 t, .int .i64 n, .int .i64 s, .slice A len c], .slice Aw lw cw, .slice As ls cs] w fun e w' => ∃ b : Bool, e = .returned (.bool b) ∧ (b = true ↔ ClosedP ⟨t, n, s, ps⟩ xs L) ∧ Bl w w' := by
  have HB0 : Hid (Bl w (w.alloc (.cells #[.int .i64 t, .int .i64 n, .int .i64 s, .slice A len c] 24))) := (Bl.refl w).alloc _
  have HK0 := Lib.hid (Bk.new w 24 #[.int .i64 t, .int .i64 n, .int .i64 s, .slice A len c])
  have HKp : Hid (Calls Try.prog 16 #[.agg #[.int .i64 t, .int .i64 n, .int .i64 s, .slice A len c], .slice Aw lw cw, .slice As ls cs] (w.alloc (.cells #[.int .i64 t, .int .i64 n, .int .i64 s, .slice A len c] 24)) (KeepP ⟨t, n, s, A, len, c, Aw, lw, cw⟩ ⟨t, n, s, ps⟩ lw L (w.alloc (.cells #[.int .i64 t, .int .i64 n, .int .i64 s, .slice A len c] 24)))) := (keep_any ⟨t, n, s, A, len, c, Aw, lw, cw⟩ ps As ls cs L _ B hlen hmax (hr.bl hB HB0.out) hcw hls hL hM (hs.bl hB HB0.out) (Nat.le_trans hB HB0.out.size))
  have HPr := Lib.hid (hr.bl hB HB0.out)
  have HRw := Lib.hid (hrw.bl hB HB0.out)
  have HBs := Lib.hid (Nat.le_trans hB HB0.out.size)
  have HLn := Lib.hid hlen
  subst hlw
  clear hr hrw hs hlen hls
  go_enter Try.func8, Try.ntmps8
  have k0 := HK0.out.cell 0
  have k1 := HK0.out.cell 1
  have k2 := HK0.out.cell 2
  have k3 := HK0.out.cell 3
  cases hk : keepB ⟨t, n, s, ps⟩ xs.length L with
  | false =>
    have HQ : Hid (¬ ClosedP ⟨t, n, s, ps⟩ xs L) := fun h => by rw [h.1] at hk; cases hk
    go_wp2_with (go_at_call 16; (with_reducible refine HKp.out.mono ?_); rintro e w2 hp; obtain ⟨rfl, hb2⟩ := keepP_no hk hp; have HB2 := Lib.hid (HB0.out.trans hb2); clear hb2)
    go_ret
    exact ⟨false, rfl, ⟨fun h => (by cases h), fun h => (HQ.out h).elim⟩, HB2.out⟩
  | true =>
    have HKb := Lib.hid hk
    clear hk
    go_wp2_with (first
      | (go_at_call 16; (with_reducible refine HKp.out.mono ?_); rintro e w2 hp; obtain ⟨K, V, rfl, hk2, hb2⟩ := keepP_yes HKb.out hp; have HE := Lib.hid (kept_env HKb.out hL hM HLn.out HPr.out HBs.out HRw.out hk2 hb2); have HB2 := Lib.hid (HB0.out.trans hb2); have HCl : Hid (Calls Try.prog 17 #[.pointer (some ⟨K.p, 0, none⟩)] w2 fun e w' => ∃ b : Bool, e = .returned (.bool b) ∧ (b = true ↔ AllIn ⟨t, n, s, ps⟩ xs (L.length - 1) (putS (doneS L L.length 0))) ∧ Bl w2 w') := (kclosed_any _ _ _ _ _ _ _ _ _ HE.out); clear hk2 hb2)
      | (go_at_call 17; (with_reducible refine HCl.out.mono ?_); rintro e w3 ⟨b, rfl, hiff, hb3⟩; have HI := Lib.hid hiff; have HB3 := Lib.hid (HB2.out.trans hb3); clear hiff hb3))
    go_ret
    exact ⟨b, rfl, ⟨fun h => ⟨HKb.out, HI.out.1 h⟩, fun h => HI.out.2 h.2⟩, HB3.out⟩
end Go.Proofs.Ytdfhhbncmdpoeaa
