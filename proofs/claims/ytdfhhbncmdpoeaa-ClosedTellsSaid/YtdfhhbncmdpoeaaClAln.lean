/- closed.Alone: is a derivation alone in sets? -/
import Derived.Test.YtdfhhbncmdpoeaaClFnd
import Derived.Test.YtdfhhbncmdpoeaaClEq
import Derived.Test.YtdfhhbncmdpoeaaTreeB
namespace Go.Proofs.Ytdfhhbncmdpoeaa
open Go.RowKit

/-- A derivation is alone in sets. -/
def AloneP (g : Gr.Gm) (xs : List Int) (L : List (List Ix)) (l : List Int) : Prop :=
  L.length = xs.length + 1 ∧ Dv.replayOf (okB g) g l = (xs, 0) ∧ ClosedP g xs L ∧ ∀ nd, Dv.NodesOf g.prods g.start l nd → ¬ OthersP g (putS (doneS L L.length 0)) nd
theorem nds_of {g : Gr.Gm} {l xs : List Int} (h : Dv.replayOf (okB g) g l = (xs, 0)) : ∃ (m : List Nat) (nds : List Al.No) (pl : List Nat), l = Dv.ints m ∧ Al.Nd g.prods xs m [⟨true, g.start⟩] 0 xs.length nds pl := by
  have h0 : (Dv.replayOf (okB g) g l).2 = 0 := by rw [h]
  obtain ⟨hk, hl, _⟩ := Dv.replay_ok h0
  rw [hk, Dv.replay_play hl] at h
  exact Dv.nodes_of h
theorem nodes_one {ps : List Gr.Pr} {s : Int} {l xs : List Int} {m : List Nat} {nds : List Al.No} {pl : List Nat} (hl : l = Dv.ints m) (hd : Al.Nd ps xs m [⟨true, s⟩] 0 xs.length nds pl) {a b : List (Int × List Int)} (h1 : Dv.NodesOf ps s l a) (h2 : Dv.NodesOf ps s l b) : a = b := by
  rw [h1 m xs _ nds pl hl hd, h2 m xs _ nds pl hl hd]
theorem nds_ok {ps : List Gr.Pr} {s : Int} {l xs : List Int} {m : List Nat} {nds : List Al.No} {pl : List Nat} (hl : l = Dv.ints m) (hd : Al.Nd ps xs m [⟨true, s⟩] 0 xs.length nds pl) (hx : xs.length ≤ 1000) {nd : List (Int × List Int)} (h : Dv.NodesOf ps s l nd) : NdsOk ps nd := by
  rw [h m xs _ nds pl hl hd]
  intro x hx2
  obtain ⟨y, hy, rfl⟩ := List.mem_map.1 hx2
  obtain ⟨p, pre, lx, post, nsx, hp, _, hn, _⟩ := hd.within y hy
  refine ⟨y.prod, y.at_ ++ [y.stop], rfl, Ch.lt_of_get hp, ?_, fun e he => ?_⟩
  · rw [List.length_append, hn.places.1, List.length_singleton]
    rw [List.getElem?_eq_getElem (Ch.lt_of_get hp)] at hp
    injection hp with hp
    rw [hp]
  · have := hd.bound_no (Nat.le_refl _) y hy e he
    omega
set_option maxRecDepth 100000 in
set_option maxHeartbeats 4000000 in
theorem alone_any (t n s : Int) (A : Option Addr) (len c : Nat) (ps : List Gr.Pr) (Aw : Option Addr) (lw cw : Nat) (xs : List Int) (As : Option Addr) (ls cs : Nat) (L : List (List Ix)) (Al : Option Addr) (ll cl : Nat) (l : List Int) (w : World) (B : Nat) (hlen : len = ps.length) (hmax : len ≤ 9223372036854775807) (hr : PrsC w B A ps) (hlw : lw = xs.length) (hcw : lw ≤ cw) (hrw : Rd w B Aw (ins xs)) (hls : ls = L.length) (hL : L.length ≤ 100) (hM : ∀ l ∈ L, l.length ≤ 2000) (hs : SetsX w B As L)
    (hll : ll = l.length) (hml : ll ≤ 9223372036854775806) (hrl : Rd w B Al (ins l)) (hB : B ≤ w.heap.size) (hmw : lw ≤ 9223372036854775806) :
    Calls Try.prog 10 #[.agg #[.int .i64 t, .int .i64 n, .int .i64 s, .slice A len c], .slice Aw lw cw, .slice As ls cs, .slice Al ll cl] w fun e w' => ∃ b : Bool, e = .returned (.bool b) ∧ (b = true ↔ AloneP ⟨t, n, s, ps⟩ xs L l) ∧ Bl w w' := by
  have HB0 : Hid (Bl w (w.alloc (.cells #[.int .i64 t, .int .i64 n, .int .i64 s, .slice A len c] 24))) := (Bl.refl w).alloc _
  have HK0 := Lib.hid (Bk.new w 24 #[.int .i64 t, .int .i64 n, .int .i64 s, .slice A len c])
  have HRp := Lib.hid (fun (wx : World) (hb : Bl w wx) => replay_any t n s A len c ps Al ll cl l wx B hlen hmax (hr.bl hB hb) (Nat.le_trans hB hb.size) hll hml (hrl.bl hB hb))
  have HNd := Lib.hid (fun (wx : World) (hb : Bl w wx) => nodes_any t n s A len c ps Al ll cl l wx B hlen hmax (hr.bl hB hb) (Nat.le_trans hB hb.size) hll hml (hrl.bl hB hb))
  have HKp : Hid (∀ wx, Bl w wx → Calls Try.prog 16 #[.agg #[.int .i64 t, .int .i64 n, .int .i64 s, .slice A len c], .slice Aw lw cw, .slice As ls cs] wx (KeepP ⟨t, n, s, A, len, c, Aw, lw, cw⟩ ⟨t, n, s, ps⟩ lw L wx)) := fun wx hb => (keep_any ⟨t, n, s, A, len, c, Aw, lw, cw⟩ ps As ls cs L _ B hlen hmax (hr.prs.bl hB hb) hcw hls hL hM (hs.bl hB hb) (Nat.le_trans hB hb.size))
  have HPr := Lib.hid (fun (wx : World) (hb : Bl w wx) => hr.prs.bl hB hb)
  have HRw := Lib.hid (fun (wx : World) (hb : Bl w wx) => hrw.bl hB hb)
  have HBs := Lib.hid hB
  have HLn := Lib.hid hlen
  have HLs := Lib.hid hls
  have HLw := Lib.hid hlw
  clear hr hrw hs hlen hls hlw hll hml hrl hB
  by_cases hlq : ls = lw + 1
  · have q1 : ((ls : Int) != (lw : Int) + 1) = false := by rw [bne_eq_false_iff_eq]; omega
    have HLq := Lib.hid hlq
    clear hlq
    have HAs : Hid (∀ l ∈ L, l.length ≤ 2000) := hM
    go_enter Try.func10, Try.ntmps10
    go_upto_region 4 with (go_at_call 22; (with_reducible refine (HRp.out _ HB0.out).mono ?_); rintro e w1 ⟨A1, n1, c1, rfl, hn1, hrd1, hb1⟩; have HN1 := Lib.hid hn1; have HR1 := Lib.hid (Rd.own hrd1); have HB1 := Lib.hid (HB0.out.trans hb1); have HK1 := Lib.hid (HK0.out.bl hb1); clear hn1 hrd1 hb1)
    obtain ⟨x, hx⟩ : ∃ x, x = Dv.replayOf (okB ⟨t, n, s, ps⟩) ⟨t, n, s, ps⟩ l := ⟨_, rfl⟩
    have HX := Lib.hid hx
    rw [← hx] at HN1 HR1 HNd ⊢
    clear hx HRp
    obtain ⟨v, x⟩ := x
    simp only at HN1 HR1 HNd
    rcases Nat.eq_zero_or_pos x with hx0 | hx0
    · subst hx0
      have HEq := Lib.hid (iequal_any A1 Aw n1 lw c1 cw v xs w1 w1.heap.size HN1.out HLw.out (by omega) HR1.out ((HRw.out _ HB1.out).more (Nat.le_trans HBs.out HB1.out.size)))
      by_cases hv : v = xs
      · rw [decide_eq_true hv] at HEq
        have HV := Lib.hid hv
        clear hv
        go_upto_region 6 with (go_at_call 23; (with_reducible refine HEq.out.mono ?_); rintro e w2 ⟨rfl, q2, rfl⟩; have HB2 := Lib.hid (HB1.out.trans ((Bl.refl w1).drewN q2)); have HK2 := Lib.hid (HK1.out.drewN q2))
        clear HEq
        generalize w1.drewN q2 = w2 at *
        have HPr2 := Lib.hid (HPr.out _ HB2.out)
        have HRw2 := Lib.hid (HRw.out _ HB2.out)
        have hb9 : B ≤ w2.heap.size := Nat.le_trans HBs.out HB2.out.size
        have HBs2 := Lib.hid hb9
        clear hb9
        have k0 : w2.cell? ⟨w.heap.size, 0, none⟩ = some (.int .i64 t) := HK2.out.cell 0
        have k1 : w2.cell? ⟨w.heap.size, 1, none⟩ = some (.int .i64 n) := HK2.out.cell 1
        have k2 : w2.cell? ⟨w.heap.size, 2, none⟩ = some (.int .i64 s) := HK2.out.cell 2
        have k3 : w2.cell? ⟨w.heap.size, 3, none⟩ = some (.slice A len c) := HK2.out.cell 3
        have kl := HK2.out.lt
        cases hk : keepB ⟨t, n, s, ps⟩ lw L with
        | false =>
          have HQ : Hid (¬ AloneP ⟨t, n, s, ps⟩ xs L l) := fun h => by rw [HLw.out, h.2.2.1.1] at hk; cases hk
          go_wp2_with (go_at_call 16; (with_reducible refine (HKp.out _ HB2.out).mono ?_); rintro e w3 hp; obtain ⟨rfl, hb2⟩ := keepP_no hk hp; have HB3 := Lib.hid (HB2.out.trans hb2); clear hb2)
          go_ret
          exact ⟨false, rfl, ⟨fun h => (by cases h), fun h => (HQ.out h).elim⟩, HB3.out⟩
        | true =>
          have HKb := Lib.hid hk
          clear hk
          go_upto_region 9 with (first
            | (go_at_call 16; (with_reducible refine (HKp.out _ HB2.out).mono ?_); rintro e w3 hp; obtain ⟨K, V, rfl, hk2, hb2⟩ := keepP_yes HKb.out hp; have HE := Lib.hid (kept_env (G := ⟨t, n, s, A, len, c, Aw, lw, cw⟩) (xs := xs) (by rw [← HLw.out]; exact HKb.out) hL hM HLn.out HPr2.out HBs2.out HRw2.out hk2 hb2); have HB3 := Lib.hid (HB2.out.trans hb2); have HK3 := Lib.hid (HK2.out.bl hb2); have HCl : Hid (Calls Try.prog 17 #[.pointer (some ⟨K.p, 0, none⟩)] w3 fun e w' => ∃ b : Bool, e = .returned (.bool b) ∧ (b = true ↔ AllIn ⟨t, n, s, ps⟩ xs (L.length - 1) (putS (doneS L L.length 0))) ∧ Bl w3 w') := (kclosed_any _ _ _ _ _ _ _ _ _ HE.out); clear hk2 hb2 k0 k1 k2 k3 kl)
            | (go_at_call 17; (with_reducible refine HCl.out.mono ?_); rintro e w4 ⟨b, rfl, hiff, hb3⟩; have HI := Lib.hid hiff; have HB4 := Lib.hid (HB3.out.trans hb3); have HK4 := Lib.hid (HK3.out.bl hb3); have HE4 := Lib.hid (HE.out.bl hb3); clear hiff hb3))
          · go_ret
            refine ⟨false, rfl, ⟨fun h => (by cases h), fun h => ?_⟩, HB4.out⟩
            have h1 := HI.out.2 h.2.2.1.2
            simp_all
          · have hb4 : b = true := by cases b <;> simp_all
            subst hb4
            obtain ⟨m, nds, pl, hl, hd⟩ := nds_of (HX.out.symm.trans (by rw [HV.out]))
            have HNo := Lib.hid (fun nd h => nds_ok (nd := nd) hl hd (by have h1 := HLs.out; have h2 := HLq.out; have h3 := HLw.out; omega) h)
            have HOne := Lib.hid (fun (a b : List (Int × List Int)) h1 h2 => nodes_one (a := a) (b := b) hl hd h1 h2)
            clear hl hd
            have k0 : w4.cell? ⟨w.heap.size, 0, none⟩ = some (.int .i64 t) := HK4.out.cell 0
            have k1 : w4.cell? ⟨w.heap.size, 1, none⟩ = some (.int .i64 n) := HK4.out.cell 1
            have k2 : w4.cell? ⟨w.heap.size, 2, none⟩ = some (.int .i64 s) := HK4.out.cell 2
            have k3 : w4.cell? ⟨w.heap.size, 3, none⟩ = some (.slice A len c) := HK4.out.cell 3
            have kl := HK4.out.lt
            go_upto_region 10 with (go_at_call 24; (with_reducible refine (HNd.out _ HB4.out).mono ?_); rintro e w5 ⟨nd, _, hnd, hn2, A5, n5, c5, rfl, hn5, hrd5, hb5⟩; have HOf := Lib.hid (hnd (by trivial)); have HB5 := Lib.hid (HB4.out.trans hb5); have HE5 := Lib.hid (HE4.out.bl hb5); have HOt := Lib.hid (others_any _ _ _ _ _ _ _ _ A5 n5 c5 nd _ w5 HE5.out (HNo.out nd HOf.out) hn5 (by omega) hrd5 (Nat.le_refl _)); clear hnd hn2 hn5 hrd5 hb5 k0 k1 k2 k3 kl)
            go_wp2_with (go_at_call 25; (with_reducible refine HOt.out.mono ?_); rintro e w6 ⟨b6, rfl, hiff, hb6⟩; have HI6 := Lib.hid hiff; have HB6 := Lib.hid (HB5.out.trans hb6); clear hiff hb6)
            go_ret
            refine ⟨!b6, rfl, ⟨fun h => ⟨?_, HX.out.symm.trans (by rw [HV.out]), ⟨?_, HI.out.1 (by trivial)⟩, fun nd2 h2 h3 => ?_⟩, fun h => ?_⟩, HB6.out⟩
            · have h1 := HLs.out; have h2 := HLq.out; have h3 := HLw.out; omega
            · rw [← HLw.out]; exact HKb.out
            · rw [HOne.out nd2 nd h2 HOf.out] at h3
              have := HI6.out.2 h3
              simp_all
            · cases b6 with
              | false => rfl
              | true => exact (h.2.2.2 nd HOf.out (HI6.out.1 rfl)).elim
      · rw [decide_eq_false hv] at HEq
        have HV := Lib.hid hv
        clear hv
        go_wp2_with (go_at_call 23; (with_reducible refine HEq.out.mono ?_); rintro e w2 ⟨rfl, q2, rfl⟩; have HB2 := Lib.hid (HB1.out.trans ((Bl.refl _).drewN q2)))
        go_ret
        refine ⟨false, rfl, ⟨fun h => (by cases h), fun h => (HV.out ?_).elim⟩, HB2.out⟩
        have h1 := HX.out.trans h.2.1
        injection h1
    · have q2 : ((x : Int) != 0) = true := by rw [bne_iff_ne]; omega
      go_wp2_with fail
      go_ret
      refine ⟨false, rfl, ⟨fun h => (by cases h), fun h => absurd hx0 ?_⟩, HB1.out⟩
      have h1 := HX.out.trans h.2.1
      injection h1 with _ h2
      omega
  · have q1 : ((ls : Int) != (lw : Int) + 1) = true := by rw [bne_iff_ne]; omega
    have HLq := Lib.hid hlq
    clear hlq
    go_enter Try.func10, Try.ntmps10
    go_wp2_with fail
    go_ret
    refine ⟨false, rfl, ⟨fun h => (by cases h), fun h => (HLq.out ?_).elim⟩, HB0.out⟩
    have h1 := h.1
    have h2 := HLs.out
    have h3 := HLw.out
    omega
end Go.Proofs.Ytdfhhbncmdpoeaa
