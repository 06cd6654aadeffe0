/- SpanOver: of just those nonterminals a word comes that begins with this one, of which the row says so. -/
import Derived.Test.YthfhnjoeippenaaSpTells
import Derived.Test.YthfhnjoeippenaaSpOvM
namespace Go.Proofs.Ythfhnjoeippenaa
open Go.RowKit

theorem own_emptyA (w : World) (o : Obj) (base : Nat) (e : TypeId) (h : base ≤ w.heap.size) : ((w.alloc o).alloc (.cells #[] e)).ownsRow base e 1 (.slice (some ⟨w.heap.size + 1, 0, none⟩) 0 0) 0 [] := by
  have h1 := own_empty (w.alloc o) base e (by rw [World.size_alloc]; omega)
  rwa [World.size_alloc] at h1
theorem ins_oneV (l : List Int) : ∀ u ∈ ins l, u.oneCell' = true := by
  intro u hu
  unfold ins at hu
  obtain ⟨x, _, rfl⟩ := List.mem_map.1 hu
  rfl
theorem rd_block {w : World} {t g : Nat} {x : Int} (h : Bk w g t #[.int .i64 x]) : Rd w w.heap.size (some ⟨g, 0, none⟩) (ins [x]) := fun _ => ⟨g, 0, rfl, h.lt, fun j u hu => by
  rw [h.cell, Nat.zero_add]
  cases j with
  | zero => exact hu
  | succ j => exact absurd hu (by simp [ins])⟩
theorem Rd.ins_take {w : World} {B : Nat} {A : Option Addr} {l : List Int} (h : Rd w B A (ins l)) (k : Nat) : Rd w B A (ins (l.take k)) := by
  have h1 := h.take k
  unfold ins at h1 ⊢
  rwa [List.map_take]
/-- Does one of the first j tokens go on? -/
noncomputable def orT (g : Gr.Gm) (u : List Int) (m : Nat) : Nat → Bool
  | 0 => false
  | j + 1 => orT g u m j || (Sp.rowN g (u ++ [(j : Int)]) 24).testBit m
theorem orT_yes {g : Gr.Gm} {u : List Int} {m t : Nat} : ∀ {j : Nat}, t < j → (Sp.rowN g (u ++ [(t : Int)]) 24).testBit m = true → orT g u m j = true
  | 0, h, _ => absurd h (by omega)
  | j + 1, h, hb => by
    unfold orT
    by_cases e : t = j
    · subst e; rw [hb, Bool.or_true]
    · rw [orT_yes (j := j) (by omega) hb]; rfl

theorem fit_snoc {g : Gr.Gm} {u : List Int} {x : Int} (h : fitB g u = true) (h0 : 0 ≤ x) (h1 : x < g.terms) (hl : u.length + 1 ≤ 24) : fitB g (u ++ [x]) = true := by
  obtain ⟨h2, h3⟩ := fitB_iff.mp h
  obtain ⟨h4, h5⟩ := (Wd.fits_iff _ _).1 h3
  obtain ⟨h6, h7⟩ := (Wd.okW_iff u).1 h4
  have ht := (fit_good h).1.2.1
  refine fitB_iff.mpr ⟨h2, (Wd.fits_iff _ _).2 ⟨(Wd.okW_iff _).2 ⟨by rw [List.length_append]; simpa using hl, fun y hy => ?_⟩, fun y hy => ?_⟩⟩
  · rcases List.mem_append.mp hy with hy | hy
    · exact h7 y hy
    · rw [List.mem_singleton] at hy; subst hy; omega
  · rcases List.mem_append.mp hy with hy | hy
    · exact h5 y hy
    · rw [List.mem_singleton] at hy; subst hy; exact h1
theorem ins_snoc {w : World} {B : Nat} {A : Option Addr} {u : List Int} {x : Int} (h : Rd w B A (ins u ++ ins [x])) : Rd w B A (ins (u ++ [x])) := by
  have e : ins (u ++ [x]) = ins u ++ ins [x] := by unfold ins; rw [List.map_append]
  rw [e]; exact h

set_option maxRecDepth 100000 in
set_option maxHeartbeats 16000000 in
theorem spanOver_any (t n s : Int) (A : Option Addr) (len c : Nat) (ps : List Gr.Pr) (Al : Option Addr) (ll cl : Nat) (xs : List Int) (v : Nat) (W : World) (hlen : len = ps.length) (hmax : len ≤ 9223372036854775807) (hr : PrsC W W.heap.size A ps)
    (hll : ll = xs.length) (hrl : Rd W W.heap.size Al (ins xs)) (hcl : ll ≤ cl) (hml : ll ≤ 9223372036854775807) (hv : v < 256) :
    Calls Try.prog 5 #[.agg #[.int .i64 t, .int .i64 n, .int .i64 s, .slice A len c], .slice Al ll cl, .int .u8 (v : Int)] W fun e w' => e = .returned (.bool true) ∧ Bl W w' := by
  have HB0 : Hid (Bl W (W.alloc (.cells #[.int .i64 t, .int .i64 n, .int .i64 s, .slice A len c] 24))) := (Bl.refl W).alloc _
  have HK0 := Lib.hid (Bk.new W 24 #[.int .i64 t, .int .i64 n, .int .i64 s, .slice A len c])
  have HL := Lib.hid hlen
  have HLL := Lib.hid hll
  have HPc : Hid (∀ w', Bl W w' → PrsC w' w'.heap.size A ps) := fun _ hb => prsC_up hr hb
  have HXc : Hid (∀ w', Bl W w' → Rd w' w'.heap.size Al (ins xs)) := fun _ hb => rd_up hrl hb
  clear hlen hll hr hrl
  go_enter Try.func5, Try.ntmps5
  go_wp2_with fail
  refine (awake16_any _).mono ?_
  rintro e w1 ⟨rfl, hb1⟩
  have HB1 := Lib.hid (HB0.out.trans hb1)
  have HK1 := Lib.hid (HK0.out.bl hb1)
  clear hb1 HB0 HK0
  have k0 : w1.cell? ⟨W.heap.size, 0, none⟩ = some (.int .i64 t) := HK1.out.cell 0
  have k1 : w1.cell? ⟨W.heap.size, 1, none⟩ = some (.int .i64 n) := HK1.out.cell 1
  have k2 : w1.cell? ⟨W.heap.size, 2, none⟩ = some (.int .i64 s) := HK1.out.cell 2
  have k3 : w1.cell? ⟨W.heap.size, 3, none⟩ = some (.slice A len c) := HK1.out.cell 3
  have kl := HK1.out.lt
  go_wp2_with fail
  refine (large16_any t n s A len c ps Al ll cl w1 w1.heap.size HL.out hmax hml (HPc.out w1 HB1.out).prs (Nat.le_refl _)).mono ?_
  rintro e w2 ⟨rfl, hb2⟩
  have HB2 := Lib.hid (HB1.out.trans hb2)
  have HK2 := Lib.hid (HK1.out.bl hb2)
  clear hb2 HB1 HK1 k0 k1 k2 k3 kl
  cases hl : lg16 ps ll with
  | true =>
    go_wp2_with fail
    go_ret
    exact ⟨rfl, HB2.out⟩
  | false =>
  clear hl
  have k0 : w2.cell? ⟨W.heap.size, 0, none⟩ = some (.int .i64 t) := HK2.out.cell 0
  have k1 : w2.cell? ⟨W.heap.size, 1, none⟩ = some (.int .i64 n) := HK2.out.cell 1
  have k2 : w2.cell? ⟨W.heap.size, 2, none⟩ = some (.int .i64 s) := HK2.out.cell 2
  have k3 : w2.cell? ⟨W.heap.size, 3, none⟩ = some (.slice A len c) := HK2.out.cell 3
  have kl := HK2.out.lt
  go_wp2_with fail
  refine (rfit_any t n s A len c ps Al ll cl xs w2 w2.heap.size HL.out hmax (HPc.out w2 HB2.out).prs HLL.out hml (HXc.out w2 HB2.out) (Nat.le_refl _)).mono ?_
  rintro e w3 ⟨rfl, hb3⟩
  have HB3 := Lib.hid (HB2.out.trans hb3)
  have HK3 := Lib.hid (HK2.out.bl hb3)
  clear hb3 HB2 HK2 k0 k1 k2 k3 kl
  cases hf : fitB ⟨t, n, s, ps⟩ xs with
  | false =>
    go_wp2_with fail
    go_ret
    exact ⟨rfl, HB3.out⟩
  | true =>
  obtain ⟨hok, hvv, h24⟩ := fit_good hf
  have hl24 : ll ≤ 24 := by have := HLL.out; omega
  have HF := Lib.hid hf
  have HOk := Lib.hid hok
  have hn1 := hok.2.2.1
  have hn24 := hok.2.2.2.1
  have ht0 := hok.1
  have ht16 := hok.2.1
  simp only at hn1 hn24 ht0 ht16
  obtain ⟨N, rfl⟩ : ∃ N : Nat, n = (N : Int) := ⟨n.toNat, by omega⟩
  obtain ⟨tN, rfl⟩ : ∃ tN : Nat, t = (tN : Int) := ⟨t.toNat, by omega⟩
  clear hf hok hvv h24
  have k0 : w3.cell? ⟨W.heap.size, 0, none⟩ = some (.int .i64 (tN : Int)) := HK3.out.cell 0
  have k1 : w3.cell? ⟨W.heap.size, 1, none⟩ = some (.int .i64 (N : Int)) := HK3.out.cell 1
  have k2 : w3.cell? ⟨W.heap.size, 2, none⟩ = some (.int .i64 s) := HK3.out.cell 2
  have k3 : w3.cell? ⟨W.heap.size, 3, none⟩ = some (.slice A len c) := HK3.out.cell 3
  have kl := HK3.out.lt
  go_wp2_with fail
  refine (spans_any (tN : Int) (N : Int) s A len c ps Al ll cl xs w3 w3.heap.size HL.out ((okB_iff _).2 HOk.out) (HPc.out w3 HB3.out).prs HLL.out (by omega) (HXc.out w3 HB3.out) (Nat.le_refl _)).mono ?_
  intro e w4 hS
  obtain ⟨bo, co, B4, rows, T, he, hrows, htab, hsnd, hcls, hb4⟩ := hS.lit (N := N) (m := ll + 1) rfl (by rw [HLL.out]) (by omega)
  subst he
  have HT4 := Lib.hid htab
  have HSnd := Lib.hid hsnd
  have HRl := Lib.hid hrows
  have HB4 := Lib.hid (HB3.out.trans hb4)
  have HK4 := Lib.hid (HK3.out.bl hb4)
  clear hS htab hsnd hcls hrows hb4 HB3 HK3 k0 k1 k2 k3 kl
  obtain ⟨k, hk⟩ : ∃ k : Nat, k = v % (ll + 1) := ⟨_, rfl⟩
  have hkl : k ≤ ll := by have := Nat.mod_lt v (show 0 < ll + 1 by omega); omega
  have hrem : Int.tmod (v : Int) ((ll : Int) + 1) = (k : Int) := by rw [hk, Int.tmod_eq_emod_of_nonneg (by omega)]; rfl
  have hrem2 : (v : Int) % ((ll : Int) + 1) = (k : Int) := by rw [hk]; rfl
  clear hk
  have q2 : ¬ ((ll : Int) + 1 = 0) := by omega
  have hsl := fun (wx : World) => run_slice_head (P := Try.prog) (t := 25) (e := 3) (size := 1) Try.underlying25 int_size Al ll cl k (k : Int) rfl (by omega) wx
  have htl : (xs.take k).length = k := by rw [List.length_take, ← HLL.out]; omega
  have HTl := Lib.hid htl
  have HFt : Hid (fitB ⟨(tN : Int), (N : Int), s, ps⟩ (xs.take k) = true) := fitB_sub HF.out (fun x hx => List.mem_of_mem_take hx) (by rw [List.length_take]; omega)
  clear htl
  obtain ⟨i0, hi, hz0, hz1, hz2⟩ := info_parts word_int_info
  have tk1 : True := trivial
  have HKc := Lib.hid HK4.out
  go_wp2_with fail
  go_region_held3 (fun w' => w'.cell? ⟨W.heap.size, 0, none⟩ = some (.int .i64 (tN : Int)) ∧ w'.cell? ⟨W.heap.size, 1, none⟩ = some (.int .i64 (N : Int)) ∧ w'.cell? ⟨W.heap.size, 2, none⟩ = some (.int .i64 s) ∧ w'.cell? ⟨W.heap.size, 3, none⟩ = some (.slice A len c)) (first | with_reducible exact gcells HKc.out | with_reducible exact gcells HKc.out.drew) (first
    | (go_at_call 10; have _t := tk1; ((with_reducible refine (sprows_any (tN : Int) (N : Int) s A len c ps Al k cl (xs.take k) _ w4.heap.size HL.out hmax (prsC_drewS (HPc.out w4 HB4.out)) HTl.out.symm (by omega) (by omega) (rd_drewS ((HXc.out w4 HB4.out).ins_take k)) (Nat.le_refl _)).mono ?_); intro e w5 hp5; obtain ⟨b1, he, _, hn5, hb5⟩ := hp5.lit (m := k + 1) HFt.out (by rw [HTl.out]); subst he; have HN5 := Lib.hid hn5; have HB45 := Lib.hid (Bl.undrew hb5); have HKc := Lib.hid (HKc.out.bl HB45.out); clear hp5 hn5 hb5; clear tk1)))
  have HB5 := Lib.hid (HB4.out.trans HB45.out)
  have HK5 := Lib.hid HKc.out
  have HT5 := Lib.hid (HT4.out.bl_ HB45.out)
  clear HKc HB45 HT4 HK4 HB4
  have k1 : w5.cell? ⟨W.heap.size, 1, none⟩ = some (.int .i64 (N : Int)) := HK5.out.cell 1
  have kl := HK5.out.lt
  have q3 : (((k : Int) + 1) != ((k : Int) + 1)) = false := by simp
  go_wp2_with fail
  go_loopw [46] (fun i wr => ∃ m : Nat, m ≤ N ∧ i = .int .i64 m ∧ Hid (Bl w5 wr)) (fun i _ => N - (intOf i).toNat)
  case atStart => exact ⟨0, Nat.zero_le _, rfl, Bl.refl _⟩
  case round =>
    obtain ⟨m, hm, rfl, HBr⟩ := hrel
    by_cases hlm : m < N
    · obtain ⟨r1, cr1, g1, z1, z2, z3, z4, z5, z6⟩ := (HT5.out.bl_ HBr.out).peek (n := m) (a := 0) (b := ll) HRl.out hlm (by omega) (by omega)
      obtain ⟨r2, cr2, g2, y1, y2, y3, y4, y5, y6⟩ := (HT5.out.bl_ HBr.out).peek (n := m) (a := 0) (b := k) HRl.out hlm (by omega) (by omega)
      have hz := z2.symm.trans y2
      injection hz with hz
      injection hz with hz _ _
      injection hz with hz
      injection hz with hz _ _
      subst hz
      have hz := z4.symm.trans y4
      injection hz with hz
      injection hz with hz _ _
      injection hz with hz
      injection hz with hz _ _
      subst hz
      clear y1 y2 y3 y4 y5
      have HNr := Lib.hid (HN5.out.bl HBr.out)
      have HKr := Lib.hid (HK5.out.bl HBr.out)
      have co : wr.cell? ⟨b1, 24, none⟩ = some (.int .u32 (Sp.rowN ⟨(tN : Int), (N : Int), s, ps⟩ (xs.take k) 24 : Int)) := by
        rw [HNr.out.cell (i := 24) (by omega)]; exact congrArg (fun n : Nat => some (Value.int .u32 (n : Int))) (allN_at _ (xs.take k) (a := 0) (i := 24) (by decide))
      have ce : wr.cell? ⟨b1, m, none⟩ = some (.int .u32 (Sp.rowN ⟨(tN : Int), (N : Int), s, ps⟩ (xs.take k) m : Int)) := by
        rw [HNr.out.cell (i := m) (by omega)]
        have h := allN_at ⟨(tN : Int), (N : Int), s, ps⟩ (xs.take k) (a := 0) (i := m) (by omega)
        rw [Nat.mul_zero, Nat.zero_add] at h
        rw [h]; rfl
      have hgl := HNr.out.lt
      have HW1 := Lib.hid (fun h => Sp.over_whole HOk.out HSnd.out (n := m) h k)
      have HW2 := Lib.hid (fun h => Sp.over_end HSnd.out (show xs.length ≤ 24 by have := HLL.out; omega) (n := m) (k := k) (by omega) (by have := HLL.out; omega) h)
      have HNx := Lib.hid (fun h1 h2 => Sp.over_next HOk.out (u := xs.take k) (n := m) (by omega) (by rw [HTl.out]; omega) h1 h2)
      rw [HTl.out] at HNx
      rw [← HLL.out] at HW1
      have ho32 := Sp.rowN_lt ⟨(tN : Int), (N : Int), s, ps⟩ (xs.take k) 24
      have he32 := Sp.rowN_lt ⟨(tN : Int), (N : Int), s, ps⟩ (xs.take k) m
      generalize Sp.rowN ⟨(tN : Int), (N : Int), s, ps⟩ (xs.take k) 24 = o at *
      generalize Sp.rowN ⟨(tN : Int), (N : Int), s, ps⟩ (xs.take k) m = e at *
      have ho0 := bit_zero o m ho32
      have he0 := bit_zero e k he32
      have he1 := bit_one e k he32
      have hm32 : min m 32 = m := by omega
      have hk32 : min k 32 = k := by omega
      have i1 : (m : Int) < (N : Int) := by omega
      have i2 : (0 : Int) ≤ (m : Int) := by omega
      have i3 : (m : Int) < 24 := by omega
      have i4 : (ll : Int) < (ll : Int) + 1 := by omega
      have i5 : (k : Int) < (ll : Int) + 1 := by omega
      have i6 : (0 : Int) ≤ (k : Int) := by omega
      have i7 : (0 : Int) < (ll : Int) + 1 := by omega
      have i8 : (0 : Int) < (k : Int) + 1 := by omega
      clear ho32 he32
      generalize hob : o.testBit m = ob at *
      generalize heb : e.testBit k = eb at *
      clear hob heb
      generalize hp1 : T m 0 ll = p1 at *
      generalize hp2 : T m 0 k = p2 at *
      clear hp1 hp2
      have key : (p1 = true → ob = true) ∧ (p2 = true → eb = true) := ⟨HW1.out, HW2.out⟩
      clear HW1 HW2
      cases ob with
      | false =>
        obtain rfl : p1 = false := by
          cases p1 with
          | false => rfl
          | true => exact absurd (key.1 rfl) (by decide)
        cases p2 with
        | false =>
          clear key
          go_wp2_with fail
          go_roundw
          case rel => exact ⟨m + 1, by omega, by go_num, HBr.out⟩
          case measure => simp [intOf]; omega
        | true =>
          obtain rfl : eb = true := key.2 rfl
          clear key
          go_wp2_with fail
          go_roundw
          case rel => exact ⟨m + 1, by omega, by go_num, HBr.out⟩
          case measure => simp [intOf]; omega
      | true =>
        have HEnd : Hid ((eb || orT ⟨(tN : Int), (N : Int), s, ps⟩ (xs.take k) m tN) = true) := by
          unfold Hid
          cases h : eb with
          | true => rfl
          | false =>
            obtain ⟨t', ht', hb'⟩ := HNx.out rfl h
            have ht'' : (t' : Int) < (tN : Int) := ht'
            rw [orT_yes (t := t') (j := tN) (by omega) hb']; rfl
        clear HNx
        obtain ⟨eb', heb'⟩ : ∃ eb', eb' = eb := ⟨_, rfl⟩
        have HEb := Lib.hid heb'
        rw [← heb'] at HEnd
        have ho0' : (bits .and .u32 ((o : Int) / 2 ^ m) 1 == 0) = false := ho0
        have t0 : wr.cell? ⟨W.heap.size, 0, none⟩ = some (.int .i64 (tN : Int)) := HKr.out.cell 0
        have tl := HKr.out.lt
        clear heb' HNr
        by_cases hk24 : k = 24
        · have d24 : ((k : Int) == 24) = true := by rw [beq_iff_eq]; omega
          clear hk24
          have HEk := Lib.hid key.2
          clear key
          cases p1 <;> cases p2 <;> first
            | (obtain rfl : eb = true := HEk.out rfl
               go_wp2_with fail
               go_roundw
               case rel => exact ⟨m + 1, by omega, by go_num, HBr.out⟩
               case measure => simp [intOf]; omega)
            | (go_wp2_with fail
               go_roundw
               case rel => exact ⟨m + 1, by omega, by go_num, HBr.out⟩
               case measure => simp [intOf]; omega)
        · have d24 : ((k : Int) == 24) = false := by rw [beq_eq_false_iff_ne]; omega
          have hk23 : k + 1 ≤ 24 := by omega
          clear hk24
          have HEk := Lib.hid key.2
          clear key
          cases p1 <;> cases p2 <;> first
            | (obtain rfl : eb = true := HEk.out rfl)
            | skip
          all_goals
            clear HEk
            go_wp2_with fail
            clear t0 tl co ce hgl
            go_loopw [11, 116] (fun x i wz => ∃ (j : Nat) (bb : Bool), j ≤ tN ∧ i = .int .i64 j ∧ x = .bool bb ∧ Hid (bb = (eb' || orT ⟨(tN : Int), (N : Int), s, ps⟩ (xs.take k) m j)) ∧ Hid (Bl w5 wz)) (fun _ i _ => tN - (intOf i).toNat)
            case atStart => exact ⟨0, _, Nat.zero_le _, rfl, rfl, (by unfold Hid; rw [HEb.out]; unfold orT; exact (Bool.or_false _).symm), HBr.out⟩
            case round =>
              obtain ⟨j, bb, hj, rfl, rfl, HBB, HBz⟩ := hrel
              by_cases hlj : j < tN
              · obtain ⟨wq, hwq⟩ : ∃ wq : World, wq = wr := ⟨_, rfl⟩
                have HBq := Lib.hid (HB5.out.trans HBz.out)
                have HKq := Lib.hid (HK5.out.bl HBz.out)
                have HXw : Hid (∀ w', Bl wr w' → Rd w' wr.heap.size Al (ins (xs.take k))) := fun w' hb => ((HXc.out wr HBq.out).ins_take k).bl (Nat.le_refl _) hb
                have HQ2 : Hid (∀ o, wr.heap.size ≤ (wr.alloc o).drew.heap.size) := fun o => by show _ ≤ (wr.alloc o).heap.size; rw [World.size_alloc]; omega
                have HQ3 : Hid (∀ o o', wr.heap.size ≤ ((wr.alloc o).alloc o').drew.heap.size) := fun o o' => by show _ ≤ ((wr.alloc o).alloc o').heap.size; rw [World.size_alloc, World.size_alloc]; omega
                have HFt2 : Hid (fitB ⟨(tN : Int), (N : Int), s, ps⟩ (xs.take k ++ [(j : Int)]) = true) := fit_snoc HFt.out (by omega) (show (j : Int) < (tN : Int) by omega) (by rw [HTl.out]; omega)
                have hl2 : (xs.take k ++ [(j : Int)]).length = k + 1 := by rw [List.length_append, HTl.out]; rfl
                have HL2 := Lib.hid hl2
                clear hl2
                have HKc := Lib.hid HKq.out
                have tk1 : True := trivial
                have tk2 : True := trivial
                go_wp2_with fail
                go_region_held3 (fun w' => w'.cell? ⟨W.heap.size, 0, none⟩ = some (.int .i64 (tN : Int)) ∧ w'.cell? ⟨W.heap.size, 1, none⟩ = some (.int .i64 (N : Int)) ∧ w'.cell? ⟨W.heap.size, 2, none⟩ = some (.int .i64 s) ∧ w'.cell? ⟨W.heap.size, 3, none⟩ = some (.slice A len c)) (first | with_reducible exact gcells HKc.out | with_reducible exact gcells HKc.out.drew | with_reducible exact gcells (HKc.out.alloc _) | with_reducible exact gcells (HKc.out.alloc _).drew | with_reducible exact gcells ((HKc.out.alloc _).alloc _).drew) (first
                  | ((refine step_append_rdN rfl (.tmp 120) (.tmp 123) 25 rfl wr.heap.size 3 i0 (.int .i64 0) 1 8 Try.underlying25 hi hz0 hz1 hz2 rfl (by decide) (.slice (some ⟨_, 0, none⟩) 0 0) 0 [] rfl ?hown wr.heap.size Al k cl (ins (xs.take k)) rfl ?hrd ?hlen (ins_oneV _) (by simp only [maxLen]; omega) (by omega) ?hbase ?_); (case hlen => rw [ins_len, HTl.out, Nat.mul_one]); (case hown => first | with_reducible exact own_drew (own_empty wr _ _ (Nat.le_refl _)) | with_reducible exact own_drew (own_alloc (own_empty wr _ _ (Nat.le_refl _)) _) | with_reducible exact own_drew (own_emptyA wr _ _ _ (Nat.le_refl _))); (case hrd => first | with_reducible exact HXw.out _ ((Bl.refl wr).alloc _).drew | with_reducible exact HXw.out _ (((Bl.refl wr).alloc _).alloc _).drew); (case hbase => first | with_reducible exact HQ2.out _ | with_reducible exact HQ3.out _ _); have _t := tk1; intro v2 x2 hown2 hg2; rw [Nat.zero_add, List.nil_append] at hown2; obtain ⟨A2, c2, hv2, hd2⟩ := own_form hown2; subst hv2; have HO2 := Lib.hid hown2; have HKz := Lib.hid HKc.out; (first
                    | ((with_reducible change World.grownBy (wr.alloc (.cells #[] 3)).drew x2 _ at hg2); have HBx : Hid (Bl wr x2) := ((Bl.refl wr).alloc _).drew.grown hg2 (fun k hk => by cases hk; exact Nat.le_refl _))
                    | ((with_reducible change World.grownBy ((wr.alloc (.cells #[.int .i64 (j : Int)] 3)).alloc (.cells #[] 3)).drew x2 _ at hg2); have HBx : Hid (Bl wr x2) := (((Bl.refl wr).alloc _).alloc _).drew.grown hg2 (fun k hk => by cases hk; exact Nat.le_succ _); have HBt : Hid (Bk x2 wr.heap.size 3 #[.int .i64 (j : Int)]) := ((Bk.new wr 3 #[.int .i64 (j : Int)]).alloc _).drew.grown hg2 (by simp [Value.ownBlock]))
                    | ((with_reducible change World.grownBy ((wr.alloc (.cells #[] 3)).alloc (.cells #[.int .i64 (j : Int)] 3)).drew x2 _ at hg2); have HBx : Hid (Bl wr x2) := (((Bl.refl wr).alloc _).alloc _).drew.grown hg2 (fun k hk => by cases hk; exact Nat.le_refl _); have h0 := Bk.new (wr.alloc (.cells #[] 3)) 3 #[.int .i64 (j : Int)]; rw [World.size_alloc] at h0; have HBt : Hid (Bk x2 (wr.heap.size + 1) 3 #[.int .i64 (j : Int)]) := h0.drew.grown hg2 (by simp [Value.ownBlock]); clear h0)); have HKc := Lib.hid (HKz.out.bl HBx.out); have HS2 : Hid (wr.heap.size ≤ x2.heap.size) := HBx.out.size; have HS3 : Hid (∀ o, wr.heap.size ≤ (x2.alloc o).heap.size) := (fun o => by rw [World.size_alloc]; have := HS2.out; omega); clear hown2 hg2 hd2 tk1)
                  | ((first
                    | ((refine step_append_rdN rfl (.tmp 124) (.tmp 126) 25 rfl wr.heap.size 3 i0 (.int .i64 0) 1 8 Try.underlying25 hi hz0 hz1 hz2 rfl (by decide) (.slice A2 k c2) k (ins (xs.take k)) rfl ?hown x2.heap.size (some ⟨_, 0, none⟩) 1 1 (ins [(j : Int)]) rfl ?hrd rfl (ins_oneV _) (by simp only [maxLen]; omega) (by omega) ?hbase ?_); (case hrd => first | with_reducible exact rd_block HBt.out | with_reducible exact rd_drewS (rd_block HBt.out)))
                    | ((refine step_append_rdN rfl (.tmp 124) (.tmp 126) 25 rfl wr.heap.size 3 i0 (.int .i64 0) 1 8 Try.underlying25 hi hz0 hz1 hz2 rfl (by decide) (.slice A2 k c2) k (ins (xs.take k)) rfl ?hown (x2.alloc (.cells #[.int .i64 (j : Int)] 3)).heap.size (some ⟨_, 0, none⟩) 1 1 (ins [(j : Int)]) rfl ?hrd rfl (ins_oneV _) (by simp only [maxLen]; omega) (by omega) ?hbase ?_); (case hrd => first | with_reducible exact rd_block (Bk.new x2 _ _) | with_reducible exact rd_drewS (rd_block (Bk.new x2 _ _))))); (case hown => first | with_reducible exact HO2.out | with_reducible exact own_drew HO2.out | with_reducible exact own_alloc HO2.out _ | with_reducible exact own_drew (own_alloc HO2.out _)); (case hbase => first | with_reducible exact HS2.out | with_reducible exact HS3.out _ | exact HS2.out | exact HS3.out _); have _t := tk2; intro v3 x3 hown3 hg3; obtain ⟨A3, c3, hv3, hd3⟩ := own_form hown3; subst hv3; have HO3 := Lib.hid (Rd.own hown3); have HD3 := Lib.hid hd3; have HBy : Hid (Bl wr x3) := (by first | exact HBx.out.grown hg3 (fun k hk => (HO2.out.lt k hk).1) | exact HBx.out.drew.grown hg3 (fun k hk => (HO2.out.lt k hk).1) | exact (HBx.out.alloc _).grown hg3 (fun k hk => (HO2.out.lt k hk).1) | exact (HBx.out.alloc _).drew.grown hg3 (fun k hk => (HO2.out.lt k hk).1)); have HKc := Lib.hid (HKq.out.bl HBy.out); clear hown3 hg3 hd3 tk2)
                  | (go_at_call 10; (first
                    | ((with_reducible refine (sprows_any (tN : Int) (N : Int) s A len c ps A3 (k + 1) c3 (xs.take k ++ [(j : Int)]) _ x3.heap.size HL.out hmax (HPc.out x3 (HBq.out.trans HBy.out)) HL2.out.symm (by omega) HD3.out (ins_snoc HO3.out) (Nat.le_refl _)).mono ?_); intro e w6 hp6; obtain ⟨b5, he, _, hn6, hb6⟩ := hp6.lit (m := k + 2) HFt2.out (by first | (rw [HL2.out]; omega) | rw [HL2.out] | (have h := HL2.out; omega)); subst he)
                    | ((with_reducible refine (sprows_any (tN : Int) (N : Int) s A len c ps A3 (k + 1) c3 (xs.take k ++ [(j : Int)]) _ x3.heap.size HL.out hmax (prsC_drewS (HPc.out x3 (HBq.out.trans HBy.out))) HL2.out.symm (by omega) HD3.out (rd_drewS (ins_snoc HO3.out)) (Nat.le_refl _)).mono ?_); intro e w6 hp6; obtain ⟨b5, he, _, hn6, hb6⟩ := hp6.lit (m := k + 2) HFt2.out (by first | (rw [HL2.out]; omega) | rw [HL2.out] | (have h := HL2.out; omega)); subst he; replace hb6 := Bl.undrew hb6)); have HN6 := Lib.hid hn6; have HB6 := Lib.hid (HBy.out.trans hb6); have HKc := Lib.hid (HKc.out.bl hb6); clear hp6 hn6 hb6))
                all_goals
                  have hcb : w6.cell? ⟨b5, 24, none⟩ = some (.int .u32 (Sp.rowN ⟨(tN : Int), (N : Int), s, ps⟩ (xs.take k ++ [(j : Int)]) 24 : Int)) := by
                    rw [HN6.out.cell (i := 24) (by omega)]; exact congrArg (fun n : Nat => some (Value.int .u32 (n : Int))) (allN_at _ (xs.take k ++ [(j : Int)]) (a := 0) (i := 24) (by decide))
                  have hbl := HN6.out.lt
                  have hb32 := Sp.rowN_lt ⟨(tN : Int), (N : Int), s, ps⟩ (xs.take k ++ [(j : Int)]) 24
                  have HOr : Hid (orT ⟨(tN : Int), (N : Int), s, ps⟩ (xs.take k) m (j + 1) = (orT ⟨(tN : Int), (N : Int), s, ps⟩ (xs.take k) m j || (Sp.rowN ⟨(tN : Int), (N : Int), s, ps⟩ (xs.take k ++ [(j : Int)]) 24).testBit m)) := rfl
                  generalize Sp.rowN ⟨(tN : Int), (N : Int), s, ps⟩ (xs.take k ++ [(j : Int)]) 24 = z at *
                  have hz1 := bit_one z m hb32
                  have i9 : (0 : Int) < (k : Int) + 2 := by omega
                  have q5 : (((k : Int) + 2) == ((k : Int) + 2)) = true := by simp
                  clear hb32
                  generalize hzb : z.testBit m = zb at *
                  clear hzb
                  have HBw : Hid (Bl w5 w6) := HBz.out.trans HB6.out
                  have HBn : Hid ((bb || zb) = (eb' || orT ⟨(tN : Int), (N : Int), s, ps⟩ (xs.take k) m (j + 1))) := by unfold Hid; rw [HOr.out, HBB.out, Bool.or_assoc]
                  cases bb with
                  | true =>
                    go_wp2_with fail
                    go_roundw
                    case rel => exact ⟨j + 1, true, by omega, by go_num, rfl, HBn.out, HBw.out⟩
                    case measure => simp [intOf]; omega
                  | false =>
                    go_wp2_with fail
                    go_roundw
                    case rel => exact ⟨j + 1, zb, by omega, by go_num, rfl, HBn.out, HBw.out⟩
                    case measure => simp [intOf]; omega
              · obtain rfl : j = tN := by omega
                obtain rfl : bb = true := HBB.out.trans HEnd.out
                go_wp2_with fail
                go_roundw
                case rel => exact ⟨m + 1, by omega, by go_num, HBz.out⟩
                case measure => simp [intOf]; omega
    · go_wp2_with fail
      go_ret
      exact ⟨rfl, HB5.out.trans HBr.out⟩
end Go.Proofs.Ythfhnjoeippenaa
