/- probateref11.Of: the set of symbols, as bools. -/
import Derived.Test.YtgmnokmchjeflaaRNum
import Derived.Test.YtgmnokmchjeflaaFBegin
import Derived.Test.YtgmnokmchjeflaaRow
namespace Go.Proofs.Ytgmnokmchjeflaa
open Go.RowKit

/-- Sets, one behind the other. -/
def setRow (N : Nat) (F : Nat → Nat → Bool) : List Value := (List.range N).flatMap fun n => bls 32 (F n)
theorem setRow_succ (N : Nat) (F : Nat → Nat → Bool) : setRow (N + 1) F = setRow N F ++ bls 32 (F N) := by
  unfold setRow
  rw [List.range_succ, List.flatMap_append]
  simp
theorem setRow_len : ∀ (N : Nat) (F : Nat → Nat → Bool), (setRow N F).length = N * 32
  | 0, _ => rfl
  | N + 1, F => by rw [setRow_succ, List.length_append, setRow_len N F, bls_len]; omega
theorem setRow_at : ∀ {N : Nat} (F : Nat → Nat → Bool) {n t : Nat}, n < N → t < 32 → (setRow N F)[n * 32 + t]? = some (.bool (F n t))
  | 0, _, _, _, h, _ => absurd h (by omega)
  | N + 1, F, n, t, h, ht => by
    rw [setRow_succ]
    by_cases e : n = N
    · subst e
      rw [List.getElem?_append_right (by rw [setRow_len]; omega), setRow_len, show n * 32 + t - n * 32 = t by omega, bls_at _ ht]
    · rw [List.getElem?_append_left (by rw [setRow_len]; omega), setRow_at F (by omega) ht]
theorem Rd.set_at {w : World} {B : Nat} {A : Option Addr} {N : Nat} {F : Nat → Nat → Bool} (h : Rd w B A (setRow N F)) {n : Nat} (hn : n < N) :
    ∃ b off, A = some ⟨b, off, none⟩ ∧ b < B ∧ ∀ t, t < 32 → w.cell? ⟨b, off + n * 32 + t, none⟩ = some (.bool (F n t)) := by
  obtain ⟨b, off, e, hb, hc⟩ := h (by rw [setRow_len]; omega)
  exact ⟨b, off, e, hb, fun t ht => by rw [Nat.add_assoc]; exact hc _ _ (setRow_at F hn ht)⟩
/-- No terminal. -/
def zs32 : Array Value := (bls 32 fun _ => false).toArray
theorem set_info : (Try.prog.info? 50).map (fun i => (i.zero, i.size)) = some (some (.agg zs32), 32) := by kernel_rfl
theorem set_size : (Try.prog.info? 50).map (·.size) = some 32 := by kernel_rfl
theorem bls_all (f : Nat → Bool) : (bls 32 f).toArray.all (·.oneCell') = true := all_oneCell_toArray (cs := bls 32 f) (by
  intro v hv
  unfold bls at hv
  obtain ⟨c, _, rfl⟩ := List.mem_map.1 hv
  rfl)
theorem bls_size (f : Nat → Bool) : (bls 32 f).toArray.size = 32 := by rw [List.size_toArray, bls_len]
/-- What Of has: the result's block, and its own set's. -/
structure ORel (w0 : World) (g6 g8 : Nat) (f : Nat → Bool) (w : World) : Prop where
  b6 : Bk w g6 50 zs32
  b8 : Bk w g8 50 (bls 32 f).toArray
  l6 : w0.heap.size ≤ g6
  l8 : w0.heap.size ≤ g8
  ne : g6 ≠ g8
  b : Bl w0 w
section
variable {w0 w : World} {g6 g8 : Nat} {f : Nat → Bool}
theorem ORel.is {f' : Nat → Bool} (h : ORel w0 g6 g8 f w) (e : ∀ t, t < 32 → f' t = f t) : ORel w0 g6 g8 f' w :=
  ⟨h.b6, by rw [bls_congr e]; exact h.b8, h.l6, h.l8, h.ne, h.b⟩
theorem ORel.put (h : ORel w0 g6 g8 f w) (j : Nat) (x : Bool) : ORel w0 g6 g8 (upd f j x) (w.setCell ⟨g8, j, none⟩ (.bool x)) := by
  refine ⟨h.b6.far (p := ⟨g8, j, none⟩) h.ne _, ?_, h.l6, h.l8, h.ne, h.b.fr ((Fr.refl (fun k => k = g8) w).own j _) fun i hi e => by have := h.l8; omega⟩
  have h1 := h.b8.put j (.bool x)
  rw [List.setIfInBounds_toArray, bls_set] at h1
  exact h1
theorem ORel.cell (h : ORel w0 g6 g8 f w) {j : Nat} (hj : j < 32) : w.cell? ⟨g8, j, none⟩ = some (.bool (f j)) := by
  rw [h.b8.cell j, List.getElem?_toArray, bls_at f hj]
end
/-- The set, as far as the terminals below j go. -/
def mixTo (f h : Nat → Bool) (j t : Nat) : Bool := f t || (decide (t < j) && h t)
theorem mixTo_zero (f h : Nat → Bool) : mixTo f h 0 = f := by funext t; unfold mixTo; rw [decide_eq_false (by omega)]; simp
theorem mixTo_at (f h : Nat → Bool) (j : Nat) : mixTo f h j j = f j := by unfold mixTo; rw [decide_eq_false (by omega)]; simp
theorem mixTo_succ (f h : Nat → Bool) (j : Nat) : upd (mixTo f h j) j (f j || h j) = mixTo f h (j + 1) := by
  funext t
  unfold upd
  by_cases e : t = j
  · subst e; rw [if_pos rfl]; unfold mixTo; rw [decide_eq_true (Nat.lt_succ_self t)]; simp
  · rw [if_neg e]; unfold mixTo; congr 2; apply decide_eq_decide.2; omega
theorem mixTo_end {f h : Nat → Bool} {t : Nat} (ht : t < 32) : mixTo f h 32 t = (f t || h t) := by unfold mixTo; rw [decide_eq_true ht]; simp
section
variable {F : Nat → Nat → Bool} {nl : Nat → Bool} {l : List Gr.Sy} {k : Nat} {f : Nat → Bool}
/-- What is told is what there is, and what is behind. -/
def SoFar (F : Nat → Nat → Bool) (nl : Nat → Bool) (l : List Gr.Sy) (k : Nat) (f : Nat → Bool) : Prop :=
  (∀ t, t < 32 → (f t || Fi.of F nl (l.drop k) t) = Fi.of F nl l t) ∧ Fi.allNull nl (l.drop k) = Fi.allNull nl l
theorem soFar_zero : SoFar F nl l 0 fun _ => false := ⟨fun _ _ => by simp, rfl⟩
theorem soFar_term {m : Nat} (h : SoFar F nl l k f) (hy : l[k]? = some ⟨false, (m : Int)⟩) : (∀ t, t < 32 → upd f m true t = Fi.of F nl l t) ∧ Fi.allNull nl l = false := by
  obtain ⟨h1, h2⟩ := h
  rw [drop_at hy] at h2
  constructor
  · intro t ht
    have := h1 t ht
    rw [drop_at hy, Fi.of_cons, if_neg (fun e => Bool.noConfusion e)] at this
    rw [← this]
    unfold upd
    split
    · rename_i e; subst e; simp
    · rename_i e
      rw [decide_eq_false (by show ¬ ((m : Int) = (t : Int)); omega)]; simp
  · rw [← h2]; rfl
theorem soFar_stop {m : Nat} (h : SoFar F nl l k f) (hy : l[k]? = some ⟨true, (m : Int)⟩) (hz : nl m = false) : (∀ t, t < 32 → mixTo f (F m) 32 t = Fi.of F nl l t) ∧ Fi.allNull nl l = false := by
  obtain ⟨h1, h2⟩ := h
  rw [drop_at hy] at h2
  constructor
  · intro t ht
    have := h1 t ht
    rw [drop_at hy, Fi.of_cons, if_pos rfl] at this
    rw [← this, mixTo_end ht]
    show _ = (f t || (F ((m : Int)).toNat t || (nl ((m : Int)).toNat && _)))
    rw [Int.toNat_natCast, hz]; simp
  · rw [← h2]
    show (true && nl ((m : Int)).toNat && _) = false
    rw [Int.toNat_natCast, hz]; rfl
theorem soFar_on {m : Nat} (h : SoFar F nl l k f) (hy : l[k]? = some ⟨true, (m : Int)⟩) (hz : nl m = true) : SoFar F nl l (k + 1) (mixTo f (F m) 32) := by
  obtain ⟨h1, h2⟩ := h
  rw [drop_at hy] at h2
  constructor
  · intro t ht
    have := h1 t ht
    rw [drop_at hy, Fi.of_cons, if_pos rfl] at this
    rw [← this, mixTo_end ht]
    show _ = (f t || (F ((m : Int)).toNat t || (nl ((m : Int)).toNat && _)))
    rw [Int.toNat_natCast, hz]; simp [Bool.or_assoc]
  · rw [← h2]
    show _ = (true && nl ((m : Int)).toNat && _)
    rw [Int.toNat_natCast, hz]; rfl
theorem soFar_end (h : SoFar F nl l k f) (hk : l.length ≤ k) : (∀ t, t < 32 → f t = Fi.of F nl l t) ∧ Fi.allNull nl l = true := by
  obtain ⟨h1, h2⟩ := h
  rw [List.drop_of_length_le hk] at h2
  refine ⟨fun t ht => ?_, h2.symm⟩
  have := h1 t ht
  rw [List.drop_of_length_le hk] at this
  rw [← this]
  show f t = (f t || false)
  simp
end

set_option maxRecDepth 100000 in
set_option maxHeartbeats 4000000 in
theorem rof_any (Ax : Option Addr) (lx cx : Nat) (l : List Gr.Sy) (Af : Option Addr) (N cf : Nat) (F : Nat → Nat → Bool) (An : Option Addr) (cn : Nat) (fs : List Fc) (w : World) (B : Nat)
    (hl : lx = l.length) (hmax : lx ≤ 9223372036854775807) (hr : Rd w B Ax (syRow l)) (hrF : Rd w B Af (setRow N F)) (hfs : N = fs.length) (hrn : Rd w B An (fcRow fs)) (hB : B ≤ w.heap.size)
    (hs : Fi.SyOk N l) :
    Calls Try.prog 19 #[.slice Ax lx cx, .slice Af N cf, .slice An N cn] w fun e w' =>
      e = .returned (.tuple #[.agg (bls 32 (Fi.of F (nlz fs) l)).toArray, .bool (Fi.allNull (nlz fs) l)]) ∧ Bl w w' := by
  obtain ⟨i0, hi, _⟩ := info_parts bool_info
  have HL := Lib.hid hl; clear hl
  have HA := Lib.hid hr; clear hr
  have HFr := Lib.hid hrF; clear hrF
  have HNl := Lib.hid hfs; clear hfs
  have HNr := Lib.hid hrn; clear hrn
  have HS := Lib.hid hs; clear hs
  have hz32 : zs32.size = 32 := by rfl
  have hza : zs32.all (·.oneCell') = true := bls_all _
  have hzi : (Try.prog.info? 50).map (·.size) = some zs32.size := set_size
  have H8 : Hid (Bk ((w.alloc (.cells zs32 50)).alloc (.cells zs32 50)) (w.heap.size + 1) 50 zs32) := by
    have h := Bk.new (w.alloc (.cells zs32 50)) 50 zs32
    rw [World.size_alloc] at h
    exact h
  have H6 : Hid (Bk ((w.alloc (.cells zs32 50)).alloc (.cells zs32 50)) w.heap.size 50 zs32) := (Bk.new w _ _).alloc _
  have HB0 : Hid (Bl w ((w.alloc (.cells zs32 50)).alloc (.cells zs32 50))) := ((Bl.refl w).alloc _).alloc _
  go_enter Try.func19, Try.ntmps19
  go_wp2_with (first
    | (with_reducible refine wpList_alloc_agg rfl 50 rfl zs32 32 set_info ?_)
    | (with_reducible refine wpList_build_zero rfl 50 rfl zs32 32 set_info 32 4 Try.underlying50 i0 hi ?_)
    | ((with_reducible refine wpList_store_bk ?hg 50 (.tmp 8) (.tmp 11) ?ho (w.heap.size + 1) 50 zs32 zs32 ?hx ?hy H8.out rfl hzi hza ?_); (case ho => with_reducible rfl); (case hg => rfl); (case hx => exact congrArg (fun x => Value.pointer (some ⟨x, 0, none⟩)) (World.size_alloc ..)); (case hy => rfl); intro w2 hb2 hf2))
  have hsz2 : w.heap.size + 1 < w2.heap.size := hb2.lt
  have HR : Hid (ORel w w.heap.size (w.heap.size + 1) (fun _ => false) w2) := ⟨H6.out.fr hf2 (by omega), hb2, Nat.le_refl _, by omega, by omega, HB0.out.fr hf2 (by intro i hi e; omega)⟩
  clear hb2 hf2 H8 H6 HB0 hsz2
  go_loopw [9] (fun i wr => ∃ (k : Nat) (f : Nat → Bool), k ≤ lx ∧ i = .int .i64 k ∧ Hid (SoFar F (nlz fs) l k f) ∧ Hid (ORel w w.heap.size (w.heap.size + 1) f wr)) (fun i _ => lx - (intOf i).toNat)
  case atStart => exact ⟨0, _, Nat.zero_le _, rfl, soFar_zero, HR.out⟩
  case round =>
    obtain ⟨k, f, hk, rfl, HF, HO⟩ := hrel
    have hbw := HO.out.b
    have hgl : w.heap.size + 1 < wr.heap.size := HO.out.b8.lt
    have HLast : Hid (∀ (f' : Nat → Bool) (wr' : World), ORel w w.heap.size (w.heap.size + 1) f' wr' → ∀ w6, Bk w6 w.heap.size 50 (bls 32 f').toArray → Fr (fun k => k = w.heap.size) wr' w6 → Bl w w6) := fun f' wr' ho w6 h1 h2 => ho.b.fr h2 (by intro i hi e; omega)
    by_cases hlt : k < lx
    · have hj : k < l.length := by have := HL.out; omega
      obtain ⟨b, off, rfl, hbB, q0, q1⟩ := (HA.out.bl hB hbw).sym hj
      have HY : Hid (l[k]? = some l[k]) := List.getElem?_eq_getElem hj
      have HSk := Lib.hid (HS.out _ (List.getElem_mem hj))
      have hk0 : (0 : Int) ≤ (k : Int) := by omega
      generalize l[k] = y at q0 q1 HY HSk
      obtain ⟨yb, yn⟩ := y
      simp only at q0 q1 HSk
      obtain ⟨s0, s1, s2⟩ := HSk.out
      obtain ⟨m, rfl⟩ : ∃ m : Nat, yn = (m : Int) := ⟨yn.toNat, by omega⟩
      clear HSk hj
      cases yb with
      | false =>
        have hm16 := s2 rfl
        have hm32 : (m : Int) < 32 := by omega
        obtain ⟨e1, e2⟩ := soFar_term HF.out HY.out
        have HO2 := Lib.hid ((HO.out.put m true).is (fun t ht => (e1 t ht).symm))
        have HE2 := Lib.hid e2
        have kc : wr.cell? ⟨w.heap.size + 1, m, none⟩ = some (.bool (f m)) := HO.out.cell (by omega)
        have kf : wr.frozen? ⟨w.heap.size + 1, m, none⟩ = false := HO.out.b8.free m
        clear s1 s2 e1 e2
        go_wp2_with (first
          | ((with_reducible refine wpList_load_bk ?hg 50 (.tmp 8) ?ho (w.heap.size + 1) 50 (bls 32 (Fi.of F (nlz fs) l)).toArray 32 4 ?hx HO2.out.b8 Try.underlying50 ?hi ?_); (case ho => with_reducible rfl); (case hg => rfl); (case hx => rfl); (case hi => rw [bls_size]; exact set_size))
          | ((with_reducible refine wpList_store_bk ?hg 50 (.tmp 6) (.tmp 30) ?ho w.heap.size 50 zs32 (bls 32 (Fi.of F (nlz fs) l)).toArray ?hx ?hy HO2.out.b6 ?hs ?hi (bls_all _) ?_); (case hs => rw [bls_size]; rfl); (case ho => with_reducible rfl); (case hg => rfl); (case hx => rfl); (case hy => rfl); (case hi => rw [bls_size]; exact set_size); intro w6 hb6 hf6))
        try simp only [Exit.inBlock, Exit.then]
        refine bodyPost_ret (results_cell_bk rfl _ _ w.heap.size _ _ 32 4 rfl hb6 Try.underlying50 (by rw [bls_size]; exact set_size)) rfl ?_
        exact ⟨by rw [HE2.out]; rfl, HLast.out _ _ HO2.out _ hb6 hf6⟩
      | true =>
        have hmn := s1 rfl
        have hmn2 : m < N := by omega
        have hmz : m < fs.length := by have := HNl.out; omega
        obtain ⟨bf, of, rfl, hbf, hfc⟩ := HFr.out.set_at hmn2
        obtain ⟨bn, on, rfl, hbn, z0, z1⟩ := HNr.out.fact hmz
        rw [← rkz_at hmz] at z0
        have HNl1 : Hid (nlz fs m = decide (rkz fs m ≠ 0)) := rfl
        have HStop : Hid (nlz fs m = false → _) := fun h => soFar_stop HF.out HY.out h
        have HOn : Hid (nlz fs m = true → _) := fun h => soFar_on HF.out HY.out h
        have HFc := Lib.hid hfc
        have hm0 : (0 : Int) ≤ (m : Int) := by omega
        have Hq := Lib.hid (fun (w' : World) (hb : Bl w w') => (⟨Below.cell hb (p := ⟨b, off + k * 2 + 1, none⟩) (show b < w.heap.size by omega), Below.cell hb (p := ⟨bn, on + m * 2, none⟩) (show bn < w.heap.size by omega), fun t (_ : t < 32) => Below.cell hb (p := ⟨bf, of + m * 32 + t, none⟩) (show bf < w.heap.size by omega)⟩ : (w'.cell? ⟨b, off + k * 2 + 1, none⟩ = w.cell? ⟨b, off + k * 2 + 1, none⟩) ∧ (w'.cell? ⟨bn, on + m * 2, none⟩ = w.cell? ⟨bn, on + m * 2, none⟩) ∧ ∀ t, t < 32 → w'.cell? ⟨bf, of + m * 32 + t, none⟩ = w.cell? ⟨bf, of + m * 32 + t, none⟩))
        have HQ1 : Hid (∀ w', Bl w w' → w'.cell? ⟨b, off + k * 2 + 1, none⟩ = some (.int .i64 (m : Int))) := fun w' hb => (Hq.out w' hb).1.trans ((Hq.out wr hbw).1.symm.trans q1)
        have HQ2 : Hid (∀ w', Bl w w' → w'.cell? ⟨bn, on + m * 2, none⟩ = some (.int .i64 (rkz fs m))) := fun w' hb => (Hq.out w' hb).2.1.trans z0
        have HQ3 : Hid (∀ w', Bl w w' → ∀ t, t < 32 → w'.cell? ⟨bf, of + m * 32 + t, none⟩ = some (.bool (F m t))) := fun w' hb t ht => ((Hq.out w' hb).2.2 t ht).trans (HFc.out t ht)
        clear s1 s2 z0 z1 hmz hfc hbw Hq
        go_wp2_with fail
        go_loopw [10] (fun v wr => ∃ j : Nat, j ≤ 32 ∧ v = .int .i64 j ∧ Hid (ORel w w.heap.size (w.heap.size + 1) (mixTo f (F m) j) wr)) (fun v _ => 32 - (intOf v).toNat)
        case atStart => exact ⟨0, Nat.zero_le _, rfl, by rw [mixTo_zero]; exact HO.out⟩
        case round =>
          obtain ⟨j, hj, rfl, HOy⟩ := hrel
          have hby := HOy.out.b
          have hgly : w.heap.size + 1 < wr.heap.size := HOy.out.b8.lt
          have q1y := HQ1.out wr hby
          have q2y := HQ2.out wr hby
          by_cases hj32 : j < 32
          · have q3y := HQ3.out wr hby j hj32
            have kc := HOy.out.cell hj32
            have kf : wr.frozen? ⟨w.heap.size + 1, j, none⟩ = false := HOy.out.b8.free j
            have hj0 : (0 : Int) ≤ (j : Int) := by omega
            have hj1 : (j : Int) < 32 := by omega
            rw [mixTo_at] at kc
            have HPut := Lib.hid (HOy.out.put j (f j || F m j))
            rw [mixTo_succ] at HPut
            clear hby
            cases hfj : f j with
            | true =>
              rw [hfj] at kc HPut
              clear hfj
              go_wp2_with fail
              go_roundw
              case rel => exact ⟨j + 1, by omega, by go_num, HPut.out⟩
              case measure => simp [intOf]; omega
            | false =>
              rw [hfj] at kc HPut
              clear hfj
              generalize F m j = x at *
              go_wp2_with fail
              go_roundw
              case rel => exact ⟨j + 1, by omega, by go_num, HPut.out⟩
              case measure => simp [intOf]; omega
          · have hj32e : j = 32 := by omega
            subst hj32e
            clear hby hj32
            generalize rkz fs m = z at *
            by_cases hz : z = 0
            · subst hz
              obtain ⟨e1, e2⟩ := HStop.out (by rw [HNl1.out]; rfl)
              have HO2 := Lib.hid (HOy.out.is (fun t ht => (e1 t ht).symm))
              have HE2 := Lib.hid e2
              clear e1 e2
              go_wp2_with (first
                | ((with_reducible refine wpList_load_bk ?hg 50 (.tmp 8) ?ho (w.heap.size + 1) 50 (bls 32 (Fi.of F (nlz fs) l)).toArray 32 4 ?hx HO2.out.b8 Try.underlying50 ?hi ?_); (case ho => with_reducible rfl); (case hg => rfl); (case hx => rfl); (case hi => rw [bls_size]; exact set_size))
                | ((with_reducible refine wpList_store_bk ?hg 50 (.tmp 6) (.tmp 62) ?ho w.heap.size 50 zs32 (bls 32 (Fi.of F (nlz fs) l)).toArray ?hx ?hy HO2.out.b6 ?hs ?hi (bls_all _) ?_); (case hs => rw [bls_size]; rfl); (case ho => with_reducible rfl); (case hg => rfl); (case hx => rfl); (case hy => rfl); (case hi => rw [bls_size]; exact set_size); intro w6 hb6 hf6))
              try simp only [Exit.inBlock, Exit.then]
              refine bodyPost_ret (results_cell_bk rfl _ _ w.heap.size _ _ 32 4 rfl hb6 Try.underlying50 (by rw [bls_size]; exact set_size)) rfl ?_
              exact ⟨by rw [HE2.out]; rfl, HLast.out _ _ HO2.out _ hb6 hf6⟩

            · have hq : (z == 0) = false := by simpa using hz
              have HG := Lib.hid (HOn.out (by rw [HNl1.out]; exact decide_eq_true hz))
              clear hz
              go_wp2_with fail
              go_roundw
              case rel => exact ⟨k + 1, _, by omega, by go_num, HG.out, HOy.out⟩
              case measure => simp [intOf]; omega
    · obtain ⟨e1, e2⟩ := soFar_end HF.out (by have := HL.out; omega)
      have HO2 := Lib.hid (HO.out.is (fun t ht => (e1 t ht).symm))
      have HE2 := Lib.hid e2
      clear e1 e2
      go_wp2_with (first
        | ((with_reducible refine wpList_load_bk ?hg 50 (.tmp 8) ?ho (w.heap.size + 1) 50 (bls 32 (Fi.of F (nlz fs) l)).toArray 32 4 ?hx HO2.out.b8 Try.underlying50 ?hi ?_); (case ho => with_reducible rfl); (case hg => rfl); (case hx => rfl); (case hi => rw [bls_size]; exact set_size))
        | ((with_reducible refine wpList_store_bk ?hg 50 (.tmp 6) (.tmp 63) ?ho w.heap.size 50 zs32 (bls 32 (Fi.of F (nlz fs) l)).toArray ?hx ?hy HO2.out.b6 ?hs ?hi (bls_all _) ?_); (case hs => rw [bls_size]; rfl); (case ho => with_reducible rfl); (case hg => rfl); (case hx => rfl); (case hy => rfl); (case hi => rw [bls_size]; exact set_size); intro w6 hb6 hf6))
      try simp only [Exit.inBlock, Exit.then]
      refine bodyPost_ret (results_cell_bk rfl _ _ w.heap.size _ _ 32 4 rfl hb6 Try.underlying50 (by rw [bls_size]; exact set_size)) rfl ?_
      exact ⟨by rw [HE2.out]; rfl, HLast.out _ _ HO2.out _ hb6 hf6⟩
end Go.Proofs.Ytgmnokmchjeflaa
