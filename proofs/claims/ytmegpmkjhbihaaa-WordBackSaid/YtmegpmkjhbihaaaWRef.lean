/- The reference's reader: it tells what the reader tells. -/
import Derived.Test.YtmegpmkjhbihaaaVRTake
import Derived.Test.YtmegpmkjhbihaaaWNew
namespace Go.Proofs.Ytmegpmkjhbihaaa
open Go.RowKit

/-- The reference's reader at block g: what went wrong; while nothing did, the bytes that are left. -/
def RRd (w : World) (B g : Nat) (s : Wr.St) : Prop :=
  ∃ A c l, Bk w g 56 #[.slice A l.length c, .int .i64 s.e] ∧ Rd w B A (bys l) ∧ l.length ≤ c ∧ c ≤ 9223372036854775807 ∧ (∀ x ∈ l, x < 256) ∧ (s.e = 0 → l = s.l) ∧ s.ok ∧ B ≤ w.heap.size
def RRPost (v : Value) (s : Wr.St) (B g : Nat) (w : World) (e : Ending) (w' : World) : Prop := e = .returned v ∧ RRd w' B g s ∧ Fr (fun k => k = g) w w'

section
variable {w w' : World} {B g : Nat} {s : Wr.St}
theorem RRd.lt (h : RRd w B g s) : g < w.heap.size := by obtain ⟨_, _, _, h, _⟩ := h; exact h.lt
theorem RRd.ok (h : RRd w B g s) : s.ok := by obtain ⟨_, _, _, _, _, _, _, _, _, h, _⟩ := h; exact h
theorem RRd.le (h : RRd w B g s) : B ≤ w.heap.size := by obtain ⟨_, _, _, _, _, _, _, _, _, _, h⟩ := h; exact h
theorem RRd.noByte {B' : Nat} (h : RRd w B g s) : NoByte (fun k => k = g) B' w := by obtain ⟨_, _, _, h, _⟩ := h; exact two_noByte h
theorem RRd.fr {S : Nat → Prop} (h : RRd w B g s) (hf : Fr S w w') (hg : ¬ S g) (hS : NoByte S B w) : RRd w' B g s := by
  obtain ⟨A, c, l, hb, hr, hc, hm, hx, he, ho, hB⟩ := h
  exact ⟨A, c, l, hb.fr hf hg, hr.bytes_fr hB hf hS, hc, hm, hx, he, ho, Nat.le_trans hB hf.size⟩
theorem RRd.bl (h : RRd w B g s) (hb : Bl w w') : RRd w' B g s := h.fr (Fr.of_bl (S := fun _ => False) hb) (fun h => h) (fun _ _ _ h => h.elim)
theorem RRd.drewN (h : RRd w B g s) (n : Nat) : RRd (w.drewN n) B g s := h
theorem RRd.drew (h : RRd w B g s) : RRd w.drew B g s := h
theorem RRd.alloc (h : RRd w B g s) (o : Obj) : RRd (w.alloc o) B g s := h.bl ((Bl.refl w).alloc o)
theorem RRd.row {base n size : Nat} {e : TypeId} {v : Value} {xs : List Value} (hg : RRd w B g s) (h : w.ownsRow base e size v n xs) (hne : e ≠ 56) : v.ownBlock ≠ some g := by
  obtain ⟨_, _, _, hg, _⟩ := hg; exact hg.row h hne
theorem RRd.grown {base n size : Nat} {e : TypeId} {v : Value} {xs : List Value} (hg : RRd w B g s) (h : w.ownsRow base e size v n xs) (hne : e ≠ 56) (hb : B ≤ base) (hw : w.grownBy w' v.ownBlock) : RRd w' B g s :=
  hg.fr (S := fun k => v.ownBlock = some k) ((Fr.refl _ w).grown hw fun _ h _ => h) (hg.row h hne) (NoByte.above fun k hk => Nat.le_trans hb (h.lt k hk).1)
/-- Readers lie apart. -/
theorem RRd.apart {B' g' : Nat} {s' : Wr.St} (h : RRd w B g s) (h' : Rdr w B' g' s') : g ≠ g' := by
  obtain ⟨_, _, _, h, _⟩ := h
  obtain ⟨_, _, h', _⟩ := h'
  exact h.apart h' (by decide)
theorem RRd.wrong {A : Option Addr} {l : List Nat} {c : Nat} {e x : Int} (h : Bk w g 56 #[.slice A l.length c, .int .i64 e]) (hr : Rd w B A (bys l)) (hc : l.length ≤ c) (hm : c ≤ 9223372036854775807) (hb : ∀ x ∈ l, x < 256) (hx : x ≠ 0) (hB : B ≤ w.heap.size) :
    RRd (w.setCell ⟨g, 1, none⟩ (.int .i64 x)) B g ⟨[], x⟩ := by
  have hf : Fr (fun i => i = g) w (w.setCell ⟨g, 1, none⟩ (.int .i64 x)) := (Fr.refl _ w).own 1 _
  exact ⟨A, c, l, h.put 1 (.int .i64 x), hr.bytes_fr hB hf (two_noByte h), hc, hm, hb, fun h => absurd h hx, ⟨by simp, fun _ => rfl⟩, Nat.le_trans hB hf.size⟩
theorem RRd.took {A : Option Addr} {l : List Nat} {c k : Nat} (h : Bk w g 56 #[.slice A l.length c, .int .i64 0]) (hr : Rd w B A (bys l)) (hB : B ≤ w.heap.size) (hc : l.length ≤ c) (hm : c ≤ 9223372036854775807) (hb : ∀ x ∈ l, x < 256) (hk : k ≤ l.length) :
    RRd (w.setCell ⟨g, 0, none⟩ (.slice (if c = k then A else A.map (·.add k)) (l.length - k) (c - k))) B g ⟨l.drop k, 0⟩ := by
  have hf : Fr (fun i => i = g) w (w.setCell ⟨g, 0, none⟩ (.slice (if c = k then A else A.map (·.add k)) (l.length - k) (c - k))) := (Fr.refl _ w).own 0 _
  refine ⟨if c = k then A else A.map (·.add k), c - k, l.drop k, ?_, ?_, ?_, by omega, fun x hx => hb x (List.mem_of_mem_drop hx), fun _ => rfl, ⟨fun x hx => hb x (List.mem_of_mem_drop hx), fun h => absurd rfl h⟩, Nat.le_trans hB hf.size⟩
  · rw [List.length_drop]
    exact h.put 0 _
  · have h1 : Rd w B (if c = k then A else A.map (·.add k)) (bys (l.drop k)) := by
      have := hr.cut (k := k) (cap := c) (by rw [bys_len]; exact hc)
      simpa [bys] using this
    exact h1.bytes_fr hB hf (two_noByte h)
  · rw [List.length_drop]; omega
end

set_option maxHeartbeats 400000 in
theorem rend_any (B g : Nat) (s : Wr.St) (w : World) (h : RRd w B g s) :
    Calls Try.prog 28 #[.pointer (some ⟨g, 0, none⟩)] w fun e w' => e = .returned (.int .i64 (Wr.fin s)) ∧ w = w' := by
  obtain ⟨A, c, l, hk, hr, hc, hm, hb, hel, ho, hB⟩ := h
  have hc0 : w.cell? ⟨g, 0, none⟩ = some (.slice A l.length c) := hk.cell 0
  have hc1 : w.cell? ⟨g, 1, none⟩ = some (.int .i64 s.e) := hk.cell 1
  by_cases he : s.e = 0
  · have he' : (s.e == 0) = true := by simp [he]
    have e := hel he
    subst e
    by_cases hl : 0 < s.l.length
    · have HF : Hid (Wr.fin s = 4) := by unfold Wr.fin; rw [if_pos hl]; exact rfl
      clear hk hr hc hm ho hb he hel hB
      go_enter Try.func28, Try.ntmps28
      go_wp2
      go_ret
      exact ⟨by rw [HF.out]; rfl, rfl⟩
    · have HF : Hid (Wr.fin s = s.e) := by unfold Wr.fin; rw [if_neg hl]; exact rfl
      clear hk hr hc hm ho hb he hel hB
      go_enter Try.func28, Try.ntmps28
      go_wp2
      go_ret
      exact ⟨by rw [HF.out]; rfl, rfl⟩
  · have he' : (s.e == 0) = false := by simpa using he
    have HF : Hid (Wr.fin s = s.e) := by unfold Wr.fin; rw [if_neg (by rw [ho.2 he]; simp)]; exact rfl
    clear hk hr hc hm ho hb he hel hB
    go_enter Try.func28, Try.ntmps28
    go_wp2
    go_ret
    exact ⟨by rw [HF.out]; rfl, rfl⟩

theorem rnum_calls {B g : Nat} {s : Wr.St} {most : Nat} {w : World} {v : Nat} {s' : Wr.St} (e : Wr.num s most = (v, s')) {f : FuncId} {args : Array Value}
    (h : Calls Try.prog f args w (RRPost (.int .i64 v) s' B g w)) : Calls Try.prog f args w (RRPost (.int .i64 (Wr.num s most).1) (Wr.num s most).2 B g w) := by rw [e]; exact h

set_option maxRecDepth 100000 in
set_option maxHeartbeats 1000000 in
theorem rnum_any (B g : Nat) (s : Wr.St) (most : Nat) (w : World) (h : RRd w B g s) (hmost : most < 9223372036854775808) :
    Calls Try.prog 38 #[.pointer (some ⟨g, 0, none⟩), .int .i64 most] w (RRPost (.int .i64 (Wr.num s most).1) (Wr.num s most).2 B g w) := by
  have HR := Lib.hid h
  obtain ⟨A, c, l, hk, hr, hc, hm, hb, hel, ho, hB⟩ := h
  have hc0 : w.cell? ⟨g, 0, none⟩ = some (.slice A l.length c) := hk.cell 0
  have hc1 : w.cell? ⟨g, 1, none⟩ = some (.int .i64 s.e) := hk.cell 1
  have hf0 := hk.free 0
  have hf1 := hk.free 1
  by_cases he : s.e = 0
  · have he' : (s.e != 0) = false := by simp [he]
    have e := hel he
    subst e
    have HK := Lib.hid hk
    have HA := Lib.hid hr
    have HB := Lib.hid hb
    have HE := Lib.hid he
    clear hk hr ho hb hel he
    by_cases h1 : (Vy.dec s.l).2.2 = 0
    · obtain ⟨n, k, hd, hn, hk0, hkl, _⟩ := Vy.dec_ok s.l HB.out h1
      have HD := Lib.hid hd
      clear h1 hd
      by_cases h2 : most < n
      · refine rnum_calls (v := 0) (s' := ⟨[], 5⟩) (Wr.num_big HE.out (by rw [HD.out]) (by rw [HD.out]; exact h2)) ?_
        go_enter Try.func38, Try.ntmps38
        go_wp2_with fail
        refine (rtake_any A s.l.length c s.l _ B rfl (by omega) HA.out HB.out).mono ?_
        rintro e w' ⟨rfl, rfl⟩
        rw [HD.out]
        go_wp2_with fail
        go_ret
        exact ⟨rfl, RRd.wrong HK.out HA.out hc hm HB.out (by decide) hB, (Fr.refl _ w).own 1 _⟩
      · refine rnum_calls (v := n) (s' := ⟨s.l.drop k, 0⟩) (by rw [Wr.num_fine HE.out (by rw [HD.out]) (by rw [HD.out]; show n ≤ most; omega), HD.out]) ?_
        have hki : (0 : Int) ≤ (k : Int) := by omega
        have hkj : (k : Int) ≤ (s.l.length : Int) := by omega
        go_enter Try.func38, Try.ntmps38
        go_wp2_with fail
        refine (rtake_any A s.l.length c s.l _ B rfl (by omega) HA.out HB.out).mono ?_
        rintro e w' ⟨rfl, rfl⟩
        rw [HD.out]
        go_wp2_with fail
        all_goals
          go_ret
          refine ⟨by go_num, ?_, (Fr.refl _ w).own 0 _⟩
          have hk2 := HK.out
          rw [HE.out] at hk2
          have ht := RRd.took hk2 HA.out hB hc hm HB.out hkl
          first
            | (have hck : c = k := by assumption
               rw [if_pos hck, show c - k = 0 by omega] at ht; exact ht)
            | (have hck : ¬ c = k := by assumption
               rw [if_neg hck] at ht; exact ht)
    · have hdt2 : (((Vy.dec s.l).2.2 : Int) != 0) = true := by simp; omega
      have HX := Lib.hid (Wr.num_err HE.out h1 most)
      have hx3 : ((Vy.dec s.l).2.2 : Int) ≠ 0 := by omega
      refine rnum_calls HX.out ?_
      generalize hz : Vy.dec s.l = z at *
      obtain ⟨z1, z2, z3⟩ := z
      have HZ := Lib.hid hz
      have H3 := Lib.hid hx3
      clear hz h1 HX hx3
      simp only at hdt2 ⊢
      go_enter Try.func38, Try.ntmps38
      go_wp2_with fail
      refine (rtake_any A s.l.length c s.l _ B rfl (by omega) HA.out HB.out).mono ?_
      rintro e w' ⟨rfl, rfl⟩
      rw [HZ.out]
      go_wp2_with fail
      go_ret
      exact ⟨rfl, RRd.wrong HK.out HA.out hc hm HB.out H3.out hB, (Fr.refl _ w).own 1 _⟩
  · have he' : (s.e != 0) = true := by simpa using he
    refine rnum_calls (Wr.num_bad he most) ?_
    clear hk hr hc hm ho hb he hel hB
    go_enter Try.func38, Try.ntmps38
    go_wp2_with fail
    go_ret
    exact ⟨rfl, HR.out, Fr.refl _ _⟩
end Go.Proofs.Ytmegpmkjhbihaaa
