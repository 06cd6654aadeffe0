/- wire.Reader: what it holds, and the calls New, Wrong, Num, Bool, Left, End. -/
import Derived.Test.YtmegpmkjhbihaaaVTake
import Derived.Test.YtmegpmkjhbihaaaVPut
import Derived.Test.YtmegpmkjhbihaaaWMem
import Derived.Test.YtmegpmkjhbihaaaWMath
namespace Go.Proofs.Ytmegpmkjhbihaaa
open Go.RowKit

/-- A reader at block g: its bytes that are left, below block B, and what went wrong. -/
def Rdr (w : World) (B g : Nat) (s : Wr.St) : Prop :=
  ∃ A c, Bk w g 66 #[.slice A s.l.length c, .int .i64 s.e] ∧ Rd w B A (bys s.l) ∧ s.l.length ≤ c ∧ c ≤ 9223372036854775807 ∧ s.ok ∧ B ≤ w.heap.size
/-- What a reader's call leaves: a value, the reader, and nothing else has turned. -/
def RPost (v : Value) (s : Wr.St) (B g : Nat) (w : World) (e : Ending) (w' : World) : Prop := e = .returned v ∧ Rdr w' B g s ∧ Fr (fun k => k = g) w w'

section
variable {w w' : World} {B g : Nat} {s : Wr.St}
theorem Rdr.lt (h : Rdr w B g s) : g < w.heap.size := by obtain ⟨_, _, h, _⟩ := h; exact h.lt
theorem Rdr.ok (h : Rdr w B g s) : s.ok := by obtain ⟨_, _, _, _, _, _, h, _⟩ := h; exact h
theorem Rdr.le (h : Rdr w B g s) : B ≤ w.heap.size := by obtain ⟨_, _, _, _, _, _, _, h⟩ := h; exact h
theorem Rdr.len (h : Rdr w B g s) : s.l.length ≤ 9223372036854775807 := by obtain ⟨_, _, _, _, h1, h2, _⟩ := h; omega
theorem two_noByte {g B : Nat} {t : TypeId} {A : Option Addr} {n c : Nat} {e : Int} (h : Bk w g t #[.slice A n c, .int .i64 e]) : NoByte (fun k => k = g) B w := by
  rintro k o x rfl _ hc
  rw [h.cell o] at hc
  match o with
  | 0 => simp at hc
  | 1 => simp at hc
  | o + 2 => simp at hc
theorem Rdr.noByte {B' : Nat} (h : Rdr w B g s) : NoByte (fun k => k = g) B' w := by obtain ⟨_, _, h, _⟩ := h; exact two_noByte h
theorem Rdr.fr {S : Nat → Prop} (h : Rdr w B g s) (hf : Fr S w w') (hg : ¬ S g) (hS : NoByte S B w) : Rdr w' B g s := by
  obtain ⟨A, c, hb, hr, hc, hm, ho, hB⟩ := h
  exact ⟨A, c, hb.fr hf hg, hr.bytes_fr hB hf hS, hc, hm, ho, Nat.le_trans hB hf.size⟩
theorem Rdr.bl (h : Rdr w B g s) (hb : Bl w w') : Rdr w' B g s := h.fr (Fr.of_bl (S := fun _ => False) hb) (fun h => h) (fun _ _ _ h => h.elim)
theorem Rdr.drewN (h : Rdr w B g s) (n : Nat) : Rdr (w.drewN n) B g s := h
theorem Rdr.drew (h : Rdr w B g s) : Rdr w.drew B g s := h
theorem Rdr.alloc (h : Rdr w B g s) (o : Obj) : Rdr (w.alloc o) B g s := h.bl ((Bl.refl w).alloc o)
theorem Rdr.apart {g' : Nat} {t : TypeId} {cs : Array Value} (h : Rdr w B g s) (h' : Bk w g' t cs) (hne : 66 ≠ t) : g ≠ g' := by obtain ⟨_, _, h, _⟩ := h; exact h.apart h' hne
theorem Rdr.row {base n size : Nat} {e : TypeId} {v : Value} {xs : List Value} (hg : Rdr w B g s) (h : w.ownsRow base e size v n xs) (hne : e ≠ 66) : v.ownBlock ≠ some g := by
  obtain ⟨_, _, hg, _⟩ := hg; exact hg.row h hne
/-- A row of the call's own has grown. -/
theorem Rdr.grown {base n size : Nat} {e : TypeId} {v : Value} {xs : List Value} (hg : Rdr w B g s) (h : w.ownsRow base e size v n xs) (hne : e ≠ 66) (hb : B ≤ base) (hw : w.grownBy w' v.ownBlock) : Rdr w' B g s :=
  hg.fr (S := fun k => v.ownBlock = some k) ((Fr.refl _ w).grown hw fun _ h _ => h) (hg.row h hne) (NoByte.above fun k hk => Nat.le_trans hb (h.lt k hk).1)
/-- Something has gone wrong. -/
theorem Rdr.wrong {A : Option Addr} {n c : Nat} {e x : Int} (h : Bk w g 66 #[.slice A n c, .int .i64 e]) (hB : B ≤ w.heap.size) :
    Rdr ((w.setCell ⟨g, 1, none⟩ (.int .i64 x)).setCell ⟨g, 0, none⟩ (.slice none 0 0)) B g ⟨[], x⟩ :=
  ⟨none, 0, (h.put 1 (.int .i64 x)).put 0 (.slice none 0 0), Rd.nil, Nat.le_refl _, by omega, ⟨by simp, fun _ => rfl⟩, by simpa [World.setCell] using hB⟩
/-- Bytes have been taken. -/
theorem Rdr.took {A : Option Addr} {l : List Nat} {c k : Nat} (h : Bk w g 66 #[.slice A l.length c, .int .i64 0]) (hr : Rd w B A (bys l)) (hB : B ≤ w.heap.size) (hc : l.length ≤ c) (hm : c ≤ 9223372036854775807) (hb : ∀ x ∈ l, x < 256) (hk : k ≤ l.length) :
    Rdr (w.setCell ⟨g, 0, none⟩ (.slice (if c = k then A else A.map (·.add k)) (l.length - k) (c - k))) B g ⟨l.drop k, 0⟩ := by
  have hf : Fr (fun i => i = g) w (w.setCell ⟨g, 0, none⟩ (.slice (if c = k then A else A.map (·.add k)) (l.length - k) (c - k))) := (Fr.refl _ w).own 0 _
  refine ⟨if c = k then A else A.map (·.add k), c - k, ?_, ?_, ?_, by omega, ⟨fun x hx => hb x (List.mem_of_mem_drop hx), fun h => absurd rfl h⟩, Nat.le_trans hB hf.size⟩
  · show Bk _ g _ #[.slice _ (l.drop k).length _, _]
    rw [List.length_drop]
    exact h.put 0 _
  · have h1 : Rd w B (if c = k then A else A.map (·.add k)) (bys (l.drop k)) := by
      have := hr.cut (k := k) (cap := c) (by rw [bys_len]; exact hc)
      simpa [bys] using this
    exact h1.bytes_fr hB hf (two_noByte h)
  · show (l.drop k).length ≤ _
    rw [List.length_drop]; omega
end

theorem results_no {fn : Func} (h : fn.results = #[]) (tmps : Array Value) (P : Program) (w : World) : (results fn tmps).run P w = .ok (.tuple #[]) w := by simp [results, h]

set_option maxHeartbeats 400000 in
theorem wrong_any (B g : Nat) (s : Wr.St) (x : Int) (w : World) (h : Rdr w B g s) :
    Calls Try.prog 44 #[.pointer (some ⟨g, 0, none⟩), .int .i64 x] w (RPost (.tuple #[]) (Wr.bad s x) B g w) := by
  have HR := Lib.hid h
  obtain ⟨A, c, hk, hr, hc, hm, ho, hB⟩ := h
  have hc0 : w.cell? ⟨g, 0, none⟩ = some (.slice A s.l.length c) := hk.cell 0
  have hc1 : w.cell? ⟨g, 1, none⟩ = some (.int .i64 s.e) := hk.cell 1
  have hf0 := hk.free 0
  have hf1 := hk.free 1
  have HK := Lib.hid hk
  clear hk hr hc hm ho
  by_cases hx : x = 0
  · have hx' : (x == 0) = true := by simp [hx]
    have HS : Hid (Wr.bad s x = s) := by unfold Wr.bad; rw [if_pos (.inl hx)]; exact rfl
    clear hx
    go_enter Try.func44, Try.ntmps44
    go_wp2
    refine bodyPost_ret (results_no rfl _ _ _) rfl ?_
    exact ⟨rfl, by rw [HS.out]; exact HR.out, Fr.refl _ _⟩
  · have hx' : (x == 0) = false := by simpa using hx
    by_cases he : s.e = 0
    · have he' : (s.e != 0) = false := by simp [he]
      have HS : Hid (Wr.bad s x = ⟨[], x⟩) := by unfold Wr.bad; rw [if_neg (by simp [hx, he])]; exact rfl
      clear hx he
      go_enter Try.func44, Try.ntmps44
      go_wp2
      go_end0
      exact ⟨rfl, by rw [HS.out]; exact Rdr.wrong HK.out hB, ((Fr.refl _ w).own 1 _).own 0 _⟩
    · have he' : (s.e != 0) = true := by simpa using he
      have HS : Hid (Wr.bad s x = s) := by unfold Wr.bad; rw [if_pos (.inr he)]; exact rfl
      clear hx he
      go_enter Try.func44, Try.ntmps44
      go_wp2
      refine bodyPost_ret (results_no rfl _ _ _) rfl ?_
      exact ⟨rfl, by rw [HS.out]; exact HR.out, Fr.refl _ _⟩

set_option maxHeartbeats 400000 in
theorem above_any (n most : Nat) (w : World) (hm : most < 9223372036854775808) :
    Calls Try.prog 43 #[.int .u64 n, .int .i64 most] w fun e w' => e = .returned (.bool (decide (most < n))) ∧ w = w' := by
  have h0 : ¬ ((most : Int) < 0) := by omega
  go_enter Try.func43, Try.ntmps43
  go_wp2
  go_ret
  exact ⟨by simp, rfl⟩

set_option maxHeartbeats 400000 in
theorem left_any (B g : Nat) (s : Wr.St) (w : World) (h : Rdr w B g s) :
    Calls Try.prog 37 #[.pointer (some ⟨g, 0, none⟩)] w fun e w' => e = .returned (.int .i64 s.l.length) ∧ w = w' := by
  obtain ⟨A, c, hk, hr, hc, hm, ho, hB⟩ := h
  have hc0 : w.cell? ⟨g, 0, none⟩ = some (.slice A s.l.length c) := hk.cell 0
  clear hk hr hc hm ho
  go_enter Try.func37, Try.ntmps37
  go_wp2
  go_ret
  exact ⟨rfl, rfl⟩

set_option maxHeartbeats 400000 in
theorem end_any (B g : Nat) (s : Wr.St) (w : World) (h : Rdr w B g s) :
    Calls Try.prog 26 #[.pointer (some ⟨g, 0, none⟩)] w fun e w' => e = .returned (.int .i64 (Wr.fin s)) ∧ w = w' := by
  have HR := Lib.hid h
  obtain ⟨A, c, hk, hr, hc, hm, ho, hB⟩ := h
  have hc1 : w.cell? ⟨g, 1, none⟩ = some (.int .i64 s.e) := hk.cell 1
  clear hk hr hc hm ho
  by_cases hl : 0 < s.l.length
  · have HF : Hid (Wr.fin s = 4) := by unfold Wr.fin; rw [if_pos hl]; exact rfl
    go_enter Try.func26, Try.ntmps26
    go_wp2_with fail
    refine (left_any B g s _ HR.out).mono ?_
    rintro e w' ⟨rfl, rfl⟩
    go_wp2_with fail
    go_ret
    exact ⟨by rw [HF.out]; rfl, rfl⟩
  · have HF : Hid (Wr.fin s = s.e) := by unfold Wr.fin; rw [if_neg hl]; exact rfl
    go_enter Try.func26, Try.ntmps26
    go_wp2_with fail
    refine (left_any B g s _ HR.out).mono ?_
    rintro e w' ⟨rfl, rfl⟩
    go_wp2_with fail
    go_ret
    exact ⟨by rw [HF.out]; rfl, rfl⟩

theorem num_calls {B g : Nat} {s : Wr.St} {most : Nat} {w : World} {v : Nat} {s' : Wr.St} (e : Wr.num s most = (v, s')) {f : FuncId} {args : Array Value}
    (h : Calls Try.prog f args w (RPost (.int .i64 v) s' B g w)) : Calls Try.prog f args w (RPost (.int .i64 (Wr.num s most).1) (Wr.num s most).2 B g w) := by rw [e]; exact h

set_option maxRecDepth 100000 in
set_option maxHeartbeats 1000000 in
theorem num_any (B g : Nat) (s : Wr.St) (most : Nat) (w : World) (h : Rdr w B g s) (hmost : most < 9223372036854775808) :
    Calls Try.prog 36 #[.pointer (some ⟨g, 0, none⟩), .int .i64 most] w (RPost (.int .i64 (Wr.num s most).1) (Wr.num s most).2 B g w) := by
  have HR := Lib.hid h
  obtain ⟨A, c, hk, hr, hc, hm, ho, hB⟩ := h
  have hc0 : w.cell? ⟨g, 0, none⟩ = some (.slice A s.l.length c) := hk.cell 0
  have hf0 := hk.free 0
  have HK := Lib.hid hk
  have HA := Lib.hid hr
  have HO := Lib.hid ho
  clear hk hr ho
  by_cases h1 : (Vy.dec s.l).2.2 = 0
  · obtain ⟨n, k, hd, hn, hk0, hkl, _⟩ := Vy.dec_ok s.l HO.out.1 h1
    have h0 : s.e = 0 := Classical.byContradiction fun hne => by
      have := HO.out.2 hne
      rw [this] at hkl
      simp at hkl
      omega
    have HD := Lib.hid hd
    have HE := Lib.hid h0
    clear h1 hd h0
    by_cases h2 : most < n
    · refine num_calls (v := 0) (s' := ⟨[], 5⟩) (Wr.num_big HE.out (by rw [HD.out]) (by rw [HD.out]; exact h2)) ?_
      have hdt : decide (most < n) = true := by simp [h2]
      have HB : Hid (Wr.bad s 5 = ⟨[], 5⟩) := by unfold Wr.bad; rw [if_neg (by simp [HE.out])]; exact rfl
      go_enter Try.func36, Try.ntmps36
      go_wp2_with fail
      refine (take_any A s.l.length c s.l _ B rfl (by omega) HA.out HO.out.1).mono ?_
      rintro e w' ⟨rfl, rfl⟩
      rw [HD.out]
      go_wp2_with fail
      refine (above_any n most _ hmost).mono ?_
      rintro e w' ⟨rfl, rfl⟩
      go_wp2_with fail
      refine (wrong_any B g s 5 _ HR.out).mono ?_
      rintro e w' ⟨rfl, hr', hf'⟩
      have HR' := Lib.hid hr'
      have HF' := Lib.hid hf'
      clear hr' hf'
      go_wp2_with fail
      go_ret
      exact ⟨rfl, by rw [← HB.out]; exact HR'.out, HF'.out⟩
    · refine num_calls (v := n) (s' := ⟨s.l.drop k, 0⟩) (by rw [Wr.num_fine HE.out (by rw [HD.out]) (by rw [HD.out]; show n ≤ most; omega), HD.out]) ?_
      have hdt : decide (most < n) = false := by simp; omega
      have hki : (0 : Int) ≤ (k : Int) := by omega
      have hkj : (k : Int) ≤ (s.l.length : Int) := by omega
      go_enter Try.func36, Try.ntmps36
      go_wp2_with fail
      refine (take_any A s.l.length c s.l _ B rfl (by omega) HA.out HO.out.1).mono ?_
      rintro e w' ⟨rfl, rfl⟩
      rw [HD.out]
      go_wp2_with fail
      refine (above_any n most _ hmost).mono ?_
      rintro e w' ⟨rfl, rfl⟩
      go_wp2_with fail
      all_goals
        go_ret
        refine ⟨by go_num, ?_, (Fr.refl _ w).own 0 _⟩
        have hk2 := HK.out
        rw [HE.out] at hk2
        have ht := Rdr.took hk2 HA.out hB hc hm HO.out.1 hkl
        first
          | (have hck : c = k := by assumption
             rw [if_pos hck, show c - k = 0 by omega] at ht; exact ht)
          | (have hck : ¬ c = k := by assumption
             rw [if_neg hck] at ht; exact ht)
  · have hdt : (((Vy.dec s.l).2.2 : Int) == 0) = false := by simp; omega
    have hdt2 : (((Vy.dec s.l).2.2 : Int) != 0) = true := by simp; omega
    have HX : Hid (Wr.num s most = (0, Wr.bad s ((Vy.dec s.l).2.2 : Nat))) := by
      unfold Hid
      by_cases he : s.e = 0
      · rw [Wr.num_err he h1]; unfold Wr.bad; rw [if_neg (by simp [he]; omega)]
      · rw [Wr.num_bad he]; unfold Wr.bad; rw [if_pos (.inr he)]
    refine num_calls HX.out ?_
    generalize hz : Vy.dec s.l = z at *
    obtain ⟨z1, z2, z3⟩ := z
    have HZ := Lib.hid hz
    clear hz h1 HX
    simp only at hdt hdt2 ⊢
    go_enter Try.func36, Try.ntmps36
    go_wp2_with fail
    refine (take_any A s.l.length c s.l _ B rfl (by omega) HA.out HO.out.1).mono ?_
    rintro e w' ⟨rfl, rfl⟩
    rw [HZ.out]
    go_wp2_with fail
    refine (wrong_any B g s z3 _ HR.out).mono ?_
    rintro e w' ⟨rfl, hr', hf'⟩
    have HR' := Lib.hid hr'
    have HF' := Lib.hid hf'
    clear hr' hf'
    go_wp2_with fail
    go_ret
    exact ⟨rfl, HR'.out, HF'.out⟩

theorem int_one (n : Nat) : ((n : Int) == 1) = decide (n = 1) := by rw [Bool.eq_iff_iff]; simp; omega

end Go.Proofs.Ytmegpmkjhbihaaa
