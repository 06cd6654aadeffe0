/- wire.List at the law's things: each is a number and a bool. -/
import Derived.Test.YthhlgjedgbdgcaaWBack
namespace Go.Proofs.Ythhlgjedgbdgcaa
open Go.RowKit

/-- A number and a bool are read: the thing's kind, and its number. -/
def lone (s : Wr.St) (tp : Nat) : (Int × Int) × Wr.St := ((if (Wr.num (Wr.num s tp).2 1).1 = 1 then 1 else 0, ((Wr.num s tp).1 : Int)), (Wr.num (Wr.num s tp).2 1).2)
/-- So many of them. -/
def lmany : Nat → Wr.St → Nat → List (Int × Int) × Wr.St
  | 0, s, _ => ([], s)
  | k + 1, s, tp => ((lone s tp).1 :: (lmany k (lone s tp).2 tp).1, (lmany k (lone s tp).2 tp).2)
theorem lone_ok {s : Wr.St} (h : s.ok) (tp : Nat) : (lone s tp).2.ok := Wr.num_ok (Wr.num_ok h tp) 1
theorem lone_bad {s : Wr.St} (h : s.e ≠ 0) (tp : Nat) : (lone s tp).2 = s := by
  unfold lone
  rw [Wr.num_bad h tp]
  show (Wr.num s 1).2 = s
  rw [Wr.num_bad h 1]
theorem lmany_ok : ∀ (k : Nat) {s : Wr.St} (_ : s.ok) (tp : Nat), (lmany k s tp).2.ok
  | 0, _, h, _ => h
  | k + 1, _, h, tp => lmany_ok k (lone_ok h tp) tp
theorem lmany_len : ∀ (k : Nat) (s : Wr.St) (tp : Nat), (lmany k s tp).1.length = k
  | 0, _, _ => rfl
  | k + 1, s, tp => by simp only [lmany, List.length_cons, lmany_len k]
theorem lmany_snoc : ∀ (k : Nat) (s : Wr.St) (tp : Nat), lmany (k + 1) s tp = ((lmany k s tp).1 ++ [(lone (lmany k s tp).2 tp).1], (lone (lmany k s tp).2 tp).2)
  | 0, _, _ => rfl
  | k + 1, s, tp => by
    have ih := lmany_snoc k (lone s tp).2 tp
    rw [lmany, ih]
    rfl
theorem lmany_bad : ∀ (k : Nat) {s : Wr.St} (_ : s.e ≠ 0) (tp : Nat), (lmany k s tp).2 = s
  | 0, _, _, _ => rfl
  | k + 1, s, h, tp => by
    show (lmany k (lone s tp).2 tp).2 = s
    rw [lone_bad h]
    exact lmany_bad k h tp
theorem lmany_add : ∀ (k j : Nat) (s : Wr.St) (tp : Nat), (lmany (k + j) s tp).2 = (lmany j (lmany k s tp).2 tp).2
  | 0, j, s, tp => by rw [Nat.zero_add]; rfl
  | k + 1, j, s, tp => by
    rw [Nat.add_right_comm]
    exact lmany_add k j (lone s tp).2 tp
theorem lmany_stays {k n : Nat} (hk : k ≤ n) {s : Wr.St} {tp : Nat} (h : (lmany k s tp).2.e ≠ 0) : (lmany n s tp).2 = (lmany k s tp).2 := by
  obtain ⟨j, rfl⟩ := Nat.le.dest hk
  rw [lmany_add, lmany_bad j h]
/-- A list of them. -/
def llist (s : Wr.St) (mn tp : Nat) : List (Int × Int) × Wr.St :=
  (if (lmany (Wr.num s mn).1 (Wr.num s mn).2 tp).2.e = 0 then (lmany (Wr.num s mn).1 (Wr.num s mn).2 tp).1 else [], (lmany (Wr.num s mn).1 (Wr.num s mn).2 tp).2)
theorem llist_done {s : Wr.St} {mn tp : Nat} (h : (lmany (Wr.num s mn).1 (Wr.num s mn).2 tp).2.e = 0) : llist s mn tp = lmany (Wr.num s mn).1 (Wr.num s mn).2 tp := by unfold llist; rw [if_pos h]
theorem llist_wrong {s : Wr.St} {mn tp k : Nat} (hk : k ≤ (Wr.num s mn).1) (h : (lmany k (Wr.num s mn).2 tp).2.e ≠ 0) : llist s mn tp = ([], (lmany k (Wr.num s mn).2 tp).2) := by
  unfold llist
  rw [lmany_stays hk h, if_neg h]

/-- The cells of such a thing, and of a row of them. -/
def lcells (p : Int × Int) : List Value := [.int .i64 p.1, .int .i64 p.2, .slice none 0 0, .int .i64 0]
def lrow (l : List (Int × Int)) : List Value := l.flatMap lcells
theorem lrow_snoc (l : List (Int × Int)) (p : Int × Int) : lrow (l ++ [p]) = lrow l ++ lcells p := by simp [lrow]
theorem lrow_at : ∀ (l : List (Int × Int)) (i : Nat) (h : i < l.length), (lrow l)[i * 4]? = some (.int .i64 l[i].1) ∧ (lrow l)[i * 4 + 1]? = some (.int .i64 l[i].2)
  | [], _, h => by simp at h
  | p :: l, 0, _ => by
    show (lcells p ++ lrow l)[0]? = _ ∧ (lcells p ++ lrow l)[1]? = _
    exact ⟨rfl, rfl⟩
  | p :: l, i + 1, h => by
    have ih := lrow_at l i (by simpa using h)
    have e : ∀ j, (lrow (p :: l))[j + 4]? = (lrow l)[j]? := fun j => by
      show (lcells p ++ lrow l)[j + 4]? = _
      rw [List.getElem?_append_right (by simp [lcells])]
      rfl
    rw [show (i + 1) * 4 = i * 4 + 4 by omega, e, show i * 4 + 4 + 1 = (i * 4 + 1) + 4 by omega, e]
    exact ih
theorem lrow_len (l : List (Int × Int)) : (lrow l).length = l.length * 4 := by
  induction l with
  | nil => rfl
  | cons p l ih =>
    show (lcells p ++ lrow l).length = _
    rw [List.length_append, ih, List.length_cons]
    show 4 + l.length * 4 = _
    omega
theorem lrow_cell {w : World} {base g n cap : Nat} {e : TypeId} {l : List (Int × Int)} (h : w.ownsRow base e 4 (.slice (some ⟨g, 0, none⟩) n cap) n (lrow l)) (hn : n = l.length) {i : Nat} (hi : i < l.length) :
    w.cell? ⟨g, i * 4, none⟩ = some (.int .i64 l[i].1) ∧ w.cell? ⟨g, i * 4 + 1, none⟩ = some (.int .i64 l[i].2) := by
  have h1 := lrow_at l i hi
  exact ⟨(h.cellAt (i * 4) (by omega)).trans h1.1, (h.cellAt (i * 4 + 1) (by omega)).trans h1.2⟩

theorem thing_info : (Try.prog.info? 32).map (fun i => (i.zero, i.size, i.bytes)) = some (some (.agg #[.int .i64 0, .int .i64 0, .slice none 0 0, .int .i64 0]), 4, 48) := by kernel_rfl

theorem Rdr.setCell {w : World} {B g : Nat} {s : Wr.St} (h : Rdr w B g s) {p : Addr} (hp : B ≤ p.block) (hne : p.block ≠ g) (u : Value) : Rdr (w.setCell p u) B g s :=
  h.fr (S := fun k => k = p.block) ((Fr.refl (fun k => k = p.block) w).setCell (p := p) (.inl rfl) u) (fun e => hne e.symm) (NoByte.above fun k hk => by omega)

theorem Rdr.setAt {w : World} {B g b o : Nat} {s : Wr.St} (h : Rdr w B g s) (hp : B ≤ b) (hne : b ≠ g) (u : Value) : Rdr (w.setCell ⟨b, o, none⟩ u) B g s := h.setCell (p := ⟨b, o, none⟩) hp hne u
theorem Fr.setAt {S : Nat → Prop} {a w : World} {b o : Nat} (h : Fr S a w) (hb : a.heap.size ≤ b) (u : Value) : Fr S a (w.setCell ⟨b, o, none⟩ u) := h.setCell (p := ⟨b, o, none⟩) (.inr hb) u

set_option maxRecDepth 100000 in
set_option maxHeartbeats 1000000 in
theorem lone_any (B g gt : Nat) (s : Wr.St) (tp : Nat) (w : World) (h : Rdr w B g s) (ht : Bk w gt 3 #[.int .i64 tp]) (htp : tp < 9223372036854775808) :
    Calls Try.prog 29 #[.pointer (some ⟨g, 0, none⟩), .pointer (some ⟨gt, 0, none⟩)] w (RPost (.agg #[.int .i64 (lone s tp).1.1, .int .i64 (lone s tp).1.2, .slice none 0 0, .int .i64 0]) (lone s tp).2 B g w) := by
  have hB := h.le
  have hlt := h.lt
  have hgt := ht.lt
  have hct : w.cell? ⟨gt, 0, none⟩ = some (.int .i64 tp) := ht.cell 0
  have HR := Lib.hid (h.alloc (.cells #[.int .i64 0, .int .i64 0, .slice none 0 0, .int .i64 0] 32))
  have HK0 := Lib.hid (Bk.new w 32 #[.int .i64 0, .int .i64 0, .slice none 0 0, .int .i64 0])
  clear h ht
  go_enter Try.func29, Try.ntmps29
  go_wp2_with fail
  refine (num_any B g s tp _ HR.out htp).mono ?_
  rintro e w1 ⟨rfl, hr1, hf1⟩
  have HR1 := Lib.hid (hr1.alloc (.cells #[.int .i64 0, .int .i64 ((Wr.num s tp).1 : Int), .slice none 0 0, .int .i64 0] 32))
  have HK1 := Lib.hid ((HK0.out.fr hf1 (by omega)).alloc (.cells #[.int .i64 0, .int .i64 ((Wr.num s tp).1 : Int), .slice none 0 0, .int .i64 0] 32))
  have HL1 := Lib.hid (Bk.new w1 32 #[.int .i64 0, .int .i64 ((Wr.num s tp).1 : Int), .slice none 0 0, .int .i64 0])
  have HF1 := Lib.hid (((Fr.refl _ w).alloc _).same hf1)
  have hs1 : w.heap.size + 1 ≤ w1.heap.size := by have := hf1.size; simpa using this
  clear hr1 hf1
  go_wp2_with fail
  refine (bool_any B g _ _ HR1.out).mono ?_
  rintro e w2 ⟨rfl, hr2, hf2⟩
  have HR2 := Lib.hid hr2
  have HK2 := Lib.hid (HK1.out.fr hf2 (by omega))
  have HL2 := Lib.hid (HL1.out.fr hf2 (by omega))
  have HF2 := Lib.hid ((HF1.out.alloc _).same hf2)
  have hs2 : w1.heap.size < w2.heap.size := by have := hf2.size; simp at this; omega
  have k0 : w2.cell? ⟨w.heap.size, 0, none⟩ = some (.int .i64 0) := HK2.out.cell 0
  have k1 : w2.cell? ⟨w.heap.size, 1, none⟩ = some (.int .i64 0) := HK2.out.cell 1
  have k2 : w2.cell? ⟨w.heap.size, 2, none⟩ = some (.slice none 0 0) := HK2.out.cell 2
  have k3 : w2.cell? ⟨w.heap.size, 3, none⟩ = some (.int .i64 0) := HK2.out.cell 3
  have f0 := HK2.out.free 0
  have f1 := HK2.out.free 1
  have f2 := HK2.out.free 2
  have f3 := HK2.out.free 3
  have l0 : w2.cell? ⟨w1.heap.size, 0, none⟩ = some (.int .i64 0) := HL2.out.cell 0
  have l1 : w2.cell? ⟨w1.heap.size, 1, none⟩ = some (.int .i64 ((Wr.num s tp).1 : Int)) := HL2.out.cell 1
  have l2 : w2.cell? ⟨w1.heap.size, 2, none⟩ = some (.slice none 0 0) := HL2.out.cell 2
  have l3 : w2.cell? ⟨w1.heap.size, 3, none⟩ = some (.int .i64 0) := HL2.out.cell 3
  have g0 := HL2.out.free 0
  have hne : w1.heap.size ≠ w.heap.size := by omega
  have hne2 : w.heap.size ≠ w1.heap.size := by omega
  clear hr2 hf2
  by_cases hb : (Wr.num (Wr.num s tp).2 1).1 = 1
  · have hbt : decide ((Wr.num (Wr.num s tp).2 1).1 = 1) = true := by simp [hb]
    have HE : Hid (lone s tp = ((1, ((Wr.num s tp).1 : Int)), (Wr.num (Wr.num s tp).2 1).2)) := by unfold lone; rw [if_pos hb]; exact rfl
    clear hb
    go_wp2_with fail
    refine bodyPost_ret (v := .agg #[.int .i64 1, .int .i64 ((Wr.num s tp).1 : Int), .slice none 0 0, .int .i64 0]) (by simp [results, Try.results29, go_sem, *]) rfl ⟨by rw [HE.out], ?_, ?_⟩
    · rw [HE.out]
      iterate 5 refine Rdr.setAt ?_ (by omega) (by omega) _
      exact HR2.out
    · iterate 5 refine Fr.setAt ?_ (by omega) _
      exact HF2.out
  · have hbt : decide ((Wr.num (Wr.num s tp).2 1).1 = 1) = false := by simp [hb]
    have HE : Hid (lone s tp = ((0, ((Wr.num s tp).1 : Int)), (Wr.num (Wr.num s tp).2 1).2)) := by unfold lone; rw [if_neg hb]; exact rfl
    clear hb
    go_wp2_with fail
    refine bodyPost_ret (v := .agg #[.int .i64 0, .int .i64 ((Wr.num s tp).1 : Int), .slice none 0 0, .int .i64 0]) (by simp [results, Try.results29, go_sem, *]) rfl ⟨by rw [HE.out], ?_, ?_⟩
    · rw [HE.out]
      iterate 4 refine Rdr.setAt ?_ (by omega) (by omega) _
      exact HR2.out
    · iterate 4 refine Fr.setAt ?_ (by omega) _
      exact HF2.out

/-- What List leaves: a row of its own. -/
def LPost (xs : List (Int × Int)) (s : Wr.St) (B g : Nat) (w : World) (e : Ending) (w' : World) : Prop :=
  ∃ v, e = .returned v ∧ w'.ownsRow w.heap.size 32 4 v xs.length (lrow xs) ∧ Rdr w' B g s ∧ Fr (fun k => k = g) w w'

theorem l_next {s1 : Wr.St} {tp B g k : Nat} {w w1 w2 : World} {v v' : Value} (hB : B ≤ w.heap.size) (ho : w1.ownsRow w.heap.size 32 4 v k (lrow (lmany k s1 tp).1))
    (hr : Rdr w1 B g (lone (lmany k s1 tp).2 tp).2) (hf : Fr (fun i => i = g) w w1)
    (ho' : w2.ownsRow w.heap.size 32 4 v' (k + 1) (lrow (lmany k s1 tp).1 ++ lcells (lone (lmany k s1 tp).2 tp).1)) {o : Obj} (hg : (w1.alloc o).grownBy w2 v.ownBlock) :
    w2.ownsRow w.heap.size 32 4 v' (k + 1) (lrow (lmany (k + 1) s1 tp).1) ∧ Rdr w2 B g (lmany (k + 1) s1 tp).2 ∧ Fr (fun i => i = g) w w2 := by
  have e := lmany_snoc k s1 tp
  refine ⟨?_, ?_, ?_⟩
  · rw [e, lrow_snoc]; exact ho'
  · rw [e]
    exact (hr.alloc o).grown (ho.alloc o) (by decide) hB hg
  · exact (hf.alloc o).grown hg fun i hi hlt => absurd (ho.lt i hi).1 (by omega)
theorem lcells_new (w : World) (p : Int × Int) (t : TypeId) : ∀ j u, (lcells p)[j]? = some u → (w.alloc (.cells (lcells p).toArray t)).cell? ((⟨w.heap.size, 0, none⟩ : Addr).add j) = some u := by
  intro j u hu
  exact World.news_of_block (cs := (lcells p).toArray) (t := t) (fr := (0, 0)) (heap_alloc_new w _) j u (by simpa using hu)
theorem lcells_one (p : Int × Int) : ∀ u ∈ lcells p, u.oneCell' = true := by
  intro u hu
  simp only [lcells, List.mem_cons, List.not_mem_nil, or_false] at hu
  rcases hu with rfl | rfl | rfl | rfl <;> rfl

set_option maxRecDepth 100000 in
set_option maxHeartbeats 1000000 in
theorem eachTh_any (B g gt : Nat) (s : Wr.St) (mn tp : Nat) (w : World) (h : Rdr w B g s) (ht : Bk w gt 3 #[.int .i64 tp]) (hmn : mn ≤ 1000000000) (htp : tp < 9223372036854775808) :
    Calls Try.prog 38 #[.pointer (some ⟨g, 0, none⟩), .int .i64 mn, .func (.func 29) #[] #[.pointer (some ⟨gt, 0, none⟩)], .pointer (some ⟨g, 0, none⟩)] w
      (LPost (llist s mn tp).1 (llist s mn tp).2 B g w) := by
  obtain ⟨i0, hi, hz0, hz1, hz2⟩ := info_parts thing_info
  have HR := Lib.hid h
  have HT := Lib.hid ht
  have hB := h.le
  have hgg : g ≠ gt := h.apart ht (by decide)
  clear h ht
  go_enter Try.func38, Try.ntmps38
  go_wp2_with fail
  refine (num_any B g s mn _ HR.out (by omega)).mono ?_
  rintro e w0 ⟨rfl, hr0, hf0⟩
  have hn := Wr.num_le s mn
  have HR0 := Lib.hid hr0
  have HF0 := Lib.hid hf0
  have HWr : Hid ((Wr.num s mn).2.e ≠ 0 → (Wr.num s mn).1 = 0) := Wr.num_wrong
  have HDone : Hid ((lmany (Wr.num s mn).1 (Wr.num s mn).2 tp).2.e = 0 → llist s mn tp = lmany (Wr.num s mn).1 (Wr.num s mn).2 tp) := llist_done
  have HWrong : Hid (∀ k, k ≤ (Wr.num s mn).1 → (lmany k (Wr.num s mn).2 tp).2.e ≠ 0 → llist s mn tp = ([], (lmany k (Wr.num s mn).2 tp).2)) := fun k hk h => llist_wrong hk h
  clear hr0 hf0
  generalize (Wr.num s mn).1 = n at *
  generalize (Wr.num s mn).2 = s1 at *
  go_wp2_with fail
  go_loopw [9, 13] (fun v i wr => ∃ k : Nat, k ≤ n ∧ i = .int .i64 k ∧ Hid (wr.ownsRow w.heap.size 32 4 v k (lrow (lmany k s1 tp).1)) ∧ Hid (Rdr wr B g (lmany k s1 tp).2) ∧ Hid ((lmany k s1 tp).2.e = 0 ∨ k = 0) ∧ Hid (Fr (fun i => i = g) w wr)) (fun _ i _ => n - (intOf i).toNat)
  case atStart => exact ⟨0, Nat.zero_le _, rfl, World.ownsRow_nil _ _ _ _, HR0, .inr rfl, HF0⟩
  case round =>
    obtain ⟨k, hk, rfl, HO, HRD, HZ, HFR⟩ := hrel
    by_cases hlt : k < n
    · have HTk := Lib.hid (HT.out.fr HFR.out (fun e => hgg e.symm))
      by_cases he : (lmany (k + 1) s1 tp).2.e = 0
      · have he' : ((lone (lmany k s1 tp).2 tp).2.e != 0) = false := by rw [lmany_snoc] at he; simpa using he
        have HE := Lib.hid he; clear he
        go_wp2_with fail
        refine (lone_any B g gt (lmany k s1 tp).2 tp _ HRD.out HTk.out htp).mono ?_
        rintro e w1 ⟨rfl, hr1, hf1⟩
        have HO1 := Lib.hid (own_fr HO.out hf1 fun i hi e => HRD.out.row HO.out (by decide) (by rw [hi, e]))
        have HR1 := Lib.hid hr1
        have HF1 : Hid (Fr (fun i => i = g) w w1) := HFR.out.same hf1
        have hs1 : w.heap.size ≤ w1.heap.size := HF1.out.size
        clear hr1 hf1
        go_wp2_with (at_builtin; refine wpList_append_own _ rfl (.tmp 15) (.tmp 19) 22 rfl w.heap.size 32 i0 (.agg #[.int .i64 0, .int .i64 0, .slice none 0 0, .int .i64 0]) 4 48 Try.underlying22 hi hz0 hz1 hz2 rfl (by decide) _ _ _ rfl (HO1.out.alloc _) ⟨w1.heap.size, 0, none⟩ 1 1 (lcells (lone (lmany k s1 tp).2 tp).1) rfl rfl (lcells_new _ _ _) (lcells_one _) (by simp only [maxLen]; omega) (by omega) (by simp; omega) ?_; intro v' w2 hown' hgrow _; have HX := Lib.hid (l_next hB HO1.out HR1.out HF1.out hown' hgrow); clear hown' hgrow; obtain ⟨A2, c2, hk2, _⟩ := HX.out.2.1; have hcell : w2.cell? ⟨g, 1, none⟩ = some (.int .i64 (lone (lmany k s1 tp).2 tp).2.e) := (hk2.cell 1).trans (by rw [lmany_snoc]; rfl); clear hk2)
        go_roundw
        case rel => exact ⟨k + 1, by omega, by go_num, HX.out.1, HX.out.2.1, .inl HE.out, HX.out.2.2⟩
        case measure => simp [intOf]; omega
      · have he' : ((lone (lmany k s1 tp).2 tp).2.e != 0) = true := by rw [lmany_snoc] at he; simpa using he
        have HE := Lib.hid he; clear he
        go_wp2_with fail
        refine (lone_any B g gt (lmany k s1 tp).2 tp _ HRD.out HTk.out htp).mono ?_
        rintro e w1 ⟨rfl, hr1, hf1⟩
        have HO1 := Lib.hid (own_fr HO.out hf1 fun i hi e => HRD.out.row HO.out (by decide) (by rw [hi, e]))
        have HR1 := Lib.hid hr1
        have HF1 : Hid (Fr (fun i => i = g) w w1) := HFR.out.same hf1
        have hs1 : w.heap.size ≤ w1.heap.size := HF1.out.size
        clear hr1 hf1
        go_wp2_with (at_builtin; refine wpList_append_own _ rfl (.tmp 15) (.tmp 19) 22 rfl w.heap.size 32 i0 (.agg #[.int .i64 0, .int .i64 0, .slice none 0 0, .int .i64 0]) 4 48 Try.underlying22 hi hz0 hz1 hz2 rfl (by decide) _ _ _ rfl (HO1.out.alloc _) ⟨w1.heap.size, 0, none⟩ 1 1 (lcells (lone (lmany k s1 tp).2 tp).1) rfl rfl (lcells_new _ _ _) (lcells_one _) (by simp only [maxLen]; omega) (by omega) (by simp; omega) ?_; intro v' w2 hown' hgrow _; have HX := Lib.hid (l_next hB HO1.out HR1.out HF1.out hown' hgrow); clear hown' hgrow; obtain ⟨A2, c2, hk2, _⟩ := HX.out.2.1; have hcell : w2.cell? ⟨g, 1, none⟩ = some (.int .i64 (lone (lmany k s1 tp).2 tp).2.e) := (hk2.cell 1).trans (by rw [lmany_snoc]; rfl); clear hk2)
        go_ret
        rw [HWrong.out (k + 1) (by omega) HE.out]
        exact ⟨_, rfl, World.ownsRow_nil _ _ _ _, HX.out.2.1, HX.out.2.2⟩
    · go_wp2_with fail
      go_ret
      have e : k = n := by omega
      subst e
      by_cases h0 : (lmany k s1 tp).2.e = 0
      · rw [HDone.out h0]
        refine ⟨_, rfl, ?_, HRD.out, HFR.out⟩
        rw [lmany_len]
        exact HO.out
      · rcases HZ.out with hz | hz
        · exact absurd hz h0
        · subst hz
          rw [HWrong.out 0 (Nat.le_refl _) h0]
          exact ⟨_, rfl, HO.out, HRD.out, HFR.out⟩

set_option maxHeartbeats 400000 in
theorem list_any (B g gt : Nat) (s : Wr.St) (mn tp : Nat) (w : World) (h : Rdr w B g s) (ht : Bk w gt 3 #[.int .i64 tp]) (hmn : mn ≤ 1000000000) (htp : tp < 9223372036854775808) :
    Calls Try.prog 28 #[.pointer (some ⟨g, 0, none⟩), .int .i64 mn, .func (.func 29) #[] #[.pointer (some ⟨gt, 0, none⟩)]] w
      (LPost (llist s mn tp).1 (llist s mn tp).2 B g w) := by
  have HR := Lib.hid h
  have HT := Lib.hid ht
  clear h ht
  go_enter Try.func28, Try.ntmps28
  go_wp2_with fail
  refine (eachTh_any B g gt s mn tp _ HR.out HT.out hmn htp).mono ?_
  rintro e w' ⟨v, rfl, h1, h2, h3⟩
  have H1 := Lib.hid h1
  have H2 := Lib.hid h2
  have H3 := Lib.hid h3
  clear h1 h2 h3
  go_wp2_with fail
  go_ret
  exact ⟨_, rfl, H1.out, H2.out, H3.out⟩
end Go.Proofs.Ythhlgjedgbdgcaa
