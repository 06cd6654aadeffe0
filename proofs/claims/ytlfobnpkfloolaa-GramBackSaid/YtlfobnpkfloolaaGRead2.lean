/- gram.Read: productions, a grammar, and what Read tells. -/
import Derived.Test.YtlfobnpkfloolaaGRead
import Derived.Test.YtlfobnpkfloolaaGRight
namespace Go.Proofs.Ytlfobnpkfloolaa
open Go.RowKit

/-! Plain facts on productions that are read. -/
theorem nums_bad {s : Wr.St} (h : s.e ≠ 0) (a b : Nat) : (Wr.nums s a b).2 = s := by
  unfold Wr.nums
  rw [Wr.num_bad h]
  rfl
theorem nums_state (s : Wr.St) : (Wr.nums s 8 47).2 = (Wr.many (Wr.num s 8).1 (Wr.num s 8).2 47).2 := rfl
theorem nums_fine {s : Wr.St} (h : (Wr.nums s 8 47).2.e = 0) : (Wr.nums s 8 47).1 = (Wr.many (Wr.num s 8).1 (Wr.num s 8).2 47).1 := by rw [Wr.nums_done h]
theorem rp_state (s : Wr.St) : (rp s).2 = (Gr.rdPr s).2 := rfl
theorem rp_fine {s : Wr.St} (h : (rp s).2.e = 0) : (rp s).1 = (Gr.rdPr s).1 := by
  have h : (Wr.nums (Wr.num s 23).2 8 47).2.e = 0 := h
  unfold rp Gr.rdPr
  rw [nums_fine h]
  rfl
theorem rp_bad {s : Wr.St} (h : s.e ≠ 0) : (rp s).2 = s := by
  show (Wr.nums (Wr.num s 23).2 8 47).2 = s
  rw [Wr.num_bad h]
  exact nums_bad h 8 47
def rps : Nat → Wr.St → List Gr.Pr × Wr.St
  | 0, s => ([], s)
  | k + 1, s => ((rp s).1 :: (rps k (rp s).2).1, (rps k (rp s).2).2)
theorem rps_len : ∀ (k : Nat) (s : Wr.St), (rps k s).1.length = k
  | 0, _ => rfl
  | k + 1, s => by simp only [rps, List.length_cons, rps_len k]
theorem rps_snoc : ∀ (k : Nat) (s : Wr.St), rps (k + 1) s = ((rps k s).1 ++ [(rp (rps k s).2).1], (rp (rps k s).2).2)
  | 0, _ => rfl
  | k + 1, s => by
    have ih := rps_snoc k (rp s).2
    rw [rps, ih]
    rfl
theorem rps_bad : ∀ (k : Nat) {s : Wr.St} (_ : s.e ≠ 0), (rps k s).2 = s
  | 0, _, _ => rfl
  | k + 1, s, h => by
    show (rps k (rp s).2).2 = s
    rw [rp_bad h]
    exact rps_bad k h
theorem rps_add : ∀ (k j : Nat) (s : Wr.St), (rps (k + j) s).2 = (rps j (rps k s).2).2
  | 0, j, s => by rw [Nat.zero_add]; rfl
  | k + 1, j, s => by
    rw [Nat.add_right_comm]
    exact rps_add k j (rp s).2
theorem rps_stays {k n : Nat} (hk : k ≤ n) {s : Wr.St} (h : (rps k s).2.e ≠ 0) : (rps n s).2 = (rps k s).2 := by
  obtain ⟨j, rfl⟩ := Nat.le.dest hk
  rw [rps_add, rps_bad j h]
theorem rps_state : ∀ (k : Nat) (s : Wr.St), (rps k s).2 = (Gr.rdPrs k s).2
  | 0, _ => rfl
  | k + 1, s => by
    show (rps k (rp s).2).2 = (Gr.rdPrs k (Gr.rdPr s).2).2
    rw [rp_state]
    exact rps_state k _
theorem rps_fine : ∀ (k : Nat) {s : Wr.St}, (rps k s).2.e = 0 → (rps k s).1 = (Gr.rdPrs k s).1
  | 0, _, _ => rfl
  | k + 1, s, h => by
    have h : (rps k (rp s).2).2.e = 0 := h
    have h0 : (rp s).2.e = 0 := Classical.byContradiction fun hne => by rw [rps_bad k hne] at h; exact hne h
    show (rp s).1 :: (rps k (rp s).2).1 = (Gr.rdPr s).1 :: (Gr.rdPrs k (Gr.rdPr s).2).1
    rw [rps_fine k h, rp_fine h0, rp_state]
/-- A list of productions. -/
def rpl (s : Wr.St) : List Gr.Pr × Wr.St := (if (rps (Wr.num s 60).1 (Wr.num s 60).2).2.e = 0 then (rps (Wr.num s 60).1 (Wr.num s 60).2).1 else [], (rps (Wr.num s 60).1 (Wr.num s 60).2).2)
theorem rpl_done {s : Wr.St} (h : (rps (Wr.num s 60).1 (Wr.num s 60).2).2.e = 0) : rpl s = rps (Wr.num s 60).1 (Wr.num s 60).2 := by unfold rpl; rw [if_pos h]
theorem rpl_wrong {s : Wr.St} {k : Nat} (hk : k ≤ (Wr.num s 60).1) (h : (rps k (Wr.num s 60).2).2.e ≠ 0) : rpl s = ([], (rps k (Wr.num s 60).2).2) := by
  unfold rpl
  rw [rps_stays hk h, if_neg h]
theorem rpl_len (s : Wr.St) : (rpl s).1.length ≤ 60 := by
  unfold rpl; split
  · rw [rps_len]; exact Wr.num_le s 60
  · exact Nat.zero_le _

theorem Rdr.put_ {w : World} {B g b o : Nat} {s : Wr.St} (h : Rdr w B g s) (hp : B ≤ b) (hne : b ≠ g) (u : Value) : Rdr (w.setCell ⟨b, o, none⟩ u) B g s :=
  h.fr (S := fun k => k = b) ((Fr.refl _ w).own o u) (fun e => hne e.symm) (NoByte.above fun k hk => by omega)
theorem Fr.put_ {S : Nat → Prop} {a w : World} {b o : Nat} (h : Fr S a w) (hb : a.heap.size ≤ b) (u : Value) : Fr S a (w.setCell ⟨b, o, none⟩ u) := h.setCell (p := ⟨b, o, none⟩) (.inr hb) u
theorem own_put_ {w : World} {base n sz b o : Nat} {e : TypeId} {v : Value} {xs : List Value} (h : w.ownsRow base e sz v n xs) (hb : v.ownBlock ≠ some b) (u : Value) : (w.setCell ⟨b, o, none⟩ u).ownsRow base e sz v n xs :=
  own_fr (S := fun k => k = b) h ((Fr.refl _ w).own o u) fun k hk e => hb (by rw [hk, e])

set_option maxRecDepth 100000 in
set_option maxHeartbeats 1000000 in
theorem readProd_any (B g : Nat) (s : Wr.St) (w : World) (h : Rdr w B g s) : Calls Try.prog 44 #[.pointer (some ⟨g, 0, none⟩)] w (PPost (rp s).1 (rp s).2 B g w) := by
  have hB := h.le
  have hlt := h.lt
  have HR := Lib.hid ((h.alloc (.cells #[.int .i64 0, .slice none 0 0] 43)).alloc (.cells #[.int .i64 0, .slice none 0 0] 43))
  have HK0 := Lib.hid ((Bk.new w 43 #[.int .i64 0, .slice none 0 0]).alloc (.cells #[.int .i64 0, .slice none 0 0] 43))
  have HP0 : Hid (Bk ((w.alloc (.cells #[.int .i64 0, .slice none 0 0] 43)).alloc (.cells #[.int .i64 0, .slice none 0 0] 43)) (w.heap.size + 1) 43 #[.int .i64 0, .slice none 0 0]) := by
    have h := Bk.new (w.alloc (.cells #[.int .i64 0, .slice none 0 0] 43)) 43 #[.int .i64 0, .slice none 0 0]
    rw [World.size_alloc] at h
    exact h
  clear h
  go_enter Try.func44, Try.ntmps44
  go_wp2_with fail
  refine (num_any B g s 23 _ HR.out (by decide)).mono ?_
  rintro e w1 ⟨rfl, hr1, hf1⟩
  have HK1 := Lib.hid (HK0.out.fr hf1 (by omega))
  have HP1 := Lib.hid (HP0.out.fr hf1 (by omega))
  have HF1 := Lib.hid ((((Fr.refl _ w).alloc _).alloc _).same hf1)
  have hs1 : w.heap.size + 1 < w1.heap.size := HP1.out.lt
  have hrp : Hid ((rp s).1 = ⟨((Wr.num s 23).1 : Int), sys (Wr.nums (Wr.num s 23).2 8 47).1⟩ ∧ (rp s).2 = (Wr.nums (Wr.num s 23).2 8 47).2) := ⟨rfl, rfl⟩
  generalize (Wr.num s 23).1 = n at *
  generalize (Wr.num s 23).2 = s1 at *
  have HR1 := Lib.hid (hr1.put_ (b := w.heap.size + 1) (o := 0) (by omega) (by omega) (.int .i64 (n : Int)))
  have HK2 := Lib.hid (HK1.out.far (p := ⟨w.heap.size + 1, 0, none⟩) (by simp) (.int .i64 (n : Int)))
  have HP2 := Lib.hid (HP1.out.put 0 (.int .i64 (n : Int)))
  have HF2 := Lib.hid (HF1.out.put_ (b := w.heap.size + 1) (o := 0) (by omega) (.int .i64 (n : Int)))
  have c0 : w1.cell? ⟨w.heap.size + 1, 0, none⟩ = some (.int .i64 0) := HP1.out.cell 0
  have e0 := HP1.out.free 0
  clear hr1 hf1
  go_wp2_with fail
  refine (listSym_any B g s1 _ HR1.out).mono ?_
  generalize sys (Wr.nums s1 8 47).1 = xs at *
  generalize (Wr.nums s1 8 47).2 = s2 at *
  rintro e w2 ⟨A, c, rfl, ho2, hr2, hf2⟩
  have HK3 := Lib.hid (HK2.out.fr hf2 (by omega))
  have HP3 := Lib.hid (HP2.out.fr hf2 (by omega))
  have HF3 := Lib.hid (HF2.out.same hf2)
  have HR3 := Lib.hid hr2
  have HO3 := Lib.hid ho2
  have hne1 : Hid ((Value.slice A xs.length c).ownBlock ≠ some (w.heap.size + 1)) := HP3.out.row ho2 (by decide)
  have hne0 : Hid ((Value.slice A xs.length c).ownBlock ≠ some w.heap.size) := HK3.out.row ho2 (by decide)
  have hbase : Hid (∀ k, (Value.slice A xs.length c).ownBlock = some k → w.heap.size ≤ k) := fun k hk => by
    have := (ho2.lt k hk).1
    have h9 : w1.heap.size ≤ (w1.setCell ⟨w.heap.size + 1, 0, none⟩ (.int .i64 (n : Int))).heap.size := by simp [World.setCell]
    omega
  have c1 : w2.cell? ⟨w.heap.size + 1, 1, none⟩ = some (.slice none 0 0) := HP3.out.cell 1
  have c2 : w2.cell? ⟨w.heap.size + 1, 0, none⟩ = some (.int .i64 (n : Int)) := HP3.out.cell 0
  have e1 := HP3.out.free 1
  have d0 : w2.cell? ⟨w.heap.size, 0, none⟩ = some (.int .i64 0) := HK3.out.cell 0
  have d1 : w2.cell? ⟨w.heap.size, 1, none⟩ = some (.slice none 0 0) := HK3.out.cell 1
  have f0 := HK3.out.free 0
  have f1 := HK3.out.free 1
  clear ho2 hr2 hf2
  go_wp2_with fail
  refine bodyPost_ret (v := .agg #[.int .i64 (n : Int), .slice A xs.length c]) (by simp [results, Try.results44, go_sem, *]) rfl ?_
  rw [hrp.out.1, hrp.out.2]
  refine ⟨A, c, rfl, ?_, ?_, ?_⟩
  · refine own_put_ (own_put_ (own_put_ (own_base HO3.out hbase.out) hne1.out _) hne0.out _) hne0.out _
  · refine Rdr.put_ (Rdr.put_ (Rdr.put_ HR3.out ?_ ?_ _) ?_ ?_ _) ?_ ?_ _
    all_goals omega
  · refine Fr.put_ (Fr.put_ (Fr.put_ HF3.out ?_ _) ?_ _) ?_ _
    all_goals omega
end Go.Proofs.Ytlfobnpkfloolaa
