/- The stack of what is left of the nodes: push, pop. -/
import Derived.Test.YtmdepbgcgkifpaaRows
import Derived.Test.YtmdepbgcgkifpaaRoT
import Derived.Test.YtmdepbgcgkifpaaFoApp
import Derived.WalkSmall
import Derived.RegionTactic
import Derived.Deep.RegionLaw
namespace Go.Proofs.Ytmdepbgcgkifpaa
open Go.RowKit

theorem tp_rest : (Try.prog.info? 67).map (fun i => (i.zero, i.size, i.bytes)) = some (some (.agg #[.pointer none, .slice none 0 0]), 2, 32) := by kernel_rfl
/-- The element type of a block. -/
def Ty (w : World) (k : Nat) (t : TypeId) : Prop := ∃ cs fr, w.heap[k]? = some (.cells cs t fr)
section
variable {w w' : World} {k : Nat} {t t' e : TypeId}
theorem Ty.ne (h : Ty w k t) (h' : Ty w k t') (hne : t ≠ t') : False := by
  obtain ⟨cs, fr, h⟩ := h
  obtain ⟨cs', fr', h'⟩ := h'
  rw [h] at h'
  injection h' with h'
  injection h' with _ ht
  exact hne ht
theorem Bk.ty {cs : Array Value} (h : Bk w k t cs) : Ty w k t := ⟨cs, _, h⟩
theorem own_ty {base size n : Nat} {v : Value} {xs : List Value} (h : w.ownsRow base e size v n xs) (hk : v.ownBlock = some k) : Ty w k e := Go.Lib.ownsRow_kind h k hk
theorem KeepT.of_fr {S : Nat → Prop} (hf : Fr S w w') (hS : ∀ k, S k → Ty w k t → False) : KeepT t w w' := fun b cs fr hb => (hf.block b (heap_lt hb) fun hs => hS b hs ⟨cs, fr, hb⟩).trans hb
end
theorem rd_newB (w : World) (t : TypeId) (cs : Array Value) : Rd (w.alloc (.cells cs t)) (w.heap.size + 1) (some ⟨w.heap.size, 0, none⟩) cs.toList := fun _ => ⟨w.heap.size, 0, rfl, Nat.lt_succ_self _, fun j u hu => by
  rw [Nat.zero_add]
  rw [Bk.cell (Bk.new w t cs) j, ← Array.getElem?_toList]
  exact hu⟩
/-- What push leaves. -/
def PushPost (dd lo n : Nat) (vw vl p s : Value) (cs : List Value) (w : World) (e : Ending) (w' : World) : Prop :=
  e = .returned (.tuple #[]) ∧ ∃ vl', Bk w' dd 63 #[vw, vl'] ∧ w'.ownsRow lo 67 2 vl' (n + 1) (cs ++ [p, s]) ∧ Fr (fun k => k = dd ∨ vl.ownBlock = some k) w w'

set_option maxRecDepth 100000 in
set_option maxHeartbeats 1000000 in
theorem push_any (dd lo n : Nat) (vw vl : Value) (P A : Option Addr) (m c : Nat) (cs : List Value) (w : World) (hb : Bk w dd 63 #[vw, vl]) (ho : w.ownsRow lo 67 2 vl n cs) (hn : n ≤ 1000000) (hlo : lo ≤ w.heap.size) :
    Calls Try.prog 24 #[.pointer (some ⟨dd, 1, none⟩), .agg #[.pointer P, .slice A m c]] w (PushPost dd lo n vw vl (.pointer P) (.slice A m c) cs w) := by
  obtain ⟨i0, hi, hz0, hz1, hz2⟩ := info_parts tp_rest
  obtain ⟨Al, cl, hv, hcl⟩ := own_form ho
  subst hv
  have HB1 := Lib.hid (hb.alloc (.cells #[.pointer P, .slice A m c] 67))
  have HO1 := Lib.hid (ho.alloc (.cells #[.pointer P, .slice A m c] 67))
  have HX1 : Hid (Bk (w.alloc (.cells #[.pointer P, .slice A m c] 67)) w.heap.size 67 #[.pointer P, .slice A m c]) := Bk.new w _ _
  have HT := Lib.hid hb
  have HF1 : Hid (Fr (fun k => k = dd ∨ (Value.slice Al n cl).ownBlock = some k) w (w.alloc (.cells #[.pointer P, .slice A m c] 67))) := (Fr.refl _ _).alloc _
  have hw1 : w.heap.size < (w.alloc (.cells #[.pointer P, .slice A m c] 67)).heap.size := by simp
  have hlo1 : lo ≤ (w.alloc (.cells #[.pointer P, .slice A m c] 67)).heap.size := by simp; omega
  have HLT := Lib.hid hb.lt
  go_enter Try.func24, Try.ntmps24
  clear hb ho
  go_wp2_with fail
  generalize w.alloc (.cells #[.pointer P, .slice A m c] 67) = w1 at *
  have c0 : w1.cell? ⟨dd, 1, none⟩ = some (.slice Al n cl) := HB1.out.cell 1
  have c1 : w1.cell? ⟨w.heap.size, 0, none⟩ = some (.pointer P) := HX1.out.cell 0
  have c2 : w1.cell? ⟨w.heap.size, 1, none⟩ = some (.slice A m c) := HX1.out.cell 1
  have l1 : dd < w1.heap.size := HB1.out.lt
  have HOx : Hid ((w1.alloc (.cells #[.pointer P, .slice A m c] 67)).drew.ownsRow lo 67 2 (.slice Al n cl) n cs) := own_bl HO1.out ((Bl.refl w1).alloc _).drew
  have HRx : Hid (Rd (w1.alloc (.cells #[.pointer P, .slice A m c] 67)).drew (w1.heap.size + 1) (some ⟨w1.heap.size, 0, none⟩) [.pointer P, .slice A m c]) := rd_newB w1 67 #[.pointer P, .slice A m c]
  go_region_law (first
    | (refine step_append_rdN rfl (.tmp 8) (.tmp 10) 59 rfl lo 67 _ (.agg #[.pointer none, .slice none 0 0]) 2 32 Try.underlying59 hi hz0 hz1 hz2 rfl (by decide) (.slice Al n cl) n cs rfl HOx.out (w1.heap.size + 1) (some ⟨w1.heap.size, 0, none⟩) 1 1 [.pointer P, .slice A m c] rfl HRx.out rfl (fun u hu => by simp at hu; rcases hu with rfl | rfl <;> rfl) (by simp only [maxLen]; omega) (by omega) (by simp; omega) ?_; intro v2 w2 hown2 hg2; obtain ⟨A2, d2, hv2, hd2⟩ := own_form hown2; subst hv2; have HO2 := Lib.hid hown2; have HG2 := Lib.hid hg2; have HB2 := Lib.hid (((HB1.out.alloc _).drew).grown hg2 (fun e => Bk.row HB1.out HO1.out (by decide) e.symm)); have hc2 : w2.cell? ⟨dd, 1, none⟩ = some (.slice Al n cl) := HB2.out.cell 1; have hf2 : w2.frozen? ⟨dd, 1, none⟩ = false := HB2.out.free 1; have hl2 : dd < w2.heap.size := HB2.out.lt; have HF2 := Lib.hid (((HF1.out.alloc _).drew).grown hg2 (fun k hk _ => Or.inr hk)); clear hown2 hg2 hd2)
    | fail)
  all_goals
    go_wp2_with fail
    go_end0
    refine ⟨rfl, .slice A2 (n + 1) d2, HB2.out.put 1 _, own_fr (S := fun k => k = dd) HO2.out ((Fr.refl _ _).own 1 _) (fun k hv e => HB2.out.row HO2.out (by decide) (by rw [hv, e])), HF2.out.setCell (p := ⟨dd, 1, none⟩) (.inl (.inl rfl)) _⟩
end Go.Proofs.Ytmdepbgcgkifpaa
