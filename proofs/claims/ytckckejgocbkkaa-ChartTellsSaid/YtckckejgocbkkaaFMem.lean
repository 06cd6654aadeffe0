/- Numbers of 32 bits as cells. -/
import Derived.Test.YtckckejgocbkkaaPlainS
import Derived.Test.YtckckejgocbkkaaFactS
import Derived.Laws.BitsAllLaws
namespace Go.Proofs.Ytckckejgocbkkaa
open Go.RowKit

/-- Numbers of 32 bits as cells. -/
def us (l : List Nat) : List Value := l.map fun n : Nat => Value.int .u32 (n : Int)
theorem us_len (l : List Nat) : (us l).length = l.length := by simp [us]
theorem us_at (l : List Nat) (j : Nat) (h : j < l.length) : (us l)[j]? = some (.int .u32 (l.getD j 0 : Int)) := by simp [us, h]
theorem us_append (a b : List Nat) : us (a ++ b) = us a ++ us b := by simp [us]
theorem us_set (l : List Nat) (j v : Nat) : us (l.set j v) = (us l).set j (.int .u32 (v : Int)) := by simp [us, List.map_set]
theorem us_one (l : List Nat) : ∀ u ∈ us l, u.oneCell' = true := by
  intro u hu
  obtain ⟨c, _, rfl⟩ := List.mem_map.1 hu
  rfl
theorem us_zeros (n : Nat) : us (List.replicate n 0) = (madeCells (Value.cells (.int .u32 0)) (n * 1)).toList := by
  have hc : Value.cells (.int .u32 0) = #[.int .u32 0] := by rfl
  rw [hc, toList_madeCells_one, Nat.mul_one]
  simp [us]
theorem Rd.u32 {w : World} {B : Nat} {A : Option Addr} {l : List Nat} (h : Rd w B A (us l)) {j : Nat} (hj : j < l.length) : ∃ b off, A = some ⟨b, off, none⟩ ∧ b < B ∧ w.cell? ⟨b, off + j, none⟩ = some (.int .u32 (l.getD j 0 : Int)) := by
  obtain ⟨b, off, e, hb, hc⟩ := h (by rw [us_len]; omega)
  exact ⟨b, off, e, hb, hc j _ (us_at l j hj)⟩
theorem u32_info : (Try.prog.info? 29).map (fun i => (i.zero, i.size, i.bytes)) = some (some (.int .u32 0), 1, 4) := by kernel_rfl
/-- What a call leaves: numbers. -/
def UPost (l : List Nat) (w : World) (e : Ending) (w' : World) : Prop :=
  ∃ A len c, e = .returned (.slice A len c) ∧ len = l.length ∧ Rd w' w'.heap.size A (us l) ∧ Bl w w'
theorem UPost.lit {l m : List Nat} {k : Nat} {w w' : World} {e : Ending} (h : UPost l w e w') (hl : l = m) (hk : m.length = k) : ∃ A c, e = .returned (.slice A k c) ∧ Rd w' w'.heap.size A (us m) ∧ Bl w w' := by
  subst hl
  obtain ⟨A, len, c, he, hlen, hr, hb⟩ := h
  subst hlen
  subst hk
  exact ⟨A, c, he, hr, hb⟩
/-- Of whom nothing may come, by facts. -/
def nlz (fs : List Fc) (n : Nat) : Bool := decide (rkz fs n ≠ 0)
theorem nlz_fz (fs : Rk.Fs) (n : Nat) : nlz (fz fs) n = decide (Rk.rk fs n ≠ 0) := by
  unfold nlz
  rw [rkz_fz]
  apply decide_eq_decide.2
  omega
theorem nlz_nulls (g : Gr.Gm) : nlz (fz (Rk.ranks false g.prods g.nons.toNat)) = Fi.nulls g := by
  funext n
  rw [nlz_fz]; rfl
theorem or_nat (a b : Nat) (ha : a < 4294967296) (hb : b < 4294967296) : bits .or .u32 (a : Int) (b : Int) = ((a ||| b : Nat) : Int) := u32_or_nat a b ha hb
end Go.Proofs.Ytckckejgocbkkaa
