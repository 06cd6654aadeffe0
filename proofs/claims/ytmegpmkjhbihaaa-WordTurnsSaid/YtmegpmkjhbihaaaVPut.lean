/- vary.Put: the bytes of any number. -/
import Derived.Test.YtmegpmkjhbihaaaRows
import Derived.Test.YtmegpmkjhbihaaaVMath
import Derived.Test.YtmegpmkjhbihaaaVMem
namespace Go.Proofs.Ytmegpmkjhbihaaa
open Go.RowKit

theorem byte_info : (Try.prog.info? 5).map (fun i => (i.zero, i.size, i.bytes)) = some (some (.int .u8 0), 1, 1) := by kernel_rfl

/-- What a call leaves that makes a row of bytes: a slice of its own, and nothing below has turned. -/
def Makes (l : List Nat) (w : World) (e : Ending) (w' : World) : Prop :=
  ∃ A n c, e = .returned (.slice A n c) ∧ n = l.length ∧ n ≤ c ∧ w'.ownsRow w.heap.size 5 1 (.slice A n c) n (bys l) ∧ Below w.heap.size w w'

/-- Where the loop stands: j bytes are out, m is left. -/
def PutRel (n : Nat) (w : World) (v : Value) (m : Nat) (wr : World) : Prop :=
  ∃ (pre : List Nat) (f : Nat), wr.ownsRow w.heap.size 5 1 v pre.length (bys pre) ∧ Vy.enc n = pre ++ Vy.put f m ∧ m < 128 ^ (f + 1) ∧ pre.length + f = 9 ∧ Below w.heap.size w wr

theorem put_next {n m f : Nat} {w w1 : World} {v : Value} {pre : List Nat} (he : Vy.enc n = pre ++ Vy.put f m) (hm : m < 128 ^ (f + 1)) (hpf : pre.length + f = 9) (h : 128 ≤ m)
    (hown : w1.ownsRow w.heap.size 5 1 v (pre.length + 1) (bys pre ++ [.int .u8 ((m : Int) % 128 + 128)])) (hb : Below w.heap.size w w1) : PutRel n w v (m / 128) w1 := by
  cases f with
  | zero => simp at hm; omega
  | succ f =>
    refine ⟨pre ++ [m % 128 + 128], f, ?_, ?_, ?_, by simp; omega, hb⟩
    · have e : bys (pre ++ [m % 128 + 128]) = bys pre ++ [.int .u8 ((m : Int) % 128 + 128)] := by simp [bys]
      rw [e]; simpa using hown
    · have e1 : Vy.put (f + 1) m = (m % 128 + 128) :: Vy.put f (m / 128) := by simp only [Vy.put]; rw [if_neg (by omega)]
      rw [he, e1]; simp
    · rw [Nat.div_lt_iff_lt_mul (by decide)]
      rwa [Nat.pow_succ] at hm
theorem put_last {n m f : Nat} {w w1 : World} {v : Value} {pre : List Nat} (he : Vy.enc n = pre ++ Vy.put f m) (h : ¬ 128 ≤ m)
    (hown : w1.ownsRow w.heap.size 5 1 v (pre.length + 1) (bys pre ++ [.int .u8 (m : Int)])) (hb : Below w.heap.size w w1) : Makes (Vy.enc n) w (.returned v) w1 := by
  have e1 : Vy.put f m = [m] := by cases f <;> simp [Vy.put]; omega
  have e2 : bys (Vy.enc n) = bys pre ++ [.int .u8 (m : Int)] := by rw [he, e1]; simp [bys]
  have e3 : (Vy.enc n).length = pre.length + 1 := by rw [he, e1]; simp
  rcases hown.2 with ⟨_, h0⟩ | ⟨g, cap, cur, hv, _, _, hnc, _⟩
  · omega
  · subst hv
    exact ⟨_, _, _, rfl, e3.symm, hnc, by rw [e2]; exact hown, hb⟩

set_option maxRecDepth 100000 in
set_option maxHeartbeats 400000 in
theorem put_any (n : Nat) (w : World) (hn : n < 18446744073709551616) : Calls Try.prog 41 #[.int .u64 n] w (Makes (Vy.enc n) w) := by
  obtain ⟨i0, hi, hz0, hz1, hz2⟩ := info_parts byte_info
  go_enter Try.func41, Try.ntmps41
  go_wp2
  go_loopw [0, 3] (fun x v wr => ∃ m : Nat, x = .int .u64 m ∧ PutRel n w v m wr) (fun x _ _ => (intOf x).toNat)
  case atStart => exact ⟨n, rfl, [], 9, World.ownsRow_nil _ _ _ _, rfl, Nat.lt_of_lt_of_le hn (by decide), rfl, Below.refl _ _⟩
  case round =>
    obtain ⟨m, rfl, HP⟩ := hrel
    obtain ⟨pre, f, hown, hen, hmf, hpf, hbel⟩ := HP
    have HE := Lib.hid hen; clear hen
    have HF := Lib.hid hmf; clear hmf
    have HB := Lib.hid hbel; clear hbel
    have hsz : w.heap.size ≤ wr.heap.size := HB.out.size
    have HO := Lib.hid hown
    by_cases hm : 128 ≤ m
    · go_wp2_with (at_builtin; refine wpList_append_own _ rfl (.tmp 8) (.tmp 13) 26 rfl w.heap.size 5 i0 (.int .u8 0) 1 1 Try.underlying26 hi hz0 hz1 hz2 rfl (by decide) _ _ _ rfl (hown.alloc _) ⟨wr.heap.size, 0, none⟩ 1 1 [.int .u8 ((m : Int) % 128 + 128)] rfl rfl (one_new _ _ _) (by simp [Value.oneCell']) (by simp only [maxLen]; omega) (by omega) (by simp; omega) ?_; intro v' w1 hown' hgrow _)
      have hbel' := below_append HB.out hsz HO.out hgrow
      have HR := Lib.hid (put_next HE.out HF.out hpf hm hown' hbel')
      clear hown' hgrow hbel' hown
      go_roundw
      case rel => exact ⟨m / 128, by go_num, HR.out⟩
      case measure => simp [intOf]; omega
    · go_wp2_with (at_builtin; refine wpList_append_own _ rfl (.tmp 15) (.tmp 18) 26 rfl w.heap.size 5 i0 (.int .u8 0) 1 1 Try.underlying26 hi hz0 hz1 hz2 rfl (by decide) _ _ _ rfl (hown.alloc _) ⟨wr.heap.size, 0, none⟩ 1 1 [.int .u8 (m : Int)] rfl rfl (one_new _ _ _) (by simp [Value.oneCell']) (by simp only [maxLen]; omega) (by omega) (by simp; omega) ?_; intro v' w1 hown' hgrow _)
      have hbel' := below_append HB.out hsz HO.out hgrow
      have HR := Lib.hid (put_last HE.out hm hown' hbel')
      clear hown' hgrow hbel' hown
      go_ret
      exact HR.out
end Go.Proofs.Ytmegpmkjhbihaaa
