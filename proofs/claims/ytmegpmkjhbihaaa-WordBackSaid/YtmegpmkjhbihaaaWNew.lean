/- wire.New and bytes.Clone. -/
import Derived.Test.YtmegpmkjhbihaaaWRd
namespace Go.Proofs.Ytmegpmkjhbihaaa
open Go.RowKit

theorem int_info : (Try.prog.info? 3).map (fun i => (i.zero, i.size, i.bytes)) = some (some (.int .i64 0), 1, 8) := by kernel_rfl

set_option maxHeartbeats 400000 in
theorem clone_any (A : Option Addr) (len cap : Nat) (l : List Nat) (w : World) (B : Nat) (hl : len = l.length) (hmax : len ≤ 140737488355328) (hr : Rd w B A (bys l)) :
    Calls Try.prog 33 #[.slice A len cap] w (Makes l w) := by
  obtain ⟨i0, hi, hz0, hz1, hz2⟩ := info_parts byte_info
  have HL := Lib.hid hl; clear hl
  have hnil := fun (w : World) (a : Option Addr) (n c : Nat) => Lib.run_eql_slice_nil (P := Try.prog) (w := w) 26 5 a n c 0 0 Try.underlying26
  cases A with
  | none =>
    have HN : Hid (Makes l w (.returned (.slice none 0 0)) w) := by
      have : l = [] := by
        cases l with
        | nil => rfl
        | cons x r => obtain ⟨_, _, h, _⟩ := hr (by simp [bys]); cases h
      subst this
      exact ⟨none, 0, 0, rfl, rfl, Nat.le_refl _, World.ownsRow_nil _ _ _ _, Bl.refl w⟩
    clear hr
    go_enter Try.func33, Try.ntmps33
    go_wp2
    go_ret
    exact HN.out
  | some ad =>
    have HA := Lib.hid hr; clear hr
    have own0 : Hid ((w.alloc (.cells #[] 5)).ownsRow w.heap.size 5 1 (.slice (some ⟨w.heap.size, 0, none⟩) 0 0) 0 []) := World.ownsRow_lit (base := w.heap.size) (e := 5) (size := 1) w #[] 0 (Nat.le_refl _) (by simp [maxLen]) rfl
    have HB : Hid (Rd (w.alloc (.cells #[] 5)) (w.heap.size + 1) (some ad) (bys l)) := by
      have h : Rd w w.heap.size (some ad) (bys l) := fun hn => by
        obtain ⟨b, off, e, _, hc⟩ := HA.out hn
        exact ⟨b, off, e, World.block_lt_of_cell? w ⟨b, off + 0, none⟩ (hc 0 _ (List.getElem?_eq_getElem hn)), hc⟩
      exact (h.alloc (Nat.le_refl _) _).more (by omega)
    go_enter Try.func33, Try.ntmps33
    go_wp2_with (at_builtin; refine wpList_append_rd _ rfl (.tmp 5) (.tmp 6) 26 rfl w.heap.size 5 i0 (.int .u8 0) 1 Try.underlying26 hi hz0 hz1 hz2 rfl _ _ _ rfl own0.out (w.heap.size + 1) (some ad) len cap (bys l) rfl HB.out (by rw [bys_len]; exact HL.out.symm) (bys_one _) (by simp only [maxLen]; omega) (by omega) (by simp) ?_; intro v2 w2 hown2 hg2 _; obtain ⟨A2, c2, rfl, hc2⟩ := own_slice hown2; have HO2 := Lib.hid hown2; have HG2 := Lib.hid hg2; clear hown2 hg2)
    go_ret
    refine ⟨A2, len, c2, rfl, HL.out, by omega, ?_, ?_⟩
    · simpa using HO2.out
    · exact ((Bl.refl w).alloc _).grown HG2.out (fun k h => by injection h with h; rw [← h]; exact Nat.le_refl _)

/-- What New leaves: a reader of its own. -/
def NewPost (l : List Nat) (w : World) (e : Ending) (w' : World) : Prop :=
  ∃ g, e = .returned (.pointer (some ⟨g, 0, none⟩)) ∧ w.heap.size ≤ g ∧ Rdr w' g g ⟨l, 0⟩ ∧ Bl w w'

set_option maxHeartbeats 400000 in
theorem new_any (A : Option Addr) (len cap : Nat) (l : List Nat) (w : World) (B : Nat) (hl : len = l.length) (hmax : len ≤ 140737488355328) (hr : Rd w B A (bys l)) (hb : ∀ c ∈ l, c < 256) :
    Calls Try.prog 24 #[.slice A len cap] w (NewPost l w) := by
  have HL := Lib.hid hl; clear hl
  have HA := Lib.hid hr; clear hr
  have HC := Lib.hid hb; clear hb
  go_enter Try.func24, Try.ntmps24
  go_wp2_with fail
  refine (clone_any A len cap l w B HL.out hmax HA.out).mono ?_
  rintro e w1 ⟨A1, n1, c1, rfl, hn1, hc1, hown1, hb1⟩
  have HN := Lib.hid hn1; clear hn1
  have HO := Lib.hid hown1; clear hown1
  have HB := Lib.hid hb1; clear hb1
  go_wp2_with fail
  go_ret
  have hcap : c1 ≤ maxLen := by
    rcases HO.out.2 with ⟨h, _⟩ | ⟨g, cap, cur, h, _, _, _, hm, _⟩
    · injection h with _ _ h; omega
    · injection h with _ _ h; omega
  have hnl := HN.out
  refine ⟨w1.heap.size, rfl, HB.out.size, ⟨A1, c1, ?_, (Rd.own HO.out).alloc (Nat.le_refl _) _, ?_, by unfold maxLen at hcap; omega, ⟨HC.out, fun h => absurd rfl h⟩, by simp⟩, Bl.alloc HB.out _⟩
  · show Bk _ _ _ #[.slice A1 l.length c1, .int .i64 0]
    rw [← hnl]
    exact Bk.new w1 _ _
  · show l.length ≤ c1
    omega
end Go.Proofs.Ytmegpmkjhbihaaa
