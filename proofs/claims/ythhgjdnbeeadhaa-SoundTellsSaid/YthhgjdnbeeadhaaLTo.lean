/- The reference's To: where a step leads. -/
import Derived.Test.YthhgjdnbeeadhaaLIs
namespace Go.Proofs.Ythhgjdnbeeadhaa
open Go.RowKit

set_option maxRecDepth 100000 in
set_option maxHeartbeats 4000000 in
theorem lto_any (t n s : Int) (A : Option Addr) (len c : Nat) (ps : List Gr.Pr) (i k : Nat) (w : World) (B : Nat)
    (hlen : len = ps.length) (hr : Prs w B A ps) (hB : B ≤ w.heap.size) (hok : okB ⟨t, n, s, ps⟩ = true)
    (hi : i < ps.length) (hk : k < ps[i].right.length) (hn : ps[i].right[k].non = true) :
    Calls Try.prog 33 #[.agg #[.int .i64 t, .int .i64 n, .int .i64 s, .slice A len c], .agg #[.int .i64 i, .int .i64 k]] w
      fun e w' => e = .returned (.int .i64 (Lf.to ps (i, k) : Int)) ∧ Bl w w' := by
  have HB0 : Hid (Bl w ((w.alloc (.cells #[.int .i64 t, .int .i64 n, .int .i64 s, .slice A len c] 24)).alloc (.cells #[.int .i64 i, .int .i64 k] 67))) := ((Bl.refl w).alloc _).alloc _
  have HK0 := Lib.hid ((Bk.new w 24 #[.int .i64 t, .int .i64 n, .int .i64 s, .slice A len c]).alloc (.cells #[.int .i64 i, .int .i64 k] 67))
  have HS0 : Hid (Bk ((w.alloc (.cells #[.int .i64 t, .int .i64 n, .int .i64 s, .slice A len c] 24)).alloc (.cells #[.int .i64 i, .int .i64 k] 67)) (w.heap.size + 1) 67 #[.int .i64 i, .int .i64 k]) := by
    have h := Bk.new (w.alloc (.cells #[.int .i64 t, .int .i64 n, .int .i64 s, .slice A len c] 24)) 67 #[.int .i64 i, .int .i64 k]
    rw [show (w.alloc (.cells #[.int .i64 t, .int .i64 n, .int .i64 s, .slice A len c] 24)).heap.size = w.heap.size + 1 by simp] at h
    exact h
  obtain ⟨b, off, Ax, cx, rfl, hbB, hrx, hc0, hc1⟩ := (hr.bl hB HB0.out).at_ hi
  obtain ⟨⟨o1, o2⟩, o3, o4⟩ := ok_syms hok hi
  obtain ⟨bs, os, rfl, hbs, q0, q1⟩ := hrx.sym hk
  have hto := to_at hi hk
  rw [hto]
  have hnn := o4 _ (List.getElem_mem hk) hn
  have hi60 : len ≤ 60 := by obtain ⟨_, _, h⟩ := ok_nons hok; omega
  have hil : i < len := by omega
  have h8 : ps[i].right.length ≤ 8 := o3
  clear hr hc0 o1 o2 hrx hto hlen o3 o4 hok
  generalize ps[i].right = right at *
  generalize right[k] = y at *
  obtain ⟨yb, yn⟩ := y
  simp only at q0 q1 hnn hn
  subst hn
  obtain ⟨m, rfl⟩ : ∃ m : Nat, yn = (m : Int) := ⟨yn.toNat, by omega⟩
  clear hnn hi
  go_enter Try.func33, Try.ntmps33
  go_wp2_with fail
  generalize hw0 : (w.alloc (.cells #[.int .i64 t, .int .i64 n, .int .i64 s, .slice (some ⟨b, off, none⟩) len c] 24)).alloc (.cells #[.int .i64 i, .int .i64 k] 67) = w0 at *
  have HW := Lib.hid hw0; clear hw0
  have g3 : w0.cell? ⟨w.heap.size, 3, none⟩ = some (.slice (some ⟨b, off, none⟩) len c) := HK0.out.cell 3
  have s0 : w0.cell? ⟨w.heap.size + 1, 0, none⟩ = some (.int .i64 (i : Int)) := HS0.out.cell 0
  have s1 : w0.cell? ⟨w.heap.size + 1, 1, none⟩ = some (.int .i64 (k : Int)) := HS0.out.cell 1
  have i0 : (0 : Int) ≤ (i : Int) := by omega
  have i1 : (i : Int) < (len : Int) := by omega
  have i2 : (0 : Int) ≤ (k : Int) := by omega
  have i3 : (k : Int) < (right.length : Int) := by omega
  go_quiet (fail)
  go_wp2_with fail
  go_ret
  exact ⟨by simp, by first | exact HB0.out.drewN _ | exact HB0.out.drew | exact HB0.out⟩
end Go.Proofs.Ythhgjdnbeeadhaa
