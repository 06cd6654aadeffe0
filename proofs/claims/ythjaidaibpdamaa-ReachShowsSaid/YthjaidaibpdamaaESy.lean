/- slices.Index and slices.Contains of symbols. -/
import Derived.Test.YthjaidaibpdamaaGMem
import Derived.Test.YthjaidaibpdamaaEMath
import Derived.Test.YthjaidaibpdamaaRows
import Derived.RegionTactic
import Derived.Deep.QuietTactic
import Derived.BigQuiet
import Derived.Laws.StructEq
namespace Go.Proofs.Ythjaidaibpdamaa
open Go.RowKit

/-- Is a nonterminal among symbols? -/
def syHas (n : Int) (l : List Gr.Sy) : Bool := l.any fun s => s.non && decide (s.n = n)
theorem syHas_iff (n : Int) (l : List Gr.Sy) : syHas n l = true ↔ (⟨true, n⟩ : Gr.Sy) ∈ l := by
  unfold syHas
  rw [List.any_eq_true]
  constructor
  · rintro ⟨⟨b, m⟩, hm, hx⟩
    rw [Bool.and_eq_true, decide_eq_true_eq] at hx
    obtain ⟨h1, h2⟩ := hx
    simp only at h1 h2
    subst h1 h2
    exact hm
  · intro h
    exact ⟨_, h, by simp⟩
theorem syHas_stands (p : Gr.Pr) (n : Nat) : syHas (n : Int) p.right = Rc.stands p n := rfl
theorem sy_snoc {l : List Gr.Sy} {x : Gr.Sy} {k : Nat} (h : k < l.length) (ha : ¬ x ∈ l.take k) (hx : x ≠ l[k]) : ¬ x ∈ l.take (k + 1) := by
  rw [List.take_succ_eq_append_getElem h, List.mem_append]
  rintro (h1 | h1)
  · exact ha h1
  · simp at h1; exact hx h1

set_option maxRecDepth 100000 in
set_option maxHeartbeats 1000000 in
theorem syindex_any (A : Option Addr) (len c : Nat) (l : List Gr.Sy) (xb : Bool) (xn : Int) (w : World) (B : Nat) (hlen : len = l.length) (hmax : len ≤ 9223372036854775807) (hr : Rd w B A (syRow l)) (hB : B ≤ w.heap.size) :
    Calls Try.prog 23 #[.slice A len c, .agg #[.bool xb, .int .i64 xn]] w fun e w' => ∃ r : Int, e = .returned (.int .i64 r) ∧ (0 ≤ r ↔ (⟨xb, xn⟩ : Gr.Sy) ∈ l) ∧ Bl w w' := by
  have HL := Lib.hid hlen; clear hlen
  have HR := Lib.hid (hr.alloc hB (.cells #[.bool xb, .int .i64 xn] 37)); clear hr
  have HB0 : Hid (Bl w (w.alloc (.cells #[.bool xb, .int .i64 xn] 37))) := (Bl.refl w).alloc _
  have HK := Lib.hid (Bk.new w 37 #[.bool xb, .int .i64 xn])
  go_enter Try.func23, Try.ntmps23
  go_wp2_with fail
  generalize hw0 : w.alloc (.cells #[.bool xb, .int .i64 xn] 37) = w0 at HR HB0 HK ⊢
  have HW0 := Lib.hid hw0; clear hw0
  go_loopw [8] (fun i wr => ∃ (k q : Nat), k ≤ len ∧ i = .int .i64 k ∧ wr = w0.drewN q ∧ Hid (¬ (⟨xb, xn⟩ : Gr.Sy) ∈ l.take k)) (fun i _ => len - (intOf i).toNat)
  case atStart => exact ⟨0, 0, by omega, rfl, rfl, by simp [Hid]⟩
  case round =>
    obtain ⟨k, q, hk, rfl, rfl, HN⟩ := hrel
    by_cases hlt : k < len
    · have hj : k < l.length := by have := HL.out; omega
      obtain ⟨b, off, rfl, _, q0, q1⟩ := HR.out.sym hj
      have c0 : w0.cell? ⟨w.heap.size, 0, none⟩ = some (.bool xb) := HK.out.cell 0
      have c1 : w0.cell? ⟨w.heap.size, 1, none⟩ = some (.int .i64 xn) := HK.out.cell 1
      have hk0 : (0 : Int) ≤ (k : Int) := by omega
      have hk1 : (k : Int) < (len : Int) := by omega
      have HY := Lib.hid (fun (e : (⟨xb, xn⟩ : Gr.Sy) = l[k]) => (by rw [e]; exact List.getElem_mem hj : (⟨xb, xn⟩ : Gr.Sy) ∈ l))
      have HS := Lib.hid (sy_snoc hj HN.out)
      generalize l[k] = y at q0 q1 HY HS
      obtain ⟨yb, yn⟩ := y
      simp only at q0 q1
      clear hj
      by_cases hb : xb = yb
      · subst hb
        by_cases hn : xn = yn
        · subst hn
          have HX := Lib.hid (HY.out rfl)
          go_wp2_with fail
          go_quiet (fail)
          go_wp2_with fail
          go_ret
          exact ⟨k, rfl, ⟨fun _ => HX.out, fun _ => by omega⟩, by first | exact (HB0.out.drewN _).drewN _ | exact (HB0.out.drewN _).drew⟩
        · have hq : (xn == yn) = false := by simpa using hn
          have HX := Lib.hid (HS.out (fun e => by injection e with _ e2; exact hn e2))
          clear hn
          go_wp2_with fail
          go_quiet (fail)
          go_wp2_with fail
          go_roundw
          case rel => exact ⟨k + 1, _, by omega, by go_num, rfl, HX.out⟩
          case measure => simp [intOf]; omega
      · have hq : (xb == yb) = false := by simpa using hb
        have HX := Lib.hid (HS.out (fun e => by injection e with e1 _; exact hb e1))
        clear hb
        go_wp2_with fail
        go_quiet (fail)
        go_wp2_with fail
        go_roundw
        case rel => exact ⟨k + 1, _, by omega, by go_num, rfl, HX.out⟩
        case measure => simp [intOf]; omega
    · go_wp2_with fail
      go_ret
      refine ⟨-1, rfl, ?_, HB0.out.drewN _⟩
      have h := HN.out
      rw [List.take_of_length_le (by have := HL.out; omega)] at h
      exact ⟨fun e => absurd e (by decide), fun e => absurd e h⟩
set_option maxHeartbeats 400000 in
theorem sycontains_any (A : Option Addr) (len c : Nat) (l : List Gr.Sy) (xn : Int) (w : World) (B : Nat) (hlen : len = l.length) (hmax : len ≤ 9223372036854775807) (hr : Rd w B A (syRow l)) (hB : B ≤ w.heap.size) :
    Calls Try.prog 21 #[.slice A len c, .agg #[.bool true, .int .i64 xn]] w fun e w' => e = .returned (.bool (syHas xn l)) ∧ Bl w w' := by
  have HL := Lib.hid hlen; clear hlen
  have HR := Lib.hid (hr.alloc hB (.cells #[.bool true, .int .i64 xn] 37)); clear hr
  have HB0 : Hid (Bl w (w.alloc (.cells #[.bool true, .int .i64 xn] 37))) := (Bl.refl w).alloc _
  go_enter Try.func21, Try.ntmps21
  go_wp2_with fail
  refine (syindex_any A len c l true xn _ B HL.out hmax HR.out (Nat.le_trans hB HB0.out.size)).mono ?_
  rintro e w' ⟨r, rfl, hd, hb⟩
  have HD : Hid (decide (0 ≤ r) = syHas xn l) := by
    rw [Bool.eq_iff_iff, decide_eq_true_eq, syHas_iff]; exact hd
  clear hd
  have HB1 := Lib.hid (HB0.out.trans hb); clear hb
  go_wp2_with fail
  go_ret
  exact ⟨by rw [← HD.out]; rfl, HB1.out⟩
end Go.Proofs.Ythjaidaibpdamaa
