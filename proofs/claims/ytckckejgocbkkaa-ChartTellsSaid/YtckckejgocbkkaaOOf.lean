/- gram.Of alone (a seat without the reference's Of): the productions of a nonterminal. -/
import Derived.Test.YtckckejgocbkkaaGMem
import Derived.OwnWalk
namespace Go.Proofs.Ytckckejgocbkkaa
open Go.RowKit

theorem of_int_info : (Try.prog.info? 3).map (fun i => (i.zero, i.size, i.bytes)) = some (some (.int .i64 0), 1, 8) := by kernel_rfl

/-- The numbers of the productions of a nonterminal among the first k. -/
def ofK (ps : List Gr.Pr) (non : Int) (k : Nat) : List Nat := (List.range k).filter fun i => match ps[i]? with | some p => decide (p.left = non) | none => false
theorem ofK_zero (ps : List Gr.Pr) (non : Int) : ofK ps non 0 = [] := rfl
theorem ofK_yes {ps : List Gr.Pr} {non : Int} {k : Nat} (h : k < ps.length) (e : ps[k].left = non) : ofK ps non (k + 1) = ofK ps non k ++ [k] := by
  unfold ofK
  rw [List.range_succ, List.filter_append]
  simp [h, e]
theorem ofK_no {ps : List Gr.Pr} {non : Int} {k : Nat} (h : k < ps.length) (e : ps[k].left ≠ non) : ofK ps non (k + 1) = ofK ps non k := by
  unfold ofK
  rw [List.range_succ, List.filter_append]
  simp [h, e]
theorem ofK_len (ps : List Gr.Pr) (non : Int) (k : Nat) : (ofK ps non k).length ≤ k := by
  have := List.length_filter_le (fun i => match ps[i]? with | some p => decide (p.left = non) | none => false) (List.range k)
  rw [List.length_range] at this
  exact this

/-- What Of leaves: a row of ints of its own. -/
def IMakes (xs : List Int) (w : World) (e : Ending) (w' : World) : Prop :=
  ∃ A c, e = .returned (.slice A xs.length c) ∧ xs.length ≤ c ∧ w'.ownsRow w.heap.size 3 1 (.slice A xs.length c) xs.length (ins xs) ∧ Bl w w'

/-- Where the loop stands. -/
def OfRel (ps : List Gr.Pr) (non : Int) (cs : Array Value) (w : World) (k : Nat) (v : Value) (wr : World) : Prop :=
  wr.ownsRow w.heap.size 3 1 v (ofK ps non k).length (ins (ns (ofK ps non k))) ∧ Bk wr w.heap.size 24 cs ∧ Bl w wr
section
variable {ps : List Gr.Pr} {non : Int} {cs : Array Value} {w wr w2 : World} {k : Nat} {v v' : Value}
theorem OfRel.own (h : OfRel ps non cs w k v wr) : wr.ownsRow w.heap.size 3 1 v (ofK ps non k).length (ins (ns (ofK ps non k))) := h.1
theorem OfRel.bk (h : OfRel ps non cs w k v wr) : Bk wr w.heap.size 24 cs := h.2.1
theorem OfRel.b (h : OfRel ps non cs w k v wr) : Bl w wr := h.2.2
theorem OfRel.alloc (h : OfRel ps non cs w k v wr) (o : Obj) : OfRel ps non cs w k v (wr.alloc o) := ⟨h.1.alloc o, h.2.1.alloc o, h.2.2.alloc o⟩
theorem OfRel.skip (h : OfRel ps non cs w k v wr) (hk : k < ps.length) (e : ps[k].left ≠ non) : OfRel ps non cs w (k + 1) v wr := by
  unfold OfRel; rw [ofK_no hk e]; exact h
theorem OfRel.put (h : OfRel ps non cs w k v wr) (hk : k < ps.length) (e : ps[k].left = non)
    (ho : w2.ownsRow w.heap.size 3 1 v' ((ofK ps non k).length + 1) (ins (ns (ofK ps non k)) ++ [.int .i64 (k : Int)])) (hg : wr.grownBy w2 v.ownBlock) : OfRel ps non cs w (k + 1) v' w2 := by
  refine ⟨?_, h.2.1.grown hg (fun e => h.2.1.row h.1 (by decide) e.symm), h.2.2.grown hg fun j hj => (h.1.lt j hj).1⟩
  rw [ofK_yes hk e, ns_append, ins_append, List.length_append]
  exact ho
theorem OfRel.done (h : OfRel ps non cs w k v wr) (hk : k = ps.length) : IMakes (ns (ofK ps non ps.length)) w (.returned v) wr := by
  subst hk
  obtain ⟨A, c, rfl, hc⟩ := own_slice h.1
  refine ⟨A, c, by rw [ns_len], by rw [ns_len]; exact hc, ?_, h.2.2⟩
  rw [ns_len]
  exact h.1
end

set_option maxRecDepth 100000 in
set_option maxHeartbeats 1000000 in
theorem of_any (t n s non : Int) (A : Option Addr) (len c : Nat) (ps : List Gr.Pr) (w : World) (B : Nat) (hlen : len = ps.length) (hmax : len ≤ 1000000000) (hr : Prs w B A ps) (hB : B ≤ w.heap.size) :
    Calls Try.prog 59 #[.agg #[.int .i64 t, .int .i64 n, .int .i64 s, .slice A len c], .int .i64 non] w (IMakes (ns (ofK ps non ps.length)) w) := by
  obtain ⟨i0, hi, hz0, hz1, hz2⟩ := info_parts of_int_info
  have HL := Lib.hid hlen; clear hlen
  have HA := Lib.hid hr; clear hr
  have H0 : Hid (OfRel ps non #[.int .i64 t, .int .i64 n, .int .i64 s, .slice A len c] w 0 (.slice none 0 0) (w.alloc (.cells #[.int .i64 t, .int .i64 n, .int .i64 s, .slice A len c] 24))) :=
    ⟨World.ownsRow_nil _ _ _ _, Bk.new w _ _, (Bl.refl w).alloc _⟩
  go_enter Try.func59, Try.ntmps59
  go_wp2_with fail
  go_loopw [5, 11] (fun v i wr => ∃ k : Nat, k ≤ len ∧ i = .int .i64 k ∧ Hid (OfRel ps non #[.int .i64 t, .int .i64 n, .int .i64 s, .slice A len c] w k v wr)) (fun _ i _ => len - (intOf i).toNat)
  case atStart => exact ⟨0, Nat.zero_le _, rfl, H0⟩
  case round =>
    obtain ⟨k, hk, rfl, HR⟩ := hrel
    by_cases hlt : k < len
    · have hj : k < ps.length := by have := HL.out; omega
      obtain ⟨b, off, Ax, cx, rfl, hbB, hrx, hc0, hc1⟩ := (HA.out.bl hB HR.out.b).at_ hj
      have hsz : w.heap.size ≤ wr.heap.size := HR.out.b.size
      have hlk := ofK_len ps non k
      by_cases he : ps[k].left = non
      · have hq : (ps[k].left == non) = true := by simpa using he
        have HN := Lib.hid (fun (v' : Value) (w2 : World) (o1 o2 : Obj) ho hg => ((HR.out.alloc o1).alloc o2).put (v' := v') (w2 := w2) hj he ho hg)
        have HO := Lib.hid HR.out.own
        generalize ps[k] = x at hc0 hc1 hq
        obtain ⟨xl, xs⟩ := x
        simp only at hc0 hc1 hq
        clear hrx hj he
        go_wp2_with (at_builtin; refine wpList_append_own _ rfl (.tmp 20) (.tmp 22) 25 rfl w.heap.size 3 i0 (.int .i64 0) 1 8 Try.underlying25 hi hz0 hz1 hz2 rfl (by decide) _ _ _ rfl ((HO.out.alloc _).alloc _) ⟨wr.heap.size + 1, 0, none⟩ 1 1 [.int .i64 (k : Int)] rfl rfl (by have h := one_new (wr.alloc (.cells #[.int .i64 xl, .slice Ax xs.length cx] 45)) (.int .i64 (k : Int)) 3; rw [World.size_alloc] at h; exact h) (by simp [Value.oneCell']) (by simp only [maxLen]; omega) (by omega) (by simp; omega) ?_; intro v' w2 hown' hgrow _; have HX := Lib.hid (HN.out _ _ _ _ hown' hgrow); clear hown' hgrow)
        go_roundw
        case rel => exact ⟨k + 1, by omega, by go_num, HX⟩
        case measure => simp [intOf]; omega
      · have hq : (ps[k].left == non) = false := by simpa using he
        have HX := Lib.hid (fun o => (HR.out.skip hj he).alloc o)
        generalize ps[k] = x at hc0 hc1 hq
        obtain ⟨xl, xs⟩ := x
        simp only at hc0 hc1 hq
        clear hrx hj he
        go_wp2_with fail
        go_roundw
        case rel => exact ⟨k + 1, by omega, by go_num, HX.out _⟩
        case measure => simp [intOf]; omega
    · have HD := Lib.hid (HR.out.done (by have := HL.out; omega))
      go_wp2_with fail
      go_ret
      exact HD.out

end Go.Proofs.Ytckckejgocbkkaa
