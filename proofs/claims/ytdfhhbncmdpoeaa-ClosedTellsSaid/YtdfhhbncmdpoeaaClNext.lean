/- closed.next, closed.behind: an item's next symbol, and the item of which one more is behind. -/
import Derived.Test.YtdfhhbncmdpoeaaClMem
import Derived.BigQuiet
namespace Go.Proofs.Ytdfhhbncmdpoeaa
open Go.RowKit

set_option maxRecDepth 100000 in
set_option maxHeartbeats 1000000 in
theorem knext_none (G : Kg) (K : Kw) (ps : List Gr.Pr) (i : Nat) (fr : Int) (w : World) (B : Nat) (hk : Bk w K.p 78 (kcells G K)) (hlen : G.len = ps.length) (hr : Prs w B G.A ps) (hB : B ≤ w.heap.size) (hi : i < ps.length) :
    Calls Try.prog 54 #[.pointer (some ⟨K.p, 0, none⟩), .agg #[.int .i64 (i : Int), .int .i64 (ps[i].right.length : Int), .int .i64 fr]] w fun e w' => e = .returned (.tuple #[.agg #[.bool false, .int .i64 0], .bool false]) ∧ Bl w w' := by
  have HK2 : Hid (Bk ((w.alloc (.cells #[.int .i64 (i : Int), .int .i64 (ps[i].right.length : Int), .int .i64 fr] 42)).alloc (.cells #[.bool false, .int .i64 0] 37)) w.heap.size 42 #[.int .i64 (i : Int), .int .i64 (ps[i].right.length : Int), .int .i64 fr]) := (Bk.new w _ _).alloc _
  have HK3 : Hid (Bk ((w.alloc (.cells #[.int .i64 (i : Int), .int .i64 (ps[i].right.length : Int), .int .i64 fr] 42)).alloc (.cells #[.bool false, .int .i64 0] 37)) (w.heap.size + 1) 37 #[.bool false, .int .i64 0]) := by
    have h := Bk.new (w.alloc (.cells #[.int .i64 (i : Int), .int .i64 (ps[i].right.length : Int), .int .i64 fr] 42)) 37 #[.bool false, .int .i64 0]
    rw [World.size_alloc] at h
    exact h
  have HB1 : Hid (Bl w ((w.alloc (.cells #[.int .i64 (i : Int), .int .i64 (ps[i].right.length : Int), .int .i64 fr] 42)).alloc (.cells #[.bool false, .int .i64 0] 37))) := ((Bl.refl w).alloc _).alloc _
  have HK1 := Lib.hid (hk.bl HB1.out)
  obtain ⟨b, off, Ax, cx, eA, hbB, hrx, hc0, hc1⟩ := (hr.bl hB HB1.out).at_ hi
  have hbl := Nat.lt_of_lt_of_le hbB (Nat.le_trans hB HB1.out.size)
  have i0 : (0 : Int) ≤ (i : Int) := by omega
  have i1 : (i : Int) < (G.len : Int) := by omega
  clear hr hrx hc0 hlen
  generalize ps[i].right.length = d at *
  go_enter Try.func54, Try.ntmps54
  go_upto_region 1 with fail
  generalize (w.alloc (.cells #[.int .i64 (i : Int), .int .i64 (d : Int), .int .i64 fr] 42)).alloc (.cells #[.bool false, .int .i64 0] 37) = w1 at *
  have k3 : w1.cell? ⟨K.p, 3, none⟩ = some (.slice G.A G.len G.c) := HK1.out.cell 3
  rw [eA] at k3
  have kl := HK1.out.lt
  have j0 : w1.cell? ⟨w.heap.size, 0, none⟩ = some (.int .i64 (i : Int)) := HK2.out.cell 0
  go_quiet (fail)
  have j1 : w1.cell? ⟨w.heap.size, 1, none⟩ = some (.int .i64 (d : Int)) := HK2.out.cell 1
  have s0 := HK3.out.cell 0
  have s1 := HK3.out.cell 1
  have f0 := HK3.out.free 0
  have f1 := HK3.out.free 1
  have l0 := HK3.out.lt
  go_wp2_with (refine wpList_build_none rfl 37 rfl #[.bool false, .int .i64 0] build0_sym ?_)
  try simp only [Exit.inBlock, Exit.then]
  refine bodyPost_ret (results_cell_st rfl _ _ (w.heap.size + 1) 37 #[.bool false, .int .i64 0] _ rfl ((HK3.out.drewN _).put 0 _ |>.put 1 _) Try.underlying37 rfl sym_size) rfl ?_
  exact ⟨rfl, (((Fr.of_bl (S := fun k => k = w.heap.size + 1) (HB1.out.drewN _)).own 0 _).own 1 _).bl (fun i hi e => by omega)⟩
set_option maxRecDepth 100000 in
set_option maxHeartbeats 1000000 in
theorem knext_some (G : Kg) (K : Kw) (ps : List Gr.Pr) (i d : Nat) (fr : Int) (w : World) (B : Nat) (hk : Bk w K.p 78 (kcells G K)) (hlen : G.len = ps.length) (hr : Prs w B G.A ps) (hB : B ≤ w.heap.size) (hi : i < ps.length) (hd : d < ps[i].right.length) :
    Calls Try.prog 54 #[.pointer (some ⟨K.p, 0, none⟩), .agg #[.int .i64 (i : Int), .int .i64 (d : Int), .int .i64 fr]] w fun e w' => e = .returned (.tuple #[.agg #[.bool ps[i].right[d].non, .int .i64 ps[i].right[d].n], .bool true]) ∧ Bl w w' := by
  have HK2 : Hid (Bk ((w.alloc (.cells #[.int .i64 (i : Int), .int .i64 (d : Int), .int .i64 fr] 42)).alloc (.cells #[.bool false, .int .i64 0] 37)) w.heap.size 42 #[.int .i64 (i : Int), .int .i64 (d : Int), .int .i64 fr]) := (Bk.new w _ _).alloc _
  have HK3 : Hid (Bk ((w.alloc (.cells #[.int .i64 (i : Int), .int .i64 (d : Int), .int .i64 fr] 42)).alloc (.cells #[.bool false, .int .i64 0] 37)) (w.heap.size + 1) 37 #[.bool false, .int .i64 0]) := by
    have h := Bk.new (w.alloc (.cells #[.int .i64 (i : Int), .int .i64 (d : Int), .int .i64 fr] 42)) 37 #[.bool false, .int .i64 0]
    rw [World.size_alloc] at h
    exact h
  have HB1 : Hid (Bl w ((w.alloc (.cells #[.int .i64 (i : Int), .int .i64 (d : Int), .int .i64 fr] 42)).alloc (.cells #[.bool false, .int .i64 0] 37))) := ((Bl.refl w).alloc _).alloc _
  have HK1 := Lib.hid (hk.bl HB1.out)
  obtain ⟨b, off, Ax, cx, eA, hbB, hrx, hc0, hc1⟩ := (hr.bl hB HB1.out).at_ hi
  have hbl := Nat.lt_of_lt_of_le hbB (Nat.le_trans hB HB1.out.size)
  have i0 : (0 : Int) ≤ (i : Int) := by omega
  have i1 : (i : Int) < (G.len : Int) := by omega
  have HRx := Lib.hid (hrx.sym hd)
  have d0 : (0 : Int) ≤ (d : Int) := by omega
  have d1 : (d : Int) < (ps[i].right.length : Int) := by omega
  have hq : ((d : Int) == (ps[i].right.length : Int)) = false := by rw [beq_eq_false_iff_ne]; omega
  clear hr hrx hc0 hlen
  generalize ps[i].right[d] = y at *
  clear hd
  generalize ps[i].right.length = rl at *
  obtain ⟨yb, yn⟩ := y
  go_enter Try.func54, Try.ntmps54
  go_upto_region 1 with fail
  generalize (w.alloc (.cells #[.int .i64 (i : Int), .int .i64 (d : Int), .int .i64 fr] 42)).alloc (.cells #[.bool false, .int .i64 0] 37) = w1 at *
  have k3 : w1.cell? ⟨K.p, 3, none⟩ = some (.slice G.A G.len G.c) := HK1.out.cell 3
  rw [eA] at k3
  have kl := HK1.out.lt
  have j0 : w1.cell? ⟨w.heap.size, 0, none⟩ = some (.int .i64 (i : Int)) := HK2.out.cell 0
  go_quiet (fail)
  have j1 : w1.cell? ⟨w.heap.size, 1, none⟩ = some (.int .i64 (d : Int)) := HK2.out.cell 1
  have s0 := HK3.out.cell 0
  have s1 := HK3.out.cell 1
  have f0 := HK3.out.free 0
  have f1 := HK3.out.free 1
  have l0 := HK3.out.lt
  obtain ⟨b2, o2, rfl, hb2, q0, q1⟩ := HRx.out
  have hbl2 : b2 < w1.heap.size := Nat.lt_of_lt_of_le hb2 (Nat.le_trans hB HB1.out.size)
  go_wp2_with fail
  try simp only [Exit.inBlock, Exit.then]
  refine bodyPost_ret (results_cell_st rfl _ _ (w.heap.size + 1) 37 #[.bool yb, .int .i64 yn] _ rfl ((HK3.out.drewN _).put 0 _ |>.put 1 _) Try.underlying37 rfl sym_size) rfl ?_
  exact ⟨rfl, (((Fr.of_bl (S := fun k => k = w.heap.size + 1) (HB1.out.drewN _)).own 0 _).own 1 _).bl (fun i hi e => by omega)⟩
set_option maxRecDepth 100000 in
/-- An item's next symbol, if it isn't whole. -/
theorem knext_at (G : Kg) (K : Kw) (ps : List Gr.Pr) (t n s : Int) (y : Ch.Im) (w : World) (B : Nat) (hk : Bk w K.p 78 (kcells G K)) (hlen : G.len = ps.length) (hr : Prs w B G.A ps) (hB : B ≤ w.heap.size) (hy : imIn ⟨t, n, s, ps⟩ y) :
    Calls Try.prog 54 #[.pointer (some ⟨K.p, 0, none⟩), .agg #[.int .i64 (y.prod : Int), .int .i64 (y.dot : Int), .int .i64 (y.frm : Int)]] w fun e w' =>
      e = .returned (.tuple #[.agg #[.bool (nxt ⟨t, n, s, ps⟩ y).non, .int .i64 (nxt ⟨t, n, s, ps⟩ y).n], .bool (Ch.symAt ⟨t, n, s, ps⟩ y).isSome]) ∧ Bl w w' := by
  obtain ⟨p, hp, hd⟩ := hy
  have hi := Ch.lt_of_get hp
  have hp2 : ps[y.prod]'hi = p := by have h : ps[y.prod]? = some p := hp; rw [List.getElem?_eq_getElem hi] at h; injection h
  subst hp2
  unfold nxt
  rcases Nat.lt_or_ge y.dot (ps[y.prod]'hi).right.length with h | h
  · have e : Ch.symAt ⟨t, n, s, ps⟩ y = some ((ps[y.prod]'hi).right[y.dot]'h) := Ch.symAt_iff.2 ⟨_, hp, List.getElem?_eq_getElem h⟩
    rw [e]
    exact knext_some G K ps y.prod y.dot y.frm w B hk hlen hr hB hi h
  · have e0 : y.dot = (ps[y.prod]'hi).right.length := by omega
    have e : Ch.symAt ⟨t, n, s, ps⟩ y = none := (Ch.symAt_none hp hd).2 e0
    rw [e, e0]
    exact knext_none G K ps y.prod y.frm w B hk hlen hr hB hi
set_option maxRecDepth 100000 in
set_option maxHeartbeats 1000000 in
theorem cbehind_any (p d f : Nat) (w : World) (hd : d < 1000000) :
    Calls Try.prog 56 #[.agg #[.int .i64 (p : Int), .int .i64 (d : Int), .int .i64 (f : Int)]] w fun e w' => e = .returned (.agg #[.int .i64 (p : Int), .int .i64 ((d + 1 : Nat) : Int), .int .i64 (f : Int)]) ∧ Bl w w' := by
  have HK1 : Hid (Bk ((w.alloc (.cells #[.int .i64 (p : Int), .int .i64 (d : Int), .int .i64 (f : Int)] 42)).alloc (.cells #[.int .i64 0, .int .i64 0, .int .i64 0] 42)) w.heap.size 42 #[.int .i64 (p : Int), .int .i64 (d : Int), .int .i64 (f : Int)]) := (Bk.new w _ _).alloc _
  have HK2 : Hid (Bk ((w.alloc (.cells #[.int .i64 (p : Int), .int .i64 (d : Int), .int .i64 (f : Int)] 42)).alloc (.cells #[.int .i64 0, .int .i64 0, .int .i64 0] 42)) (w.heap.size + 1) 42 #[.int .i64 0, .int .i64 0, .int .i64 0]) := by
    have h := Bk.new (w.alloc (.cells #[.int .i64 (p : Int), .int .i64 (d : Int), .int .i64 (f : Int)] 42)) 42 #[.int .i64 0, .int .i64 0, .int .i64 0]
    rw [World.size_alloc] at h
    exact h
  have HB1 : Hid (Bl w ((w.alloc (.cells #[.int .i64 (p : Int), .int .i64 (d : Int), .int .i64 (f : Int)] 42)).alloc (.cells #[.int .i64 0, .int .i64 0, .int .i64 0] 42))) := ((Bl.refl w).alloc _).alloc _
  go_enter Try.func56, Try.ntmps56
  go_upto_region 1 with fail
  generalize (w.alloc (.cells #[.int .i64 (p : Int), .int .i64 (d : Int), .int .i64 (f : Int)] 42)).alloc (.cells #[.int .i64 0, .int .i64 0, .int .i64 0] 42) = w1 at *
  have k1 := HK1.out.cell 1
  have f1 := HK1.out.free 1
  have l1 := HK1.out.lt
  have hp := HK1.out.put 1 (.int .i64 ((d : Int) + 1))
  have HP := Lib.hid hp
  have p0 : (w1.setCell ⟨w.heap.size, 1, none⟩ (.int .i64 ((d : Int) + 1))).cell? ⟨w.heap.size, 0, none⟩ = some (.int .i64 (p : Int)) := hp.cell 0
  have p1 : (w1.setCell ⟨w.heap.size, 1, none⟩ (.int .i64 ((d : Int) + 1))).cell? ⟨w.heap.size, 1, none⟩ = some (.int .i64 ((d : Int) + 1)) := hp.cell 1
  have p2 : (w1.setCell ⟨w.heap.size, 1, none⟩ (.int .i64 ((d : Int) + 1))).cell? ⟨w.heap.size, 2, none⟩ = some (.int .i64 (f : Int)) := hp.cell 2
  have HQ2 : Hid (Bk (w1.setCell ⟨w.heap.size, 1, none⟩ (.int .i64 ((d : Int) + 1))) (w.heap.size + 1) 42 #[.int .i64 0, .int .i64 0, .int .i64 0]) := HK2.out.far (p := ⟨w.heap.size, 1, none⟩) (by show _ ≠ w.heap.size; omega) _
  have HF2 : Hid (Fr (fun k => k = w.heap.size ∨ k = w.heap.size + 1) w (w1.setCell ⟨w.heap.size, 1, none⟩ (.int .i64 ((d : Int) + 1)))) := (Fr.of_bl HB1.out).setCell (p := ⟨w.heap.size, 1, none⟩) (.inl (.inl rfl)) _
  clear hp
  go_upto_region 2 with fail
  have hdn : ((d : Int) + 1) = ((d + 1 : Nat) : Int) := by omega
  rw [hdn] at HP HQ2 HF2 p0 p1 p2 ⊢
  clear hdn
  have s20 := HQ2.out.cell 0
  have s21 := HQ2.out.cell 1
  have s22 := HQ2.out.cell 2
  have f20 := HQ2.out.free 0
  have f21 := HQ2.out.free 1
  have f22 := HQ2.out.free 2
  have l2 := HQ2.out.lt
  generalize w1.setCell ⟨w.heap.size, 1, none⟩ (.int .i64 ((d + 1 : Nat) : Int)) = w2 at *
  go_wp2_with fail
  try simp only [Exit.inBlock, Exit.then]
  refine bodyPost_ret (results_row rfl _ _ (w.heap.size + 1) 42 #[.int .i64 (p : Int), .int .i64 ((d + 1 : Nat) : Int), .int .i64 (f : Int)] _ rfl (((HQ2.out.put 0 _).put 1 _).put 2 _) Try.underlying42 rfl item_size) rfl ?_
  exact ⟨rfl, (((HF2.out.setCell (p := ⟨w.heap.size + 1, 0, none⟩) (.inl (.inr rfl)) _).setCell (p := ⟨w.heap.size + 1, 1, none⟩) (.inl (.inr rfl)) _).setCell (p := ⟨w.heap.size + 1, 2, none⟩) (.inl (.inr rfl)) _).bl (fun i hi e => by rcases e with e | e <;> omega)⟩

end Go.Proofs.Ytdfhhbncmdpoeaa
