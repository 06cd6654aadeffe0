/- FirstTells's last region: the document's sets, and ranks, and what they say of symbols; the variable is made whenever. -/
import Derived.Test.YtebjbahbaiialaaRNums
import Derived.Test.YtebjbahbaiialaaKRRanks
import Derived.Deep.RegionHeld3
namespace Go.Proofs.Ytebjbahbaiialaa
open Go.RowKit

section
variable {P : Program} {ops : Array Oper} {o : Oper} {a : Act} {w : World} {K : Act → World → Prop} {Q : Exit → Act → World → Prop} {E : Prop}
theorem step_alloc_agg (hg : o.guard = none) (ty : TypeId) (hop : o.op = .alloc ty) (Z : Array Value) (n : Nat) (hz : (P.info? ty).map (fun i => (i.zero, i.size)) = some (some (.agg Z), n))
    (hK : K (a.put o.dst (.pointer (some ⟨w.heap.size, 0, none⟩))) (w.alloc (.cells Z ty))) : if Region.wanted o (yielded ops a.tmps) = true then Oper.wp P o a w K Q else E := by
  have hw : Region.wanted o (yielded ops a.tmps) = true := by simp [Region.wanted, hg]
  rw [if_pos hw]
  obtain ⟨hz1, _⟩ := zero_of_info hz
  unfold Oper.wp execOp
  simp only [hop, Instr.alloc, Sem.run_bind, hz1 w, Result.andThen_ok, newVar]
  exact hK
theorem step_store_bk (hg : o.guard = none) (ty : TypeId) (x y : Operand) (hop : o.op = .store ty x y) (g : Nat) (t : TypeId) (cs cells : Array Value)
    (hx : a.eval x = .pointer (some ⟨g, 0, none⟩)) (hy : a.eval y = .agg cells) (hb : Bk w g t cs) (hs : cs.size = cells.size) (hi : (P.info? ty).map (·.size) = some cells.size) (h1 : cells.all (·.oneCell') = true)
    (hK : ∀ w', Bk w' g t cells → Fr (fun k => k = g) w w' → K (a.put o.dst undef) w') : if Region.wanted o (yielded ops a.tmps) = true then Oper.wp P o a w K Q else E := by
  have hw : Region.wanted o (yielded ops a.tmps) = true := by simp [Region.wanted, hg]
  rw [if_pos hw]
  have hrun := run_storeVar_row (P := P) w g t ty cs cells hb hi hs h1
  unfold Oper.wp execOp
  simp only [hop, hx, hy, Instr.storeAt, Instr.sureAddr, Sem.run_bind, Sem.run_pure, Result.andThen_ok, hrun]
  exact hK _ (setRow_bk hb) setRow_fr
end


set_option maxRecDepth 100000 in
set_option maxHeartbeats 8000000 in
theorem tellsRegion (t s : Int) (A : Option Addr) (len c N : Nat) (ps : List Gr.Pr) (Ax : Option Addr) (lx cx : Nat) (l : List Gr.Sy) (w1 : World) (gg : Nat) (Q : Exit → Act → World → Prop) (a0 a3 a4 a5 a6 a7 a8 a9 a10 a11 a12 a13 a14 a15 a16 a17 a18 a19 a20 a21 a22 a23 a24 a25 a26 a27 a28 a29 a30 a31 a32 a33 a34 a35 a36 a37 a38 a39 a40 a41 a42 a43 a44 a45 a46 a47 a48 a49 a50 a51 a52 a53 a54 a55 a56 a57 a58 a59 a60 a61 a62 a63 : Value)
    (hlen : len = ps.length) (hok : okB ⟨t, (N : Int), s, ps⟩ = true) (hr : Prs w1 w1.heap.size A ps) (hlx : lx = l.length) (hmx : lx ≤ 9223372036854775807) (hrx : Rd w1 w1.heap.size Ax (syRow l)) (hsy : Fi.SyOk N l) (hg : Bk w1 gg 24 #[.int .i64 t, .int .i64 (N : Int), .int .i64 s, .slice A len c])
    (hp : ∀ c (a a' : Act) w, a.defers = a'.defers → Q (.panic c) a w → Q (.panic c) a' w)
    (hQ : ∀ (g7 : Nat) (x46 x47 x48 x49 x50 x51 x52 x53 x54 : Value) (w' : World), Bk w' g7 39 (bls 32 (Fi.of (colF ⟨t, (N : Int), s, ps⟩) (Fi.nulls ⟨t, (N : Int), s, ps⟩) l)).toArray → Bl w1 w' → Q .normal { tmps := List.toArray (a0 :: .slice Ax lx cx :: .pointer (some ⟨gg, 0, none⟩) :: a3 :: a4 :: a5 :: a6 :: .pointer (some ⟨g7, 0, none⟩) :: .bool (Fi.allNull (Fi.nulls ⟨t, (N : Int), s, ps⟩) l) :: a9 :: a10 :: a11 :: a12 :: a13 :: a14 :: a15 :: a16 :: a17 :: a18 :: a19 :: a20 :: a21 :: a22 :: a23 :: a24 :: a25 :: a26 :: a27 :: a28 :: a29 :: a30 :: a31 :: a32 :: a33 :: a34 :: a35 :: a36 :: a37 :: a38 :: a39 :: a40 :: a41 :: a42 :: a43 :: a44 :: a45 :: x46 :: x47 :: x48 :: x49 :: x50 :: x51 :: x52 :: x53 :: x54 :: a55 :: a56 :: a57 :: a58 :: a59 :: a60 :: a61 :: a62 :: a63 :: []), defers := [] } w') :
    (Code.region 10 #[{ dst := some 47, op := Op.move (Operand.tmp 1), type := 25, pos := "law.go:49", after := #[], guard := none }, { dst := some 48, op := Op.load 24 (Operand.tmp 2), type := 24, pos := "law.go:49", after := #[], guard := none }, { dst := some 49, op := Op.call { callee := Callee.value (Operand.func 12), args := #[Operand.tmp 48], argTypes := #[24] }, type := 35, pos := "law.go:49", after := #[{ on := 1, ground := Ground.data }], guard := none }, { dst := some 50, op := Op.load 24 (Operand.tmp 2), type := 24, pos := "law.go:49", after := #[], guard := none }, { dst := some 51, op := Op.call { callee := Callee.value (Operand.func 16), args := #[Operand.tmp 50, Operand.const (Value.bool false)], argTypes := #[24, 4] }, type := 42, pos := "law.go:49", after := #[{ on := 3, ground := Ground.data }, { on := 2, ground := Ground.chain }], guard := none }, { dst := some 52, op := Op.call { callee := Callee.value (Operand.func 15), args := #[Operand.tmp 47, Operand.tmp 49, Operand.tmp 51], argTypes := #[25, 35, 42] }, type := 40, pos := "law.go:49", after := #[{ on := 0, ground := Ground.data }, { on := 2, ground := Ground.data }, { on := 4, ground := Ground.data }, { on := 4, ground := Ground.chain }], guard := none }, { dst := some 46, op := Op.move (Operand.tmp 52), type := 40, pos := "law.go:49", after := #[{ on := 5, ground := Ground.data }], guard := none }, { dst := some 53, op := Op.extract (Operand.tmp 46) 0, type := 39, pos := "law.go:49", after := #[{ on := 6, ground := Ground.data }], guard := none }, { dst := some 54, op := Op.extract (Operand.tmp 46) 1, type := 4, pos := "law.go:49", after := #[{ on := 6, ground := Ground.data }, { on := 10, ground := Ground.gcOnly Departure.lateStores }], guard := none }, { dst := some 7, op := Op.alloc 39, type := 0, pos := "law.go:49", after := #[], guard := none }, { dst := none, op := Op.store 39 (Operand.tmp 7) (Operand.tmp 53), type := 0, pos := "law.go:49", after := #[{ on := 9, ground := Ground.data }, { on := 7, ground := Ground.data }, { on := 5, ground := Ground.chain }, { on := 0, ground := Ground.phase }, { on := 1, ground := Ground.phase }, { on := 2, ground := Ground.phase }, { on := 3, ground := Ground.phase }, { on := 4, ground := Ground.phase }, { on := 5, ground := Ground.phase }, { on := 6, ground := Ground.phase }, { on := 7, ground := Ground.phase }, { on := 8, ground := Ground.textOnly Departure.lateStores }, { on := 9, ground := Ground.phase }], guard := none }, { dst := some 8, op := Op.assign (Operand.tmp 54), type := 4, pos := "law.go:49", after := #[{ on := 8, ground := Ground.data }, { on := 10, ground := Ground.chain }, { on := 0, ground := Ground.phase }, { on := 1, ground := Ground.phase }, { on := 2, ground := Ground.phase }, { on := 3, ground := Ground.phase }, { on := 4, ground := Ground.phase }, { on := 5, ground := Ground.phase }, { on := 6, ground := Ground.phase }, { on := 7, ground := Ground.phase }, { on := 8, ground := Ground.phase }, { on := 9, ground := Ground.phase }, { on := 10, ground := Ground.phase }], guard := none }] true).wp Try.prog Q { tmps := List.toArray (a0 :: .slice Ax lx cx :: .pointer (some ⟨gg, 0, none⟩) :: a3 :: a4 :: a5 :: a6 :: a7 :: a8 :: a9 :: a10 :: a11 :: a12 :: a13 :: a14 :: a15 :: a16 :: a17 :: a18 :: a19 :: a20 :: a21 :: a22 :: a23 :: a24 :: a25 :: a26 :: a27 :: a28 :: a29 :: a30 :: a31 :: a32 :: a33 :: a34 :: a35 :: a36 :: a37 :: a38 :: a39 :: a40 :: a41 :: a42 :: a43 :: a44 :: a45 :: a46 :: a47 :: a48 :: a49 :: a50 :: a51 :: a52 :: a53 :: a54 :: a55 :: a56 :: a57 :: a58 :: a59 :: a60 :: a61 :: a62 :: a63 :: []), defers := [] } w1 := by
  obtain ⟨n1, n2, n3⟩ := ok_nons hok
  have hlx60 : len ≤ 9223372036854775807 := by omega
  have HSet : Hid (setsN ⟨t, (N : Int), s, ps⟩ = N) := setsN_ok hok
  have HFa : Hid (factsOf false ⟨t, (N : Int), s, ps⟩ = fz (Rk.ranks false ps N)) := factsOf_ok hok
  have HNn : Hid (nlz (fz (Rk.ranks false ps N)) = Fi.nulls ⟨t, (N : Int), s, ps⟩) := nlz_nulls ⟨t, (N : Int), s, ps⟩
  have HLn : Hid ((fz (Rk.ranks false ps N)).length = N) := by show _ = _; rw [fz_len, Rk.ranks_length]
  have HPr : Hid (∀ w', Bl w1 w' → Prs w' w'.heap.size A ps) := fun w' h => (hr.bl (Nat.le_refl _) h).more h.size
  have HXr : Hid (∀ w', Bl w1 w' → Rd w' w'.heap.size Ax (syRow l)) := fun w' h => rd_on hrx h
  have HSy := Lib.hid hsy; clear hsy
  have HQ := Lib.hid hQ; clear hQ
  have HL := Lib.hid hlen; clear hlen
  have HLX := Lib.hid hlx; clear hlx
  have hs32 : zs32.size = 32 := by rfl
  clear hok hr hrx
  refine wp_region_held_drew (S := (fun w' => w'.cell? ⟨gg, 0, none⟩ = some (.int .i64 t) ∧ w'.cell? ⟨gg, 1, none⟩ = some (.int .i64 (N : Int)) ∧ w'.cell? ⟨gg, 2, none⟩ = some (.int .i64 s) ∧ w'.cell? ⟨gg, 3, none⟩ = some (.slice A len c))) (by kernel_rfl) ⟨hg.cell 0, hg.cell 1, hg.cell 2, hg.cell 3⟩ (fun hHeld => ?_)
  refine wpAnyH_take (i := 0) (oi := ({ dst := some 47, op := Op.move (Operand.tmp 1), type := 25, pos := "law.go:49", after := #[], guard := none } : Oper)) (v := ?_) rfl (by kernel_rfl) (by kernel_rfl) (by kernel_rfl) (fun c0 b0 v0 h => hp c0 (b0.put _ _) b0 v0 rfl h) (Or.inl ⟨by rfl, ?_⟩) hHeld ?_
  rotate_left
  · (intro w hSw; (try dsimp only at hSw); go_simp) <;> with_reducible rfl
  try simp only [Act.put, List.setIfInBounds_toArray, List.set_cons_zero, List.set_cons_succ]
  refine wpAnyH_take (i := 1) (oi := ({ dst := some 48, op := Op.load 24 (Operand.tmp 2), type := 24, pos := "law.go:49", after := #[], guard := none } : Oper)) (v := ?_) rfl (by kernel_rfl) (by kernel_rfl) (by kernel_rfl) (fun c0 b0 v0 h => hp c0 (b0.put _ _) b0 v0 rfl h) (Or.inl ⟨by rfl, ?_⟩) hHeld ?_
  rotate_left
  · (intro w hSw; (try dsimp only at hSw); go_simp) <;> with_reducible rfl
  try simp only [Act.put, List.setIfInBounds_toArray, List.set_cons_zero, List.set_cons_succ]
  refine wpAnyH_take (i := 3) (oi := ({ dst := some 50, op := Op.load 24 (Operand.tmp 2), type := 24, pos := "law.go:49", after := #[], guard := none } : Oper)) (v := ?_) rfl (by kernel_rfl) (by kernel_rfl) (by kernel_rfl) (fun c0 b0 v0 h => hp c0 (b0.put _ _) b0 v0 rfl h) (Or.inl ⟨by rfl, ?_⟩) hHeld ?_
  rotate_left
  · (intro w hSw; (try dsimp only at hSw); go_simp) <;> with_reducible rfl
  try simp only [Act.put, List.setIfInBounds_toArray, List.set_cons_zero, List.set_cons_succ]
  clear hHeld
  generalize hW : wpAnyH Try.prog _ _ _ _ = W
  have st31 : Hid (∀ (wk : World) (A1 : Option Addr) (c1 : Nat) (A2 : Option Addr) (c2 : Nat) (g7 : Nat), Bk wk gg 24 #[.int .i64 t, .int .i64 (N : Int), .int .i64 s, .slice A len c] → Bl w1 wk → (Bk wk g7 39 zs32 ∧ w1.heap.size ≤ g7) → W 5 #[true, true, true, true, true, true, false, false, false, true, false, false] { tmps := List.toArray (a0 :: .slice Ax lx cx :: .pointer (some ⟨gg, 0, none⟩) :: a3 :: a4 :: a5 :: a6 :: .pointer (some ⟨g7, 0, none⟩) :: a8 :: a9 :: a10 :: a11 :: a12 :: a13 :: a14 :: a15 :: a16 :: a17 :: a18 :: a19 :: a20 :: a21 :: a22 :: a23 :: a24 :: a25 :: a26 :: a27 :: a28 :: a29 :: a30 :: a31 :: a32 :: a33 :: a34 :: a35 :: a36 :: a37 :: a38 :: a39 :: a40 :: a41 :: a42 :: a43 :: a44 :: a45 :: a46 :: .slice Ax lx cx :: .agg #[.int .i64 t, .int .i64 (N : Int), .int .i64 s, .slice A len c] :: .slice A1 N c1 :: .agg #[.int .i64 t, .int .i64 (N : Int), .int .i64 s, .slice A len c] :: .slice A2 N c2 :: .tuple #[.agg (bls 32 (Fi.of (colF ⟨t, (N : Int), s, ps⟩) (Fi.nulls ⟨t, (N : Int), s, ps⟩) l)).toArray, .bool (Fi.allNull (Fi.nulls ⟨t, (N : Int), s, ps⟩) l)] :: a53 :: a54 :: a55 :: a56 :: a57 :: a58 :: a59 :: a60 :: a61 :: a62 :: a63 :: []), defers := [] } wk) := by
    intro wk A1 c1 A2 c2 g7 hg hb ha
    subst hW
    have hHeld := (⟨hg.cell 0, hg.cell 1, hg.cell 2, hg.cell 3⟩ : wk.cell? ⟨gg, 0, none⟩ = some (.int .i64 t) ∧ wk.cell? ⟨gg, 1, none⟩ = some (.int .i64 (N : Int)) ∧ wk.cell? ⟨gg, 2, none⟩ = some (.int .i64 s) ∧ wk.cell? ⟨gg, 3, none⟩ = some (.slice A len c))
    obtain ⟨ha, hal⟩ := ha
    have hgne : gg ≠ g7 := hg.apart ha (by decide)
    refine wpAnyH_take (i := 6) (oi := ({ dst := some 46, op := Op.move (Operand.tmp 52), type := 40, pos := "law.go:49", after := #[{ on := 5, ground := Ground.data }], guard := none } : Oper)) (v := ?_) rfl (by kernel_rfl) (by kernel_rfl) (by kernel_rfl) (fun c0 b0 v0 h => hp c0 (b0.put _ _) b0 v0 rfl h) (Or.inl ⟨by rfl, ?_⟩) hHeld ?_
    rotate_left
    · (intro w hSw; (try dsimp only at hSw); go_simp) <;> with_reducible rfl
    try simp only [Act.put, List.setIfInBounds_toArray, List.set_cons_zero, List.set_cons_succ]
    refine wpAnyH_take (i := 7) (oi := ({ dst := some 53, op := Op.extract (Operand.tmp 46) 0, type := 39, pos := "law.go:49", after := #[{ on := 6, ground := Ground.data }], guard := none } : Oper)) (v := ?_) rfl (by kernel_rfl) (by kernel_rfl) (by kernel_rfl) (fun c0 b0 v0 h => hp c0 (b0.put _ _) b0 v0 rfl h) (Or.inl ⟨by rfl, ?_⟩) hHeld ?_
    rotate_left
    · (intro w hSw; (try dsimp only at hSw); go_simp) <;> with_reducible rfl
    try simp only [Act.put, List.setIfInBounds_toArray, List.set_cons_zero, List.set_cons_succ]
    refine wpAnyH_take (i := 8) (oi := ({ dst := some 54, op := Op.extract (Operand.tmp 46) 1, type := 4, pos := "law.go:49", after := #[{ on := 6, ground := Ground.data }, { on := 10, ground := Ground.gcOnly Departure.lateStores }], guard := none } : Oper)) (v := ?_) rfl (by kernel_rfl) (by kernel_rfl) (by kernel_rfl) (fun c0 b0 v0 h => hp c0 (b0.put _ _) b0 v0 rfl h) (Or.inl ⟨by rfl, ?_⟩) hHeld ?_
    rotate_left
    · (intro w hSw; (try dsimp only at hSw); go_simp) <;> with_reducible rfl
    try simp only [Act.put, List.setIfInBounds_toArray, List.set_cons_zero, List.set_cons_succ]
    clear hHeld
    refine wpAnyH_ready (rs := [10]) (by kernel_rfl) (by simp) ?_
    refine AllReadyH.cons (o := ({ dst := none, op := Op.store 39 (Operand.tmp 7) (Operand.tmp 53), type := 0, pos := "law.go:49", after := #[{ on := 9, ground := Ground.data }, { on := 7, ground := Ground.data }, { on := 5, ground := Ground.chain }, { on := 0, ground := Ground.phase }, { on := 1, ground := Ground.phase }, { on := 2, ground := Ground.phase }, { on := 3, ground := Ground.phase }, { on := 4, ground := Ground.phase }, { on := 5, ground := Ground.phase }, { on := 6, ground := Ground.phase }, { on := 7, ground := Ground.phase }, { on := 8, ground := Ground.textOnly Departure.lateStores }, { on := 9, ground := Ground.phase }], guard := none } : Oper)) rfl (fun K hK => ?_) AllReadyH.nil
    refine step_store_bk rfl 39 (.tmp 7) (.tmp 53) rfl g7 39 zs32 (bls 32 (Fi.of (colF ⟨t, (N : Int), s, ps⟩) (Fi.nulls ⟨t, (N : Int), s, ps⟩) l)).toArray rfl rfl ha (by rw [bls_size]; rfl) (by rw [bls_size]; exact set_size) (bls_all _) ?_
    intro w' hb' hf'
    have hg' := hg.fr hf' hgne
    refine hK.out _ _ ⟨hg'.cell 0, hg'.cell 1, hg'.cell 2, hg'.cell 3⟩ (fun hHeld => ?_)
    clear hK K
    try simp only [Act.put, List.setIfInBounds_toArray, List.set_cons_zero, List.set_cons_succ]
    refine wpAnyH_take (i := 11) (oi := ({ dst := some 8, op := Op.assign (Operand.tmp 54), type := 4, pos := "law.go:49", after := #[{ on := 8, ground := Ground.data }, { on := 10, ground := Ground.chain }, { on := 0, ground := Ground.phase }, { on := 1, ground := Ground.phase }, { on := 2, ground := Ground.phase }, { on := 3, ground := Ground.phase }, { on := 4, ground := Ground.phase }, { on := 5, ground := Ground.phase }, { on := 6, ground := Ground.phase }, { on := 7, ground := Ground.phase }, { on := 8, ground := Ground.phase }, { on := 9, ground := Ground.phase }, { on := 10, ground := Ground.phase }], guard := none } : Oper)) (v := ?_) rfl (by kernel_rfl) (by kernel_rfl) (by kernel_rfl) (fun c0 b0 v0 h => hp c0 (b0.put _ _) b0 v0 rfl h) (Or.inl ⟨by rfl, ?_⟩) hHeld ?_
    rotate_left
    · (intro w hSw; (try dsimp only at hSw); go_simp) <;> with_reducible rfl
    try simp only [Act.put, List.setIfInBounds_toArray, List.set_cons_zero, List.set_cons_succ]
    refine wpAnyH_done (by kernel_rfl) ?_ _
    exact HQ.out g7 _ _ _ _ _ _ _ _ _ _ hb' (hb.fr hf' (by intro i hi e; omega))
  have st30 : Hid (∀ (wk : World) (A1 : Option Addr) (c1 : Nat) (A2 : Option Addr) (c2 : Nat), Bk wk gg 24 #[.int .i64 t, .int .i64 (N : Int), .int .i64 s, .slice A len c] → Bl w1 wk →  W 6 #[true, true, true, true, true, true, false, false, false, false, false, false] { tmps := List.toArray (a0 :: .slice Ax lx cx :: .pointer (some ⟨gg, 0, none⟩) :: a3 :: a4 :: a5 :: a6 :: a7 :: a8 :: a9 :: a10 :: a11 :: a12 :: a13 :: a14 :: a15 :: a16 :: a17 :: a18 :: a19 :: a20 :: a21 :: a22 :: a23 :: a24 :: a25 :: a26 :: a27 :: a28 :: a29 :: a30 :: a31 :: a32 :: a33 :: a34 :: a35 :: a36 :: a37 :: a38 :: a39 :: a40 :: a41 :: a42 :: a43 :: a44 :: a45 :: a46 :: .slice Ax lx cx :: .agg #[.int .i64 t, .int .i64 (N : Int), .int .i64 s, .slice A len c] :: .slice A1 N c1 :: .agg #[.int .i64 t, .int .i64 (N : Int), .int .i64 s, .slice A len c] :: .slice A2 N c2 :: .tuple #[.agg (bls 32 (Fi.of (colF ⟨t, (N : Int), s, ps⟩) (Fi.nulls ⟨t, (N : Int), s, ps⟩) l)).toArray, .bool (Fi.allNull (Fi.nulls ⟨t, (N : Int), s, ps⟩) l)] :: a53 :: a54 :: a55 :: a56 :: a57 :: a58 :: a59 :: a60 :: a61 :: a62 :: a63 :: []), defers := [] } wk) := by
    intro wk A1 c1 A2 c2 hg hb 
    subst hW
    have hHeld := (⟨hg.cell 0, hg.cell 1, hg.cell 2, hg.cell 3⟩ : wk.cell? ⟨gg, 0, none⟩ = some (.int .i64 t) ∧ wk.cell? ⟨gg, 1, none⟩ = some (.int .i64 (N : Int)) ∧ wk.cell? ⟨gg, 2, none⟩ = some (.int .i64 s) ∧ wk.cell? ⟨gg, 3, none⟩ = some (.slice A len c))
    refine wpAnyH_take (i := 6) (oi := ({ dst := some 46, op := Op.move (Operand.tmp 52), type := 40, pos := "law.go:49", after := #[{ on := 5, ground := Ground.data }], guard := none } : Oper)) (v := ?_) rfl (by kernel_rfl) (by kernel_rfl) (by kernel_rfl) (fun c0 b0 v0 h => hp c0 (b0.put _ _) b0 v0 rfl h) (Or.inl ⟨by rfl, ?_⟩) hHeld ?_
    rotate_left
    · (intro w hSw; (try dsimp only at hSw); go_simp) <;> with_reducible rfl
    try simp only [Act.put, List.setIfInBounds_toArray, List.set_cons_zero, List.set_cons_succ]
    refine wpAnyH_take (i := 7) (oi := ({ dst := some 53, op := Op.extract (Operand.tmp 46) 0, type := 39, pos := "law.go:49", after := #[{ on := 6, ground := Ground.data }], guard := none } : Oper)) (v := ?_) rfl (by kernel_rfl) (by kernel_rfl) (by kernel_rfl) (fun c0 b0 v0 h => hp c0 (b0.put _ _) b0 v0 rfl h) (Or.inl ⟨by rfl, ?_⟩) hHeld ?_
    rotate_left
    · (intro w hSw; (try dsimp only at hSw); go_simp) <;> with_reducible rfl
    try simp only [Act.put, List.setIfInBounds_toArray, List.set_cons_zero, List.set_cons_succ]
    refine wpAnyH_take (i := 8) (oi := ({ dst := some 54, op := Op.extract (Operand.tmp 46) 1, type := 4, pos := "law.go:49", after := #[{ on := 6, ground := Ground.data }, { on := 10, ground := Ground.gcOnly Departure.lateStores }], guard := none } : Oper)) (v := ?_) rfl (by kernel_rfl) (by kernel_rfl) (by kernel_rfl) (fun c0 b0 v0 h => hp c0 (b0.put _ _) b0 v0 rfl h) (Or.inl ⟨by rfl, ?_⟩) hHeld ?_
    rotate_left
    · (intro w hSw; (try dsimp only at hSw); go_simp) <;> with_reducible rfl
    try simp only [Act.put, List.setIfInBounds_toArray, List.set_cons_zero, List.set_cons_succ]
    try clear hHeld
    refine wpAnyH_ready (rs := [9]) (by kernel_rfl) (by simp) ?_
    refine AllReadyH.cons (o := ({ dst := some 7, op := Op.alloc 39, type := 0, pos := "law.go:49", after := #[], guard := none } : Oper)) rfl (fun K hK => ?_) AllReadyH.nil
    refine step_alloc_agg rfl 39 rfl zs32 32 set_info ?_
    have ha := Bk.new wk 39 zs32
    have hg2 := hg.alloc (.cells zs32 39)
    have hgne : gg ≠ wk.heap.size := by have := hg.lt; omega
    refine hK.out _ _ ⟨hg2.cell 0, hg2.cell 1, hg2.cell 2, hg2.cell 3⟩ (fun hHeld => ?_)
    clear hK K hHeld
    try simp only [Act.put, List.setIfInBounds_toArray, List.set_cons_zero, List.set_cons_succ]
    refine wpAnyH_ready (rs := [10]) (by kernel_rfl) (by simp) ?_
    refine AllReadyH.cons (o := ({ dst := none, op := Op.store 39 (Operand.tmp 7) (Operand.tmp 53), type := 0, pos := "law.go:49", after := #[{ on := 9, ground := Ground.data }, { on := 7, ground := Ground.data }, { on := 5, ground := Ground.chain }, { on := 0, ground := Ground.phase }, { on := 1, ground := Ground.phase }, { on := 2, ground := Ground.phase }, { on := 3, ground := Ground.phase }, { on := 4, ground := Ground.phase }, { on := 5, ground := Ground.phase }, { on := 6, ground := Ground.phase }, { on := 7, ground := Ground.phase }, { on := 8, ground := Ground.textOnly Departure.lateStores }, { on := 9, ground := Ground.phase }], guard := none } : Oper)) rfl (fun K hK => ?_) AllReadyH.nil
    refine step_store_bk rfl 39 (.tmp 7) (.tmp 53) rfl wk.heap.size 39 zs32 (bls 32 (Fi.of (colF ⟨t, (N : Int), s, ps⟩) (Fi.nulls ⟨t, (N : Int), s, ps⟩) l)).toArray rfl rfl ha (by rw [bls_size]; rfl) (by rw [bls_size]; exact set_size) (bls_all _) ?_
    intro w' hb' hf'
    have hg' := hg2.fr hf' hgne
    refine hK.out _ _ ⟨hg'.cell 0, hg'.cell 1, hg'.cell 2, hg'.cell 3⟩ (fun hHeld => ?_)
    clear hK K
    try simp only [Act.put, List.setIfInBounds_toArray, List.set_cons_zero, List.set_cons_succ]
    refine wpAnyH_take (i := 11) (oi := ({ dst := some 8, op := Op.assign (Operand.tmp 54), type := 4, pos := "law.go:49", after := #[{ on := 8, ground := Ground.data }, { on := 10, ground := Ground.chain }, { on := 0, ground := Ground.phase }, { on := 1, ground := Ground.phase }, { on := 2, ground := Ground.phase }, { on := 3, ground := Ground.phase }, { on := 4, ground := Ground.phase }, { on := 5, ground := Ground.phase }, { on := 6, ground := Ground.phase }, { on := 7, ground := Ground.phase }, { on := 8, ground := Ground.phase }, { on := 9, ground := Ground.phase }, { on := 10, ground := Ground.phase }], guard := none } : Oper)) (v := ?_) rfl (by kernel_rfl) (by kernel_rfl) (by kernel_rfl) (fun c0 b0 v0 h => hp c0 (b0.put _ _) b0 v0 rfl h) (Or.inl ⟨by rfl, ?_⟩) hHeld ?_
    rotate_left
    · (intro w hSw; (try dsimp only at hSw); go_simp) <;> with_reducible rfl
    try simp only [Act.put, List.setIfInBounds_toArray, List.set_cons_zero, List.set_cons_succ]
    refine wpAnyH_done (by kernel_rfl) ?_ _
    exact HQ.out wk.heap.size _ _ _ _ _ _ _ _ _ _ hb' ((hb.alloc _).fr hf' (by intro i hi e; have := hb.size; omega))
  have st21 : Hid (∀ (wk : World) (A1 : Option Addr) (c1 : Nat) (A2 : Option Addr) (c2 : Nat) (g7 : Nat), Bk wk gg 24 #[.int .i64 t, .int .i64 (N : Int), .int .i64 s, .slice A len c] → Bl w1 wk → (Rd wk wk.heap.size A1 (setRow N (colF ⟨t, (N : Int), s, ps⟩))) → (Rd wk wk.heap.size A2 (fcRow (fz (Rk.ranks false ps N)))) → (Bk wk g7 39 zs32 ∧ w1.heap.size ≤ g7) → W 6 #[true, true, true, true, true, false, false, false, false, true, false, false] { tmps := List.toArray (a0 :: .slice Ax lx cx :: .pointer (some ⟨gg, 0, none⟩) :: a3 :: a4 :: a5 :: a6 :: .pointer (some ⟨g7, 0, none⟩) :: a8 :: a9 :: a10 :: a11 :: a12 :: a13 :: a14 :: a15 :: a16 :: a17 :: a18 :: a19 :: a20 :: a21 :: a22 :: a23 :: a24 :: a25 :: a26 :: a27 :: a28 :: a29 :: a30 :: a31 :: a32 :: a33 :: a34 :: a35 :: a36 :: a37 :: a38 :: a39 :: a40 :: a41 :: a42 :: a43 :: a44 :: a45 :: a46 :: .slice Ax lx cx :: .agg #[.int .i64 t, .int .i64 (N : Int), .int .i64 s, .slice A len c] :: .slice A1 N c1 :: .agg #[.int .i64 t, .int .i64 (N : Int), .int .i64 s, .slice A len c] :: .slice A2 N c2 :: a52 :: a53 :: a54 :: a55 :: a56 :: a57 :: a58 :: a59 :: a60 :: a61 :: a62 :: a63 :: []), defers := [] } wk) := by
    intro wk A1 c1 A2 c2 g7 hg hb h1 h2 ha
    subst hW
    have hHeld := (⟨hg.cell 0, hg.cell 1, hg.cell 2, hg.cell 3⟩ : wk.cell? ⟨gg, 0, none⟩ = some (.int .i64 t) ∧ wk.cell? ⟨gg, 1, none⟩ = some (.int .i64 (N : Int)) ∧ wk.cell? ⟨gg, 2, none⟩ = some (.int .i64 s) ∧ wk.cell? ⟨gg, 3, none⟩ = some (.slice A len c))
    refine wpAnyH_ready (rs := [5]) (by kernel_rfl) (by simp) ?_
    refine (AllReadyH.cons (o := ({ dst := some 52, op := Op.call { callee := Callee.value (Operand.func 15), args := #[Operand.tmp 47, Operand.tmp 49, Operand.tmp 51], argTypes := #[25, 35, 42] }, type := 40, pos := "law.go:49", after := #[{ on := 0, ground := Ground.data }, { on := 2, ground := Ground.data }, { on := 4, ground := Ground.data }, { on := 4, ground := Ground.chain }], guard := none } : Oper)) rfl (fun K hK => ?_) AllReadyH.nil)
    · go_simp
      refine (rof_any Ax lx cx l A1 N c1 (colF ⟨t, (N : Int), s, ps⟩) A2 c2 (fz (Rk.ranks false ps N)) _ _ HLX.out hmx (HXr.out _ hb) h1 HLn.out.symm h2 (Nat.le_refl _) HSy.out).mono ?_
      rw [HNn.out]
      rintro e v1 ⟨rfl, hb1⟩
      have HX := Lib.hid (st31.out v1 A1 c1 A2 c2 g7 (hg.bl hb1) (hb.trans hb1) ⟨ha.1.bl hb1, ha.2⟩)
      have HS := Lib.hid (hg.bl hb1)
      clear hb1
      go_wp2_with fail
      refine hK.out _ _ ⟨HS.out.cell 0, HS.out.cell 1, HS.out.cell 2, HS.out.cell 3⟩ (fun _ => ?_)
      exact HX.out
  have st20 : Hid (∀ (wk : World) (A1 : Option Addr) (c1 : Nat) (A2 : Option Addr) (c2 : Nat), Bk wk gg 24 #[.int .i64 t, .int .i64 (N : Int), .int .i64 s, .slice A len c] → Bl w1 wk → (Rd wk wk.heap.size A1 (setRow N (colF ⟨t, (N : Int), s, ps⟩))) → (Rd wk wk.heap.size A2 (fcRow (fz (Rk.ranks false ps N)))) → W 7 #[true, true, true, true, true, false, false, false, false, false, false, false] { tmps := List.toArray (a0 :: .slice Ax lx cx :: .pointer (some ⟨gg, 0, none⟩) :: a3 :: a4 :: a5 :: a6 :: a7 :: a8 :: a9 :: a10 :: a11 :: a12 :: a13 :: a14 :: a15 :: a16 :: a17 :: a18 :: a19 :: a20 :: a21 :: a22 :: a23 :: a24 :: a25 :: a26 :: a27 :: a28 :: a29 :: a30 :: a31 :: a32 :: a33 :: a34 :: a35 :: a36 :: a37 :: a38 :: a39 :: a40 :: a41 :: a42 :: a43 :: a44 :: a45 :: a46 :: .slice Ax lx cx :: .agg #[.int .i64 t, .int .i64 (N : Int), .int .i64 s, .slice A len c] :: .slice A1 N c1 :: .agg #[.int .i64 t, .int .i64 (N : Int), .int .i64 s, .slice A len c] :: .slice A2 N c2 :: a52 :: a53 :: a54 :: a55 :: a56 :: a57 :: a58 :: a59 :: a60 :: a61 :: a62 :: a63 :: []), defers := [] } wk) := by
    intro wk A1 c1 A2 c2 hg hb h1 h2
    subst hW
    have hHeld := (⟨hg.cell 0, hg.cell 1, hg.cell 2, hg.cell 3⟩ : wk.cell? ⟨gg, 0, none⟩ = some (.int .i64 t) ∧ wk.cell? ⟨gg, 1, none⟩ = some (.int .i64 (N : Int)) ∧ wk.cell? ⟨gg, 2, none⟩ = some (.int .i64 s) ∧ wk.cell? ⟨gg, 3, none⟩ = some (.slice A len c))
    refine wpAnyH_ready (rs := [5, 9]) (by kernel_rfl) (by simp) ?_
    refine (AllReadyH.cons (o := ({ dst := some 52, op := Op.call { callee := Callee.value (Operand.func 15), args := #[Operand.tmp 47, Operand.tmp 49, Operand.tmp 51], argTypes := #[25, 35, 42] }, type := 40, pos := "law.go:49", after := #[{ on := 0, ground := Ground.data }, { on := 2, ground := Ground.data }, { on := 4, ground := Ground.data }, { on := 4, ground := Ground.chain }], guard := none } : Oper)) rfl (fun K hK => ?_) (AllReadyH.cons (o := ({ dst := some 7, op := Op.alloc 39, type := 0, pos := "law.go:49", after := #[], guard := none } : Oper)) rfl (fun K hK => ?_) AllReadyH.nil))
    · go_simp
      refine (rof_any Ax lx cx l A1 N c1 (colF ⟨t, (N : Int), s, ps⟩) A2 c2 (fz (Rk.ranks false ps N)) _ _ HLX.out hmx (HXr.out _ hb) h1 HLn.out.symm h2 (Nat.le_refl _) HSy.out).mono ?_
      rw [HNn.out]
      rintro e v1 ⟨rfl, hb1⟩
      have HX := Lib.hid (st30.out v1 A1 c1 A2 c2 (hg.bl hb1) (hb.trans hb1) )
      have HS := Lib.hid (hg.bl hb1)
      clear hb1
      go_wp2_with fail
      refine hK.out _ _ ⟨HS.out.cell 0, HS.out.cell 1, HS.out.cell 2, HS.out.cell 3⟩ (fun _ => ?_)
      exact HX.out
    · refine step_alloc_agg rfl 39 rfl zs32 32 set_info ?_
      have hg2 := hg.alloc (.cells zs32 39)
      refine hK.out _ _ ⟨hg2.cell 0, hg2.cell 1, hg2.cell 2, hg2.cell 3⟩ (fun _ => ?_)
      exact st21.out _ A1 c1 A2 c2 wk.heap.size hg2 (hb.alloc _) (rd_on h1 ((Bl.refl wk).alloc _)) (rd_on h2 ((Bl.refl wk).alloc _)) ⟨Bk.new _ _ _, hb.size⟩
  have st11 : Hid (∀ (wk : World) (A1 : Option Addr) (c1 : Nat) (g7 : Nat), Bk wk gg 24 #[.int .i64 t, .int .i64 (N : Int), .int .i64 s, .slice A len c] → Bl w1 wk → (Rd wk wk.heap.size A1 (setRow N (colF ⟨t, (N : Int), s, ps⟩))) → (Bk wk g7 39 zs32 ∧ w1.heap.size ≤ g7) → W 7 #[true, true, true, true, false, false, false, false, false, true, false, false] { tmps := List.toArray (a0 :: .slice Ax lx cx :: .pointer (some ⟨gg, 0, none⟩) :: a3 :: a4 :: a5 :: a6 :: .pointer (some ⟨g7, 0, none⟩) :: a8 :: a9 :: a10 :: a11 :: a12 :: a13 :: a14 :: a15 :: a16 :: a17 :: a18 :: a19 :: a20 :: a21 :: a22 :: a23 :: a24 :: a25 :: a26 :: a27 :: a28 :: a29 :: a30 :: a31 :: a32 :: a33 :: a34 :: a35 :: a36 :: a37 :: a38 :: a39 :: a40 :: a41 :: a42 :: a43 :: a44 :: a45 :: a46 :: .slice Ax lx cx :: .agg #[.int .i64 t, .int .i64 (N : Int), .int .i64 s, .slice A len c] :: .slice A1 N c1 :: .agg #[.int .i64 t, .int .i64 (N : Int), .int .i64 s, .slice A len c] :: a51 :: a52 :: a53 :: a54 :: a55 :: a56 :: a57 :: a58 :: a59 :: a60 :: a61 :: a62 :: a63 :: []), defers := [] } wk) := by
    intro wk A1 c1 g7 hg hb h1 ha
    subst hW
    have hHeld := (⟨hg.cell 0, hg.cell 1, hg.cell 2, hg.cell 3⟩ : wk.cell? ⟨gg, 0, none⟩ = some (.int .i64 t) ∧ wk.cell? ⟨gg, 1, none⟩ = some (.int .i64 (N : Int)) ∧ wk.cell? ⟨gg, 2, none⟩ = some (.int .i64 s) ∧ wk.cell? ⟨gg, 3, none⟩ = some (.slice A len c))
    refine wpAnyH_ready (rs := [4]) (by kernel_rfl) (by simp) ?_
    refine (AllReadyH.cons (o := ({ dst := some 51, op := Op.call { callee := Callee.value (Operand.func 16), args := #[Operand.tmp 50, Operand.const (Value.bool false)], argTypes := #[24, 4] }, type := 42, pos := "law.go:49", after := #[{ on := 3, ground := Ground.data }, { on := 2, ground := Ground.chain }], guard := none } : Oper)) rfl (fun K hK => ?_) AllReadyH.nil)
    · go_simp
      refine (rranks_any t N s A len c ps false _ _ HL.out hlx60 (HPr.out _ hb) (Nat.le_refl _)).mono ?_
      intro e v1 hq
      obtain ⟨B1, d1, he1, hr1, hb1⟩ := hq.lit (k := N) HFa.out HLn.out
      subst he1
      have HX := Lib.hid (st21.out v1 A1 c1 B1 d1 g7 (hg.bl hb1) (hb.trans hb1) (rd_on h1 hb1) hr1 ⟨ha.1.bl hb1, ha.2⟩)
      have HS := Lib.hid (hg.bl hb1)
      clear hb1 hr1 hq
      go_wp2_with fail
      refine hK.out _ _ ⟨HS.out.cell 0, HS.out.cell 1, HS.out.cell 2, HS.out.cell 3⟩ (fun _ => ?_)
      exact HX.out
  have st10 : Hid (∀ (wk : World) (A1 : Option Addr) (c1 : Nat), Bk wk gg 24 #[.int .i64 t, .int .i64 (N : Int), .int .i64 s, .slice A len c] → Bl w1 wk → (Rd wk wk.heap.size A1 (setRow N (colF ⟨t, (N : Int), s, ps⟩))) → W 8 #[true, true, true, true, false, false, false, false, false, false, false, false] { tmps := List.toArray (a0 :: .slice Ax lx cx :: .pointer (some ⟨gg, 0, none⟩) :: a3 :: a4 :: a5 :: a6 :: a7 :: a8 :: a9 :: a10 :: a11 :: a12 :: a13 :: a14 :: a15 :: a16 :: a17 :: a18 :: a19 :: a20 :: a21 :: a22 :: a23 :: a24 :: a25 :: a26 :: a27 :: a28 :: a29 :: a30 :: a31 :: a32 :: a33 :: a34 :: a35 :: a36 :: a37 :: a38 :: a39 :: a40 :: a41 :: a42 :: a43 :: a44 :: a45 :: a46 :: .slice Ax lx cx :: .agg #[.int .i64 t, .int .i64 (N : Int), .int .i64 s, .slice A len c] :: .slice A1 N c1 :: .agg #[.int .i64 t, .int .i64 (N : Int), .int .i64 s, .slice A len c] :: a51 :: a52 :: a53 :: a54 :: a55 :: a56 :: a57 :: a58 :: a59 :: a60 :: a61 :: a62 :: a63 :: []), defers := [] } wk) := by
    intro wk A1 c1 hg hb h1
    subst hW
    have hHeld := (⟨hg.cell 0, hg.cell 1, hg.cell 2, hg.cell 3⟩ : wk.cell? ⟨gg, 0, none⟩ = some (.int .i64 t) ∧ wk.cell? ⟨gg, 1, none⟩ = some (.int .i64 (N : Int)) ∧ wk.cell? ⟨gg, 2, none⟩ = some (.int .i64 s) ∧ wk.cell? ⟨gg, 3, none⟩ = some (.slice A len c))
    refine wpAnyH_ready (rs := [4, 9]) (by kernel_rfl) (by simp) ?_
    refine (AllReadyH.cons (o := ({ dst := some 51, op := Op.call { callee := Callee.value (Operand.func 16), args := #[Operand.tmp 50, Operand.const (Value.bool false)], argTypes := #[24, 4] }, type := 42, pos := "law.go:49", after := #[{ on := 3, ground := Ground.data }, { on := 2, ground := Ground.chain }], guard := none } : Oper)) rfl (fun K hK => ?_) (AllReadyH.cons (o := ({ dst := some 7, op := Op.alloc 39, type := 0, pos := "law.go:49", after := #[], guard := none } : Oper)) rfl (fun K hK => ?_) AllReadyH.nil))
    · go_simp
      refine (rranks_any t N s A len c ps false _ _ HL.out hlx60 (HPr.out _ hb) (Nat.le_refl _)).mono ?_
      intro e v1 hq
      obtain ⟨B1, d1, he1, hr1, hb1⟩ := hq.lit (k := N) HFa.out HLn.out
      subst he1
      have HX := Lib.hid (st20.out v1 A1 c1 B1 d1 (hg.bl hb1) (hb.trans hb1) (rd_on h1 hb1) hr1)
      have HS := Lib.hid (hg.bl hb1)
      clear hb1 hr1 hq
      go_wp2_with fail
      refine hK.out _ _ ⟨HS.out.cell 0, HS.out.cell 1, HS.out.cell 2, HS.out.cell 3⟩ (fun _ => ?_)
      exact HX.out
    · refine step_alloc_agg rfl 39 rfl zs32 32 set_info ?_
      have hg2 := hg.alloc (.cells zs32 39)
      refine hK.out _ _ ⟨hg2.cell 0, hg2.cell 1, hg2.cell 2, hg2.cell 3⟩ (fun _ => ?_)
      exact st11.out _ A1 c1 wk.heap.size hg2 (hb.alloc _) (rd_on h1 ((Bl.refl wk).alloc _)) ⟨Bk.new _ _ _, hb.size⟩
  have st01 : Hid (∀ (wk : World) (g7 : Nat), Bk wk gg 24 #[.int .i64 t, .int .i64 (N : Int), .int .i64 s, .slice A len c] → Bl w1 wk → (Bk wk g7 39 zs32 ∧ w1.heap.size ≤ g7) → W 8 #[true, true, false, true, false, false, false, false, false, true, false, false] { tmps := List.toArray (a0 :: .slice Ax lx cx :: .pointer (some ⟨gg, 0, none⟩) :: a3 :: a4 :: a5 :: a6 :: .pointer (some ⟨g7, 0, none⟩) :: a8 :: a9 :: a10 :: a11 :: a12 :: a13 :: a14 :: a15 :: a16 :: a17 :: a18 :: a19 :: a20 :: a21 :: a22 :: a23 :: a24 :: a25 :: a26 :: a27 :: a28 :: a29 :: a30 :: a31 :: a32 :: a33 :: a34 :: a35 :: a36 :: a37 :: a38 :: a39 :: a40 :: a41 :: a42 :: a43 :: a44 :: a45 :: a46 :: .slice Ax lx cx :: .agg #[.int .i64 t, .int .i64 (N : Int), .int .i64 s, .slice A len c] :: a49 :: .agg #[.int .i64 t, .int .i64 (N : Int), .int .i64 s, .slice A len c] :: a51 :: a52 :: a53 :: a54 :: a55 :: a56 :: a57 :: a58 :: a59 :: a60 :: a61 :: a62 :: a63 :: []), defers := [] } wk) := by
    intro wk g7 hg hb ha
    subst hW
    have hHeld := (⟨hg.cell 0, hg.cell 1, hg.cell 2, hg.cell 3⟩ : wk.cell? ⟨gg, 0, none⟩ = some (.int .i64 t) ∧ wk.cell? ⟨gg, 1, none⟩ = some (.int .i64 (N : Int)) ∧ wk.cell? ⟨gg, 2, none⟩ = some (.int .i64 s) ∧ wk.cell? ⟨gg, 3, none⟩ = some (.slice A len c))
    refine wpAnyH_ready (rs := [2]) (by kernel_rfl) (by simp) ?_
    refine (AllReadyH.cons (o := ({ dst := some 49, op := Op.call { callee := Callee.value (Operand.func 12), args := #[Operand.tmp 48], argTypes := #[24] }, type := 35, pos := "law.go:49", after := #[{ on := 1, ground := Ground.data }], guard := none } : Oper)) rfl (fun K hK => ?_) AllReadyH.nil)
    · go_simp
      refine (rfirst_any t N s A len c ps _ _ HL.out hlx60 (HPr.out _ hb) (Nat.le_refl _)).mono ?_
      intro e v1 hq
      obtain ⟨B1, d1, he1, hr1, hb1⟩ := hq.lit HSet.out
      subst he1
      have HX := Lib.hid (st11.out v1 B1 d1 g7 (hg.bl hb1) (hb.trans hb1) hr1 ⟨ha.1.bl hb1, ha.2⟩)
      have HS := Lib.hid (hg.bl hb1)
      clear hb1 hr1 hq
      go_wp2_with fail
      refine hK.out _ _ ⟨HS.out.cell 0, HS.out.cell 1, HS.out.cell 2, HS.out.cell 3⟩ (fun _ => ?_)
      exact HX.out
  have st00 : Hid (∀ (wk : World), Bk wk gg 24 #[.int .i64 t, .int .i64 (N : Int), .int .i64 s, .slice A len c] → Bl w1 wk →  W 9 #[true, true, false, true, false, false, false, false, false, false, false, false] { tmps := List.toArray (a0 :: .slice Ax lx cx :: .pointer (some ⟨gg, 0, none⟩) :: a3 :: a4 :: a5 :: a6 :: a7 :: a8 :: a9 :: a10 :: a11 :: a12 :: a13 :: a14 :: a15 :: a16 :: a17 :: a18 :: a19 :: a20 :: a21 :: a22 :: a23 :: a24 :: a25 :: a26 :: a27 :: a28 :: a29 :: a30 :: a31 :: a32 :: a33 :: a34 :: a35 :: a36 :: a37 :: a38 :: a39 :: a40 :: a41 :: a42 :: a43 :: a44 :: a45 :: a46 :: .slice Ax lx cx :: .agg #[.int .i64 t, .int .i64 (N : Int), .int .i64 s, .slice A len c] :: a49 :: .agg #[.int .i64 t, .int .i64 (N : Int), .int .i64 s, .slice A len c] :: a51 :: a52 :: a53 :: a54 :: a55 :: a56 :: a57 :: a58 :: a59 :: a60 :: a61 :: a62 :: a63 :: []), defers := [] } wk) := by
    intro wk  hg hb 
    subst hW
    have hHeld := (⟨hg.cell 0, hg.cell 1, hg.cell 2, hg.cell 3⟩ : wk.cell? ⟨gg, 0, none⟩ = some (.int .i64 t) ∧ wk.cell? ⟨gg, 1, none⟩ = some (.int .i64 (N : Int)) ∧ wk.cell? ⟨gg, 2, none⟩ = some (.int .i64 s) ∧ wk.cell? ⟨gg, 3, none⟩ = some (.slice A len c))
    refine wpAnyH_ready (rs := [2, 9]) (by kernel_rfl) (by simp) ?_
    refine (AllReadyH.cons (o := ({ dst := some 49, op := Op.call { callee := Callee.value (Operand.func 12), args := #[Operand.tmp 48], argTypes := #[24] }, type := 35, pos := "law.go:49", after := #[{ on := 1, ground := Ground.data }], guard := none } : Oper)) rfl (fun K hK => ?_) (AllReadyH.cons (o := ({ dst := some 7, op := Op.alloc 39, type := 0, pos := "law.go:49", after := #[], guard := none } : Oper)) rfl (fun K hK => ?_) AllReadyH.nil))
    · go_simp
      refine (rfirst_any t N s A len c ps _ _ HL.out hlx60 (HPr.out _ hb) (Nat.le_refl _)).mono ?_
      intro e v1 hq
      obtain ⟨B1, d1, he1, hr1, hb1⟩ := hq.lit HSet.out
      subst he1
      have HX := Lib.hid (st10.out v1 B1 d1 (hg.bl hb1) (hb.trans hb1) hr1)
      have HS := Lib.hid (hg.bl hb1)
      clear hb1 hr1 hq
      go_wp2_with fail
      refine hK.out _ _ ⟨HS.out.cell 0, HS.out.cell 1, HS.out.cell 2, HS.out.cell 3⟩ (fun _ => ?_)
      exact HX.out
    · refine step_alloc_agg rfl 39 rfl zs32 32 set_info ?_
      have hg2 := hg.alloc (.cells zs32 39)
      refine hK.out _ _ ⟨hg2.cell 0, hg2.cell 1, hg2.cell 2, hg2.cell 3⟩ (fun _ => ?_)
      exact st01.out _ wk.heap.size hg2 (hb.alloc _) ⟨Bk.new _ _ _, hb.size⟩
  exact st00.out w1.drew (hg.drew) ((Bl.refl w1).drew)
end Go.Proofs.Ytebjbahbaiialaa
