/- first.First's first region: the sets' row is made, who is nullable is asked, both variables are made: in whatever order. -/
import Derived.Test.YtgmnokmchjeflaaFGrows
import Derived.Test.YtgmnokmchjeflaaKFacts
import Derived.Deep.RegionHeld3
namespace Go.Proofs.Ytgmnokmchjeflaa
open Go.RowKit

/-- 'make' of n zero things, as one step of a region that draws. -/
theorem step_make_full {P : Program} {ops : Array Oper} {o : Oper} {a : Act} {w : World} {K : Act → World → Prop} {Q : Exit → Act → World → Prop} {E : Prop}
    (hg : o.guard = none) (l c : Operand) (t : TypeId) (hop : o.op = Op.makeSlice t l c)
    (base : Nat) (e : TypeId) (i : TypeInfo) (z : Value) (size : Nat) (h1 : P.underlying t = some (.slice e)) (h2 : P.info? e = some i) (h3 : i.zero = some z) (h4 : i.size = size)
    (kl kc : IntKind) (n : Nat) (hl : a.eval l = .int kl (n : Int)) (hc : a.eval c = .int kc (n : Int)) (b2 : i.bytes * n ≤ 281474976710656) (b3 : n ≤ maxLen) (b4 : base ≤ w.heap.size)
    (hK : ∀ w', w'.ownsRow base e size (.slice (some ⟨w.heap.size, 0, none⟩) n n) n (madeCells z.cells (n * size)).toList → w.grownBy w' none → K (a.put o.dst (.slice (some ⟨w.heap.size, 0, none⟩) n n)) w') :
    if Region.wanted o (yielded ops a.tmps) = true then Oper.wp P o a w K Q else E := by
  have hw : Region.wanted o (yielded ops a.tmps) = true := by simp [Region.wanted, hg]
  rw [if_pos hw]
  obtain ⟨w', hrun, r1, r2⟩ := run_make_full (P := P) w base t e i z size h1 h2 h3 h4 kl kc n b2 b3 b4
  unfold Oper.wp
  simp [execOp, hop, hl, hc, hrun, Result.andThen]
  exact hK _ r1 r2
theorem own_still {w w' : World} {base size n : Nat} {e : TypeId} {v : Value} {xs : List Value} (h : w.ownsRow base e size v n xs) (hg : w.grownBy w' none) : w'.ownsRow base e size v n xs := by
  cases hv : v.ownBlock with
  | none => exact h.kept hg (.inl hv)
  | some k => exact h.kept hg (.inr (by rw [hv]; simp))
theorem FRel.build {t n s : Int} {A : Option Addr} {len c nons cf gg gl gn gf : Nat} {An : Option Addr} {cn : Nat} {fs : List Fc} {w0 : World} {F : List Nat} {w : World}
    (hg : Bk w gg 24 #[.int .i64 t, .int .i64 n, .int .i64 s, .slice A len c]) (hb : Bl w0 w)
    (ho : w.ownsRow w0.heap.size 33 1 (.slice (some ⟨gf, 0, none⟩) nons cf) nons (us F)) (hn : w.ownsRow w0.heap.size 63 2 (.slice An nons cn) nons (fcRow fs))
    (hl : Bk w gl 28 #[.slice none 0 0]) (hm : Bk w gn 51 #[.slice none 0 0]) (hll : w0.heap.size ≤ gl) (hlm : w0.heap.size ≤ gn) (hF : F.length = nons) :
    FRel t n s A len c nons cf gg gl gn gf An cn fs w0 F ((w.setCell ⟨gl, 0, none⟩ (.slice (some ⟨gf, 0, none⟩) nons cf)).setCell ⟨gn, 0, none⟩ (.slice An nons cn)) := by
  have n1 : gl ≠ gn := hl.apart hm (by decide)
  have n2 : gg ≠ gl := hg.apart hl (by decide)
  have n3 : gg ≠ gn := hg.apart hm (by decide)
  have hfr : Fr (fun k => k = gl ∨ k = gn) w ((w.setCell ⟨gl, 0, none⟩ (.slice (some ⟨gf, 0, none⟩) nons cf)).setCell ⟨gn, 0, none⟩ (.slice An nons cn)) :=
    ((Fr.refl _ w).setCell (p := ⟨gl, 0, none⟩) (.inl (.inl rfl)) _).setCell (p := ⟨gn, 0, none⟩) (.inl (.inr rfl)) _
  refine ⟨hg.fr hfr (by rintro (h | h) <;> omega), ((hl.put 0 _).far (p := ⟨gn, 0, none⟩) n1 _), ?_, own_fr ho hfr ?_, own_fr hn hfr ?_, hF, hb.fr hfr (by rintro k hk (h | h) <;> omega)⟩
  · exact (hm.far (p := ⟨gl, 0, none⟩) (fun e => n1 e.symm) _).put 0 _
  · rintro k hk (h | h)
    · subst h; exact hl.row ho (by decide) hk
    · subst h; exact hm.row ho (by decide) hk
  · rintro k hk (h | h)
    · subst h; exact hl.row hn (by decide) hk
    · subst h; exact hm.row hn (by decide) hk


set_option maxRecDepth 100000 in
set_option maxHeartbeats 8000000 in
theorem firstRegion (t s : Int) (A : Option Addr) (len c N : Nat) (ps : List Gr.Pr) (w0 w1 : World) (B gg : Nat) (Q : Exit → Act → World → Prop) (a0 a2 a3 a4 a5 a6 a7 a8 a9 a10 a11 a12 a13 a14 a15 a16 a17 a18 a19 a20 a21 a22 a23 a24 a25 a26 a27 a28 : Value)
    (hlen : len = ps.length) (hok : okB ⟨t, (N : Int), s, ps⟩ = true) (hr : Prs w0 B A ps) (hB : B ≤ w0.heap.size) (hg : Bk w1 gg 24 #[.int .i64 t, .int .i64 (N : Int), .int .i64 s, .slice A len c]) (hb : Bl w0 w1)
    (hp : ∀ c (a a' : Act) w, a.defers = a'.defers → Q (.panic c) a w → Q (.panic c) a' w)
    (hQ : ∀ (gl gn gf : Nat) (An : Option Addr) (cn : Nat) (x11 x12 x13 x14 x15 : Value) (w' : World), FRel t N s A len c N N gg gl gn gf An cn (fz (Rk.ranks false ps N)) w0 (List.replicate N 0) w' →
      Q .normal { tmps := #[a0, .pointer (some ⟨gg, 0, none⟩), a2, .pointer (some ⟨gl, 0, none⟩), .pointer (some ⟨gn, 0, none⟩), a5, a6, a7, a8, a9, a10, x11, x12, x13, x14, x15, a16, a17, a18, a19, a20, a21, a22, a23, a24, a25, a26, a27, a28], defers := [] } w') :
    (Code.region 3 #[{ dst := some 11, op := Op.fieldAddr 24 (Operand.tmp 1) 1, type := 0, pos := "first.go:17", after := #[], guard := none }, { dst := some 12, op := Op.load 3 (Operand.tmp 11), type := 3, pos := "first.go:17", after := #[{ on := 0, ground := Ground.data }], guard := none }, { dst := some 13, op := Op.makeSlice 28 (Operand.tmp 12) (Operand.tmp 12), type := 28, pos := "first.go:17", after := #[{ on := 1, ground := Ground.data }, { on := 1, ground := Ground.data }], guard := none }, { dst := some 14, op := Op.load 24 (Operand.tmp 1), type := 24, pos := "first.go:17", after := #[], guard := none }, { dst := some 15, op := Op.call { callee := Callee.value (Operand.func 25), args := #[Operand.tmp 14], argTypes := #[24] }, type := 51, pos := "first.go:17", after := #[{ on := 3, ground := Ground.data }], guard := none }, { dst := some 3, op := Op.alloc 28, type := 0, pos := "first.go:17", after := #[], guard := none }, { dst := some 4, op := Op.alloc 51, type := 0, pos := "first.go:17", after := #[], guard := none }, { dst := none, op := Op.store 28 (Operand.tmp 3) (Operand.tmp 13), type := 0, pos := "first.go:17", after := #[{ on := 5, ground := Ground.data }, { on := 2, ground := Ground.data }, { on := 4, ground := Ground.chain }, { on := 0, ground := Ground.phase }, { on := 1, ground := Ground.phase }, { on := 2, ground := Ground.phase }, { on := 3, ground := Ground.textOnly Departure.lateStores }, { on := 4, ground := Ground.textOnly Departure.lateStoresUnsure }, { on := 5, ground := Ground.phase }, { on := 6, ground := Ground.phase }], guard := none }, { dst := none, op := Op.store 51 (Operand.tmp 4) (Operand.tmp 15), type := 0, pos := "first.go:17", after := #[{ on := 6, ground := Ground.data }, { on := 4, ground := Ground.data }, { on := 7, ground := Ground.chain }, { on := 0, ground := Ground.phase }, { on := 1, ground := Ground.phase }, { on := 2, ground := Ground.phase }, { on := 3, ground := Ground.phase }, { on := 4, ground := Ground.phase }, { on := 5, ground := Ground.phase }, { on := 6, ground := Ground.phase }, { on := 7, ground := Ground.phase }], guard := none }] true).wp Try.prog Q { tmps := #[a0, .pointer (some ⟨gg, 0, none⟩), a2, a3, a4, a5, a6, a7, a8, a9, a10, a11, a12, a13, a14, a15, a16, a17, a18, a19, a20, a21, a22, a23, a24, a25, a26, a27, a28], defers := [] } w1 := by
  obtain ⟨i0, hi, hz0, hz1, hz2⟩ := info_parts u32_info
  obtain ⟨n1, n2, n3⟩ := ok_nons hok
  have HFa : Hid (factsOf false ⟨t, (N : Int), s, ps⟩ = fz (Rk.ranks false ps N)) := factsOf_ok hok
  have HPr : Hid (∀ w', Bl w0 w' → Prs w' B A ps) := fun w' h => hr.bl hB h
  have HSz : Hid (∀ w', Bl w0 w' → B ≤ w'.heap.size) := fun w' h => Nat.le_trans hB h.size
  have HQ := Lib.hid hQ; clear hQ
  have hlx : len ≤ 9223372036854775807 := by omega
  have HL := Lib.hid hlen; clear hlen
  have hbN : i0.bytes * N ≤ 281474976710656 := by rw [hz2]; omega
  have hbm : N ≤ maxLen := by simp only [maxLen]; omega
  clear hok hr hB
  refine wp_region_held_drew (S := (fun w' => w'.cell? ⟨gg, 0, none⟩ = some (.int .i64 t) ∧ w'.cell? ⟨gg, 1, none⟩ = some (.int .i64 (N : Int)) ∧ w'.cell? ⟨gg, 2, none⟩ = some (.int .i64 s) ∧ w'.cell? ⟨gg, 3, none⟩ = some (.slice A len c))) (by kernel_rfl) ⟨hg.cell 0, hg.cell 1, hg.cell 2, hg.cell 3⟩ (fun hHeld => ?_)
  refine wpAnyH_take (i := 0) (oi := ({ dst := some 11, op := Op.fieldAddr 24 (Operand.tmp 1) 1, type := 0, pos := "first.go:17", after := #[], guard := none } : Oper)) (v := ?_) rfl (by kernel_rfl) (by kernel_rfl) (by kernel_rfl) (fun c0 b0 v0 h => hp c0 (b0.put _ _) b0 v0 rfl h) (Or.inl ⟨by rfl, ?_⟩) hHeld ?_
  rotate_left
  · (intro w hSw; (try dsimp only at hSw); go_simp) <;> with_reducible rfl
  try simp only [Act.put, List.setIfInBounds_toArray, List.set_cons_zero, List.set_cons_succ]
  refine wpAnyH_take (i := 1) (oi := ({ dst := some 12, op := Op.load 3 (Operand.tmp 11), type := 3, pos := "first.go:17", after := #[{ on := 0, ground := Ground.data }], guard := none } : Oper)) (v := ?_) rfl (by kernel_rfl) (by kernel_rfl) (by kernel_rfl) (fun c0 b0 v0 h => hp c0 (b0.put _ _) b0 v0 rfl h) (Or.inl ⟨by rfl, ?_⟩) hHeld ?_
  rotate_left
  · (intro w hSw; (try dsimp only at hSw); go_simp) <;> with_reducible rfl
  try simp only [Act.put, List.setIfInBounds_toArray, List.set_cons_zero, List.set_cons_succ]
  refine wpAnyH_take (i := 3) (oi := ({ dst := some 14, op := Op.load 24 (Operand.tmp 1), type := 24, pos := "first.go:17", after := #[], guard := none } : Oper)) (v := ?_) rfl (by kernel_rfl) (by kernel_rfl) (by kernel_rfl) (fun c0 b0 v0 h => hp c0 (b0.put _ _) b0 v0 rfl h) (Or.inl ⟨by rfl, ?_⟩) hHeld ?_
  rotate_left
  · (intro w hSw; (try dsimp only at hSw); go_simp) <;> with_reducible rfl
  try simp only [Act.put, List.setIfInBounds_toArray, List.set_cons_zero, List.set_cons_succ]
  clear hHeld
  generalize hW : wpAnyH Try.prog _ _ _ _ = W
  have st2456 : Hid (∀ (wk : World) (gf : Nat) (An : Option Addr) (cn : Nat) (gl : Nat) (gn : Nat), Bk wk gg 24 #[.int .i64 t, .int .i64 (N : Int), .int .i64 s, .slice A len c] → Bl w0 wk → (wk.ownsRow w0.heap.size 33 1 (.slice (some ⟨gf, 0, none⟩) N N) N (us (List.replicate N 0))) → (wk.ownsRow w0.heap.size 63 2 (.slice An N cn) N (fcRow (fz (Rk.ranks false ps N)))) → (Bk wk gl 28 #[.slice none 0 0] ∧ w0.heap.size ≤ gl) → (Bk wk gn 51 #[.slice none 0 0] ∧ w0.heap.size ≤ gn) → W 2 #[true, true, true, true, true, true, true, false, false] { tmps := #[a0, .pointer (some ⟨gg, 0, none⟩), a2, .pointer (some ⟨gl, 0, none⟩), .pointer (some ⟨gn, 0, none⟩), a5, a6, a7, a8, a9, a10, .pointer (some ⟨gg, 1, none⟩), .int .i64 (N : Int), .slice (some ⟨gf, 0, none⟩) N N, .agg #[.int .i64 t, .int .i64 (N : Int), .int .i64 s, .slice A len c], .slice An N cn, a16, a17, a18, a19, a20, a21, a22, a23, a24, a25, a26, a27, a28], defers := [] } wk) := by
    intro wk gf An cn gl gn hg hb ho hn hl hm
    subst hW
    have hHeld := (⟨hg.cell 0, hg.cell 1, hg.cell 2, hg.cell 3⟩ : wk.cell? ⟨gg, 0, none⟩ = some (.int .i64 t) ∧ wk.cell? ⟨gg, 1, none⟩ = some (.int .i64 (N : Int)) ∧ wk.cell? ⟨gg, 2, none⟩ = some (.int .i64 s) ∧ wk.cell? ⟨gg, 3, none⟩ = some (.slice A len c))
    obtain ⟨hl, hll⟩ := hl
    obtain ⟨hm, hlm⟩ := hm
    have HX := Lib.hid (FRel.build hg hb ho hn hl hm hll hlm (List.length_replicate ..))
    have c1 : wk.cell? ⟨gl, 0, none⟩ = some (.slice none 0 0) := hl.cell 0
    have f1 := hl.free 0
    have hg2 := Lib.hid (hg.far (p := ⟨gl, 0, none⟩) (hg.apart hl (by decide)) (.slice (some ⟨gf, 0, none⟩) N N))
    have hm2 := Lib.hid (hm.far (p := ⟨gl, 0, none⟩) (fun e => hl.apart hm (by decide) e.symm) (.slice (some ⟨gf, 0, none⟩) N N))
    have hg3 : Hid (Bk _ gg _ _) := HX.out.bg
    clear hHeld
    refine wpAnyH_ready (rs := [7]) (by kernel_rfl) (by simp) ?_
    refine AllReadyH.cons (o := ({ dst := none, op := Op.store 28 (Operand.tmp 3) (Operand.tmp 13), type := 0, pos := "first.go:17", after := #[{ on := 5, ground := Ground.data }, { on := 2, ground := Ground.data }, { on := 4, ground := Ground.chain }, { on := 0, ground := Ground.phase }, { on := 1, ground := Ground.phase }, { on := 2, ground := Ground.phase }, { on := 3, ground := Ground.textOnly Departure.lateStores }, { on := 4, ground := Ground.textOnly Departure.lateStoresUnsure }, { on := 5, ground := Ground.phase }, { on := 6, ground := Ground.phase }], guard := none } : Oper)) rfl (fun K hK => ?_) AllReadyH.nil
    go_simp
    refine hK.out _ _ ⟨hg2.out.cell 0, hg2.out.cell 1, hg2.out.cell 2, hg2.out.cell 3⟩ (fun hHeld => ?_)
    clear hK K hHeld
    have c2 : (wk.setCell ⟨gl, 0, none⟩ (.slice (some ⟨gf, 0, none⟩) N N)).cell? ⟨gn, 0, none⟩ = some (.slice none 0 0) := hm2.out.cell 0
    have f2 : (wk.setCell ⟨gl, 0, none⟩ (.slice (some ⟨gf, 0, none⟩) N N)).frozen? ⟨gn, 0, none⟩ = false := hm2.out.free 0
    refine wpAnyH_ready (rs := [8]) (by kernel_rfl) (by simp) ?_
    refine AllReadyH.cons (o := ({ dst := none, op := Op.store 51 (Operand.tmp 4) (Operand.tmp 15), type := 0, pos := "first.go:17", after := #[{ on := 6, ground := Ground.data }, { on := 4, ground := Ground.data }, { on := 7, ground := Ground.chain }, { on := 0, ground := Ground.phase }, { on := 1, ground := Ground.phase }, { on := 2, ground := Ground.phase }, { on := 3, ground := Ground.phase }, { on := 4, ground := Ground.phase }, { on := 5, ground := Ground.phase }, { on := 6, ground := Ground.phase }, { on := 7, ground := Ground.phase }], guard := none } : Oper)) rfl (fun K hK => ?_) AllReadyH.nil
    go_simp
    refine hK.out _ _ ⟨hg3.out.cell 0, hg3.out.cell 1, hg3.out.cell 2, hg3.out.cell 3⟩ (fun hHeld => ?_)
    clear hK K hHeld
    refine wpAnyH_done (by kernel_rfl) ?_ _
    exact HQ.out gl gn gf An cn _ _ _ _ _ _ HX.out
  have st245 : Hid (∀ (wk : World) (gf : Nat) (An : Option Addr) (cn : Nat) (gl : Nat), Bk wk gg 24 #[.int .i64 t, .int .i64 (N : Int), .int .i64 s, .slice A len c] → Bl w0 wk → (wk.ownsRow w0.heap.size 33 1 (.slice (some ⟨gf, 0, none⟩) N N) N (us (List.replicate N 0))) → (wk.ownsRow w0.heap.size 63 2 (.slice An N cn) N (fcRow (fz (Rk.ranks false ps N)))) → (Bk wk gl 28 #[.slice none 0 0] ∧ w0.heap.size ≤ gl) → W 3 #[true, true, true, true, true, true, false, false, false] { tmps := #[a0, .pointer (some ⟨gg, 0, none⟩), a2, .pointer (some ⟨gl, 0, none⟩), a4, a5, a6, a7, a8, a9, a10, .pointer (some ⟨gg, 1, none⟩), .int .i64 (N : Int), .slice (some ⟨gf, 0, none⟩) N N, .agg #[.int .i64 t, .int .i64 (N : Int), .int .i64 s, .slice A len c], .slice An N cn, a16, a17, a18, a19, a20, a21, a22, a23, a24, a25, a26, a27, a28], defers := [] } wk) := by
    intro wk gf An cn gl hg hb ho hn hl
    subst hW
    have hHeld := (⟨hg.cell 0, hg.cell 1, hg.cell 2, hg.cell 3⟩ : wk.cell? ⟨gg, 0, none⟩ = some (.int .i64 t) ∧ wk.cell? ⟨gg, 1, none⟩ = some (.int .i64 (N : Int)) ∧ wk.cell? ⟨gg, 2, none⟩ = some (.int .i64 s) ∧ wk.cell? ⟨gg, 3, none⟩ = some (.slice A len c))
    refine wpAnyH_ready (rs := [6]) (by kernel_rfl) (by simp) ?_
    refine (AllReadyH.cons (o := ({ dst := some 4, op := Op.alloc 51, type := 0, pos := "first.go:17", after := #[], guard := none } : Oper)) rfl (fun K hK => ?_) AllReadyH.nil)
    · have HX := Lib.hid (st2456.out (wk.alloc (.cells #[.slice none 0 0] 51)) gf An cn gl wk.heap.size (hg.alloc _) (hb.alloc _) (ho.alloc _) (hn.alloc _) ⟨hl.1.alloc _, hl.2⟩ ⟨Bk.new _ _ _, hb.size⟩)
      have HS := Lib.hid (hg.alloc (.cells #[.slice none 0 0] 51))
      go_simp
      refine hK.out _ _ ⟨HS.out.cell 0, HS.out.cell 1, HS.out.cell 2, HS.out.cell 3⟩ (fun _ => ?_)
      exact HX.out
  have st246 : Hid (∀ (wk : World) (gf : Nat) (An : Option Addr) (cn : Nat) (gn : Nat), Bk wk gg 24 #[.int .i64 t, .int .i64 (N : Int), .int .i64 s, .slice A len c] → Bl w0 wk → (wk.ownsRow w0.heap.size 33 1 (.slice (some ⟨gf, 0, none⟩) N N) N (us (List.replicate N 0))) → (wk.ownsRow w0.heap.size 63 2 (.slice An N cn) N (fcRow (fz (Rk.ranks false ps N)))) → (Bk wk gn 51 #[.slice none 0 0] ∧ w0.heap.size ≤ gn) → W 3 #[true, true, true, true, true, false, true, false, false] { tmps := #[a0, .pointer (some ⟨gg, 0, none⟩), a2, a3, .pointer (some ⟨gn, 0, none⟩), a5, a6, a7, a8, a9, a10, .pointer (some ⟨gg, 1, none⟩), .int .i64 (N : Int), .slice (some ⟨gf, 0, none⟩) N N, .agg #[.int .i64 t, .int .i64 (N : Int), .int .i64 s, .slice A len c], .slice An N cn, a16, a17, a18, a19, a20, a21, a22, a23, a24, a25, a26, a27, a28], defers := [] } wk) := by
    intro wk gf An cn gn hg hb ho hn hm
    subst hW
    have hHeld := (⟨hg.cell 0, hg.cell 1, hg.cell 2, hg.cell 3⟩ : wk.cell? ⟨gg, 0, none⟩ = some (.int .i64 t) ∧ wk.cell? ⟨gg, 1, none⟩ = some (.int .i64 (N : Int)) ∧ wk.cell? ⟨gg, 2, none⟩ = some (.int .i64 s) ∧ wk.cell? ⟨gg, 3, none⟩ = some (.slice A len c))
    refine wpAnyH_ready (rs := [5]) (by kernel_rfl) (by simp) ?_
    refine (AllReadyH.cons (o := ({ dst := some 3, op := Op.alloc 28, type := 0, pos := "first.go:17", after := #[], guard := none } : Oper)) rfl (fun K hK => ?_) AllReadyH.nil)
    · have HX := Lib.hid (st2456.out (wk.alloc (.cells #[.slice none 0 0] 28)) gf An cn wk.heap.size gn (hg.alloc _) (hb.alloc _) (ho.alloc _) (hn.alloc _) ⟨Bk.new _ _ _, hb.size⟩ ⟨hm.1.alloc _, hm.2⟩)
      have HS := Lib.hid (hg.alloc (.cells #[.slice none 0 0] 28))
      go_simp
      refine hK.out _ _ ⟨HS.out.cell 0, HS.out.cell 1, HS.out.cell 2, HS.out.cell 3⟩ (fun _ => ?_)
      exact HX.out
  have st256 : Hid (∀ (wk : World) (gf : Nat) (gl : Nat) (gn : Nat), Bk wk gg 24 #[.int .i64 t, .int .i64 (N : Int), .int .i64 s, .slice A len c] → Bl w0 wk → (wk.ownsRow w0.heap.size 33 1 (.slice (some ⟨gf, 0, none⟩) N N) N (us (List.replicate N 0))) → (Bk wk gl 28 #[.slice none 0 0] ∧ w0.heap.size ≤ gl) → (Bk wk gn 51 #[.slice none 0 0] ∧ w0.heap.size ≤ gn) → W 3 #[true, true, true, true, false, true, true, false, false] { tmps := #[a0, .pointer (some ⟨gg, 0, none⟩), a2, .pointer (some ⟨gl, 0, none⟩), .pointer (some ⟨gn, 0, none⟩), a5, a6, a7, a8, a9, a10, .pointer (some ⟨gg, 1, none⟩), .int .i64 (N : Int), .slice (some ⟨gf, 0, none⟩) N N, .agg #[.int .i64 t, .int .i64 (N : Int), .int .i64 s, .slice A len c], a15, a16, a17, a18, a19, a20, a21, a22, a23, a24, a25, a26, a27, a28], defers := [] } wk) := by
    intro wk gf gl gn hg hb ho hl hm
    subst hW
    have hHeld := (⟨hg.cell 0, hg.cell 1, hg.cell 2, hg.cell 3⟩ : wk.cell? ⟨gg, 0, none⟩ = some (.int .i64 t) ∧ wk.cell? ⟨gg, 1, none⟩ = some (.int .i64 (N : Int)) ∧ wk.cell? ⟨gg, 2, none⟩ = some (.int .i64 s) ∧ wk.cell? ⟨gg, 3, none⟩ = some (.slice A len c))
    refine wpAnyH_ready (rs := [4]) (by kernel_rfl) (by simp) ?_
    refine (AllReadyH.cons (o := ({ dst := some 15, op := Op.call { callee := Callee.value (Operand.func 25), args := #[Operand.tmp 14], argTypes := #[24] }, type := 51, pos := "first.go:17", after := #[{ on := 3, ground := Ground.data }], guard := none } : Oper)) rfl (fun K hK => ?_) AllReadyH.nil)
    · go_simp
      refine (nullable_new t N s A len c ps _ B HL.out hlx (HPr.out _ hb) (HSz.out _ hb)).mono ?_
      intro e v1 h1
      obtain ⟨A1, c1, he1, ho1, hb1⟩ := h1.lit HFa.out (k := N) (by rw [fz_len, Rk.ranks_length])
      subst he1
      have hg' := hg.bl hb1
      have HO1 := Lib.hid (own_base (b' := w0.heap.size) ho1 fun k hk => Nat.le_trans hb.size (ho1.lt k hk).1)
      have HX := Lib.hid (st2456.out v1 gf A1 c1 gl gn hg' (hb.trans hb1) (own_bl ho hb1) HO1.out ⟨hl.1.bl hb1, hl.2⟩ ⟨hm.1.bl hb1, hm.2⟩)
      have HS := Lib.hid hg'
      clear hg' ho1 hb1 h1
      go_wp2_with fail
      refine hK.out _ _ ⟨HS.out.cell 0, HS.out.cell 1, HS.out.cell 2, HS.out.cell 3⟩ (fun _ => ?_)
      exact HX.out
  have st456 : Hid (∀ (wk : World) (An : Option Addr) (cn : Nat) (gl : Nat) (gn : Nat), Bk wk gg 24 #[.int .i64 t, .int .i64 (N : Int), .int .i64 s, .slice A len c] → Bl w0 wk → (wk.ownsRow w0.heap.size 63 2 (.slice An N cn) N (fcRow (fz (Rk.ranks false ps N)))) → (Bk wk gl 28 #[.slice none 0 0] ∧ w0.heap.size ≤ gl) → (Bk wk gn 51 #[.slice none 0 0] ∧ w0.heap.size ≤ gn) → W 3 #[true, true, false, true, true, true, true, false, false] { tmps := #[a0, .pointer (some ⟨gg, 0, none⟩), a2, .pointer (some ⟨gl, 0, none⟩), .pointer (some ⟨gn, 0, none⟩), a5, a6, a7, a8, a9, a10, .pointer (some ⟨gg, 1, none⟩), .int .i64 (N : Int), a13, .agg #[.int .i64 t, .int .i64 (N : Int), .int .i64 s, .slice A len c], .slice An N cn, a16, a17, a18, a19, a20, a21, a22, a23, a24, a25, a26, a27, a28], defers := [] } wk) := by
    intro wk An cn gl gn hg hb hn hl hm
    subst hW
    have hHeld := (⟨hg.cell 0, hg.cell 1, hg.cell 2, hg.cell 3⟩ : wk.cell? ⟨gg, 0, none⟩ = some (.int .i64 t) ∧ wk.cell? ⟨gg, 1, none⟩ = some (.int .i64 (N : Int)) ∧ wk.cell? ⟨gg, 2, none⟩ = some (.int .i64 s) ∧ wk.cell? ⟨gg, 3, none⟩ = some (.slice A len c))
    refine wpAnyH_ready (rs := [2]) (by kernel_rfl) (by simp) ?_
    refine (AllReadyH.cons (o := ({ dst := some 13, op := Op.makeSlice 28 (Operand.tmp 12) (Operand.tmp 12), type := 28, pos := "first.go:17", after := #[{ on := 1, ground := Ground.data }, { on := 1, ground := Ground.data }], guard := none } : Oper)) rfl (fun K hK => ?_) AllReadyH.nil)
    · refine step_make_full rfl (.tmp 12) (.tmp 12) 28 rfl w0.heap.size 33 i0 (.int .u32 0) 1 Try.underlying28 hi hz0 hz1 .i64 .i64 N rfl rfl hbN hbm hb.size ?_
      intro wn hown hgr
      have hg' := hg.grown hgr (by simp)
      refine hK.out _ _ ⟨hg'.cell 0, hg'.cell 1, hg'.cell 2, hg'.cell 3⟩ (fun _ => ?_)
      exact st2456.out wn wk.heap.size An cn gl gn hg' (hb.grown hgr (by simp)) (by rw [us_zeros]; exact hown) (own_still hn hgr) ⟨hl.1.grown hgr (by simp), hl.2⟩ ⟨hm.1.grown hgr (by simp), hm.2⟩
  have st24 : Hid (∀ (wk : World) (gf : Nat) (An : Option Addr) (cn : Nat), Bk wk gg 24 #[.int .i64 t, .int .i64 (N : Int), .int .i64 s, .slice A len c] → Bl w0 wk → (wk.ownsRow w0.heap.size 33 1 (.slice (some ⟨gf, 0, none⟩) N N) N (us (List.replicate N 0))) → (wk.ownsRow w0.heap.size 63 2 (.slice An N cn) N (fcRow (fz (Rk.ranks false ps N)))) → W 4 #[true, true, true, true, true, false, false, false, false] { tmps := #[a0, .pointer (some ⟨gg, 0, none⟩), a2, a3, a4, a5, a6, a7, a8, a9, a10, .pointer (some ⟨gg, 1, none⟩), .int .i64 (N : Int), .slice (some ⟨gf, 0, none⟩) N N, .agg #[.int .i64 t, .int .i64 (N : Int), .int .i64 s, .slice A len c], .slice An N cn, a16, a17, a18, a19, a20, a21, a22, a23, a24, a25, a26, a27, a28], defers := [] } wk) := by
    intro wk gf An cn hg hb ho hn
    subst hW
    have hHeld := (⟨hg.cell 0, hg.cell 1, hg.cell 2, hg.cell 3⟩ : wk.cell? ⟨gg, 0, none⟩ = some (.int .i64 t) ∧ wk.cell? ⟨gg, 1, none⟩ = some (.int .i64 (N : Int)) ∧ wk.cell? ⟨gg, 2, none⟩ = some (.int .i64 s) ∧ wk.cell? ⟨gg, 3, none⟩ = some (.slice A len c))
    refine wpAnyH_ready (rs := [5, 6]) (by kernel_rfl) (by simp) ?_
    refine (AllReadyH.cons (o := ({ dst := some 3, op := Op.alloc 28, type := 0, pos := "first.go:17", after := #[], guard := none } : Oper)) rfl (fun K hK => ?_) (AllReadyH.cons (o := ({ dst := some 4, op := Op.alloc 51, type := 0, pos := "first.go:17", after := #[], guard := none } : Oper)) rfl (fun K hK => ?_) AllReadyH.nil))
    · have HX := Lib.hid (st245.out (wk.alloc (.cells #[.slice none 0 0] 28)) gf An cn wk.heap.size (hg.alloc _) (hb.alloc _) (ho.alloc _) (hn.alloc _) ⟨Bk.new _ _ _, hb.size⟩)
      have HS := Lib.hid (hg.alloc (.cells #[.slice none 0 0] 28))
      go_simp
      refine hK.out _ _ ⟨HS.out.cell 0, HS.out.cell 1, HS.out.cell 2, HS.out.cell 3⟩ (fun _ => ?_)
      exact HX.out
    · have HX := Lib.hid (st246.out (wk.alloc (.cells #[.slice none 0 0] 51)) gf An cn wk.heap.size (hg.alloc _) (hb.alloc _) (ho.alloc _) (hn.alloc _) ⟨Bk.new _ _ _, hb.size⟩)
      have HS := Lib.hid (hg.alloc (.cells #[.slice none 0 0] 51))
      go_simp
      refine hK.out _ _ ⟨HS.out.cell 0, HS.out.cell 1, HS.out.cell 2, HS.out.cell 3⟩ (fun _ => ?_)
      exact HX.out
  have st25 : Hid (∀ (wk : World) (gf : Nat) (gl : Nat), Bk wk gg 24 #[.int .i64 t, .int .i64 (N : Int), .int .i64 s, .slice A len c] → Bl w0 wk → (wk.ownsRow w0.heap.size 33 1 (.slice (some ⟨gf, 0, none⟩) N N) N (us (List.replicate N 0))) → (Bk wk gl 28 #[.slice none 0 0] ∧ w0.heap.size ≤ gl) → W 4 #[true, true, true, true, false, true, false, false, false] { tmps := #[a0, .pointer (some ⟨gg, 0, none⟩), a2, .pointer (some ⟨gl, 0, none⟩), a4, a5, a6, a7, a8, a9, a10, .pointer (some ⟨gg, 1, none⟩), .int .i64 (N : Int), .slice (some ⟨gf, 0, none⟩) N N, .agg #[.int .i64 t, .int .i64 (N : Int), .int .i64 s, .slice A len c], a15, a16, a17, a18, a19, a20, a21, a22, a23, a24, a25, a26, a27, a28], defers := [] } wk) := by
    intro wk gf gl hg hb ho hl
    subst hW
    have hHeld := (⟨hg.cell 0, hg.cell 1, hg.cell 2, hg.cell 3⟩ : wk.cell? ⟨gg, 0, none⟩ = some (.int .i64 t) ∧ wk.cell? ⟨gg, 1, none⟩ = some (.int .i64 (N : Int)) ∧ wk.cell? ⟨gg, 2, none⟩ = some (.int .i64 s) ∧ wk.cell? ⟨gg, 3, none⟩ = some (.slice A len c))
    refine wpAnyH_ready (rs := [4, 6]) (by kernel_rfl) (by simp) ?_
    refine (AllReadyH.cons (o := ({ dst := some 15, op := Op.call { callee := Callee.value (Operand.func 25), args := #[Operand.tmp 14], argTypes := #[24] }, type := 51, pos := "first.go:17", after := #[{ on := 3, ground := Ground.data }], guard := none } : Oper)) rfl (fun K hK => ?_) (AllReadyH.cons (o := ({ dst := some 4, op := Op.alloc 51, type := 0, pos := "first.go:17", after := #[], guard := none } : Oper)) rfl (fun K hK => ?_) AllReadyH.nil))
    · go_simp
      refine (nullable_new t N s A len c ps _ B HL.out hlx (HPr.out _ hb) (HSz.out _ hb)).mono ?_
      intro e v1 h1
      obtain ⟨A1, c1, he1, ho1, hb1⟩ := h1.lit HFa.out (k := N) (by rw [fz_len, Rk.ranks_length])
      subst he1
      have hg' := hg.bl hb1
      have HO1 := Lib.hid (own_base (b' := w0.heap.size) ho1 fun k hk => Nat.le_trans hb.size (ho1.lt k hk).1)
      have HX := Lib.hid (st245.out v1 gf A1 c1 gl hg' (hb.trans hb1) (own_bl ho hb1) HO1.out ⟨hl.1.bl hb1, hl.2⟩)
      have HS := Lib.hid hg'
      clear hg' ho1 hb1 h1
      go_wp2_with fail
      refine hK.out _ _ ⟨HS.out.cell 0, HS.out.cell 1, HS.out.cell 2, HS.out.cell 3⟩ (fun _ => ?_)
      exact HX.out
    · have HX := Lib.hid (st256.out (wk.alloc (.cells #[.slice none 0 0] 51)) gf gl wk.heap.size (hg.alloc _) (hb.alloc _) (ho.alloc _) ⟨hl.1.alloc _, hl.2⟩ ⟨Bk.new _ _ _, hb.size⟩)
      have HS := Lib.hid (hg.alloc (.cells #[.slice none 0 0] 51))
      go_simp
      refine hK.out _ _ ⟨HS.out.cell 0, HS.out.cell 1, HS.out.cell 2, HS.out.cell 3⟩ (fun _ => ?_)
      exact HX.out
  have st26 : Hid (∀ (wk : World) (gf : Nat) (gn : Nat), Bk wk gg 24 #[.int .i64 t, .int .i64 (N : Int), .int .i64 s, .slice A len c] → Bl w0 wk → (wk.ownsRow w0.heap.size 33 1 (.slice (some ⟨gf, 0, none⟩) N N) N (us (List.replicate N 0))) → (Bk wk gn 51 #[.slice none 0 0] ∧ w0.heap.size ≤ gn) → W 4 #[true, true, true, true, false, false, true, false, false] { tmps := #[a0, .pointer (some ⟨gg, 0, none⟩), a2, a3, .pointer (some ⟨gn, 0, none⟩), a5, a6, a7, a8, a9, a10, .pointer (some ⟨gg, 1, none⟩), .int .i64 (N : Int), .slice (some ⟨gf, 0, none⟩) N N, .agg #[.int .i64 t, .int .i64 (N : Int), .int .i64 s, .slice A len c], a15, a16, a17, a18, a19, a20, a21, a22, a23, a24, a25, a26, a27, a28], defers := [] } wk) := by
    intro wk gf gn hg hb ho hm
    subst hW
    have hHeld := (⟨hg.cell 0, hg.cell 1, hg.cell 2, hg.cell 3⟩ : wk.cell? ⟨gg, 0, none⟩ = some (.int .i64 t) ∧ wk.cell? ⟨gg, 1, none⟩ = some (.int .i64 (N : Int)) ∧ wk.cell? ⟨gg, 2, none⟩ = some (.int .i64 s) ∧ wk.cell? ⟨gg, 3, none⟩ = some (.slice A len c))
    refine wpAnyH_ready (rs := [4, 5]) (by kernel_rfl) (by simp) ?_
    refine (AllReadyH.cons (o := ({ dst := some 15, op := Op.call { callee := Callee.value (Operand.func 25), args := #[Operand.tmp 14], argTypes := #[24] }, type := 51, pos := "first.go:17", after := #[{ on := 3, ground := Ground.data }], guard := none } : Oper)) rfl (fun K hK => ?_) (AllReadyH.cons (o := ({ dst := some 3, op := Op.alloc 28, type := 0, pos := "first.go:17", after := #[], guard := none } : Oper)) rfl (fun K hK => ?_) AllReadyH.nil))
    · go_simp
      refine (nullable_new t N s A len c ps _ B HL.out hlx (HPr.out _ hb) (HSz.out _ hb)).mono ?_
      intro e v1 h1
      obtain ⟨A1, c1, he1, ho1, hb1⟩ := h1.lit HFa.out (k := N) (by rw [fz_len, Rk.ranks_length])
      subst he1
      have hg' := hg.bl hb1
      have HO1 := Lib.hid (own_base (b' := w0.heap.size) ho1 fun k hk => Nat.le_trans hb.size (ho1.lt k hk).1)
      have HX := Lib.hid (st246.out v1 gf A1 c1 gn hg' (hb.trans hb1) (own_bl ho hb1) HO1.out ⟨hm.1.bl hb1, hm.2⟩)
      have HS := Lib.hid hg'
      clear hg' ho1 hb1 h1
      go_wp2_with fail
      refine hK.out _ _ ⟨HS.out.cell 0, HS.out.cell 1, HS.out.cell 2, HS.out.cell 3⟩ (fun _ => ?_)
      exact HX.out
    · have HX := Lib.hid (st256.out (wk.alloc (.cells #[.slice none 0 0] 28)) gf wk.heap.size gn (hg.alloc _) (hb.alloc _) (ho.alloc _) ⟨Bk.new _ _ _, hb.size⟩ ⟨hm.1.alloc _, hm.2⟩)
      have HS := Lib.hid (hg.alloc (.cells #[.slice none 0 0] 28))
      go_simp
      refine hK.out _ _ ⟨HS.out.cell 0, HS.out.cell 1, HS.out.cell 2, HS.out.cell 3⟩ (fun _ => ?_)
      exact HX.out
  have st45 : Hid (∀ (wk : World) (An : Option Addr) (cn : Nat) (gl : Nat), Bk wk gg 24 #[.int .i64 t, .int .i64 (N : Int), .int .i64 s, .slice A len c] → Bl w0 wk → (wk.ownsRow w0.heap.size 63 2 (.slice An N cn) N (fcRow (fz (Rk.ranks false ps N)))) → (Bk wk gl 28 #[.slice none 0 0] ∧ w0.heap.size ≤ gl) → W 4 #[true, true, false, true, true, true, false, false, false] { tmps := #[a0, .pointer (some ⟨gg, 0, none⟩), a2, .pointer (some ⟨gl, 0, none⟩), a4, a5, a6, a7, a8, a9, a10, .pointer (some ⟨gg, 1, none⟩), .int .i64 (N : Int), a13, .agg #[.int .i64 t, .int .i64 (N : Int), .int .i64 s, .slice A len c], .slice An N cn, a16, a17, a18, a19, a20, a21, a22, a23, a24, a25, a26, a27, a28], defers := [] } wk) := by
    intro wk An cn gl hg hb hn hl
    subst hW
    have hHeld := (⟨hg.cell 0, hg.cell 1, hg.cell 2, hg.cell 3⟩ : wk.cell? ⟨gg, 0, none⟩ = some (.int .i64 t) ∧ wk.cell? ⟨gg, 1, none⟩ = some (.int .i64 (N : Int)) ∧ wk.cell? ⟨gg, 2, none⟩ = some (.int .i64 s) ∧ wk.cell? ⟨gg, 3, none⟩ = some (.slice A len c))
    refine wpAnyH_ready (rs := [2, 6]) (by kernel_rfl) (by simp) ?_
    refine (AllReadyH.cons (o := ({ dst := some 13, op := Op.makeSlice 28 (Operand.tmp 12) (Operand.tmp 12), type := 28, pos := "first.go:17", after := #[{ on := 1, ground := Ground.data }, { on := 1, ground := Ground.data }], guard := none } : Oper)) rfl (fun K hK => ?_) (AllReadyH.cons (o := ({ dst := some 4, op := Op.alloc 51, type := 0, pos := "first.go:17", after := #[], guard := none } : Oper)) rfl (fun K hK => ?_) AllReadyH.nil))
    · refine step_make_full rfl (.tmp 12) (.tmp 12) 28 rfl w0.heap.size 33 i0 (.int .u32 0) 1 Try.underlying28 hi hz0 hz1 .i64 .i64 N rfl rfl hbN hbm hb.size ?_
      intro wn hown hgr
      have hg' := hg.grown hgr (by simp)
      refine hK.out _ _ ⟨hg'.cell 0, hg'.cell 1, hg'.cell 2, hg'.cell 3⟩ (fun _ => ?_)
      exact st245.out wn wk.heap.size An cn gl hg' (hb.grown hgr (by simp)) (by rw [us_zeros]; exact hown) (own_still hn hgr) ⟨hl.1.grown hgr (by simp), hl.2⟩
    · have HX := Lib.hid (st456.out (wk.alloc (.cells #[.slice none 0 0] 51)) An cn gl wk.heap.size (hg.alloc _) (hb.alloc _) (hn.alloc _) ⟨hl.1.alloc _, hl.2⟩ ⟨Bk.new _ _ _, hb.size⟩)
      have HS := Lib.hid (hg.alloc (.cells #[.slice none 0 0] 51))
      go_simp
      refine hK.out _ _ ⟨HS.out.cell 0, HS.out.cell 1, HS.out.cell 2, HS.out.cell 3⟩ (fun _ => ?_)
      exact HX.out
  have st46 : Hid (∀ (wk : World) (An : Option Addr) (cn : Nat) (gn : Nat), Bk wk gg 24 #[.int .i64 t, .int .i64 (N : Int), .int .i64 s, .slice A len c] → Bl w0 wk → (wk.ownsRow w0.heap.size 63 2 (.slice An N cn) N (fcRow (fz (Rk.ranks false ps N)))) → (Bk wk gn 51 #[.slice none 0 0] ∧ w0.heap.size ≤ gn) → W 4 #[true, true, false, true, true, false, true, false, false] { tmps := #[a0, .pointer (some ⟨gg, 0, none⟩), a2, a3, .pointer (some ⟨gn, 0, none⟩), a5, a6, a7, a8, a9, a10, .pointer (some ⟨gg, 1, none⟩), .int .i64 (N : Int), a13, .agg #[.int .i64 t, .int .i64 (N : Int), .int .i64 s, .slice A len c], .slice An N cn, a16, a17, a18, a19, a20, a21, a22, a23, a24, a25, a26, a27, a28], defers := [] } wk) := by
    intro wk An cn gn hg hb hn hm
    subst hW
    have hHeld := (⟨hg.cell 0, hg.cell 1, hg.cell 2, hg.cell 3⟩ : wk.cell? ⟨gg, 0, none⟩ = some (.int .i64 t) ∧ wk.cell? ⟨gg, 1, none⟩ = some (.int .i64 (N : Int)) ∧ wk.cell? ⟨gg, 2, none⟩ = some (.int .i64 s) ∧ wk.cell? ⟨gg, 3, none⟩ = some (.slice A len c))
    refine wpAnyH_ready (rs := [2, 5]) (by kernel_rfl) (by simp) ?_
    refine (AllReadyH.cons (o := ({ dst := some 13, op := Op.makeSlice 28 (Operand.tmp 12) (Operand.tmp 12), type := 28, pos := "first.go:17", after := #[{ on := 1, ground := Ground.data }, { on := 1, ground := Ground.data }], guard := none } : Oper)) rfl (fun K hK => ?_) (AllReadyH.cons (o := ({ dst := some 3, op := Op.alloc 28, type := 0, pos := "first.go:17", after := #[], guard := none } : Oper)) rfl (fun K hK => ?_) AllReadyH.nil))
    · refine step_make_full rfl (.tmp 12) (.tmp 12) 28 rfl w0.heap.size 33 i0 (.int .u32 0) 1 Try.underlying28 hi hz0 hz1 .i64 .i64 N rfl rfl hbN hbm hb.size ?_
      intro wn hown hgr
      have hg' := hg.grown hgr (by simp)
      refine hK.out _ _ ⟨hg'.cell 0, hg'.cell 1, hg'.cell 2, hg'.cell 3⟩ (fun _ => ?_)
      exact st246.out wn wk.heap.size An cn gn hg' (hb.grown hgr (by simp)) (by rw [us_zeros]; exact hown) (own_still hn hgr) ⟨hm.1.grown hgr (by simp), hm.2⟩
    · have HX := Lib.hid (st456.out (wk.alloc (.cells #[.slice none 0 0] 28)) An cn wk.heap.size gn (hg.alloc _) (hb.alloc _) (hn.alloc _) ⟨Bk.new _ _ _, hb.size⟩ ⟨hm.1.alloc _, hm.2⟩)
      have HS := Lib.hid (hg.alloc (.cells #[.slice none 0 0] 28))
      go_simp
      refine hK.out _ _ ⟨HS.out.cell 0, HS.out.cell 1, HS.out.cell 2, HS.out.cell 3⟩ (fun _ => ?_)
      exact HX.out
  have st56 : Hid (∀ (wk : World) (gl : Nat) (gn : Nat), Bk wk gg 24 #[.int .i64 t, .int .i64 (N : Int), .int .i64 s, .slice A len c] → Bl w0 wk → (Bk wk gl 28 #[.slice none 0 0] ∧ w0.heap.size ≤ gl) → (Bk wk gn 51 #[.slice none 0 0] ∧ w0.heap.size ≤ gn) → W 4 #[true, true, false, true, false, true, true, false, false] { tmps := #[a0, .pointer (some ⟨gg, 0, none⟩), a2, .pointer (some ⟨gl, 0, none⟩), .pointer (some ⟨gn, 0, none⟩), a5, a6, a7, a8, a9, a10, .pointer (some ⟨gg, 1, none⟩), .int .i64 (N : Int), a13, .agg #[.int .i64 t, .int .i64 (N : Int), .int .i64 s, .slice A len c], a15, a16, a17, a18, a19, a20, a21, a22, a23, a24, a25, a26, a27, a28], defers := [] } wk) := by
    intro wk gl gn hg hb hl hm
    subst hW
    have hHeld := (⟨hg.cell 0, hg.cell 1, hg.cell 2, hg.cell 3⟩ : wk.cell? ⟨gg, 0, none⟩ = some (.int .i64 t) ∧ wk.cell? ⟨gg, 1, none⟩ = some (.int .i64 (N : Int)) ∧ wk.cell? ⟨gg, 2, none⟩ = some (.int .i64 s) ∧ wk.cell? ⟨gg, 3, none⟩ = some (.slice A len c))
    refine wpAnyH_ready (rs := [2, 4]) (by kernel_rfl) (by simp) ?_
    refine (AllReadyH.cons (o := ({ dst := some 13, op := Op.makeSlice 28 (Operand.tmp 12) (Operand.tmp 12), type := 28, pos := "first.go:17", after := #[{ on := 1, ground := Ground.data }, { on := 1, ground := Ground.data }], guard := none } : Oper)) rfl (fun K hK => ?_) (AllReadyH.cons (o := ({ dst := some 15, op := Op.call { callee := Callee.value (Operand.func 25), args := #[Operand.tmp 14], argTypes := #[24] }, type := 51, pos := "first.go:17", after := #[{ on := 3, ground := Ground.data }], guard := none } : Oper)) rfl (fun K hK => ?_) AllReadyH.nil))
    · refine step_make_full rfl (.tmp 12) (.tmp 12) 28 rfl w0.heap.size 33 i0 (.int .u32 0) 1 Try.underlying28 hi hz0 hz1 .i64 .i64 N rfl rfl hbN hbm hb.size ?_
      intro wn hown hgr
      have hg' := hg.grown hgr (by simp)
      refine hK.out _ _ ⟨hg'.cell 0, hg'.cell 1, hg'.cell 2, hg'.cell 3⟩ (fun _ => ?_)
      exact st256.out wn wk.heap.size gl gn hg' (hb.grown hgr (by simp)) (by rw [us_zeros]; exact hown) ⟨hl.1.grown hgr (by simp), hl.2⟩ ⟨hm.1.grown hgr (by simp), hm.2⟩
    · go_simp
      refine (nullable_new t N s A len c ps _ B HL.out hlx (HPr.out _ hb) (HSz.out _ hb)).mono ?_
      intro e v1 h1
      obtain ⟨A1, c1, he1, ho1, hb1⟩ := h1.lit HFa.out (k := N) (by rw [fz_len, Rk.ranks_length])
      subst he1
      have hg' := hg.bl hb1
      have HO1 := Lib.hid (own_base (b' := w0.heap.size) ho1 fun k hk => Nat.le_trans hb.size (ho1.lt k hk).1)
      have HX := Lib.hid (st456.out v1 A1 c1 gl gn hg' (hb.trans hb1) HO1.out ⟨hl.1.bl hb1, hl.2⟩ ⟨hm.1.bl hb1, hm.2⟩)
      have HS := Lib.hid hg'
      clear hg' ho1 hb1 h1
      go_wp2_with fail
      refine hK.out _ _ ⟨HS.out.cell 0, HS.out.cell 1, HS.out.cell 2, HS.out.cell 3⟩ (fun _ => ?_)
      exact HX.out
  have st2 : Hid (∀ (wk : World) (gf : Nat), Bk wk gg 24 #[.int .i64 t, .int .i64 (N : Int), .int .i64 s, .slice A len c] → Bl w0 wk → (wk.ownsRow w0.heap.size 33 1 (.slice (some ⟨gf, 0, none⟩) N N) N (us (List.replicate N 0))) → W 5 #[true, true, true, true, false, false, false, false, false] { tmps := #[a0, .pointer (some ⟨gg, 0, none⟩), a2, a3, a4, a5, a6, a7, a8, a9, a10, .pointer (some ⟨gg, 1, none⟩), .int .i64 (N : Int), .slice (some ⟨gf, 0, none⟩) N N, .agg #[.int .i64 t, .int .i64 (N : Int), .int .i64 s, .slice A len c], a15, a16, a17, a18, a19, a20, a21, a22, a23, a24, a25, a26, a27, a28], defers := [] } wk) := by
    intro wk gf hg hb ho
    subst hW
    have hHeld := (⟨hg.cell 0, hg.cell 1, hg.cell 2, hg.cell 3⟩ : wk.cell? ⟨gg, 0, none⟩ = some (.int .i64 t) ∧ wk.cell? ⟨gg, 1, none⟩ = some (.int .i64 (N : Int)) ∧ wk.cell? ⟨gg, 2, none⟩ = some (.int .i64 s) ∧ wk.cell? ⟨gg, 3, none⟩ = some (.slice A len c))
    refine wpAnyH_ready (rs := [4, 5, 6]) (by kernel_rfl) (by simp) ?_
    refine (AllReadyH.cons (o := ({ dst := some 15, op := Op.call { callee := Callee.value (Operand.func 25), args := #[Operand.tmp 14], argTypes := #[24] }, type := 51, pos := "first.go:17", after := #[{ on := 3, ground := Ground.data }], guard := none } : Oper)) rfl (fun K hK => ?_) (AllReadyH.cons (o := ({ dst := some 3, op := Op.alloc 28, type := 0, pos := "first.go:17", after := #[], guard := none } : Oper)) rfl (fun K hK => ?_) (AllReadyH.cons (o := ({ dst := some 4, op := Op.alloc 51, type := 0, pos := "first.go:17", after := #[], guard := none } : Oper)) rfl (fun K hK => ?_) AllReadyH.nil)))
    · go_simp
      refine (nullable_new t N s A len c ps _ B HL.out hlx (HPr.out _ hb) (HSz.out _ hb)).mono ?_
      intro e v1 h1
      obtain ⟨A1, c1, he1, ho1, hb1⟩ := h1.lit HFa.out (k := N) (by rw [fz_len, Rk.ranks_length])
      subst he1
      have hg' := hg.bl hb1
      have HO1 := Lib.hid (own_base (b' := w0.heap.size) ho1 fun k hk => Nat.le_trans hb.size (ho1.lt k hk).1)
      have HX := Lib.hid (st24.out v1 gf A1 c1 hg' (hb.trans hb1) (own_bl ho hb1) HO1.out)
      have HS := Lib.hid hg'
      clear hg' ho1 hb1 h1
      go_wp2_with fail
      refine hK.out _ _ ⟨HS.out.cell 0, HS.out.cell 1, HS.out.cell 2, HS.out.cell 3⟩ (fun _ => ?_)
      exact HX.out
    · have HX := Lib.hid (st25.out (wk.alloc (.cells #[.slice none 0 0] 28)) gf wk.heap.size (hg.alloc _) (hb.alloc _) (ho.alloc _) ⟨Bk.new _ _ _, hb.size⟩)
      have HS := Lib.hid (hg.alloc (.cells #[.slice none 0 0] 28))
      go_simp
      refine hK.out _ _ ⟨HS.out.cell 0, HS.out.cell 1, HS.out.cell 2, HS.out.cell 3⟩ (fun _ => ?_)
      exact HX.out
    · have HX := Lib.hid (st26.out (wk.alloc (.cells #[.slice none 0 0] 51)) gf wk.heap.size (hg.alloc _) (hb.alloc _) (ho.alloc _) ⟨Bk.new _ _ _, hb.size⟩)
      have HS := Lib.hid (hg.alloc (.cells #[.slice none 0 0] 51))
      go_simp
      refine hK.out _ _ ⟨HS.out.cell 0, HS.out.cell 1, HS.out.cell 2, HS.out.cell 3⟩ (fun _ => ?_)
      exact HX.out
  have st4 : Hid (∀ (wk : World) (An : Option Addr) (cn : Nat), Bk wk gg 24 #[.int .i64 t, .int .i64 (N : Int), .int .i64 s, .slice A len c] → Bl w0 wk → (wk.ownsRow w0.heap.size 63 2 (.slice An N cn) N (fcRow (fz (Rk.ranks false ps N)))) → W 5 #[true, true, false, true, true, false, false, false, false] { tmps := #[a0, .pointer (some ⟨gg, 0, none⟩), a2, a3, a4, a5, a6, a7, a8, a9, a10, .pointer (some ⟨gg, 1, none⟩), .int .i64 (N : Int), a13, .agg #[.int .i64 t, .int .i64 (N : Int), .int .i64 s, .slice A len c], .slice An N cn, a16, a17, a18, a19, a20, a21, a22, a23, a24, a25, a26, a27, a28], defers := [] } wk) := by
    intro wk An cn hg hb hn
    subst hW
    have hHeld := (⟨hg.cell 0, hg.cell 1, hg.cell 2, hg.cell 3⟩ : wk.cell? ⟨gg, 0, none⟩ = some (.int .i64 t) ∧ wk.cell? ⟨gg, 1, none⟩ = some (.int .i64 (N : Int)) ∧ wk.cell? ⟨gg, 2, none⟩ = some (.int .i64 s) ∧ wk.cell? ⟨gg, 3, none⟩ = some (.slice A len c))
    refine wpAnyH_ready (rs := [2, 5, 6]) (by kernel_rfl) (by simp) ?_
    refine (AllReadyH.cons (o := ({ dst := some 13, op := Op.makeSlice 28 (Operand.tmp 12) (Operand.tmp 12), type := 28, pos := "first.go:17", after := #[{ on := 1, ground := Ground.data }, { on := 1, ground := Ground.data }], guard := none } : Oper)) rfl (fun K hK => ?_) (AllReadyH.cons (o := ({ dst := some 3, op := Op.alloc 28, type := 0, pos := "first.go:17", after := #[], guard := none } : Oper)) rfl (fun K hK => ?_) (AllReadyH.cons (o := ({ dst := some 4, op := Op.alloc 51, type := 0, pos := "first.go:17", after := #[], guard := none } : Oper)) rfl (fun K hK => ?_) AllReadyH.nil)))
    · refine step_make_full rfl (.tmp 12) (.tmp 12) 28 rfl w0.heap.size 33 i0 (.int .u32 0) 1 Try.underlying28 hi hz0 hz1 .i64 .i64 N rfl rfl hbN hbm hb.size ?_
      intro wn hown hgr
      have hg' := hg.grown hgr (by simp)
      refine hK.out _ _ ⟨hg'.cell 0, hg'.cell 1, hg'.cell 2, hg'.cell 3⟩ (fun _ => ?_)
      exact st24.out wn wk.heap.size An cn hg' (hb.grown hgr (by simp)) (by rw [us_zeros]; exact hown) (own_still hn hgr)
    · have HX := Lib.hid (st45.out (wk.alloc (.cells #[.slice none 0 0] 28)) An cn wk.heap.size (hg.alloc _) (hb.alloc _) (hn.alloc _) ⟨Bk.new _ _ _, hb.size⟩)
      have HS := Lib.hid (hg.alloc (.cells #[.slice none 0 0] 28))
      go_simp
      refine hK.out _ _ ⟨HS.out.cell 0, HS.out.cell 1, HS.out.cell 2, HS.out.cell 3⟩ (fun _ => ?_)
      exact HX.out
    · have HX := Lib.hid (st46.out (wk.alloc (.cells #[.slice none 0 0] 51)) An cn wk.heap.size (hg.alloc _) (hb.alloc _) (hn.alloc _) ⟨Bk.new _ _ _, hb.size⟩)
      have HS := Lib.hid (hg.alloc (.cells #[.slice none 0 0] 51))
      go_simp
      refine hK.out _ _ ⟨HS.out.cell 0, HS.out.cell 1, HS.out.cell 2, HS.out.cell 3⟩ (fun _ => ?_)
      exact HX.out
  have st5 : Hid (∀ (wk : World) (gl : Nat), Bk wk gg 24 #[.int .i64 t, .int .i64 (N : Int), .int .i64 s, .slice A len c] → Bl w0 wk → (Bk wk gl 28 #[.slice none 0 0] ∧ w0.heap.size ≤ gl) → W 5 #[true, true, false, true, false, true, false, false, false] { tmps := #[a0, .pointer (some ⟨gg, 0, none⟩), a2, .pointer (some ⟨gl, 0, none⟩), a4, a5, a6, a7, a8, a9, a10, .pointer (some ⟨gg, 1, none⟩), .int .i64 (N : Int), a13, .agg #[.int .i64 t, .int .i64 (N : Int), .int .i64 s, .slice A len c], a15, a16, a17, a18, a19, a20, a21, a22, a23, a24, a25, a26, a27, a28], defers := [] } wk) := by
    intro wk gl hg hb hl
    subst hW
    have hHeld := (⟨hg.cell 0, hg.cell 1, hg.cell 2, hg.cell 3⟩ : wk.cell? ⟨gg, 0, none⟩ = some (.int .i64 t) ∧ wk.cell? ⟨gg, 1, none⟩ = some (.int .i64 (N : Int)) ∧ wk.cell? ⟨gg, 2, none⟩ = some (.int .i64 s) ∧ wk.cell? ⟨gg, 3, none⟩ = some (.slice A len c))
    refine wpAnyH_ready (rs := [2, 4, 6]) (by kernel_rfl) (by simp) ?_
    refine (AllReadyH.cons (o := ({ dst := some 13, op := Op.makeSlice 28 (Operand.tmp 12) (Operand.tmp 12), type := 28, pos := "first.go:17", after := #[{ on := 1, ground := Ground.data }, { on := 1, ground := Ground.data }], guard := none } : Oper)) rfl (fun K hK => ?_) (AllReadyH.cons (o := ({ dst := some 15, op := Op.call { callee := Callee.value (Operand.func 25), args := #[Operand.tmp 14], argTypes := #[24] }, type := 51, pos := "first.go:17", after := #[{ on := 3, ground := Ground.data }], guard := none } : Oper)) rfl (fun K hK => ?_) (AllReadyH.cons (o := ({ dst := some 4, op := Op.alloc 51, type := 0, pos := "first.go:17", after := #[], guard := none } : Oper)) rfl (fun K hK => ?_) AllReadyH.nil)))
    · refine step_make_full rfl (.tmp 12) (.tmp 12) 28 rfl w0.heap.size 33 i0 (.int .u32 0) 1 Try.underlying28 hi hz0 hz1 .i64 .i64 N rfl rfl hbN hbm hb.size ?_
      intro wn hown hgr
      have hg' := hg.grown hgr (by simp)
      refine hK.out _ _ ⟨hg'.cell 0, hg'.cell 1, hg'.cell 2, hg'.cell 3⟩ (fun _ => ?_)
      exact st25.out wn wk.heap.size gl hg' (hb.grown hgr (by simp)) (by rw [us_zeros]; exact hown) ⟨hl.1.grown hgr (by simp), hl.2⟩
    · go_simp
      refine (nullable_new t N s A len c ps _ B HL.out hlx (HPr.out _ hb) (HSz.out _ hb)).mono ?_
      intro e v1 h1
      obtain ⟨A1, c1, he1, ho1, hb1⟩ := h1.lit HFa.out (k := N) (by rw [fz_len, Rk.ranks_length])
      subst he1
      have hg' := hg.bl hb1
      have HO1 := Lib.hid (own_base (b' := w0.heap.size) ho1 fun k hk => Nat.le_trans hb.size (ho1.lt k hk).1)
      have HX := Lib.hid (st45.out v1 A1 c1 gl hg' (hb.trans hb1) HO1.out ⟨hl.1.bl hb1, hl.2⟩)
      have HS := Lib.hid hg'
      clear hg' ho1 hb1 h1
      go_wp2_with fail
      refine hK.out _ _ ⟨HS.out.cell 0, HS.out.cell 1, HS.out.cell 2, HS.out.cell 3⟩ (fun _ => ?_)
      exact HX.out
    · have HX := Lib.hid (st56.out (wk.alloc (.cells #[.slice none 0 0] 51)) gl wk.heap.size (hg.alloc _) (hb.alloc _) ⟨hl.1.alloc _, hl.2⟩ ⟨Bk.new _ _ _, hb.size⟩)
      have HS := Lib.hid (hg.alloc (.cells #[.slice none 0 0] 51))
      go_simp
      refine hK.out _ _ ⟨HS.out.cell 0, HS.out.cell 1, HS.out.cell 2, HS.out.cell 3⟩ (fun _ => ?_)
      exact HX.out
  have st6 : Hid (∀ (wk : World) (gn : Nat), Bk wk gg 24 #[.int .i64 t, .int .i64 (N : Int), .int .i64 s, .slice A len c] → Bl w0 wk → (Bk wk gn 51 #[.slice none 0 0] ∧ w0.heap.size ≤ gn) → W 5 #[true, true, false, true, false, false, true, false, false] { tmps := #[a0, .pointer (some ⟨gg, 0, none⟩), a2, a3, .pointer (some ⟨gn, 0, none⟩), a5, a6, a7, a8, a9, a10, .pointer (some ⟨gg, 1, none⟩), .int .i64 (N : Int), a13, .agg #[.int .i64 t, .int .i64 (N : Int), .int .i64 s, .slice A len c], a15, a16, a17, a18, a19, a20, a21, a22, a23, a24, a25, a26, a27, a28], defers := [] } wk) := by
    intro wk gn hg hb hm
    subst hW
    have hHeld := (⟨hg.cell 0, hg.cell 1, hg.cell 2, hg.cell 3⟩ : wk.cell? ⟨gg, 0, none⟩ = some (.int .i64 t) ∧ wk.cell? ⟨gg, 1, none⟩ = some (.int .i64 (N : Int)) ∧ wk.cell? ⟨gg, 2, none⟩ = some (.int .i64 s) ∧ wk.cell? ⟨gg, 3, none⟩ = some (.slice A len c))
    refine wpAnyH_ready (rs := [2, 4, 5]) (by kernel_rfl) (by simp) ?_
    refine (AllReadyH.cons (o := ({ dst := some 13, op := Op.makeSlice 28 (Operand.tmp 12) (Operand.tmp 12), type := 28, pos := "first.go:17", after := #[{ on := 1, ground := Ground.data }, { on := 1, ground := Ground.data }], guard := none } : Oper)) rfl (fun K hK => ?_) (AllReadyH.cons (o := ({ dst := some 15, op := Op.call { callee := Callee.value (Operand.func 25), args := #[Operand.tmp 14], argTypes := #[24] }, type := 51, pos := "first.go:17", after := #[{ on := 3, ground := Ground.data }], guard := none } : Oper)) rfl (fun K hK => ?_) (AllReadyH.cons (o := ({ dst := some 3, op := Op.alloc 28, type := 0, pos := "first.go:17", after := #[], guard := none } : Oper)) rfl (fun K hK => ?_) AllReadyH.nil)))
    · refine step_make_full rfl (.tmp 12) (.tmp 12) 28 rfl w0.heap.size 33 i0 (.int .u32 0) 1 Try.underlying28 hi hz0 hz1 .i64 .i64 N rfl rfl hbN hbm hb.size ?_
      intro wn hown hgr
      have hg' := hg.grown hgr (by simp)
      refine hK.out _ _ ⟨hg'.cell 0, hg'.cell 1, hg'.cell 2, hg'.cell 3⟩ (fun _ => ?_)
      exact st26.out wn wk.heap.size gn hg' (hb.grown hgr (by simp)) (by rw [us_zeros]; exact hown) ⟨hm.1.grown hgr (by simp), hm.2⟩
    · go_simp
      refine (nullable_new t N s A len c ps _ B HL.out hlx (HPr.out _ hb) (HSz.out _ hb)).mono ?_
      intro e v1 h1
      obtain ⟨A1, c1, he1, ho1, hb1⟩ := h1.lit HFa.out (k := N) (by rw [fz_len, Rk.ranks_length])
      subst he1
      have hg' := hg.bl hb1
      have HO1 := Lib.hid (own_base (b' := w0.heap.size) ho1 fun k hk => Nat.le_trans hb.size (ho1.lt k hk).1)
      have HX := Lib.hid (st46.out v1 A1 c1 gn hg' (hb.trans hb1) HO1.out ⟨hm.1.bl hb1, hm.2⟩)
      have HS := Lib.hid hg'
      clear hg' ho1 hb1 h1
      go_wp2_with fail
      refine hK.out _ _ ⟨HS.out.cell 0, HS.out.cell 1, HS.out.cell 2, HS.out.cell 3⟩ (fun _ => ?_)
      exact HX.out
    · have HX := Lib.hid (st56.out (wk.alloc (.cells #[.slice none 0 0] 28)) wk.heap.size gn (hg.alloc _) (hb.alloc _) ⟨Bk.new _ _ _, hb.size⟩ ⟨hm.1.alloc _, hm.2⟩)
      have HS := Lib.hid (hg.alloc (.cells #[.slice none 0 0] 28))
      go_simp
      refine hK.out _ _ ⟨HS.out.cell 0, HS.out.cell 1, HS.out.cell 2, HS.out.cell 3⟩ (fun _ => ?_)
      exact HX.out
  have st : Hid (∀ (wk : World) , Bk wk gg 24 #[.int .i64 t, .int .i64 (N : Int), .int .i64 s, .slice A len c] → Bl w0 wk →  W 6 #[true, true, false, true, false, false, false, false, false] { tmps := #[a0, .pointer (some ⟨gg, 0, none⟩), a2, a3, a4, a5, a6, a7, a8, a9, a10, .pointer (some ⟨gg, 1, none⟩), .int .i64 (N : Int), a13, .agg #[.int .i64 t, .int .i64 (N : Int), .int .i64 s, .slice A len c], a15, a16, a17, a18, a19, a20, a21, a22, a23, a24, a25, a26, a27, a28], defers := [] } wk) := by
    intro wk  hg hb 
    subst hW
    have hHeld := (⟨hg.cell 0, hg.cell 1, hg.cell 2, hg.cell 3⟩ : wk.cell? ⟨gg, 0, none⟩ = some (.int .i64 t) ∧ wk.cell? ⟨gg, 1, none⟩ = some (.int .i64 (N : Int)) ∧ wk.cell? ⟨gg, 2, none⟩ = some (.int .i64 s) ∧ wk.cell? ⟨gg, 3, none⟩ = some (.slice A len c))
    refine wpAnyH_ready (rs := [2, 4, 5, 6]) (by kernel_rfl) (by simp) ?_
    refine (AllReadyH.cons (o := ({ dst := some 13, op := Op.makeSlice 28 (Operand.tmp 12) (Operand.tmp 12), type := 28, pos := "first.go:17", after := #[{ on := 1, ground := Ground.data }, { on := 1, ground := Ground.data }], guard := none } : Oper)) rfl (fun K hK => ?_) (AllReadyH.cons (o := ({ dst := some 15, op := Op.call { callee := Callee.value (Operand.func 25), args := #[Operand.tmp 14], argTypes := #[24] }, type := 51, pos := "first.go:17", after := #[{ on := 3, ground := Ground.data }], guard := none } : Oper)) rfl (fun K hK => ?_) (AllReadyH.cons (o := ({ dst := some 3, op := Op.alloc 28, type := 0, pos := "first.go:17", after := #[], guard := none } : Oper)) rfl (fun K hK => ?_) (AllReadyH.cons (o := ({ dst := some 4, op := Op.alloc 51, type := 0, pos := "first.go:17", after := #[], guard := none } : Oper)) rfl (fun K hK => ?_) AllReadyH.nil))))
    · refine step_make_full rfl (.tmp 12) (.tmp 12) 28 rfl w0.heap.size 33 i0 (.int .u32 0) 1 Try.underlying28 hi hz0 hz1 .i64 .i64 N rfl rfl hbN hbm hb.size ?_
      intro wn hown hgr
      have hg' := hg.grown hgr (by simp)
      refine hK.out _ _ ⟨hg'.cell 0, hg'.cell 1, hg'.cell 2, hg'.cell 3⟩ (fun _ => ?_)
      exact st2.out wn wk.heap.size hg' (hb.grown hgr (by simp)) (by rw [us_zeros]; exact hown)
    · go_simp
      refine (nullable_new t N s A len c ps _ B HL.out hlx (HPr.out _ hb) (HSz.out _ hb)).mono ?_
      intro e v1 h1
      obtain ⟨A1, c1, he1, ho1, hb1⟩ := h1.lit HFa.out (k := N) (by rw [fz_len, Rk.ranks_length])
      subst he1
      have hg' := hg.bl hb1
      have HO1 := Lib.hid (own_base (b' := w0.heap.size) ho1 fun k hk => Nat.le_trans hb.size (ho1.lt k hk).1)
      have HX := Lib.hid (st4.out v1 A1 c1 hg' (hb.trans hb1) HO1.out)
      have HS := Lib.hid hg'
      clear hg' ho1 hb1 h1
      go_wp2_with fail
      refine hK.out _ _ ⟨HS.out.cell 0, HS.out.cell 1, HS.out.cell 2, HS.out.cell 3⟩ (fun _ => ?_)
      exact HX.out
    · have HX := Lib.hid (st5.out (wk.alloc (.cells #[.slice none 0 0] 28)) wk.heap.size (hg.alloc _) (hb.alloc _) ⟨Bk.new _ _ _, hb.size⟩)
      have HS := Lib.hid (hg.alloc (.cells #[.slice none 0 0] 28))
      go_simp
      refine hK.out _ _ ⟨HS.out.cell 0, HS.out.cell 1, HS.out.cell 2, HS.out.cell 3⟩ (fun _ => ?_)
      exact HX.out
    · have HX := Lib.hid (st6.out (wk.alloc (.cells #[.slice none 0 0] 51)) wk.heap.size (hg.alloc _) (hb.alloc _) ⟨Bk.new _ _ _, hb.size⟩)
      have HS := Lib.hid (hg.alloc (.cells #[.slice none 0 0] 51))
      go_simp
      refine hK.out _ _ ⟨HS.out.cell 0, HS.out.cell 1, HS.out.cell 2, HS.out.cell 3⟩ (fun _ => ?_)
      exact HX.out
  exact st.out w1.drew (hg.drew) (hb.drew)
end Go.Proofs.Ytgmnokmchjeflaa
