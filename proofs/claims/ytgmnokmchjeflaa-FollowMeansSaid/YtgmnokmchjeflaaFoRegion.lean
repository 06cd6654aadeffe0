/- follow.Follow's first region: the sets' row is made, the places are asked: in whatever order. -/
import Derived.Test.YtgmnokmchjeflaaFoRel
namespace Go.Proofs.Ytgmnokmchjeflaa
open Go.RowKit


set_option maxRecDepth 100000 in
set_option maxHeartbeats 8000000 in
theorem followRegion (t s : Int) (A : Option Addr) (len c N np : Nat) (ps : List Gr.Pr) (w0 w1 : World) (B gg : Nat) (Q : Exit → Act → World → Prop) (a0 a2 a3 a4 a5 a6 a7 a8 a9 a10 a11 a12 a13 a14 a15 a16 a17 a18 a19 a20 a21 a22 a23 a24 a25 a26 a27 a28 a29 a30 a31 a32 a33 a34 a35 a36 a37 a38 a39 a40 a41 a42 a43 a44 a45 a46 a47 a48 a49 a50 a51 a52 a53 a54 a55 a56 a57 a58 a59 a60 a61 a62 : Value)
    (hlen : len = ps.length) (hok : okB ⟨t, (N : Int), s, ps⟩ = true) (hr : PrsC w0 B A ps) (hB : B ≤ w0.heap.size) (hg : Bk w1 gg 24 #[.int .i64 t, .int .i64 (N : Int), .int .i64 s, .slice A len c]) (hb : Bl w0 w1) (hnp : (Fi.pls ⟨t, (N : Int), s, ps⟩).length = np)
    (hp : ∀ c (a a' : Act) w, a.defers = a'.defers → Q (.panic c) a w → Q (.panic c) a' w)
    (hQ : ∀ (gf : Nat) (Ap : Option Addr) (cp : Nat) (x11 x12 x13 x14 x15 : Value) (w' : World), WRel w0 gg #[.int .i64 t, .int .i64 (N : Int), .int .i64 s, .slice A len c] N gf N Ap np cp (Fi.pls ⟨t, (N : Int), s, ps⟩) (List.replicate N 0) w' →
      Q .normal { tmps := #[a0, .pointer (some ⟨gg, 0, none⟩), a2, .slice (some ⟨gf, 0, none⟩) N N, .slice Ap np cp, a5, a6, a7, a8, a9, a10, x11, x12, x13, x14, x15, a16, a17, a18, a19, a20, a21, a22, a23, a24, a25, a26, a27, a28, a29, a30, a31, a32, a33, a34, a35, a36, a37, a38, a39, a40, a41, a42, a43, a44, a45, a46, a47, a48, a49, a50, a51, a52, a53, a54, a55, a56, a57, a58, a59, a60, a61, a62], defers := [] } w') :
    (Code.region 3 #[{ dst := some 11, op := Op.fieldAddr 24 (Operand.tmp 1) 1, type := 0, pos := "follow.go:18", after := #[], guard := none }, { dst := some 12, op := Op.load 3 (Operand.tmp 11), type := 3, pos := "follow.go:18", after := #[{ on := 0, ground := Ground.data }], guard := none }, { dst := some 13, op := Op.makeSlice 28 (Operand.tmp 12) (Operand.tmp 12), type := 28, pos := "follow.go:18", after := #[{ on := 1, ground := Ground.data }, { on := 1, ground := Ground.data }], guard := none }, { dst := some 14, op := Op.load 24 (Operand.tmp 1), type := 24, pos := "follow.go:18", after := #[], guard := none }, { dst := some 15, op := Op.call { callee := Callee.value (Operand.func 15), args := #[Operand.tmp 14], argTypes := #[24] }, type := 44, pos := "follow.go:18", after := #[{ on := 3, ground := Ground.data }], guard := none }, { dst := some 3, op := Op.assign (Operand.tmp 13), type := 28, pos := "follow.go:18", after := #[{ on := 2, ground := Ground.data }, { on := 4, ground := Ground.chain }, { on := 0, ground := Ground.phase }, { on := 1, ground := Ground.phase }, { on := 2, ground := Ground.phase }, { on := 3, ground := Ground.textOnly Departure.lateStores }, { on := 4, ground := Ground.textOnly Departure.lateStoresUnsure }], guard := none }, { dst := some 4, op := Op.assign (Operand.tmp 15), type := 44, pos := "follow.go:18", after := #[{ on := 4, ground := Ground.data }, { on := 5, ground := Ground.chain }, { on := 0, ground := Ground.phase }, { on := 1, ground := Ground.phase }, { on := 2, ground := Ground.phase }, { on := 3, ground := Ground.phase }, { on := 4, ground := Ground.phase }, { on := 5, ground := Ground.phase }], guard := none }] true).wp Try.prog Q { tmps := #[a0, .pointer (some ⟨gg, 0, none⟩), a2, a3, a4, a5, a6, a7, a8, a9, a10, a11, a12, a13, a14, a15, a16, a17, a18, a19, a20, a21, a22, a23, a24, a25, a26, a27, a28, a29, a30, a31, a32, a33, a34, a35, a36, a37, a38, a39, a40, a41, a42, a43, a44, a45, a46, a47, a48, a49, a50, a51, a52, a53, a54, a55, a56, a57, a58, a59, a60, a61, a62], defers := [] } w1 := by
  obtain ⟨i0, hi, hz0, hz1, hz2⟩ := info_parts u32_info
  obtain ⟨n1, n2, n3⟩ := ok_nons hok
  have HPr : Hid (∀ w', Bl w0 w' → PrsC w' B A ps) := fun w' h => hr.bl hB h
  have HSz : Hid (∀ w', Bl w0 w' → B ≤ w'.heap.size) := fun w' h => Nat.le_trans hB h.size
  have HQ := Lib.hid hQ; clear hQ
  have HOK := Lib.hid hok
  have hlx : len ≤ 9223372036854775807 := by omega
  have HL := Lib.hid hlen; clear hlen
  have HNp := Lib.hid hnp; clear hnp
  have hbN : i0.bytes * N ≤ 281474976710656 := by rw [hz2]; omega
  have hbm : N ≤ maxLen := by simp only [maxLen]; omega
  clear hok hr hB
  refine wp_region_held_drew (S := (fun w' => w'.cell? ⟨gg, 0, none⟩ = some (.int .i64 t) ∧ w'.cell? ⟨gg, 1, none⟩ = some (.int .i64 (N : Int)) ∧ w'.cell? ⟨gg, 2, none⟩ = some (.int .i64 s) ∧ w'.cell? ⟨gg, 3, none⟩ = some (.slice A len c))) (by kernel_rfl) ⟨hg.cell 0, hg.cell 1, hg.cell 2, hg.cell 3⟩ (fun hHeld => ?_)
  refine wpAnyH_take (i := 0) (oi := ({ dst := some 11, op := Op.fieldAddr 24 (Operand.tmp 1) 1, type := 0, pos := "follow.go:18", after := #[], guard := none } : Oper)) (v := ?_) rfl (by kernel_rfl) (by kernel_rfl) (by kernel_rfl) (fun c0 b0 v0 h => hp c0 (b0.put _ _) b0 v0 rfl h) (Or.inl ⟨by rfl, ?_⟩) hHeld ?_
  rotate_left
  · (intro w hSw; (try dsimp only at hSw); go_simp) <;> with_reducible rfl
  try simp only [Act.put, List.setIfInBounds_toArray, List.set_cons_zero, List.set_cons_succ]
  refine wpAnyH_take (i := 1) (oi := ({ dst := some 12, op := Op.load 3 (Operand.tmp 11), type := 3, pos := "follow.go:18", after := #[{ on := 0, ground := Ground.data }], guard := none } : Oper)) (v := ?_) rfl (by kernel_rfl) (by kernel_rfl) (by kernel_rfl) (fun c0 b0 v0 h => hp c0 (b0.put _ _) b0 v0 rfl h) (Or.inl ⟨by rfl, ?_⟩) hHeld ?_
  rotate_left
  · (intro w hSw; (try dsimp only at hSw); go_simp) <;> with_reducible rfl
  try simp only [Act.put, List.setIfInBounds_toArray, List.set_cons_zero, List.set_cons_succ]
  refine wpAnyH_take (i := 3) (oi := ({ dst := some 14, op := Op.load 24 (Operand.tmp 1), type := 24, pos := "follow.go:18", after := #[], guard := none } : Oper)) (v := ?_) rfl (by kernel_rfl) (by kernel_rfl) (by kernel_rfl) (fun c0 b0 v0 h => hp c0 (b0.put _ _) b0 v0 rfl h) (Or.inl ⟨by rfl, ?_⟩) hHeld ?_
  rotate_left
  · (intro w hSw; (try dsimp only at hSw); go_simp) <;> with_reducible rfl
  try simp only [Act.put, List.setIfInBounds_toArray, List.set_cons_zero, List.set_cons_succ]
  clear hHeld
  generalize hW : wpAnyH Try.prog _ _ _ _ = W
  have st24 : Hid (∀ (wk : World) (gf : Nat) (Ap : Option Addr) (cp : Nat), Bk wk gg 24 #[.int .i64 t, .int .i64 (N : Int), .int .i64 s, .slice A len c] → Bl w0 wk → (wk.ownsRow w0.heap.size 33 1 (.slice (some ⟨gf, 0, none⟩) N N) N (us (List.replicate N 0))) → (wk.ownsRow w0.heap.size 47 4 (.slice Ap np cp) np (plRow (Fi.pls ⟨t, (N : Int), s, ps⟩))) → W 2 #[true, true, true, true, true, false, false] { tmps := #[a0, .pointer (some ⟨gg, 0, none⟩), a2, a3, a4, a5, a6, a7, a8, a9, a10, .pointer (some ⟨gg, 1, none⟩), .int .i64 (N : Int), .slice (some ⟨gf, 0, none⟩) N N, .agg #[.int .i64 t, .int .i64 (N : Int), .int .i64 s, .slice A len c], .slice Ap np cp, a16, a17, a18, a19, a20, a21, a22, a23, a24, a25, a26, a27, a28, a29, a30, a31, a32, a33, a34, a35, a36, a37, a38, a39, a40, a41, a42, a43, a44, a45, a46, a47, a48, a49, a50, a51, a52, a53, a54, a55, a56, a57, a58, a59, a60, a61, a62], defers := [] } wk) := by
    intro wk gf Ap cp hg hb ho hn
    subst hW
    have hHeld := (⟨hg.cell 0, hg.cell 1, hg.cell 2, hg.cell 3⟩ : wk.cell? ⟨gg, 0, none⟩ = some (.int .i64 t) ∧ wk.cell? ⟨gg, 1, none⟩ = some (.int .i64 (N : Int)) ∧ wk.cell? ⟨gg, 2, none⟩ = some (.int .i64 s) ∧ wk.cell? ⟨gg, 3, none⟩ = some (.slice A len c))
    have HX := Lib.hid (WRel.mk hg ho hn (List.length_replicate ..) hb)
    refine wpAnyH_take (i := 5) (oi := ({ dst := some 3, op := Op.assign (Operand.tmp 13), type := 28, pos := "follow.go:18", after := #[{ on := 2, ground := Ground.data }, { on := 4, ground := Ground.chain }, { on := 0, ground := Ground.phase }, { on := 1, ground := Ground.phase }, { on := 2, ground := Ground.phase }, { on := 3, ground := Ground.textOnly Departure.lateStores }, { on := 4, ground := Ground.textOnly Departure.lateStoresUnsure }], guard := none } : Oper)) (v := ?_) rfl (by kernel_rfl) (by kernel_rfl) (by kernel_rfl) (fun c0 b0 v0 h => hp c0 (b0.put _ _) b0 v0 rfl h) (Or.inl ⟨by rfl, ?_⟩) hHeld ?_
    rotate_left
    · (intro w hSw; (try dsimp only at hSw); go_simp) <;> with_reducible rfl
    try simp only [Act.put, List.setIfInBounds_toArray, List.set_cons_zero, List.set_cons_succ]
    refine wpAnyH_take (i := 6) (oi := ({ dst := some 4, op := Op.assign (Operand.tmp 15), type := 44, pos := "follow.go:18", after := #[{ on := 4, ground := Ground.data }, { on := 5, ground := Ground.chain }, { on := 0, ground := Ground.phase }, { on := 1, ground := Ground.phase }, { on := 2, ground := Ground.phase }, { on := 3, ground := Ground.phase }, { on := 4, ground := Ground.phase }, { on := 5, ground := Ground.phase }], guard := none } : Oper)) (v := ?_) rfl (by kernel_rfl) (by kernel_rfl) (by kernel_rfl) (fun c0 b0 v0 h => hp c0 (b0.put _ _) b0 v0 rfl h) (Or.inl ⟨by rfl, ?_⟩) hHeld ?_
    rotate_left
    · (intro w hSw; (try dsimp only at hSw); go_simp) <;> with_reducible rfl
    try simp only [Act.put, List.setIfInBounds_toArray, List.set_cons_zero, List.set_cons_succ]
    refine wpAnyH_done (by kernel_rfl) ?_ _
    exact HQ.out gf Ap cp _ _ _ _ _ _ HX.out
  have st2 : Hid (∀ (wk : World) (gf : Nat), Bk wk gg 24 #[.int .i64 t, .int .i64 (N : Int), .int .i64 s, .slice A len c] → Bl w0 wk → (wk.ownsRow w0.heap.size 33 1 (.slice (some ⟨gf, 0, none⟩) N N) N (us (List.replicate N 0))) → W 3 #[true, true, true, true, false, false, false] { tmps := #[a0, .pointer (some ⟨gg, 0, none⟩), a2, a3, a4, a5, a6, a7, a8, a9, a10, .pointer (some ⟨gg, 1, none⟩), .int .i64 (N : Int), .slice (some ⟨gf, 0, none⟩) N N, .agg #[.int .i64 t, .int .i64 (N : Int), .int .i64 s, .slice A len c], a15, a16, a17, a18, a19, a20, a21, a22, a23, a24, a25, a26, a27, a28, a29, a30, a31, a32, a33, a34, a35, a36, a37, a38, a39, a40, a41, a42, a43, a44, a45, a46, a47, a48, a49, a50, a51, a52, a53, a54, a55, a56, a57, a58, a59, a60, a61, a62], defers := [] } wk) := by
    intro wk gf hg hb ho
    subst hW
    have hHeld := (⟨hg.cell 0, hg.cell 1, hg.cell 2, hg.cell 3⟩ : wk.cell? ⟨gg, 0, none⟩ = some (.int .i64 t) ∧ wk.cell? ⟨gg, 1, none⟩ = some (.int .i64 (N : Int)) ∧ wk.cell? ⟨gg, 2, none⟩ = some (.int .i64 s) ∧ wk.cell? ⟨gg, 3, none⟩ = some (.slice A len c))
    refine wpAnyH_ready (rs := [4]) (by kernel_rfl) (by simp) ?_
    refine (AllReadyH.cons (o := ({ dst := some 15, op := Op.call { callee := Callee.value (Operand.func 15), args := #[Operand.tmp 14], argTypes := #[24] }, type := 44, pos := "follow.go:18", after := #[{ on := 3, ground := Ground.data }], guard := none } : Oper)) rfl (fun K hK => ?_) AllReadyH.nil)
    · go_simp
      refine (places_any t N s A len c ps _ B HL.out hlx (HPr.out _ hb) (HSz.out _ hb) HOK.out).mono ?_
      intro e v1 h1
      obtain ⟨A1, c1, he1, ho1, hb1⟩ := h1.lit HNp.out
      subst he1
      have hg' := hg.bl hb1
      have HO1 := Lib.hid (own_base (b' := w0.heap.size) ho1 fun k hk => Nat.le_trans hb.size (ho1.lt k hk).1)
      have HX := Lib.hid (st24.out v1 gf A1 c1 hg' (hb.trans hb1) (own_bl ho hb1) HO1.out)
      have HS := Lib.hid hg'
      clear hg' ho1 hb1 h1
      go_wp2_with fail
      refine hK.out _ _ ⟨HS.out.cell 0, HS.out.cell 1, HS.out.cell 2, HS.out.cell 3⟩ (fun _ => ?_)
      exact HX.out
  have st4 : Hid (∀ (wk : World) (Ap : Option Addr) (cp : Nat), Bk wk gg 24 #[.int .i64 t, .int .i64 (N : Int), .int .i64 s, .slice A len c] → Bl w0 wk → (wk.ownsRow w0.heap.size 47 4 (.slice Ap np cp) np (plRow (Fi.pls ⟨t, (N : Int), s, ps⟩))) → W 3 #[true, true, false, true, true, false, false] { tmps := #[a0, .pointer (some ⟨gg, 0, none⟩), a2, a3, a4, a5, a6, a7, a8, a9, a10, .pointer (some ⟨gg, 1, none⟩), .int .i64 (N : Int), a13, .agg #[.int .i64 t, .int .i64 (N : Int), .int .i64 s, .slice A len c], .slice Ap np cp, a16, a17, a18, a19, a20, a21, a22, a23, a24, a25, a26, a27, a28, a29, a30, a31, a32, a33, a34, a35, a36, a37, a38, a39, a40, a41, a42, a43, a44, a45, a46, a47, a48, a49, a50, a51, a52, a53, a54, a55, a56, a57, a58, a59, a60, a61, a62], defers := [] } wk) := by
    intro wk Ap cp hg hb hn
    subst hW
    have hHeld := (⟨hg.cell 0, hg.cell 1, hg.cell 2, hg.cell 3⟩ : wk.cell? ⟨gg, 0, none⟩ = some (.int .i64 t) ∧ wk.cell? ⟨gg, 1, none⟩ = some (.int .i64 (N : Int)) ∧ wk.cell? ⟨gg, 2, none⟩ = some (.int .i64 s) ∧ wk.cell? ⟨gg, 3, none⟩ = some (.slice A len c))
    refine wpAnyH_ready (rs := [2]) (by kernel_rfl) (by simp) ?_
    refine (AllReadyH.cons (o := ({ dst := some 13, op := Op.makeSlice 28 (Operand.tmp 12) (Operand.tmp 12), type := 28, pos := "follow.go:18", after := #[{ on := 1, ground := Ground.data }, { on := 1, ground := Ground.data }], guard := none } : Oper)) rfl (fun K hK => ?_) AllReadyH.nil)
    · refine step_make_full rfl (.tmp 12) (.tmp 12) 28 rfl w0.heap.size 33 i0 (.int .u32 0) 1 Try.underlying28 hi hz0 hz1 .i64 .i64 N rfl rfl hbN hbm hb.size ?_
      intro wn hown hgr
      have hg' := hg.grown hgr (by simp)
      refine hK.out _ _ ⟨hg'.cell 0, hg'.cell 1, hg'.cell 2, hg'.cell 3⟩ (fun _ => ?_)
      exact st24.out wn wk.heap.size Ap cp hg' (hb.grown hgr (by simp)) (by rw [us_zeros]; exact hown) (own_still hn hgr)
  have st : Hid (∀ (wk : World) , Bk wk gg 24 #[.int .i64 t, .int .i64 (N : Int), .int .i64 s, .slice A len c] → Bl w0 wk →  W 4 #[true, true, false, true, false, false, false] { tmps := #[a0, .pointer (some ⟨gg, 0, none⟩), a2, a3, a4, a5, a6, a7, a8, a9, a10, .pointer (some ⟨gg, 1, none⟩), .int .i64 (N : Int), a13, .agg #[.int .i64 t, .int .i64 (N : Int), .int .i64 s, .slice A len c], a15, a16, a17, a18, a19, a20, a21, a22, a23, a24, a25, a26, a27, a28, a29, a30, a31, a32, a33, a34, a35, a36, a37, a38, a39, a40, a41, a42, a43, a44, a45, a46, a47, a48, a49, a50, a51, a52, a53, a54, a55, a56, a57, a58, a59, a60, a61, a62], defers := [] } wk) := by
    intro wk  hg hb 
    subst hW
    have hHeld := (⟨hg.cell 0, hg.cell 1, hg.cell 2, hg.cell 3⟩ : wk.cell? ⟨gg, 0, none⟩ = some (.int .i64 t) ∧ wk.cell? ⟨gg, 1, none⟩ = some (.int .i64 (N : Int)) ∧ wk.cell? ⟨gg, 2, none⟩ = some (.int .i64 s) ∧ wk.cell? ⟨gg, 3, none⟩ = some (.slice A len c))
    refine wpAnyH_ready (rs := [2, 4]) (by kernel_rfl) (by simp) ?_
    refine (AllReadyH.cons (o := ({ dst := some 13, op := Op.makeSlice 28 (Operand.tmp 12) (Operand.tmp 12), type := 28, pos := "follow.go:18", after := #[{ on := 1, ground := Ground.data }, { on := 1, ground := Ground.data }], guard := none } : Oper)) rfl (fun K hK => ?_) (AllReadyH.cons (o := ({ dst := some 15, op := Op.call { callee := Callee.value (Operand.func 15), args := #[Operand.tmp 14], argTypes := #[24] }, type := 44, pos := "follow.go:18", after := #[{ on := 3, ground := Ground.data }], guard := none } : Oper)) rfl (fun K hK => ?_) AllReadyH.nil))
    · refine step_make_full rfl (.tmp 12) (.tmp 12) 28 rfl w0.heap.size 33 i0 (.int .u32 0) 1 Try.underlying28 hi hz0 hz1 .i64 .i64 N rfl rfl hbN hbm hb.size ?_
      intro wn hown hgr
      have hg' := hg.grown hgr (by simp)
      refine hK.out _ _ ⟨hg'.cell 0, hg'.cell 1, hg'.cell 2, hg'.cell 3⟩ (fun _ => ?_)
      exact st2.out wn wk.heap.size hg' (hb.grown hgr (by simp)) (by rw [us_zeros]; exact hown)
    · go_simp
      refine (places_any t N s A len c ps _ B HL.out hlx (HPr.out _ hb) (HSz.out _ hb) HOK.out).mono ?_
      intro e v1 h1
      obtain ⟨A1, c1, he1, ho1, hb1⟩ := h1.lit HNp.out
      subst he1
      have hg' := hg.bl hb1
      have HO1 := Lib.hid (own_base (b' := w0.heap.size) ho1 fun k hk => Nat.le_trans hb.size (ho1.lt k hk).1)
      have HX := Lib.hid (st4.out v1 A1 c1 hg' (hb.trans hb1) HO1.out)
      have HS := Lib.hid hg'
      clear hg' ho1 hb1 h1
      go_wp2_with fail
      refine hK.out _ _ ⟨HS.out.cell 0, HS.out.cell 1, HS.out.cell 2, HS.out.cell 3⟩ (fun _ => ?_)
      exact HX.out
  exact st.out w1.drew (hg.drew) (hb.drew)
end Go.Proofs.Ytgmnokmchjeflaa
