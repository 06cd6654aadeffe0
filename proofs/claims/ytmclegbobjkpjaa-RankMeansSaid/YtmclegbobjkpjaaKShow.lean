/- rank.showsOne and rank.Shows: do facts show ranks? -/
import Derived.Test.YtmclegbobjkpjaaKLeans
import Derived.Test.YtmclegbobjkpjaaGRight
import Derived.Test.YtmclegbobjkpjaaOOf
import Derived.Test.YtmclegbobjkpjaaOHas
import Derived.Deep.RegionHeld3
import Derived.Laws.StructEq
namespace Go.Proofs.Ytmclegbobjkpjaa
open Go.RowKit

theorem mem_ofK {ps : List Gr.Pr} {non : Int} {i : Nat} : i ∈ ofK ps non ps.length ↔ ∃ p, ps[i]? = some p ∧ p.left = non := by
  unfold ofK
  rw [List.mem_filter, List.mem_range]
  constructor
  · rintro ⟨h1, h2⟩
    rw [List.getElem?_eq_getElem h1] at h2 ⊢
    exact ⟨_, rfl, of_decide_eq_true h2⟩
  · rintro ⟨p, h1, h2⟩
    have h3 : i < ps.length := by
      rcases Nat.lt_or_ge i ps.length with h | h
      · exact h
      · rw [List.getElem?_eq_none h] at h1; cases h1
    refine ⟨h3, ?_⟩
    rw [h1]
    exact decide_eq_true h2
/-- Is this the number of a production of that nonterminal? -/
def hasPr (ps : List Gr.Pr) (non i : Int) : Bool := decide (0 ≤ i) && match ps[i.toNat]? with
  | some p => decide (p.left = non)
  | none => false
theorem hasPr_of (ps : List Gr.Pr) (non i : Int) : decide (i ∈ ns (ofK ps non ps.length)) = hasPr ps non i := by
  have key : i ∈ ns (ofK ps non ps.length) ↔ hasPr ps non i = true := by
    unfold ns hasPr
    rw [List.mem_map, Bool.and_eq_true, decide_eq_true_eq]
    constructor
    · rintro ⟨k, hk, rfl⟩
      obtain ⟨p, h1, h2⟩ := mem_ofK.1 hk
      refine ⟨by omega, ?_⟩
      rw [Int.toNat_natCast, h1]
      exact decide_eq_true h2
    · rintro ⟨h0, h1⟩
      split at h1
      · rename_i p hp
        exact ⟨i.toNat, mem_ofK.2 ⟨p, hp, of_decide_eq_true h1⟩, by omega⟩
      · cases h1
  cases h : hasPr ps non i with
  | true => exact decide_eq_true (key.2 h)
  | false => exact decide_eq_false (fun e => by rw [key.1 e] at h; cases h)
theorem hasPr_some {ps : List Gr.Pr} {non i : Int} (h : hasPr ps non i = true) : ∃ k : Nat, i = (k : Int) ∧ ∃ hk : k < ps.length, ps[k].left = non := by
  unfold hasPr at h
  rw [Bool.and_eq_true, decide_eq_true_eq] at h
  obtain ⟨h0, h1⟩ := h
  split at h1
  · rename_i p hp
    obtain ⟨hk, e⟩ := List.getElem?_eq_some_iff.1 hp
    exact ⟨i.toNat, by omega, hk, by rw [e]; exact of_decide_eq_true h1⟩
  · cases h1
theorem hasPr_yes {ps : List Gr.Pr} {k : Nat} (hk : k < ps.length) {non : Int} (h : ps[k].left = non) : hasPr ps non (k : Int) = true := by
  unfold hasPr
  rw [Int.toNat_natCast, List.getElem?_eq_getElem hk]
  simp only [h, decide_true, Bool.and_true]
  exact decide_eq_true (by omega)
theorem hasPr_no {ps : List Gr.Pr} {non i : Int} (h : i < 0 ∨ (ps.length : Int) ≤ i) : hasPr ps non i = false := by
  unfold hasPr
  rcases h with h | h
  · rw [decide_eq_false (by omega)]; rfl
  · rw [List.getElem?_eq_none (by omega)]; simp
theorem hasPr_other {ps : List Gr.Pr} {k : Nat} (hk : k < ps.length) {non : Int} (h : ps[k].left ≠ non) : hasPr ps non (k : Int) = false := by
  unfold hasPr
  rw [Int.toNat_natCast, List.getElem?_eq_getElem hk]
  simp [h]
/-- The symbols of a production. -/
def rightOf (ps : List Gr.Pr) (i : Int) : List Gr.Sy := match ps[i.toNat]? with
  | some p => p.right
  | none => []
theorem rightOf_at {ps : List Gr.Pr} {k : Nat} (hk : k < ps.length) : rightOf ps (k : Int) = ps[k].right := by
  unfold rightOf
  rw [Int.toNat_natCast, List.getElem?_eq_getElem hk]
/-- Does a nonterminal's fact stand, if those of the others do? -/
def showOne (terms : Bool) (ps : List Gr.Pr) (l : List Fc) (non : Int) (f : Fc) : Bool :=
  if f.rank < 1 then decide (f.rank = 0 ∧ f.prod = 0) else hasPr ps non f.prod && leansB terms l f.rank (rightOf ps f.prod)
/-- Of the first k nonterminals each fact stands. -/
def showTo (terms : Bool) (ps : List Gr.Pr) (l : List Fc) (k : Nat) : Prop := ∀ m (h : m < l.length), m < k → showOne terms ps l (m : Int) l[m] = true
/-- Do facts show ranks? -/
def showsB (terms : Bool) (g : Gr.Gm) (l : List Fc) : Bool := okB g && decide ((l.length : Int) = g.nons) && (List.range l.length).all fun m => match l[m]? with
  | some f => showOne terms g.prods l (m : Int) f
  | none => false
section
variable {terms : Bool} {t n s : Int} {ps : List Gr.Pr} {l : List Fc}
theorem showsB_bad (h : okB ⟨t, n, s, ps⟩ = false) : showsB terms ⟨t, n, s, ps⟩ l = false := by unfold showsB; rw [h]; rfl
theorem showsB_len (h : (l.length : Int) ≠ n) : showsB terms ⟨t, n, s, ps⟩ l = false := by unfold showsB; rw [decide_eq_false h]; simp
theorem showsB_one {m : Nat} (hm : m < l.length) (h : showOne terms ps l (m : Int) l[m] = false) : showsB terms ⟨t, n, s, ps⟩ l = false := by
  rw [Bool.eq_false_iff]
  intro e
  unfold showsB at e
  rw [Bool.and_eq_true, List.all_eq_true] at e
  have := e.2 m (List.mem_range.2 hm)
  rw [List.getElem?_eq_getElem hm] at this
  simp only at this
  rw [h] at this; cases this
theorem showsB_all (hok : okB ⟨t, n, s, ps⟩ = true) (hl : (l.length : Int) = n) (h : showTo terms ps l l.length) : showsB terms ⟨t, n, s, ps⟩ l = true := by
  unfold showsB
  rw [hok, decide_eq_true hl, Bool.and_self, Bool.true_and, List.all_eq_true]
  intro m hm
  have hm := List.mem_range.1 hm
  rw [List.getElem?_eq_getElem hm]
  exact h m hm hm
theorem showTo_zero : showTo terms ps l 0 := fun _ _ h => absurd h (by omega)
theorem showTo_succ {k : Nat} (h : showTo terms ps l k) (hk : k < l.length) (ho : showOne terms ps l (k : Int) l[k] = true) : showTo terms ps l (k + 1) := fun m hm hlt => by
  by_cases e : m = k
  · subst e; exact ho
  · exact h m hm (by omega)
end
set_option maxRecDepth 100000 in
set_option maxHeartbeats 4000000 in
theorem showsOne_any (t n s : Int) (A : Option Addr) (len c : Nat) (ps : List Gr.Pr) (Af : Option Addr) (lf cf : Nat) (l : List Fc) (m : Nat) (terms : Bool) (w : World) (B : Nat)
    (hlen : len = ps.length) (hok : okB ⟨t, n, s, ps⟩ = true) (hr : Prs w B A ps) (hlf : lf = l.length) (hrl : Rd w B Af (fcRow l)) (hB : B ≤ w.heap.size) (hm : m < l.length) (hn : (l.length : Int) = n) :
    Calls Try.prog 19 #[.agg #[.int .i64 t, .int .i64 n, .int .i64 s, .slice A len c], .slice Af lf cf, .int .i64 m, .bool terms] w fun e w' =>
      e = .returned (.bool (showOne terms ps l (m : Int) l[m])) ∧ Bl w w' := by
  have hmax : len ≤ 1000000000 := by have := (ok_nons hok).2.2; omega
  have hlf60 : lf ≤ 24 := by have := (ok_nons hok).2.1; omega
  have hol : (ns (ofK ps m ps.length)).length ≤ 9223372036854775807 := by rw [ns_len]; have := ofK_len ps m ps.length; omega
  have hmlf : m < lf := by omega
  have HHas := Lib.hid (hasPr_of ps m l[m].prod)
  have HSy : Hid (∀ k (hk : k < ps.length), ps[k].right.length ≤ 8 ∧ ∀ x ∈ ps[k].right, x.non = true → 0 ≤ x.n ∧ x.n < (lf : Int)) := fun k hk => by
    obtain ⟨_, h2, h3⟩ := ok_syms hok hk
    exact ⟨h2, fun x hx hxn => by have := h3 x hx hxn; omega⟩
  have HL := Lib.hid hlen; clear hlen
  have HA := Lib.hid hr; clear hr
  have HLF := Lib.hid hlf; clear hlf
  have HFl : Hid (∀ W : World, Bl w W → Rd W B Af (fcRow l)) := fun W hb => hrl.bl hB hb
  obtain ⟨bf, off2, hAf, hbf, f0, f1⟩ := hrl.fact hm
  have HAf := Lib.hid hAf
  have HW0 : Hid (showOne terms ps l (m : Int) l[m] = showOne terms ps l (m : Int) l[m]) := rfl
  generalize hx : l[m] = x at *
  obtain ⟨xr, xp⟩ := x
  simp only at f0 f1 HHas
  subst hAf
  have hbw : bf < w.heap.size := by omega
  have f0a : (w.alloc (.cells #[.int .i64 t, .int .i64 n, .int .i64 s, .slice A len c] 24)).cell? ⟨bf, off2 + m * 2, none⟩ = some (.int .i64 xr) := (World.cell?_alloc_lt _ _ _ hbw).trans f0
  have f1a : (w.alloc (.cells #[.int .i64 t, .int .i64 n, .int .i64 s, .slice A len c] 24)).cell? ⟨bf, off2 + m * 2 + 1, none⟩ = some (.int .i64 xp) := (World.cell?_alloc_lt _ _ _ hbw).trans f1
  have HB : Hid (Bl w ((w.alloc (.cells #[.int .i64 t, .int .i64 n, .int .i64 s, .slice A len c] 24)).alloc (.cells #[.int .i64 xr, .int .i64 xp] 33))) := ((Bl.refl w).alloc _).alloc _
  clear hx hok hrl hn hm f0 f1 HW0 HAf
  by_cases h1 : xr < 1
  · have HV : Hid (showOne terms ps l (m : Int) ⟨xr, xp⟩ = decide (xr = 0 ∧ xp = 0)) := by unfold showOne; rw [if_pos h1]; rfl
    by_cases h2 : xr = 0
    · subst h2
      by_cases h3 : xp = 0
      · subst h3
        go_enter Try.func19, Try.ntmps19
        go_wp2_with fail
        go_ret
        exact ⟨by rw [HV.out]; rfl, HB.out⟩
      · have hq : (xp == 0) = false := by simpa using h3
        have HD : Hid (decide ((0 : Int) = 0 ∧ xp = 0) = false) := decide_eq_false fun e => h3 e.2
        clear h3
        go_enter Try.func19, Try.ntmps19
        go_wp2_with fail
        go_ret
        exact ⟨by rw [HV.out, HD.out]; rfl, HB.out⟩
    · have hq : (xr == 0) = false := by simpa using h2
      have HD : Hid (decide (xr = 0 ∧ xp = 0) = false) := decide_eq_false fun e => h2 e.1
      clear h2
      go_enter Try.func19, Try.ntmps19
      go_wp2_with fail
      go_ret
      exact ⟨by rw [HV.out, HD.out]; rfl, HB.out⟩
  have HV : Hid (showOne terms ps l (m : Int) ⟨xr, xp⟩ = (hasPr ps m xp && leansB terms l xr (rightOf ps xp))) := by unfold showOne; rw [if_neg h1]; rfl
  have HG : Hid (Bk ((w.alloc (.cells #[.int .i64 t, .int .i64 n, .int .i64 s, .slice A len c] 24)).alloc (.cells #[.int .i64 xr, .int .i64 xp] 33)) w.heap.size 24 #[.int .i64 t, .int .i64 n, .int .i64 s, .slice A len c]) := (Bk.new w _ _).alloc _
  have HF : Hid (Bk ((w.alloc (.cells #[.int .i64 t, .int .i64 n, .int .i64 s, .slice A len c] 24)).alloc (.cells #[.int .i64 xr, .int .i64 xp] 33)) (w.heap.size + 1) 33 #[.int .i64 xr, .int .i64 xp]) := by
    have h := Bk.new (w.alloc (.cells #[.int .i64 t, .int .i64 n, .int .i64 s, .slice A len c] 24)) 33 #[.int .i64 xr, .int .i64 xp]
    rw [World.size_alloc] at h
    exact h
  have HPx := Lib.hid (HA.out.bl hB HB.out)
  have hBx := Nat.le_trans hB HB.out.size
  cases hh : hasPr ps m xp with
  | false =>
    rw [hh] at HHas HV
    go_enter Try.func19, Try.ntmps19
    go_wp2_with fail
    refine wp_region_held_drew (S := (fun w' => w'.cell? ⟨w.heap.size, 0, none⟩ = some (.int .i64 t) ∧ w'.cell? ⟨w.heap.size, 1, none⟩ = some (.int .i64 n) ∧ w'.cell? ⟨w.heap.size, 2, none⟩ = some (.int .i64 s) ∧ w'.cell? ⟨w.heap.size, 3, none⟩ = some (.slice A len c) ∧ w'.cell? ⟨w.heap.size + 1, 0, none⟩ = some (.int .i64 xr) ∧ w'.cell? ⟨w.heap.size + 1, 1, none⟩ = some (.int .i64 xp))) (by kernel_rfl) ⟨HG.out.cell 0, HG.out.cell 1, HG.out.cell 2, HG.out.cell 3, HF.out.cell 0, HF.out.cell 1⟩ (fun hHeld => ?_)
    refine wpAnyH_take (i := 0) (oi := ({ dst := some 20, op := Op.load 24 (Operand.tmp 4), type := 24, pos := "rank.go:74", after := #[], guard := none } : Oper)) (v := ?_) rfl (by kernel_rfl) (by kernel_rfl) (by kernel_rfl) (fun _ _ _ h => h) (Or.inl ⟨by rfl, ?_⟩) hHeld ?_
    rotate_left
    · (intro w hSw; (try dsimp only at hSw); go_simp) <;> with_reducible rfl
    try simp only [Act.put, List.setIfInBounds_toArray, List.set_cons_zero, List.set_cons_succ]
    refine wpAnyH_take (i := 1) (oi := ({ dst := some 21, op := Op.move (Operand.tmp 2), type := 3, pos := "rank.go:74", after := #[], guard := none } : Oper)) (v := ?_) rfl (by kernel_rfl) (by kernel_rfl) (by kernel_rfl) (fun _ _ _ h => h) (Or.inl ⟨by rfl, ?_⟩) hHeld ?_
    rotate_left
    · (intro w hSw; (try dsimp only at hSw); go_simp) <;> with_reducible rfl
    try simp only [Act.put, List.setIfInBounds_toArray, List.set_cons_zero, List.set_cons_succ]
    refine wpAnyH_take (i := 3) (oi := ({ dst := some 23, op := Op.fieldAddr 33 (Operand.tmp 9) 1, type := 0, pos := "rank.go:74", after := #[], guard := none } : Oper)) (v := ?_) rfl (by kernel_rfl) (by kernel_rfl) (by kernel_rfl) (fun _ _ _ h => h) (Or.inl ⟨by rfl, ?_⟩) hHeld ?_
    rotate_left
    · (intro w hSw; (try dsimp only at hSw); go_simp) <;> with_reducible rfl
    try simp only [Act.put, List.setIfInBounds_toArray, List.set_cons_zero, List.set_cons_succ]
    refine wpAnyH_take (i := 4) (oi := ({ dst := some 24, op := Op.load 3 (Operand.tmp 23), type := 3, pos := "rank.go:74", after := #[{ on := 3, ground := Ground.data }], guard := none } : Oper)) (v := ?_) rfl (by kernel_rfl) (by kernel_rfl) (by kernel_rfl) (fun _ _ _ h => h) (Or.inl ⟨by rfl, ?_⟩) hHeld ?_
    rotate_left
    · (intro w hSw; (try dsimp only at hSw); go_simp) <;> with_reducible rfl
    try simp only [Act.put, List.setIfInBounds_toArray, List.set_cons_zero, List.set_cons_succ]
    refine wpAnyH_ready (rs := [2]) (by kernel_rfl) (by simp) ?_
    refine AllReadyH.cons (o := ({ dst := some 22, op := Op.call { callee := Callee.value (Operand.func 28), args := #[Operand.tmp 20, Operand.tmp 21], argTypes := #[24, 3] }, type := 35, pos := "rank.go:74", after := #[{ on := 0, ground := Ground.data }, { on := 1, ground := Ground.data }], guard := none } : Oper)) rfl (fun K hK => ?_) AllReadyH.nil
    go_simp
    ((with_reducible refine (of_any t n s m A len c ps _ B HL.out hmax (prs_drew HPx.out) (le_drew hBx)).mono ?_); rintro e v1 ⟨A1, c1, rfl, hc1, ho1, hb1⟩)
    have HO1 := Lib.hid (Rd.own ho1)
    have HG1 := Lib.hid (HG.out.bl (Bl.undrew hb1))
    have HF1 := Lib.hid (HF.out.bl (Bl.undrew hb1))
    have HB1 := Lib.hid (HB.out.trans (Bl.undrew hb1))
    clear ho1 hb1
    go_wp2_with fail
    refine hK.out _ _ ⟨HG1.out.cell 0, HG1.out.cell 1, HG1.out.cell 2, HG1.out.cell 3, HF1.out.cell 0, HF1.out.cell 1⟩ (fun hHeld => ?_)
    clear hK K
    try simp only [Act.put, List.setIfInBounds_toArray, List.set_cons_zero, List.set_cons_succ]
    refine wpAnyH_ready (rs := [5]) (by kernel_rfl) (by simp) ?_
    refine AllReadyH.cons (o := ({ dst := some 25, op := Op.call { callee := Callee.value (Operand.func 27), args := #[Operand.tmp 22, Operand.tmp 24], argTypes := #[35, 3] }, type := 4, pos := "rank.go:74", after := #[{ on := 2, ground := Ground.data }, { on := 4, ground := Ground.data }, { on := 2, ground := Ground.chain }], guard := none } : Oper)) rfl (fun K hK => ?_) AllReadyH.nil
    go_simp
    ((with_reducible refine (contains_any A1 _ c1 (ns (ofK ps m ps.length)) xp v1 v1.heap.size rfl hol HO1.out).mono ?_); rintro e v2 ⟨rfl, rfl⟩)
    rw [HHas.out]
    go_wp2_with fail
    refine hK.out _ _ ⟨HG1.out.cell 0, HG1.out.cell 1, HG1.out.cell 2, HG1.out.cell 3, HF1.out.cell 0, HF1.out.cell 1⟩ (fun hHeld => ?_)
    clear hK K
    try simp only [Act.put, List.setIfInBounds_toArray, List.set_cons_zero, List.set_cons_succ]
    refine wpAnyH_take (i := 6) (oi := ({ dst := some 26, op := Op.move (Operand.tmp 25), type := 4, pos := "rank.go:74", after := #[{ on := 5, ground := Ground.data }, { on := 5, ground := Ground.chain }], guard := none } : Oper)) (v := ?_) rfl (by kernel_rfl) (by kernel_rfl) (by kernel_rfl) (fun _ _ _ h => h) (Or.inl ⟨by rfl, ?_⟩) hHeld ?_
    rotate_left
    · (intro w hSw; (try dsimp only at hSw); go_simp) <;> with_reducible rfl
    try simp only [Act.put, List.setIfInBounds_toArray, List.set_cons_zero, List.set_cons_succ]
    refine wpAnyH_take (i := 7) (oi := ({ dst := some 27, op := Op.fieldAddr 33 (Operand.tmp 9) 0, type := 0, pos := "rank.go:74", after := #[{ on := 6, ground := Ground.guard }], guard := some (6, true) } : Oper)) (v := undef) rfl (by kernel_rfl) (by kernel_rfl) (by kernel_rfl) (fun _ _ _ h => h) (Or.inr ⟨by rfl, rfl⟩) hHeld ?_
    try simp only [Act.put, List.setIfInBounds_toArray, List.set_cons_zero, List.set_cons_succ]
    refine wpAnyH_take (i := 8) (oi := ({ dst := some 28, op := Op.load 3 (Operand.tmp 27), type := 3, pos := "rank.go:74", after := #[{ on := 7, ground := Ground.data }, { on := 6, ground := Ground.guard }], guard := some (6, true) } : Oper)) (v := undef) rfl (by kernel_rfl) (by kernel_rfl) (by kernel_rfl) (fun _ _ _ h => h) (Or.inr ⟨by rfl, rfl⟩) hHeld ?_
    try simp only [Act.put, List.setIfInBounds_toArray, List.set_cons_zero, List.set_cons_succ]
    refine wpAnyH_take (i := 9) (oi := ({ dst := some 29, op := Op.fieldAddr 24 (Operand.tmp 4) 3, type := 0, pos := "rank.go:74", after := #[{ on := 6, ground := Ground.guard }], guard := some (6, true) } : Oper)) (v := undef) rfl (by kernel_rfl) (by kernel_rfl) (by kernel_rfl) (fun _ _ _ h => h) (Or.inr ⟨by rfl, rfl⟩) hHeld ?_
    try simp only [Act.put, List.setIfInBounds_toArray, List.set_cons_zero, List.set_cons_succ]
    refine wpAnyH_take (i := 10) (oi := ({ dst := some 30, op := Op.load 22 (Operand.tmp 29), type := 22, pos := "rank.go:74", after := #[{ on := 9, ground := Ground.data }, { on := 6, ground := Ground.guard }], guard := some (6, true) } : Oper)) (v := undef) rfl (by kernel_rfl) (by kernel_rfl) (by kernel_rfl) (fun _ _ _ h => h) (Or.inr ⟨by rfl, rfl⟩) hHeld ?_
    try simp only [Act.put, List.setIfInBounds_toArray, List.set_cons_zero, List.set_cons_succ]
    refine wpAnyH_take (i := 11) (oi := ({ dst := some 31, op := Op.fieldAddr 33 (Operand.tmp 9) 1, type := 0, pos := "rank.go:74", after := #[{ on := 6, ground := Ground.guard }], guard := some (6, true) } : Oper)) (v := undef) rfl (by kernel_rfl) (by kernel_rfl) (by kernel_rfl) (fun _ _ _ h => h) (Or.inr ⟨by rfl, rfl⟩) hHeld ?_
    try simp only [Act.put, List.setIfInBounds_toArray, List.set_cons_zero, List.set_cons_succ]
    refine wpAnyH_take (i := 12) (oi := ({ dst := some 32, op := Op.load 3 (Operand.tmp 31), type := 3, pos := "rank.go:74", after := #[{ on := 11, ground := Ground.data }, { on := 6, ground := Ground.guard }], guard := some (6, true) } : Oper)) (v := undef) rfl (by kernel_rfl) (by kernel_rfl) (by kernel_rfl) (fun _ _ _ h => h) (Or.inr ⟨by rfl, rfl⟩) hHeld ?_
    try simp only [Act.put, List.setIfInBounds_toArray, List.set_cons_zero, List.set_cons_succ]
    refine wpAnyH_take (i := 13) (oi := ({ dst := some 33, op := Op.indexAddr 22 (Operand.tmp 30) (Operand.tmp 32), type := 0, pos := "rank.go:74", after := #[{ on := 10, ground := Ground.data }, { on := 12, ground := Ground.data }, { on := 6, ground := Ground.guard }], guard := some (6, true) } : Oper)) (v := undef) rfl (by kernel_rfl) (by kernel_rfl) (by kernel_rfl) (fun _ _ _ h => h) (Or.inr ⟨by rfl, rfl⟩) hHeld ?_
    try simp only [Act.put, List.setIfInBounds_toArray, List.set_cons_zero, List.set_cons_succ]
    refine wpAnyH_take (i := 14) (oi := ({ dst := some 34, op := Op.fieldAddr 45 (Operand.tmp 33) 1, type := 0, pos := "rank.go:74", after := #[{ on := 13, ground := Ground.data }, { on := 6, ground := Ground.guard }], guard := some (6, true) } : Oper)) (v := undef) rfl (by kernel_rfl) (by kernel_rfl) (by kernel_rfl) (fun _ _ _ h => h) (Or.inr ⟨by rfl, rfl⟩) hHeld ?_
    try simp only [Act.put, List.setIfInBounds_toArray, List.set_cons_zero, List.set_cons_succ]
    refine wpAnyH_take (i := 15) (oi := ({ dst := some 35, op := Op.load 43 (Operand.tmp 34), type := 43, pos := "rank.go:74", after := #[{ on := 14, ground := Ground.data }, { on := 6, ground := Ground.guard }], guard := some (6, true) } : Oper)) (v := undef) rfl (by kernel_rfl) (by kernel_rfl) (by kernel_rfl) (fun _ _ _ h => h) (Or.inr ⟨by rfl, rfl⟩) hHeld ?_
    try simp only [Act.put, List.setIfInBounds_toArray, List.set_cons_zero, List.set_cons_succ]
    refine wpAnyH_take (i := 16) (oi := ({ dst := some 36, op := Op.move (Operand.tmp 1), type := 25, pos := "rank.go:74", after := #[{ on := 6, ground := Ground.guard }], guard := some (6, true) } : Oper)) (v := undef) rfl (by kernel_rfl) (by kernel_rfl) (by kernel_rfl) (fun _ _ _ h => h) (Or.inr ⟨by rfl, rfl⟩) hHeld ?_
    try simp only [Act.put, List.setIfInBounds_toArray, List.set_cons_zero, List.set_cons_succ]
    refine wpAnyH_take (i := 17) (oi := ({ dst := some 37, op := Op.move (Operand.tmp 3), type := 4, pos := "rank.go:74", after := #[{ on := 6, ground := Ground.guard }], guard := some (6, true) } : Oper)) (v := undef) rfl (by kernel_rfl) (by kernel_rfl) (by kernel_rfl) (fun _ _ _ h => h) (Or.inr ⟨by rfl, rfl⟩) hHeld ?_
    try simp only [Act.put, List.setIfInBounds_toArray, List.set_cons_zero, List.set_cons_succ]
    refine wpAnyH_take (i := 18) (oi := ({ dst := some 38, op := Op.call { callee := Callee.value (Operand.func 24), args := #[Operand.tmp 28, Operand.tmp 35, Operand.tmp 36, Operand.tmp 37], argTypes := #[3, 43, 25, 4] }, type := 4, pos := "rank.go:74", after := #[{ on := 8, ground := Ground.data }, { on := 15, ground := Ground.data }, { on := 16, ground := Ground.data }, { on := 17, ground := Ground.data }, { on := 6, ground := Ground.chain }, { on := 6, ground := Ground.guard }], guard := some (6, true) } : Oper)) (v := undef) rfl (by kernel_rfl) (by kernel_rfl) (by kernel_rfl) (fun _ _ _ h => h) (Or.inr ⟨by rfl, rfl⟩) hHeld ?_
    try simp only [Act.put, List.setIfInBounds_toArray, List.set_cons_zero, List.set_cons_succ]
    refine wpAnyH_take (i := 19) (oi := ({ dst := some 39, op := Op.pick (Operand.tmp 26) (Operand.tmp 38) (Operand.const (Value.bool false)), type := 4, pos := "rank.go:74", after := #[{ on := 6, ground := Ground.data }, { on := 18, ground := Ground.data }], guard := none } : Oper)) (v := ?_) rfl (by kernel_rfl) (by kernel_rfl) (by kernel_rfl) (fun _ _ _ h => h) (Or.inl ⟨by rfl, ?_⟩) hHeld ?_
    rotate_left
    · (intro w hSw; (try dsimp only at hSw); go_simp) <;> with_reducible rfl
    try simp only [Act.put, List.setIfInBounds_toArray, List.set_cons_zero, List.set_cons_succ]
    refine wpAnyH_take (i := 20) (oi := ({ dst := some 8, op := Op.assign (Operand.tmp 39), type := 4, pos := "rank.go:74", after := #[{ on := 19, ground := Ground.data }, { on := 18, ground := Ground.chain }, { on := 0, ground := Ground.phase }, { on := 1, ground := Ground.phase }, { on := 2, ground := Ground.phase }, { on := 3, ground := Ground.phase }, { on := 4, ground := Ground.phase }, { on := 5, ground := Ground.phase }, { on := 6, ground := Ground.phase }, { on := 7, ground := Ground.phase }, { on := 8, ground := Ground.phase }, { on := 9, ground := Ground.phase }, { on := 10, ground := Ground.phase }, { on := 11, ground := Ground.phase }, { on := 12, ground := Ground.phase }, { on := 13, ground := Ground.phase }, { on := 14, ground := Ground.phase }, { on := 15, ground := Ground.phase }, { on := 16, ground := Ground.phase }, { on := 17, ground := Ground.phase }, { on := 18, ground := Ground.phase }, { on := 19, ground := Ground.phase }], guard := none } : Oper)) (v := ?_) rfl (by kernel_rfl) (by kernel_rfl) (by kernel_rfl) (fun _ _ _ h => h) (Or.inl ⟨by rfl, ?_⟩) hHeld ?_
    rotate_left
    · (intro w hSw; (try dsimp only at hSw); go_simp) <;> with_reducible rfl
    try simp only [Act.put, List.setIfInBounds_toArray, List.set_cons_zero, List.set_cons_succ]
    refine wpAnyH_done (by kernel_rfl) ?_ _
    go_wp2_with fail
    go_ret
    exact ⟨by rw [HV.out]; rfl, HB1.out⟩
  | true =>
    rw [hh] at HHas HV
    obtain ⟨k, rfl, hk, _⟩ := hasPr_some hh
    obtain ⟨b, off, Ax, cx, rfl, hbB, hrx, hc0, hc1⟩ := HA.out.at_ hk
    rw [rightOf_at hk] at HV
    obtain ⟨hrl8, hrs⟩ := HSy.out k hk
    have HS := Lib.hid hrs
    have HPc : Hid (∀ W : World, Bl w W → W.cell? ⟨b, off + k * 2 + 1, none⟩ = some (.slice Ax ps[k].right.length cx)) := fun W hb => (Below.cell hb (p := ⟨b, off + k * 2 + 1, none⟩) (by show b < _; omega)).trans hc1
    have HRx : Hid (∀ W : World, Bl w W → Rd W B Ax (syRow ps[k].right)) := fun W hb => hrx.bl hB hb
    have hrl : ps[k].right.length ≤ 1000000000 := by omega
    have hkl : k < len := by have := HL.out; omega
    clear hrx hc0 hc1 hrs hh hrl8 HSy
    generalize ps[k].right = right at *
    skip
    go_enter Try.func19, Try.ntmps19
    go_wp2_with fail
    refine wp_region_held_drew (S := (fun w' => w'.cell? ⟨w.heap.size, 0, none⟩ = some (.int .i64 t) ∧ w'.cell? ⟨w.heap.size, 1, none⟩ = some (.int .i64 n) ∧ w'.cell? ⟨w.heap.size, 2, none⟩ = some (.int .i64 s) ∧ w'.cell? ⟨w.heap.size, 3, none⟩ = some (.slice (some ⟨b, off, none⟩) len c) ∧ w'.cell? ⟨w.heap.size + 1, 0, none⟩ = some (.int .i64 xr) ∧ w'.cell? ⟨w.heap.size + 1, 1, none⟩ = some (.int .i64 k) ∧ w'.cell? ⟨b, off + k * 2 + 1, none⟩ = some (.slice Ax right.length cx))) (by kernel_rfl) ⟨HG.out.cell 0, HG.out.cell 1, HG.out.cell 2, HG.out.cell 3, HF.out.cell 0, HF.out.cell 1, HPc.out _ HB.out.drew⟩ (fun hHeld => ?_)
    refine wpAnyH_take (i := 0) (oi := ({ dst := some 20, op := Op.load 24 (Operand.tmp 4), type := 24, pos := "rank.go:74", after := #[], guard := none } : Oper)) (v := ?_) rfl (by kernel_rfl) (by kernel_rfl) (by kernel_rfl) (fun _ _ _ h => h) (Or.inl ⟨by rfl, ?_⟩) hHeld ?_
    rotate_left
    · (intro w hSw; (try dsimp only at hSw); go_simp) <;> with_reducible rfl
    try simp only [Act.put, List.setIfInBounds_toArray, List.set_cons_zero, List.set_cons_succ]
    refine wpAnyH_take (i := 1) (oi := ({ dst := some 21, op := Op.move (Operand.tmp 2), type := 3, pos := "rank.go:74", after := #[], guard := none } : Oper)) (v := ?_) rfl (by kernel_rfl) (by kernel_rfl) (by kernel_rfl) (fun _ _ _ h => h) (Or.inl ⟨by rfl, ?_⟩) hHeld ?_
    rotate_left
    · (intro w hSw; (try dsimp only at hSw); go_simp) <;> with_reducible rfl
    try simp only [Act.put, List.setIfInBounds_toArray, List.set_cons_zero, List.set_cons_succ]
    refine wpAnyH_take (i := 3) (oi := ({ dst := some 23, op := Op.fieldAddr 33 (Operand.tmp 9) 1, type := 0, pos := "rank.go:74", after := #[], guard := none } : Oper)) (v := ?_) rfl (by kernel_rfl) (by kernel_rfl) (by kernel_rfl) (fun _ _ _ h => h) (Or.inl ⟨by rfl, ?_⟩) hHeld ?_
    rotate_left
    · (intro w hSw; (try dsimp only at hSw); go_simp) <;> with_reducible rfl
    try simp only [Act.put, List.setIfInBounds_toArray, List.set_cons_zero, List.set_cons_succ]
    refine wpAnyH_take (i := 4) (oi := ({ dst := some 24, op := Op.load 3 (Operand.tmp 23), type := 3, pos := "rank.go:74", after := #[{ on := 3, ground := Ground.data }], guard := none } : Oper)) (v := ?_) rfl (by kernel_rfl) (by kernel_rfl) (by kernel_rfl) (fun _ _ _ h => h) (Or.inl ⟨by rfl, ?_⟩) hHeld ?_
    rotate_left
    · (intro w hSw; (try dsimp only at hSw); go_simp) <;> with_reducible rfl
    try simp only [Act.put, List.setIfInBounds_toArray, List.set_cons_zero, List.set_cons_succ]
    refine wpAnyH_ready (rs := [2]) (by kernel_rfl) (by simp) ?_
    refine AllReadyH.cons (o := ({ dst := some 22, op := Op.call { callee := Callee.value (Operand.func 28), args := #[Operand.tmp 20, Operand.tmp 21], argTypes := #[24, 3] }, type := 35, pos := "rank.go:74", after := #[{ on := 0, ground := Ground.data }, { on := 1, ground := Ground.data }], guard := none } : Oper)) rfl (fun K hK => ?_) AllReadyH.nil
    go_simp
    ((with_reducible refine (of_any t n s m (some ⟨b, off, none⟩) len c ps _ B HL.out hmax (prs_drew HPx.out) (le_drew hBx)).mono ?_); rintro e v1 ⟨A1, c1, rfl, hc1, ho1, hb1⟩)
    have HO1 := Lib.hid (Rd.own ho1)
    have HG1 := Lib.hid (HG.out.bl (Bl.undrew hb1))
    have HF1 := Lib.hid (HF.out.bl (Bl.undrew hb1))
    have HB1 := Lib.hid (HB.out.trans (Bl.undrew hb1))
    clear ho1 hb1
    go_wp2_with fail
    refine hK.out _ _ ⟨HG1.out.cell 0, HG1.out.cell 1, HG1.out.cell 2, HG1.out.cell 3, HF1.out.cell 0, HF1.out.cell 1, HPc.out _ HB1.out⟩ (fun hHeld => ?_)
    clear hK K
    try simp only [Act.put, List.setIfInBounds_toArray, List.set_cons_zero, List.set_cons_succ]
    refine wpAnyH_ready (rs := [5]) (by kernel_rfl) (by simp) ?_
    refine AllReadyH.cons (o := ({ dst := some 25, op := Op.call { callee := Callee.value (Operand.func 27), args := #[Operand.tmp 22, Operand.tmp 24], argTypes := #[35, 3] }, type := 4, pos := "rank.go:74", after := #[{ on := 2, ground := Ground.data }, { on := 4, ground := Ground.data }, { on := 2, ground := Ground.chain }], guard := none } : Oper)) rfl (fun K hK => ?_) AllReadyH.nil
    go_simp
    ((with_reducible refine (contains_any A1 _ c1 (ns (ofK ps m ps.length)) k v1 v1.heap.size rfl hol HO1.out).mono ?_); rintro e v2 ⟨rfl, rfl⟩)
    rw [HHas.out]
    go_wp2_with fail
    refine hK.out _ _ ⟨HG1.out.cell 0, HG1.out.cell 1, HG1.out.cell 2, HG1.out.cell 3, HF1.out.cell 0, HF1.out.cell 1, HPc.out _ HB1.out⟩ (fun hHeld => ?_)
    clear hK K
    try simp only [Act.put, List.setIfInBounds_toArray, List.set_cons_zero, List.set_cons_succ]
    refine wpAnyH_take (i := 6) (oi := ({ dst := some 26, op := Op.move (Operand.tmp 25), type := 4, pos := "rank.go:74", after := #[{ on := 5, ground := Ground.data }, { on := 5, ground := Ground.chain }], guard := none } : Oper)) (v := ?_) rfl (by kernel_rfl) (by kernel_rfl) (by kernel_rfl) (fun _ _ _ h => h) (Or.inl ⟨by rfl, ?_⟩) hHeld ?_
    rotate_left
    · (intro w hSw; (try dsimp only at hSw); go_simp) <;> with_reducible rfl
    try simp only [Act.put, List.setIfInBounds_toArray, List.set_cons_zero, List.set_cons_succ]
    refine wpAnyH_take (i := 7) (oi := ({ dst := some 27, op := Op.fieldAddr 33 (Operand.tmp 9) 0, type := 0, pos := "rank.go:74", after := #[{ on := 6, ground := Ground.guard }], guard := some (6, true) } : Oper)) (v := ?_) rfl (by kernel_rfl) (by kernel_rfl) (by kernel_rfl) (fun _ _ _ h => h) (Or.inl ⟨by rfl, ?_⟩) hHeld ?_
    rotate_left
    · (intro w hSw; (try dsimp only at hSw); go_simp) <;> with_reducible rfl
    try simp only [Act.put, List.setIfInBounds_toArray, List.set_cons_zero, List.set_cons_succ]
    refine wpAnyH_take (i := 8) (oi := ({ dst := some 28, op := Op.load 3 (Operand.tmp 27), type := 3, pos := "rank.go:74", after := #[{ on := 7, ground := Ground.data }, { on := 6, ground := Ground.guard }], guard := some (6, true) } : Oper)) (v := ?_) rfl (by kernel_rfl) (by kernel_rfl) (by kernel_rfl) (fun _ _ _ h => h) (Or.inl ⟨by rfl, ?_⟩) hHeld ?_
    rotate_left
    · (intro w hSw; (try dsimp only at hSw); go_simp) <;> with_reducible rfl
    try simp only [Act.put, List.setIfInBounds_toArray, List.set_cons_zero, List.set_cons_succ]
    refine wpAnyH_take (i := 9) (oi := ({ dst := some 29, op := Op.fieldAddr 24 (Operand.tmp 4) 3, type := 0, pos := "rank.go:74", after := #[{ on := 6, ground := Ground.guard }], guard := some (6, true) } : Oper)) (v := ?_) rfl (by kernel_rfl) (by kernel_rfl) (by kernel_rfl) (fun _ _ _ h => h) (Or.inl ⟨by rfl, ?_⟩) hHeld ?_
    rotate_left
    · (intro w hSw; (try dsimp only at hSw); go_simp) <;> with_reducible rfl
    try simp only [Act.put, List.setIfInBounds_toArray, List.set_cons_zero, List.set_cons_succ]
    refine wpAnyH_take (i := 10) (oi := ({ dst := some 30, op := Op.load 22 (Operand.tmp 29), type := 22, pos := "rank.go:74", after := #[{ on := 9, ground := Ground.data }, { on := 6, ground := Ground.guard }], guard := some (6, true) } : Oper)) (v := ?_) rfl (by kernel_rfl) (by kernel_rfl) (by kernel_rfl) (fun _ _ _ h => h) (Or.inl ⟨by rfl, ?_⟩) hHeld ?_
    rotate_left
    · (intro w hSw; (try dsimp only at hSw); go_simp) <;> with_reducible rfl
    try simp only [Act.put, List.setIfInBounds_toArray, List.set_cons_zero, List.set_cons_succ]
    refine wpAnyH_take (i := 11) (oi := ({ dst := some 31, op := Op.fieldAddr 33 (Operand.tmp 9) 1, type := 0, pos := "rank.go:74", after := #[{ on := 6, ground := Ground.guard }], guard := some (6, true) } : Oper)) (v := ?_) rfl (by kernel_rfl) (by kernel_rfl) (by kernel_rfl) (fun _ _ _ h => h) (Or.inl ⟨by rfl, ?_⟩) hHeld ?_
    rotate_left
    · (intro w hSw; (try dsimp only at hSw); go_simp) <;> with_reducible rfl
    try simp only [Act.put, List.setIfInBounds_toArray, List.set_cons_zero, List.set_cons_succ]
    refine wpAnyH_take (i := 12) (oi := ({ dst := some 32, op := Op.load 3 (Operand.tmp 31), type := 3, pos := "rank.go:74", after := #[{ on := 11, ground := Ground.data }, { on := 6, ground := Ground.guard }], guard := some (6, true) } : Oper)) (v := ?_) rfl (by kernel_rfl) (by kernel_rfl) (by kernel_rfl) (fun _ _ _ h => h) (Or.inl ⟨by rfl, ?_⟩) hHeld ?_
    rotate_left
    · (intro w hSw; (try dsimp only at hSw); go_simp) <;> with_reducible rfl
    try simp only [Act.put, List.setIfInBounds_toArray, List.set_cons_zero, List.set_cons_succ]
    refine wpAnyH_take (i := 13) (oi := ({ dst := some 33, op := Op.indexAddr 22 (Operand.tmp 30) (Operand.tmp 32), type := 0, pos := "rank.go:74", after := #[{ on := 10, ground := Ground.data }, { on := 12, ground := Ground.data }, { on := 6, ground := Ground.guard }], guard := some (6, true) } : Oper)) (v := ?_) rfl (by kernel_rfl) (by kernel_rfl) (by kernel_rfl) (fun _ _ _ h => h) (Or.inl ⟨by rfl, ?_⟩) hHeld ?_
    rotate_left
    · (intro w hSw; (try dsimp only at hSw); go_simp) <;> with_reducible rfl
    try simp only [Act.put, List.setIfInBounds_toArray, List.set_cons_zero, List.set_cons_succ]
    refine wpAnyH_take (i := 14) (oi := ({ dst := some 34, op := Op.fieldAddr 45 (Operand.tmp 33) 1, type := 0, pos := "rank.go:74", after := #[{ on := 13, ground := Ground.data }, { on := 6, ground := Ground.guard }], guard := some (6, true) } : Oper)) (v := ?_) rfl (by kernel_rfl) (by kernel_rfl) (by kernel_rfl) (fun _ _ _ h => h) (Or.inl ⟨by rfl, ?_⟩) hHeld ?_
    rotate_left
    · (intro w hSw; (try dsimp only at hSw); go_simp) <;> with_reducible rfl
    try simp only [Act.put, List.setIfInBounds_toArray, List.set_cons_zero, List.set_cons_succ]
    refine wpAnyH_take (i := 15) (oi := ({ dst := some 35, op := Op.load 43 (Operand.tmp 34), type := 43, pos := "rank.go:74", after := #[{ on := 14, ground := Ground.data }, { on := 6, ground := Ground.guard }], guard := some (6, true) } : Oper)) (v := ?_) rfl (by kernel_rfl) (by kernel_rfl) (by kernel_rfl) (fun _ _ _ h => h) (Or.inl ⟨by rfl, ?_⟩) hHeld ?_
    rotate_left
    · (intro w hSw; (try dsimp only at hSw); go_simp) <;> with_reducible rfl
    try simp only [Act.put, List.setIfInBounds_toArray, List.set_cons_zero, List.set_cons_succ]
    refine wpAnyH_take (i := 16) (oi := ({ dst := some 36, op := Op.move (Operand.tmp 1), type := 25, pos := "rank.go:74", after := #[{ on := 6, ground := Ground.guard }], guard := some (6, true) } : Oper)) (v := ?_) rfl (by kernel_rfl) (by kernel_rfl) (by kernel_rfl) (fun _ _ _ h => h) (Or.inl ⟨by rfl, ?_⟩) hHeld ?_
    rotate_left
    · (intro w hSw; (try dsimp only at hSw); go_simp) <;> with_reducible rfl
    try simp only [Act.put, List.setIfInBounds_toArray, List.set_cons_zero, List.set_cons_succ]
    refine wpAnyH_take (i := 17) (oi := ({ dst := some 37, op := Op.move (Operand.tmp 3), type := 4, pos := "rank.go:74", after := #[{ on := 6, ground := Ground.guard }], guard := some (6, true) } : Oper)) (v := ?_) rfl (by kernel_rfl) (by kernel_rfl) (by kernel_rfl) (fun _ _ _ h => h) (Or.inl ⟨by rfl, ?_⟩) hHeld ?_
    rotate_left
    · (intro w hSw; (try dsimp only at hSw); go_simp) <;> with_reducible rfl
    try simp only [Act.put, List.setIfInBounds_toArray, List.set_cons_zero, List.set_cons_succ]
    refine wpAnyH_ready (rs := [18]) (by kernel_rfl) (by simp) ?_
    refine AllReadyH.cons (o := ({ dst := some 38, op := Op.call { callee := Callee.value (Operand.func 24), args := #[Operand.tmp 28, Operand.tmp 35, Operand.tmp 36, Operand.tmp 37], argTypes := #[3, 43, 25, 4] }, type := 4, pos := "rank.go:74", after := #[{ on := 8, ground := Ground.data }, { on := 15, ground := Ground.data }, { on := 16, ground := Ground.data }, { on := 17, ground := Ground.data }, { on := 6, ground := Ground.chain }, { on := 6, ground := Ground.guard }], guard := some (6, true) } : Oper)) rfl (fun K hK => ?_) AllReadyH.nil
    go_simp
    ((with_reducible refine (leans_any xr Ax right.length cx right (some ⟨bf, off2, none⟩) lf cf l terms v1 B rfl hrl (HRx.out v1 HB1.out) HLF.out (HFl.out v1 HB1.out) (Nat.le_trans hB (bl_size HB1.out)) HS.out).mono ?_); rintro e v3 ⟨rfl, hb3⟩)
    have HG1 := Lib.hid (HG1.out.bl hb3)
    have HF1 := Lib.hid (HF1.out.bl hb3)
    have HB1 := Lib.hid (HB1.out.trans hb3)
    clear hb3
    go_wp2_with fail
    refine hK.out _ _ ⟨HG1.out.cell 0, HG1.out.cell 1, HG1.out.cell 2, HG1.out.cell 3, HF1.out.cell 0, HF1.out.cell 1, HPc.out _ HB1.out⟩ (fun hHeld => ?_)
    clear hK K
    try simp only [Act.put, List.setIfInBounds_toArray, List.set_cons_zero, List.set_cons_succ]
    refine wpAnyH_take (i := 19) (oi := ({ dst := some 39, op := Op.pick (Operand.tmp 26) (Operand.tmp 38) (Operand.const (Value.bool false)), type := 4, pos := "rank.go:74", after := #[{ on := 6, ground := Ground.data }, { on := 18, ground := Ground.data }], guard := none } : Oper)) (v := ?_) rfl (by kernel_rfl) (by kernel_rfl) (by kernel_rfl) (fun _ _ _ h => h) (Or.inl ⟨by rfl, ?_⟩) hHeld ?_
    rotate_left
    · (intro w hSw; (try dsimp only at hSw); go_simp) <;> with_reducible rfl
    try simp only [Act.put, List.setIfInBounds_toArray, List.set_cons_zero, List.set_cons_succ]
    refine wpAnyH_take (i := 20) (oi := ({ dst := some 8, op := Op.assign (Operand.tmp 39), type := 4, pos := "rank.go:74", after := #[{ on := 19, ground := Ground.data }, { on := 18, ground := Ground.chain }, { on := 0, ground := Ground.phase }, { on := 1, ground := Ground.phase }, { on := 2, ground := Ground.phase }, { on := 3, ground := Ground.phase }, { on := 4, ground := Ground.phase }, { on := 5, ground := Ground.phase }, { on := 6, ground := Ground.phase }, { on := 7, ground := Ground.phase }, { on := 8, ground := Ground.phase }, { on := 9, ground := Ground.phase }, { on := 10, ground := Ground.phase }, { on := 11, ground := Ground.phase }, { on := 12, ground := Ground.phase }, { on := 13, ground := Ground.phase }, { on := 14, ground := Ground.phase }, { on := 15, ground := Ground.phase }, { on := 16, ground := Ground.phase }, { on := 17, ground := Ground.phase }, { on := 18, ground := Ground.phase }, { on := 19, ground := Ground.phase }], guard := none } : Oper)) (v := ?_) rfl (by kernel_rfl) (by kernel_rfl) (by kernel_rfl) (fun _ _ _ h => h) (Or.inl ⟨by rfl, ?_⟩) hHeld ?_
    rotate_left
    · (intro w hSw; (try dsimp only at hSw); go_simp) <;> with_reducible rfl
    try simp only [Act.put, List.setIfInBounds_toArray, List.set_cons_zero, List.set_cons_succ]
    refine wpAnyH_done (by kernel_rfl) ?_ _
    go_wp2_with fail
    go_ret
    exact ⟨by rw [HV.out]; rfl, HB1.out⟩

set_option maxRecDepth 100000 in
set_option maxHeartbeats 2000000 in
theorem shows_any (t n s : Int) (A : Option Addr) (len c : Nat) (ps : List Gr.Pr) (Af : Option Addr) (lf cf : Nat) (l : List Fc) (terms : Bool) (w : World) (B : Nat)
    (hlen : len = ps.length) (hmax : len ≤ 9223372036854775807) (hr : Prs w B A ps) (hlf : lf = l.length) (hmf : lf ≤ 9223372036854775807) (hrl : Rd w B Af (fcRow l)) (hB : B ≤ w.heap.size) :
    Calls Try.prog 12 #[.agg #[.int .i64 t, .int .i64 n, .int .i64 s, .slice A len c], .slice Af lf cf, .bool terms] w fun e w' =>
      e = .returned (.bool (showsB terms ⟨t, n, s, ps⟩ l)) ∧ Bl w w' := by
  have HL := Lib.hid hlen; clear hlen
  have HA := Lib.hid hr; clear hr
  have HLF := Lib.hid hlf; clear hlf
  have HF := Lib.hid hrl; clear hrl
  have HB : Hid (Bl w (w.alloc (.cells #[.int .i64 t, .int .i64 n, .int .i64 s, .slice A len c] 24))) := (Bl.refl w).alloc _
  have HG : Hid (Bk (w.alloc (.cells #[.int .i64 t, .int .i64 n, .int .i64 s, .slice A len c] 24)) w.heap.size 24 #[.int .i64 t, .int .i64 n, .int .i64 s, .slice A len c]) := Bk.new w _ _
  go_enter Try.func12, Try.ntmps12
  go_wp2_with fail
  refine (right_any t n s A len c ps _ B HL.out hmax (HA.out.bl hB HB.out) (Nat.le_trans hB HB.out.size)).mono ?_
  rintro e w1 ⟨rfl, hb1⟩
  have HB1 := Lib.hid (HB.out.trans hb1)
  have HG1 := Lib.hid (HG.out.bl hb1)
  clear hb1
  cases hok : okB ⟨t, n, s, ps⟩ with
  | false =>
    have HV := Lib.hid (showsB_bad (terms := terms) (l := l) hok)
    clear hok
    go_wp2_with fail
    go_ret
    exact ⟨by rw [HV.out]; rfl, HB1.out⟩
  | true =>
    have HOK := Lib.hid hok; clear hok
    have g0 : w1.cell? ⟨w.heap.size, 0, none⟩ = some (.int .i64 t) := HG1.out.cell 0
    have g1 : w1.cell? ⟨w.heap.size, 1, none⟩ = some (.int .i64 n) := HG1.out.cell 1
    have glt : w.heap.size < w1.heap.size := HG1.out.lt
    by_cases hne : (lf : Int) = n
    · have hq : ((lf : Int) != n) = false := by simpa using hne
      have HN : Hid ((l.length : Int) = n) := by have := HLF.out; show (l.length : Int) = n; omega
      clear hne
      go_wp2_with fail
      clear g0 g1 glt hq
      go_loopw [20] (fun i wr => ∃ k : Nat, k ≤ lf ∧ i = .int .i64 k ∧ Hid (showTo terms ps l k) ∧ Hid (Bl w1 wr)) (fun i _ => lf - (intOf i).toNat)
      case atStart => exact ⟨0, Nat.zero_le _, rfl, showTo_zero, Bl.refl _⟩
      case round =>
        obtain ⟨k, hk, rfl, HT, HBr⟩ := hrel
        by_cases hlt : k < lf
        · have hj : k < l.length := by have := HLF.out; omega
          have HKr := Lib.hid (HG1.out.bl HBr.out)
          have g0 : wr.cell? ⟨w.heap.size, 0, none⟩ = some (.int .i64 t) := HKr.out.cell 0
          have g1 : wr.cell? ⟨w.heap.size, 1, none⟩ = some (.int .i64 n) := HKr.out.cell 1
          have g2 : wr.cell? ⟨w.heap.size, 2, none⟩ = some (.int .i64 s) := HKr.out.cell 2
          have g3 : wr.cell? ⟨w.heap.size, 3, none⟩ = some (.slice A len c) := HKr.out.cell 3
          have glt : w.heap.size < wr.heap.size := HKr.out.lt
          have HBw := Lib.hid (HB1.out.trans HBr.out)
          have HGood := Lib.hid (showTo_succ HT.out hj)
          have HBad := Lib.hid (fun h => showsB_one (t := t) (n := n) (s := s) (terms := terms) (ps := ps) hj h)
          have HCall := Lib.hid (showsOne_any t n s A len c ps Af lf cf l k terms wr B HL.out HOK.out (HA.out.bl hB HBw.out) HLF.out (HF.out.bl hB HBw.out) (Nat.le_trans hB HBw.out.size) hj HN.out)
          go_wp2_with fail
          refine HCall.out.mono ?_
          rintro e w2 ⟨rfl, hb2⟩
          have HB2 := Lib.hid (HBr.out.trans hb2); clear hb2 HCall
          cases hv : showOne terms ps l (k : Int) l[k] with
          | true =>
            have HX := Lib.hid (HGood.out hv)
            clear hv
            go_wp2_with fail
            go_roundw
            case rel => exact ⟨k + 1, by omega, by go_num, HX.out, HB2.out⟩
            case measure => simp [intOf]; omega
          | false =>
            have HX := Lib.hid (HBad.out hv)
            clear hv
            go_wp2_with fail
            go_ret
            exact ⟨by rw [HX.out]; rfl, HB1.out.trans HB2.out⟩
        · have HX : Hid (showsB terms ⟨t, n, s, ps⟩ l = true) := showsB_all HOK.out HN.out (by
            have h := HT.out
            rwa [show k = l.length by have := HLF.out; omega] at h)
          go_wp2_with fail
          go_ret
          exact ⟨by rw [HX.out]; rfl, HB1.out.trans HBr.out⟩
    · have hq : ((lf : Int) != n) = true := by simpa using hne
      have HV : Hid (showsB terms ⟨t, n, s, ps⟩ l = false) := showsB_len (by have := HLF.out; omega)
      clear hne
      go_wp2_with fail
      go_ret
      exact ⟨by rw [HV.out]; rfl, HB1.out⟩
end Go.Proofs.Ytmclegbobjkpjaa
