/- What a node of the reference is in memory. -/
import Derived.Test.YtdfhhbncmdpoeaaTreeB
import Derived.Test.YtdfhhbncmdpoeaaTMc
import Derived.Test.YtdfhhbncmdpoeaaRefT
import Derived.Deep.AppendLies
import Derived.Deep.QuietTactic
import Derived.BigQuiet
namespace Go.Proofs.Ytdfhhbncmdpoeaa
open Go.RowKit

theorem tp_rnode : (Try.prog.info? 65).map (fun i => (i.zero, i.size, i.bytes)) = some (some (.agg #[.int .i64 0, .slice none 0 0]), 2, 32) := by kernel_rfl
end Go.Proofs.Ytdfhhbncmdpoeaa
/- The reference's build: the nodes of a nonterminal, by recursion. -/
namespace Go.Proofs.Ytdfhhbncmdpoeaa
open Go.RowKit
open Al (No Nd)

theorem tb_int : (Try.prog.info? 3).map (fun i => (i.zero, i.size, i.bytes)) = some (some (.int .i64 0), 1, 8) := by kernel_rfl
/-- A node as the words say it. -/
def ndOf (x : No) : Int × List Int := ((x.prod : Int), Dv.atOf x)
/-- A node's places lie in a block of ints, not below lo, of which P holds. -/
def AtK (w : World) (lo : Nat) (h : Nh) (P : Nat → Prop) : Prop :=
  ∃ b off, h.at_ = some ⟨b, off, none⟩ ∧ lo ≤ b ∧ Ty w b 3 ∧ P b ∧ ∀ j u, (ins h.row)[j]? = some u → w.cell? ⟨b, off + j, none⟩ = some u
theorem Ty.lt {w : World} {k : Nat} {t : TypeId} (h : Ty w k t) : k < w.heap.size := by obtain ⟨_, _, h⟩ := h; exact heap_lt h
theorem AtK.keep {w w' : World} {lo lo' : Nat} {h : Nh} {P P' : Nat → Prop} (hk : AtK w lo h P) (hl : ∀ b, lo ≤ b → lo' ≤ b) (hb : ∀ b, Ty w b 3 → P b → lo ≤ b → w'.heap[b]? = w.heap[b]? ∧ P' b) : AtK w' lo' h P' := by
  obtain ⟨b, off, h1, h2, h3, h4, h5⟩ := hk
  obtain ⟨e, hp⟩ := hb b h3 h4 h2
  refine ⟨b, off, h1, hl b h2, ?_, hp, fun j u hu => (World.cell?_of_block e).trans (h5 j u hu)⟩
  obtain ⟨cs, fr, h3⟩ := h3
  exact ⟨cs, fr, e.trans h3⟩

/-- A nonterminal's nodes on their way: the row of nodes, and the node's own places so far. -/
structure BSt (w0 : World) (lo : Nat) (v0 : Value) (cells : List Value) (idx : Int) (hs : List Nh) (v : Value) (n : Nat) (vp : Value) (k : Nat) (pd : List Int) (gb : Nat) (G : Array Value) (w : World) : Prop where
  own : w.ownsRow lo 65 2 v n (cells ++ nhRow (⟨idx, [], none, 0⟩ :: hs))
  pl : w.ownsRow w0.heap.size 3 1 vp k (ins pd)
  fr : Fr (fun k => v0.ownBlock = some k) w0 w
  old : ∀ k, k < w0.heap.size → v.ownBlock = some k → v0.ownBlock = some k
  at_ : ∀ h ∈ hs, AtK w w0.heap.size h fun b => vp.ownBlock ≠ some b
  bg : Bk w gb 24 G
section
variable {w0 w w1 w2 : World} {lo : Nat} {v0 v v2 vp vp2 : Value} {cells : List Value} {idx : Int} {hs hs2 : List Nh} {n n2 k gb : Nat} {pd : List Int} {G : Array Value}
theorem BSt.bl (h : BSt w0 lo v0 cells idx hs v n vp k pd gb G w) (hb : Bl w w1) : BSt w0 lo v0 cells idx hs v n vp k pd gb G w1 :=
  ⟨own_bl h.own hb, own_bl h.pl hb, h.fr.after hb, h.old, fun x hx => (h.at_ x hx).keep (fun _ h => h) fun b hT hp _ => ⟨hb.block b hT.lt, hp⟩, h.bg.bl hb⟩
theorem BSt.place (h : BSt w0 lo v0 cells idx hs v n vp k pd gb G w) {x : Int} {g : Nat} (hb : Bl w w1) (ho : w2.ownsRow w0.heap.size 3 1 vp2 (k + 1) (ins (pd ++ [x]))) (hg : w1.grownBy w2 vp.ownBlock) (hv : vp2.ownBlock = some g) (hl : vp.ownBlock = some g ∨ g = w1.heap.size) :
    BSt w0 lo v0 cells idx hs v n vp2 (k + 1) (pd ++ [x]) gb G w2 := by
  have hf := grow_fr hb hg
  have no : ∀ t, t ≠ 3 → ∀ k, vp.ownBlock = some k → Ty w k t → False := fun t ht k hk hT => hT.ne (own_ty h.pl hk) ht
  refine ⟨own_fr h.own hf fun k hk hs => no _ (by decide) k hs (own_ty h.own hk), ho, h.fr.trans hf fun i hi hs => absurd (h.pl.lt i hs).1 (by omega), h.old, fun y hy => (h.at_ y hy).keep (fun _ h => h) fun b hT hp _ => ⟨hf.block b hT.lt hp, fun e => ?_⟩, h.bg.fr hf fun hs => no _ (by decide) _ hs h.bg.ty⟩
  rw [hv] at e
  injection e with e
  subst e
  rcases hl with hl | hl
  · exact hp hl
  · have := hT.lt
    have := hb.size
    omega
theorem BSt.more (h : BSt w0 lo v0 cells idx hs v n vp k pd gb G w) (ho : w2.ownsRow lo 65 2 v2 n2 ((cells ++ nhRow (⟨idx, [], none, 0⟩ :: hs)) ++ nhRow hs2)) (hf : Fr (fun k => v.ownBlock = some k) w w2) (hold : ∀ k, k < w.heap.size → v2.ownBlock = some k → v.ownBlock = some k)
    (ha : ∀ h ∈ hs2, AtK w2 w.heap.size h fun _ => True) : BSt w0 lo v0 cells idx (hs ++ hs2) v2 n2 vp k pd gb G w2 := by
  have no : ∀ t, t ≠ 65 → ∀ k, v.ownBlock = some k → Ty w k t → False := fun t ht k hk hT => hT.ne (own_ty h.own hk) ht
  refine ⟨?_, own_fr h.pl hf fun k hk hs => no _ (by decide) k hs (own_ty h.pl hk), h.fr.trans hf fun i hi hs => h.old i hi hs, fun k hk hs => h.old k hk (hold k (Nat.lt_of_lt_of_le hk h.fr.size) hs), fun x hx => ?_, h.bg.fr hf fun hs => no _ (by decide) _ hs h.bg.ty⟩
  · have e : cells ++ nhRow (⟨idx, [], none, 0⟩ :: (hs ++ hs2)) = (cells ++ nhRow (⟨idx, [], none, 0⟩ :: hs)) ++ nhRow hs2 := by
      rw [← List.cons_append, nhRow_append, List.append_assoc]
    rw [e]
    exact ho
  · rcases List.mem_append.1 hx with hx | hx
    · exact (h.at_ x hx).keep (fun _ h => h) fun b hT hp _ => ⟨hf.block b hT.lt fun hs => no _ (by decide) b hs hT, hp⟩
    · have hsz := h.fr.size
      obtain ⟨b, off, h1, h2, h3, _, h5⟩ := ha x hx
      exact ⟨b, off, h1, by omega, h3, fun e => by have := (h.pl.lt b e).2; omega, h5⟩
end
/-- What build leaves. -/
def BPost (lo : Nat) (v0 : Value) (no : Nat) (cells : List Value) (nds : List (Int × List Int)) (i b : Nat) (w : World) (e : Ending) (w' : World) : Prop :=
  ∃ (A : Option Addr) (m c : Nat) (hs : List Nh), e = .returned (.tuple #[.slice A m c, .int .i64 i, .int .i64 b]) ∧ m = no + hs.length ∧ hs.map Nh.nd = nds ∧ w'.ownsRow lo 65 2 (.slice A m c) m (cells ++ nhRow hs) ∧
    Fr (fun k => v0.ownBlock = some k) w w' ∧ (∀ k, k < w.heap.size → (Value.slice A m c).ownBlock = some k → v0.ownBlock = some k) ∧ ∀ h ∈ hs, AtK w' w.heap.size h fun _ => True
theorem BSt.fin {w0 w : World} {lo : Nat} {v0 : Value} {cells : List Value} {idx : Int} {hs : List Nh} {n no k q cq gv cv gb i b : Nat} {pd : List Int} {G : Array Value} {nds : List (Int × List Int)}
    (h : BSt w0 lo v0 cells idx hs (.slice (some ⟨gv, 0, none⟩) n cv) n (.slice (some ⟨q, 0, none⟩) k cq) k pd gb G w) (hc : cells.length = no * 2) (hn : n = no + 1 + hs.length) (hk : k = pd.length) (hnd : (idx, pd) :: hs.map Nh.nd = nds) :
    BPost lo v0 no cells nds i b w0 (.returned (.tuple #[.slice (some ⟨gv, 0, none⟩) n cv, .int .i64 i, .int .i64 b])) (w.setCell ⟨gv, no * 2 + 1, none⟩ (.slice (some ⟨q, 0, none⟩) k cq)) := by
  subst hk
  have hf : Fr (fun k => k = gv) w (w.setCell ⟨gv, no * 2 + 1, none⟩ (.slice (some ⟨q, 0, none⟩) pd.length cq)) := (Fr.refl _ w).own _ _
  have hT : Ty w gv 65 := own_ty h.own rfl
  have no' : ∀ t, t ≠ 65 → ∀ k, k = gv → Ty w k t → False := fun t ht k hk h' => by subst hk; exact h'.ne hT ht
  refine ⟨_, n, cv, ⟨idx, pd, some ⟨q, 0, none⟩, cq⟩ :: hs, rfl, by rw [List.length_cons]; omega, hnd, ?_, h.fr.setCell (p := ⟨gv, no * 2 + 1, none⟩) ?_ _, h.old, fun x hx => ?_⟩
  · have h1 := (h.own.stored (no * 2 + 1) (.slice (some ⟨q, 0, none⟩) pd.length cq)).1
    have e : (cells ++ nhRow (⟨idx, [], none, 0⟩ :: hs)).set (no * 2 + 1) (.slice (some ⟨q, 0, none⟩) pd.length cq) = cells ++ nhRow (⟨idx, pd, some ⟨q, 0, none⟩, cq⟩ :: hs) := by
      rw [List.set_append_right _ _ (by omega), hc, Nat.add_sub_cancel_left]
      rfl
    rw [e] at h1
    exact h1
  · rcases Nat.lt_or_ge gv w0.heap.size with hl | hl
    · exact .inl (h.old gv hl rfl)
    · exact .inr hl
  · rcases List.mem_cons.1 hx with rfl | hx
    · have hb : ∀ j u, (ins pd)[j]? = some u → (w.setCell ⟨gv, no * 2 + 1, none⟩ (.slice (some ⟨q, 0, none⟩) pd.length cq)).cell? ⟨q, 0 + j, none⟩ = some u := fun j u hu => by
        rw [hf.cell (p := ⟨q, 0 + j, none⟩) (h.pl.lt q rfl).2 (fun e => no' _ (by decide) _ e (own_ty h.pl rfl)), Nat.zero_add]
        have h1 := h.pl.cells (g := q) rfl j u hu
        unfold Addr.add at h1
        split at h1
        · rename_i hj; subst hj; simpa using h1
        · simpa using h1
      have hq := own_ty h.pl (k := q) rfl
      obtain ⟨cs, fr, hq⟩ := hq
      exact ⟨q, 0, rfl, (h.pl.lt q rfl).1, ⟨cs, fr, (hf.block q (heap_lt hq) (fun e => no' _ (by decide) _ e ⟨cs, fr, hq⟩)).trans hq⟩, trivial, hb⟩
    · exact (h.at_ x hx).keep (fun _ h => h) fun b hT' _ _ => ⟨hf.block b hT'.lt (fun e => no' _ (by decide) _ e hT'), trivial⟩

/-- build's contract, for derivations of so many productions below the first. -/
def BuildC (t n s : Int) (A : Option Addr) (len c : Nat) (ps : List Gr.Pr) (Al : Option Addr) (ll cl : Nat) (l : List Int) (wd : List Int) (B0 M : Nat) : Prop :=
  ∀ (idx : Nat) (p : Gr.Pr) (mm : List Nat) (post : List Int) (a b i : Nat) (nds : List No) (pl : List Nat) (Ao : Option Addr) (no co : Nat) (cells : List Value) (lo : Nat) (w : World),
    mm.length = M → ps[idx]? = some p → Nd ps wd mm p.right a b nds pl → l.drop i = (idx : Int) :: (Dv.ints mm ++ post) → b ≤ wd.length → no + mm.length ≤ 4000 → Prs w B0 A ps → Rd w B0 Al (ins l) → B0 ≤ lo → lo ≤ w.heap.size → w.ownsRow lo 65 2 (.slice Ao no co) no cells →
    Calls Try.prog 47 #[.agg #[.int .i64 t, .int .i64 n, .int .i64 s, .slice A len c], .slice Al ll cl, .int .i64 i, .int .i64 a, .slice Ao no co] w
      (BPost lo (.slice Ao no co) no cells (((idx : Int), Dv.ints (pl ++ [b])) :: nds.map ndOf) (i + 1 + mm.length) b w)

set_option maxRecDepth 100000 in
set_option maxHeartbeats 4000000 in
theorem build_one (t n s : Int) (A : Option Addr) (len c : Nat) (ps : List Gr.Pr) (Al : Option Addr) (ll cl : Nat) (l wd : List Int) (B0 M : Nat) (hlen : len = ps.length) (hll : ll = l.length) (hl4 : ll ≤ 4000) (hwd : wd.length ≤ 1000000) (h8 : ∀ p ∈ ps, p.right.length ≤ 8)
    (ih : ∀ m, m < M → BuildC t n s A len c ps Al ll cl l wd B0 m) : BuildC t n s A len c ps Al ll cl l wd B0 M := by
  obtain ⟨i1, hj, hy0, hy1, hy2⟩ := info_parts tb_int
  obtain ⟨i0, hi, hz0, hz1, hz2⟩ := info_parts tp_rnode
  intro idx p mm post a b i nds pl Ao no co cells lo w hM hp hnd hdrop hb hno hprs hrd hB hlo hown
  have hil : i < l.length := by
    rcases Nat.lt_or_ge i l.length with h | h
    · exact h
    · rw [List.drop_eq_nil_of_le h] at hdrop; cases hdrop
  have hpl : i + 1 + mm.length ≤ l.length := by
    have := congrArg List.length hdrop
    rw [List.length_drop, List.length_cons, List.length_append] at this
    unfold Dv.ints at this
    rw [List.length_map] at this
    omega
  have hli : l[i] = (idx : Int) := by
    have h := List.drop_eq_getElem_cons hil
    rw [hdrop] at h
    injection h with h _
    exact h.symm
  have hd1 : l.drop (i + 1) = Dv.ints mm ++ post := by
    have h := List.drop_eq_getElem_cons hil
    rw [hdrop] at h
    injection h with _ h
    exact h.symm
  have hqp : idx < ps.length := Ch.lt_of_get hp
  have hpe : ps[idx] = p := by rw [List.getElem?_eq_getElem hqp] at hp; injection hp
  have hR8 : p.right.length ≤ 8 := h8 p (hpe ▸ List.getElem_mem hqp)
  have hcl : cells.length = no * 2 := hown.1
  have hbs : ∀ k, (Value.slice Ao no co).ownBlock = some k → B0 ≤ k := fun k hk => Nat.le_trans hB (hown.lt k hk).1
  have HP : Hid (∀ w', Fr (fun k => (Value.slice Ao no co).ownBlock = some k) w w' → Prs w' B0 A ps) := fun w' hf => by
    obtain ⟨hs, e, h1, h2⟩ := hprs
    have hBw : B0 ≤ w.heap.size := Nat.le_trans hB hlo
    have hn : ∀ {A xs}, Rd w B0 A xs → Rd w' B0 A xs := fun h => h.below (below_fr hf hbs hBw)
    exact ⟨hs, e, hn h1, fun x hx => hn (h2 x hx)⟩
  have HF : Hid (∀ w', Fr (fun k => (Value.slice Ao no co).ownBlock = some k) w w' → Rd w' B0 Al (ins l)) := fun w' hf => hrd.below (below_fr hf hbs (Nat.le_trans hB hlo))
  have HL := Lib.hid hlen
  have HLL := Lib.hid hll
  have HND := Lib.hid hnd
  have HOw := Lib.hid hown
  have HD1 := Lib.hid hd1
  have HIH := Lib.hid ih
  have HLI := Lib.hid hli
  have HPE := Lib.hid hpe
  have HM := Lib.hid hM
  have HCl := Lib.hid hcl
  have hf1 : Fr (fun k => (Value.slice Ao no co).ownBlock = some k) w (w.alloc (.cells #[.int .i64 t, .int .i64 n, .int .i64 s, .slice A len c] 24)) := (Fr.refl _ w).alloc _
  have HG1 : Hid (Bk (w.alloc (.cells #[.int .i64 t, .int .i64 n, .int .i64 s, .slice A len c] 24)) w.heap.size 24 #[.int .i64 t, .int .i64 n, .int .i64 s, .slice A len c]) := Bk.new w _ _
  have HF1 := Lib.hid hf1
  have HO1 := Lib.hid (hown.alloc (.cells #[.int .i64 t, .int .i64 n, .int .i64 s, .slice A len c] 24))
  obtain ⟨bl, ol, hAl, hbl, y0⟩ := (HF.out _ hf1).int hil
  subst hAl
  rw [hli] at y0
  have hilI : (i : Int) < (ll : Int) := by omega
  have hi0 : (0 : Int) ≤ (i : Int) := by omega
  have hq0 : (0 : Int) ≤ (idx : Int) := by omega
  have hq1 : (idx : Int) < (len : Int) := by omega
  have hlo1 : lo ≤ (w.alloc (.cells #[.int .i64 t, .int .i64 n, .int .i64 s, .slice A len c] 24)).heap.size := by simp; omega
  have hw1 : w.heap.size ≤ (w.alloc (.cells #[.int .i64 t, .int .i64 n, .int .i64 s, .slice A len c] 24)).heap.size := by simp
  clear hprs hrd hown hnd hdrop hd1 ih hlen hll hpe hli hM hcl hf1 h8
  go_enter Try.func47, Try.ntmps47
  go_upto_region 2 with fail
  generalize w.alloc (.cells #[.int .i64 t, .int .i64 n, .int .i64 s, .slice A len c] 24) = w1 at *
  go_upto_region 3 with (at_builtin; refine wpList_append_lies _ rfl (.tmp 19) (.tmp 25) 62 rfl lo 65 i0 (.agg #[.int .i64 0, .slice none 0 0]) 2 32 Try.underlying62 hi hz0 hz1 hz2 rfl (by decide) (.slice Ao no co) no cells rfl (HO1.out.alloc _) ⟨w1.heap.size, 0, none⟩ 1 1 [.int .i64 (idx : Int), .slice none 0 0] rfl rfl (cells_new w1 #[.int .i64 (idx : Int), .slice none 0 0] 65) (by simp [Value.oneCell']) (by decide) (by simp only [maxLen]; omega) (by omega) (by simp; omega) (w1.heap.size + 1) (World.size_alloc _ _) ?_; intro gv cv w2 hown2 hg2 hl2 hlt2; have HO2 := Lib.hid hown2; have HF2 := Lib.hid ((HF1.out.alloc _).grown hg2 (fun k hk _ => hk)); have HG2 := Lib.hid ((HG1.out.alloc _).grown hg2 (fun e => HG1.out.row HO1.out (by decide) e.symm)); have HL2 := Lib.hid hl2; clear hown2 hg2 hl2)
  obtain ⟨bp, off, Ax, cx, rfl, hbB, hrx, hc0, hc1⟩ := (HP.out _ HF2.out).at_ hqp
  have HPe2 := HPE.out
  rw [HPe2] at hc1
  have g3 : w2.cell? ⟨w.heap.size, 3, none⟩ = some (.slice (some ⟨bp, off, none⟩) len c) := HG2.out.cell 3
  have y1 : w2.cell? ⟨bl, ol + i, none⟩ = some (.int .i64 (idx : Int)) := by
    obtain ⟨b2, o2, e2, _, h2⟩ := (HF.out _ HF2.out).int hil
    cases e2
    rw [HLI.out] at h2
    exact h2
  have HRx : Hid (∀ w', Fr (fun k => (Value.slice Ao no co).ownBlock = some k) w w' → Rd w' B0 Ax (syRow p.right)) := fun w' hf => by
    obtain ⟨b2, o2, A2, c2, e2, _, h2, _, h3⟩ := (HP.out _ hf).at_ hqp
    cases e2
    rw [HPE.out] at h2 h3
    have h4 : w'.cell? ⟨bp, off + idx * 2 + 1, none⟩ = w2.cell? ⟨bp, off + idx * 2 + 1, none⟩ := by
      have e5 : w2.cell? ⟨bp, off + idx * 2 + 1, none⟩ = w.cell? ⟨bp, off + idx * 2 + 1, none⟩ := HF2.out.cell (p := ⟨bp, off + idx * 2 + 1, none⟩) (by show bp < _; omega) (fun hs => absurd (hbs bp hs) (by omega))
      rw [e5]
      exact hf.cell (p := ⟨bp, off + idx * 2 + 1, none⟩) (by show bp < _; omega) (fun hs => absurd (hbs bp hs) (by omega))
    rw [h3, hc1] at h4
    injection h4 with h4
    injection h4 with h4 _ _
    rw [h4] at h2
    exact h2
  clear hc0 hrx HPe2
  go_quiet (fail)
  have HO3 : Hid ((w2.drewN nq).ownsRow lo 65 2 (.slice (some ⟨gv, 0, none⟩) (no + 1) cv) (no + 1) (cells ++ [.int .i64 (idx : Int), .slice none 0 0])) := HO2.out
  have HF3 : Hid (Fr (fun k => (Value.slice Ao no co).ownBlock = some k) w (w2.drewN nq)) := HF2.out.drewN nq
  have HG3 : Hid (Bk (w2.drewN nq) w.heap.size 24 #[.int .i64 t, .int .i64 n, .int .i64 s, .slice (some ⟨bp, off, none⟩) len c]) := HG2.out
  clear HO2 HF2 HG2 g3 y0 y1 hc1 hlt2 HO1 HF1 HG1 HOw
  generalize w2.drewN nq = w3 at *
  have HB3 : Hid (BSt w lo (.slice Ao no co) cells (idx : Int) [] (.slice (some ⟨gv, 0, none⟩) (no + 1) cv) (no + 1) (.slice (some ⟨w3.heap.size, 0, none⟩) 0 0) 0 [] w.heap.size #[.int .i64 t, .int .i64 n, .int .i64 s, .slice (some ⟨bp, off, none⟩) len c] (w3.alloc (.cells #[] 3))) :=
    ⟨HO3.out.alloc _, World.ownsRow_lit (base := w.heap.size) (e := 3) (size := 1) w3 #[] 0 HF3.out.size (by simp [maxLen]) rfl, HF3.out.alloc _, fun k hk hv => by
      injection hv with hv
      have hv : gv = k := hv
      rcases HL2.out with h | h
      · rw [h, hv]
      · omega, fun h hh => absurd hh (by simp), HG3.out.alloc _⟩
  clear HO3 HF3 HG3
  go_wp2_with fail
  go_loopw [2, 3, 4, 15, 16] (fun s2 s3 s4 s15 s16 wr => ∃ (k ic ac : Nat) (mr : List Nat) (nr : List No) (pr pd : List Nat) (hs : List Nh) (gv cv nv : Nat) (Ap : Option Addr) (cp : Nat), k ≤ p.right.length ∧ s2 = .int .i64 ic ∧ s3 = .int .i64 ac ∧ s4 = .slice (some ⟨gv, 0, none⟩) nv cv ∧ s15 = .slice Ap k cp ∧ s16 = .int .i64 k ∧ nv = no + 1 + hs.length ∧
    Hid (Nd ps wd mr (p.right.drop k) ac b nr pr) ∧ Hid (pl = pd ++ pr ∧ pd.length = k) ∧ Hid (l.drop ic = Dv.ints mr ++ post ∧ ic + mr.length = i + 1 + mm.length) ∧ Hid (hs.map Nh.nd ++ nr.map ndOf = nds.map ndOf) ∧ Hid (hs.length + mr.length = mm.length) ∧
    Hid (BSt w lo (.slice Ao no co) cells (idx : Int) hs (.slice (some ⟨gv, 0, none⟩) nv cv) nv (.slice Ap k cp) k (Dv.ints pd) w.heap.size #[.int .i64 t, .int .i64 n, .int .i64 s, .slice (some ⟨bp, off, none⟩) len c] wr)) (fun _ _ _ _ s16 _ => p.right.length - (intOf s16).toNat)
  case atStart => exact ⟨0, i + 1, a, mm, nds, pl, [], [], gv, cv, no + 1, _, 0, Nat.zero_le _, by go_num, rfl, rfl, rfl, rfl, rfl, HND.out, ⟨rfl, rfl⟩, ⟨HD1.out, rfl⟩, rfl, by simp [Hid], HB3.out⟩
  case round =>
    clear HB3 HD1 HND HL2
    obtain ⟨k, ic, ac, mr, nr, pr, pd, hs, gv, cv, nv, Ap, cp, hk, rfl, rfl, rfl, rfl, rfl, hnv, HNd, HPl, HDr, HNs, HLn, HB⟩ := hrel
    have HNv := Lib.hid hnv
    have hnv1 : nv ≤ 8001 := by have := HLn.out; omega
    have hnv2 : no < nv := by omega
    clear hnv
    have hac : ac ≤ 1000000 := by have := HNd.out.le.1; omega
    have hhs : hs.length ≤ mm.length := by have := HLn.out; omega
    have hsz : w.heap.size ≤ wr.heap.size := HB.out.fr.size
    have HFp := Lib.hid (fun (w1 w2 : World) (vp2 : Value) (g : Nat) hb ho hg hv hl => HB.out.place (w1 := w1) (w2 := w2) (vp2 := vp2) (x := (ac : Int)) (g := g) hb ho hg hv hl)
    by_cases hlt : k < p.right.length
    · have HDk : Hid (p.right.drop k = p.right[k] :: p.right.drop (k + 1)) := List.drop_eq_getElem_cons hlt
      go_upto_region 10 with (at_builtin; refine wpList_append_lies _ rfl (.tmp 45) (.tmp 47) 25 rfl w.heap.size 3 i1 (.int .i64 0) 1 8 Try.underlying25 hj hy0 hy1 hy2 rfl (by decide) (.slice Ap k cp) k (ins (Dv.ints pd)) rfl (HB.out.pl.alloc _) ⟨wr.heap.size, 0, none⟩ 1 1 [.int .i64 (ac : Int)] rfl rfl (one_new _ _ _) (by simp [Value.oneCell']) (by decide) (by simp only [maxLen]; omega) (by omega) (by simp; omega) (wr.heap.size + 1) (World.size_alloc _ _) ?_; intro gq cq w5 hown5 hg5 hl5 hlt5; have HB5 : Hid (BSt w lo (.slice Ao no co) cells (idx : Int) hs (.slice (some ⟨gv, 0, none⟩) nv cv) nv (.slice (some ⟨gq, 0, none⟩) (k + 1) cq) (k + 1) (Dv.ints (pd ++ [ac])) w.heap.size #[.int .i64 t, .int .i64 n, .int .i64 s, .slice (some ⟨bp, off, none⟩) len c] w5) := (by have h := HFp.out _ _ _ _ ((Bl.refl wr).alloc _) (by rw [ins_append]; exact hown5) hg5 rfl (by rw [World.size_alloc]; exact hl5); rw [show Dv.ints (pd ++ [ac]) = Dv.ints pd ++ [(ac : Int)] by simp [Dv.ints]]; exact h); clear hown5 hg5 hl5 hlt5)
      obtain ⟨bx, ox, hAx, _, e0, e1⟩ := (HRx.out _ HB5.out.fr).sym hlt
      subst hAx
      have hk0 : (0 : Int) ≤ (k : Int) := by omega
      have hk1 : (k : Int) < (p.right.length : Int) := by omega
      have HNd2 := HNd.out
      rw [HDk.out] at HNd2
      generalize p.right[k] = sy at *
      obtain ⟨sn, sv⟩ := sy
      cases HNd2 with
      | tok hs1 hs2 hs3 =>
        have hs1 : sn = false := hs1
        subst hs1
        have HN2 := Lib.hid hs3
        clear hs2 hs3
        go_wp2_with fail
        go_roundw
        case rel => exact ⟨k + 1, ic, ac + 1, mr, nr, _, pd ++ [ac], hs, gv, cv, nv, _, cq, by omega, rfl, by go_num, rfl, rfl, by go_num, HNv.out, HN2.out, ⟨by rw [HPl.out.1, List.append_assoc]; rfl, by rw [List.length_append, HPl.out.2]; rfl⟩, HDr.out, HNs.out, HLn.out, HB5.out⟩
        case measure => simp [intOf]; omega
      | @non l1 m1 _ _ _ c1 _ i' p' ns ns' pl1 pl' hs1 hs2 hs3 hs4 hs5 =>
        have hs1 : sn = true := hs1
        subst hs1
        have hdr : l.drop ic = (i' : Int) :: (Dv.ints l1 ++ (Dv.ints m1 ++ post)) := by rw [HDr.out.1]; simp [Dv.ints]
        have hln : hs.length + (l1.length + m1.length + 1) = mm.length := by have h := HLn.out; rw [List.length_cons, List.length_append] at h; exact h
        have hnl : ns.length = l1.length := by rw [← Dv.Nd.prods hs4, List.length_map]
        have hicl := HDr.out.2
        rw [List.length_cons, List.length_append] at hicl
        have HC := Lib.hid ((HIH.out l1.length (by have := HM.out; omega)) i' p' l1 (Dv.ints m1 ++ post) ac c1 ic ns pl1 (some ⟨gv, 0, none⟩) nv cv (cells ++ nhRow (⟨(idx : Int), [], none, 0⟩ :: hs)) lo w5 rfl hs2 hs4 hdr (by have := hs5.le.1; omega) (by have := HNv.out; omega) (HP.out _ HB5.out.fr) (HF.out _ HB5.out.fr) hB (Nat.le_trans hlo HB5.out.fr.size) HB5.out.own)
        have HN2 := Lib.hid hs5
        have HDd := Lib.hid hdr
        have g0 := HB5.out.bg.cell 0
        have g1 := HB5.out.bg.cell 1
        have g2 := HB5.out.bg.cell 2
        have g3 := HB5.out.bg.cell 3
        clear hs2 hs3 hs4 hs5 hdr
        go_wp2_with fail
        with_reducible refine HC.out.mono ?_
        rintro e w6 ⟨A6, m6, c6, hs6, rfl, hm6, hn6, ho6, hf6, hold6, hat6⟩
        obtain ⟨g6, c6', hv6, _, _⟩ := ho6.form (by have := HNv.out; omega)
        injection hv6 with h1 _ h3
        subst h1 h3
        have HB6 := Lib.hid (HB5.out.more ho6 hf6 hold6 hat6)
        have hl6 : hs6.length = l1.length + 1 := by
          have h := congrArg List.length hn6
          rw [List.length_map, List.length_cons, List.length_map] at h
          omega
        have HN6 := Lib.hid hn6
        have HM6 : Hid (m6 = no + 1 + (hs ++ hs6).length) := by have := HNv.out; show _ = _; rw [List.length_append]; omega
        have HL6 := Lib.hid hl6
        clear hm6 hl6 ho6 hf6 hold6 hat6 hn6 g0 g1 g2 g3 e0 e1
        have hDr2 : l.drop (ic + 1 + l1.length) = Dv.ints m1 ++ post := by
          rw [Nat.add_assoc, ← List.drop_drop, HDd.out, Nat.add_comm 1, List.drop_succ_cons, List.drop_left' (by simp [Dv.ints])]
        have HD2 := Lib.hid hDr2; clear hDr2
        go_wp2_with fail
        go_roundw
        case rel =>
          refine ⟨k + 1, ic + 1 + l1.length, c1, m1, ns', _, pd ++ [ac], hs ++ hs6, g6, c6, m6, _, cq, by omega, rfl, rfl, rfl, rfl, by go_num, HM6.out, HN2.out, ⟨by rw [HPl.out.1, List.append_assoc]; rfl, by rw [List.length_append, HPl.out.2]; rfl⟩, ⟨HD2.out, by omega⟩, ?_, by have := HL6.out; show _ = _; rw [List.length_append]; omega, HB6.out⟩
          have h := HNs.out
          rw [List.map_cons, List.map_append] at h
          rw [← h, List.map_append, HN6.out, List.append_assoc]
          rfl
        case measure => simp [intOf]; omega
    · have HNd2 := HNd.out
      rw [List.drop_eq_nil_of_le (by omega)] at HNd2
      generalize hnil : ([] : List Gr.Sy) = nl at HNd2
      cases HNd2 with
      | tok => cases hnil
      | non => cases hnil
      | nil =>
        have hic : ic = i + 1 + mm.length := by have h := HDr.out.2; rw [List.length_nil] at h; omega
        have HIc := Lib.hid hic
        clear hic
        have hnod : no * 2 + 1 < nv * 2 := by omega
        have hno0 : (0 : Int) ≤ (no : Int) := by omega
        have hno1 : (no : Int) < (nv : Int) := by omega
        go_wp2_with (at_builtin; refine wpList_append_lies _ rfl (.tmp 68) (.tmp 70) 25 rfl w.heap.size 3 i1 (.int .i64 0) 1 8 Try.underlying25 hj hy0 hy1 hy2 rfl (by decide) (.slice Ap k cp) k (ins (Dv.ints pd)) rfl (HB.out.pl.alloc _) ⟨wr.heap.size, 0, none⟩ 1 1 [.int .i64 (b : Int)] rfl rfl (one_new _ _ _) (by simp [Value.oneCell']) (by decide) (by simp only [maxLen]; omega) (by omega) (by simp; omega) (wr.heap.size + 1) (World.size_alloc _ _) ?_; intro gq cq w5 hown5 hg5 hl5 hlt5; have HB5 : Hid (BSt w lo (.slice Ao no co) cells (idx : Int) hs (.slice (some ⟨gv, 0, none⟩) nv cv) nv (.slice (some ⟨gq, 0, none⟩) (k + 1) cq) (k + 1) (Dv.ints (pd ++ [b])) w.heap.size #[.int .i64 t, .int .i64 n, .int .i64 s, .slice (some ⟨bp, off, none⟩) len c] w5) := (by have h := HFp.out _ _ _ _ ((Bl.refl wr).alloc _) (by rw [ins_append]; exact hown5) hg5 rfl (by rw [World.size_alloc]; exact hl5); rw [show Dv.ints (pd ++ [b]) = Dv.ints pd ++ [(b : Int)] by simp [Dv.ints]]; exact h); have z1 : w5.cell? ⟨gv, no * 2 + 1, none⟩ = some (.slice none 0 0) := (by rw [HB5.out.own.cellAt (no * 2 + 1) hnod, List.getElem?_append_right (by have := HCl.out; omega), show no * 2 + 1 - cells.length = 1 by have := HCl.out; omega]; rfl); have z2 := HB5.out.own.frozenAt (no * 2 + 1); have z3 := (HB5.out.own.lt gv rfl).2; clear hown5 hg5 hl5 hlt5)
        go_ret3
        rw [← HIc.out]
        refine HB5.out.fin HCl.out HNv.out (by simp [Dv.ints]; exact HPl.out.2.symm) ?_
        have h1 := HPl.out.1
        have h2 := HNs.out
        rw [List.append_nil] at h1
        rw [List.map_nil, List.append_nil] at h2
        rw [h1, h2]

theorem build_all (t n s : Int) (A : Option Addr) (len c : Nat) (ps : List Gr.Pr) (Al : Option Addr) (ll cl : Nat) (l wd : List Int) (B0 : Nat) (hlen : len = ps.length) (hll : ll = l.length) (hl4 : ll ≤ 4000) (hwd : wd.length ≤ 1000000) (h8 : ∀ p ∈ ps, p.right.length ≤ 8) (M : Nat) : BuildC t n s A len c ps Al ll cl l wd B0 M :=
  Nat.strongRecOn M fun M ih => build_one t n s A len c ps Al ll cl l wd B0 M hlen hll hl4 hwd h8 ih
end Go.Proofs.Ytdfhhbncmdpoeaa
/- The reference's Nodes. -/
namespace Go.Proofs.Ytdfhhbncmdpoeaa
open Go.RowKit
open Al (No Nd)

theorem nd_len {ps : List Gr.Pr} (h8 : ∀ p ∈ ps, p.right.length ≤ 8) {w : List Int} {l : List Nat} {row : List Gr.Sy} {a b : Nat} {ns : List No} {pl : List Nat} (h : Nd ps w l row a b ns pl) : b ≤ a + row.length + 8 * l.length := by
  induction h with
  | nil => omega
  | tok _ _ _ ih => rw [List.length_cons]; omega
  | non _ hp _ _ _ ih1 ih2 =>
    have := h8 _ (List.mem_of_getElem? hp)
    rw [List.length_cons, List.length_cons, List.length_append]
    omega
theorem nd_rows {ps : List Gr.Pr} (h8 : ∀ p ∈ ps, p.right.length ≤ 8) {w : List Int} {l : List Nat} {row : List Gr.Sy} {a b : Nat} {ns : List No} {pl : List Nat} (h : Nd ps w l row a b ns pl) : ∀ x ∈ ns, x.at_.length ≤ 8 := by
  induction h with
  | nil => intro x hx; exact absurd hx (by simp)
  | tok _ _ _ ih => exact ih
  | non _ hp _ h1 _ ih1 ih2 =>
    intro x hx
    rcases List.mem_cons.1 hx with rfl | hx
    · show List.length _ ≤ 8
      rw [h1.places.1]
      exact h8 _ (List.mem_of_getElem? hp)
    · rcases List.mem_append.1 hx with hx | hx
      · exact ih1 x hx
      · exact ih2 x hx
theorem AtK.rd {w : World} {lo : Nat} {h : Nh} {P : Nat → Prop} (hk : AtK w lo h P) : Rd w w.heap.size h.at_ (ins h.row) := fun _ => by
  obtain ⟨b, off, h1, _, h3, _, h5⟩ := hk
  exact ⟨b, off, h1, h3.lt, h5⟩

set_option maxRecDepth 100000 in
set_option maxHeartbeats 2000000 in
theorem rnodes_any (t n s : Int) (A : Option Addr) (len c : Nat) (ps : List Gr.Pr) (Al : Option Addr) (ll cl : Nat) (l : List Int) (w : World) (B : Nat) (hlen : len = ps.length) (hmax : len ≤ 9223372036854775807) (hr : Prs w B A ps) (hB : B ≤ w.heap.size)
    (hll : ll = l.length) (hml : ll ≤ 9223372036854775806) (hrl : Rd w B Al (ins l)) :
    Calls Try.prog 29 #[.agg #[.int .i64 t, .int .i64 n, .int .i64 s, .slice A len c], .slice Al ll cl] w (fun e w' => ∃ nd, ((Dv.replayOf (okB ⟨t, n, s, ps⟩) ⟨t, n, s, ps⟩ l).2 ≠ 0 → nd = []) ∧
      ((Dv.replayOf (okB ⟨t, n, s, ps⟩) ⟨t, n, s, ps⟩ l).2 = 0 → ∃ (m : List Nat) (wd : List Int) (b : Nat) (nds : List No) (pl : List Nat), l = Dv.ints m ∧ Nd ps wd m [⟨true, s⟩] 0 b nds pl ∧ nd = nds.map ndOf ∧ ∀ x ∈ nds, x.at_.length ≤ 8) ∧ NPost nd (Dv.replayOf (okB ⟨t, n, s, ps⟩) ⟨t, n, s, ps⟩ l).2 w e w') := by
  have hb0 : Bl w (w.alloc (.cells #[.int .i64 t, .int .i64 n, .int .i64 s, .slice A len c] 24)) := (Bl.refl w).alloc _
  have HG0 : Hid (Bk (w.alloc (.cells #[.int .i64 t, .int .i64 n, .int .i64 s, .slice A len c] 24)) w.heap.size 24 #[.int .i64 t, .int .i64 n, .int .i64 s, .slice A len c]) := Bk.new w _ _
  have HC := Lib.hid (treplay_any t n s A len c ps Al ll cl l _ B hlen hmax (hr.bl hB hb0) (Nat.le_trans hB hb0.size) hll hml (hrl.bl hB hb0))
  have HB0 := Lib.hid hb0
  have HP : Hid (∀ w', Bl w w' → Prs w' B A ps) := fun _ hb => hr.bl hB hb
  have HF : Hid (∀ w', Bl w w' → Rd w' B Al (ins l)) := fun _ hb => hrl.bl hB hb
  have HL := Lib.hid hlen
  have HLL := Lib.hid hll
  have HOk : Hid ((Dv.replayOf (okB ⟨t, n, s, ps⟩) ⟨t, n, s, ps⟩ l).2 = 0 → okB ⟨t, n, s, ps⟩ = true ∧ l.length ≤ 2000 ∧ ∃ wd, Dv.play ps l [⟨true, s⟩] = (wd, 0)) := fun h => by
    obtain ⟨h1, h2, m, h3, h4⟩ := Dv.replay_ok h
    rw [h1, Dv.replay_play h2] at h
    exact ⟨h1, h2, _, Prod.ext rfl h⟩
  clear hlen hll hr hrl hb0
  generalize (Dv.replayOf (okB ⟨t, n, s, ps⟩) ⟨t, n, s, ps⟩ l) = x at *
  obtain ⟨v, cd⟩ := x
  simp only at HOk
  go_enter Try.func29, Try.ntmps29
  go_wp2_with fail
  refine HC.out.mono ?_
  rintro e w1 ⟨A1, n1, c1, rfl, _, _, hb1⟩
  have HB1 := Lib.hid (HB0.out.trans hb1)
  have HG1 := Lib.hid (HG0.out.bl hb1)
  clear hb1 HB0 HG0 HC
  by_cases hcd : cd = 0
  · subst hcd
    obtain ⟨hok, h2000, wd, hpl⟩ := HOk.out rfl
    obtain ⟨m, nds, pl, hlm, hnd⟩ := Dv.nodes_of hpl
    have h8 : ∀ p ∈ ps, p.right.length ≤ 8 := fun p hp => by
      obtain ⟨k, hk, rfl⟩ := List.mem_iff_getElem.1 hp
      exact (ok_syms hok hk).2.1
    have hwl := nd_len h8 hnd
    have hml2 : l.length = m.length := by rw [hlm]; simp [Dv.ints]
    have hrw := nd_rows h8 hnd
    have HNd := Lib.hid hnd
    have HRw := Lib.hid hrw
    clear hrw
    generalize e1 : ([⟨true, s⟩] : List Gr.Sy) = row at hnd
    generalize e3 : wd.length = wl at hnd
    cases hnd with
    | nil => cases e1
    | tok h => cases e1; cases h
    | @non l1 m1 _ row' _ c1' _ idx p ns ns' pl1 pl' hs1 hs2 hs3 hs4 hs5 =>
      injection e1 with e0 e1
      subst e0 e1
      generalize e2 : ([] : List Gr.Sy) = row2 at hs5
      cases hs5 with
      | tok => cases e2
      | non => cases e2
      | nil =>
        have hdrop : l.drop 0 = (idx : Int) :: (Dv.ints l1 ++ []) := by rw [List.drop_zero, hlm]; simp [Dv.ints]
        have hl1 : l1.length ≤ 2000 := by rw [List.length_cons, List.length_append] at hml2; omega
        have hw8 : wd.length ≤ 1000000 := by
          rw [← hml2] at hwl
          simp only [List.length_cons, List.length_nil] at hwl
          omega
        have HB := Lib.hid ((show Calls Try.prog 47 #[.agg #[.int .i64 t, .int .i64 n, .int .i64 s, .slice A len c], .slice Al ll cl, .int .i64 0, .int .i64 0, .slice none 0 0] w1 _ from (build_all t n s A len c ps Al ll cl l wd B HL.out HLL.out (by have := HLL.out; omega) hw8 h8 l1.length) idx p l1 [] 0 wl 0 ns pl1 none 0 0 [] w1.heap.size w1 rfl hs2 hs4 hdrop (Nat.le_of_eq e3.symm) (by omega) (HP.out _ HB1.out) (HF.out _ HB1.out) (Nat.le_trans hB HB1.out.size) (Nat.le_refl _) (World.ownsRow_nil _ _ _ _)))
        have g0 := HG1.out.cell 0
        have g1 := HG1.out.cell 1
        have g2 := HG1.out.cell 2
        have g3 := HG1.out.cell 3
        have HLm := Lib.hid hlm
        clear hs1 hs2 hs3 hs4 hdrop hlm hwl hpl hok h8 HOk
        go_wp2_with fail
        with_reducible refine HB.out.mono ?_
        rintro e w2 ⟨A2, m2, c2, hs2, rfl, hm2, hn2, ho2, hf2, _, hat2⟩
        have HB2 := Lib.hid (HB1.out.trans (hf2.bl fun i _ h => by cases h))
        have HO2 := Lib.hid ho2
        have HA2 := Lib.hid hat2
        have HN2 := Lib.hid hn2
        have HM2 : Hid (m2 = hs2.length) := by show _ = _; omega
        clear g0 g1 g2 g3 ho2 hat2 hn2 hf2 hm2
        go_wp2_with fail
        go_ret2
        refine ⟨hs2.map Nh.nd, ⟨_, HLm.out, wd, _, _, ⟨_, HNd.out⟩, ?_, HRw.out⟩, A2, m2, c2, rfl, by rw [List.length_map]; exact HM2.out, NRh.rd ⟨(RdT.of_own HO2.out).rd, fun x hx => (HA2.out x hx).rd⟩, HB2.out⟩
        rw [HN2.out, List.append_nil]
        rfl
  · have hq : (((cd : Nat) : Int) != 0) = true := by simp; omega
    go_wp2_with fail
    go_ret2
    exact ⟨[], fun _ => rfl, fun h => absurd h hcd, none, 0, 0, rfl, rfl, .nil, HB1.out⟩
end Go.Proofs.Ytdfhhbncmdpoeaa
