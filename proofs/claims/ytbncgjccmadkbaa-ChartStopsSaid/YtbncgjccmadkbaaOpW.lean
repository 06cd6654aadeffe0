/- Words for rows: appended, told as results. -/
import Derived.Test.YtbncgjccmadkbaaFoApp
import Derived.Test.YtbncgjccmadkbaaGMem
import Derived.Test.YtbncgjccmadkbaaPlainS
import Derived.Test.YtbncgjccmadkbaaPrC
import Derived.Test.YtbncgjccmadkbaaRoT
import Derived.Test.YtbncgjccmadkbaaSpanS
import Derived.Test.YtbncgjccmadkbaaRows
import Derived.Test.YtbncgjccmadkbaaWMem
import Derived.Deep.RegionHeld3
import Derived.Deep.DeepCutAuto
import Derived.Deep.LoopGhost
import Derived.BigQuiet
import Derived.RegionTactic
import Derived.Deep.AppendLies
import Derived.ProofKit
import Derived.Deep.Slices
import Derived.ChangeSlices
namespace Go.Proofs.Ytbncgjccmadkbaa
open Go.RowKit

/-- append of whatever reads as a list, nil let in. -/
theorem wpList_append_rdN {P : Program} (w : World) {ops : Array Oper} {rest : List Oper} {o : Oper} {a : Act} {Q : Exit → Act → World → Prop} (hgd : o.guard = none) (s x : Operand) (t : TypeId)
    (ho : o.op = .call { callee := .builtin .append, args := #[s, x], argTypes := #[t, t] })
    (base : Nat) (e : TypeId) (i : TypeInfo) (z : Value) (size bytes : Nat) (ht : P.underlying t = some (.slice e)) (hi : P.info? e = some i) (hz : i.zero = some z)
    (hsize : i.size = size) (hby : i.bytes = bytes) (hzs : z.cells.size = size) (hpos : 0 < size)
    (v : Value) (n : Nat) (xs : List Value) (hs : a.eval s = v) (hown : w.ownsRow base e size v n xs)
    (B : Nat) (A : Option Addr) (m c : Nat) (news : List Value) (hx : a.eval x = .slice A m c) (hr : Rd w B A news) (hm : news.length = m * size) (h1 : ∀ u ∈ news, u.oneCell' = true)
    (h63 : n + m ≤ maxLen) (hbytes : (n + m) * bytes ≤ 140737488355328) (hbase : base ≤ w.heap.size)
    (h : ∀ v' w', w'.ownsRow base e size v' (n + m) (xs ++ news) → w.grownBy w' v.ownBlock → wpList P ops Q rest (a.put o.dst v') w') : wpList P ops Q (o :: rest) a w :=
  wpList_plain hgd fun _ hK => by
    obtain ⟨v', w', hrun, h2, h3⟩ := run_append_rdN (P := P) w base t o.type e i z size bytes ht hi hz hsize hby hzs hpos v n xs hown B A m c news hr hm h1 h63 hbytes hbase
    unfold Oper.wp execOp
    simp only [ho, resolve, invoke, builtin, Sem.run_bind, Sem.run_pure, Result.andThen_ok, List.map_toArray, List.map_cons, List.map_nil, hs, hx, hrun]
    exact hK _ _ (h v' w' h2 h3)
/-- A struct of no cells given. -/
theorem wpList_build_none {P : Program} {ops : Array Oper} {rest : List Oper} {o : Oper} {a : Act} {w : World} {Q : Exit → Act → World → Prop} (hgd : o.guard = none) (ty : TypeId) (ho : o.op = .build ty #[]) (Z : Array Value)
    (hrun : ∀ w, (Instr.build ty (#[] : Array (Nat × Value))).run P w = .ok (.agg Z) w)
    (h : wpList P ops Q rest (a.put o.dst (.agg Z)) w) : wpList P ops Q (o :: rest) a w :=
  wpList_plain hgd fun K hK => by
    unfold Oper.wp execOp
    simp only [ho, List.map_toArray, List.map_nil, hrun, Sem.run_bind, Result.andThen_ok]
    exact hK _ _ h
theorem own_at {w : World} {base n size : Nat} {e : TypeId} {v : Value} {xs : List Value} (h : w.ownsRow base e size v n xs) (hn : 0 < n) : ∃ g c, v = .slice (some ⟨g, 0, none⟩) n c ∧ base ≤ g ∧ n ≤ c ∧ c ≤ maxLen := by
  rcases h.2 with ⟨_, h0⟩ | ⟨g, cap, cur, h3, hb, _, hc, hm, _⟩
  · omega
  · exact ⟨g, cap, h3, hb, hc, hm⟩
theorem results_cell_one {fn : Func} {p : Tmp} {ty : TypeId} (h : fn.results = #[.cell p ty]) (tmps : Array Value) (P : Program) (w : World) :
    (results fn tmps).run P w = ((asAddr (tmps.getD p undef)).run P w).andThen fun a w₁ => (loadVar ty a).run P w₁ := by
  simp only [results, h]
  simp [Result.andThen]
/-- A result in a cell: a struct that is known whole. -/
theorem results_row {P : Program} {fn : Func} {p : Tmp} {ty : TypeId} (h : fn.results = #[.cell p ty]) (tmps : Array Value) (w : World) (b : Nat) (t : TypeId) (cs : Array Value) (d : TypeDesc)
    (hp : tmps.getD p undef = .pointer (some ⟨b, 0, none⟩)) (hb : Bk w b t cs) (hu : P.underlying ty = some d) (hd : (match d with | .struct _ | .array _ _ => true | _ => false) = true) (hi : (P.info? ty).map (·.size) = some cs.size) :
    (results fn tmps).run P w = .ok (.agg cs) w := by
  have hrun := run_loadVar_row (P := P) w b t ty cs (0, 0) _ hb hu hd hi
  rw [results_cell_one h, hp]
  simp [asAddr, hrun, Result.andThen]
end Go.Proofs.Ytbncgjccmadkbaa
/- The reference's Wild: the grammar of beginnings, in memory. -/
namespace Go.Proofs.Ytbncgjccmadkbaa
open Go.RowKit

theorem own_empty2 (w : World) (base : Nat) (e : TypeId) (h : base ≤ w.heap.size) : (w.alloc (.cells #[] e)).ownsRow base e 2 (.slice (some ⟨w.heap.size, 0, none⟩) 0 0) 0 [] :=
  World.ownsRow_lit (base := base) (e := e) (size := 2) w #[] 0 h (by simp [maxLen]) rfl
theorem far4 {w : World} {g b : Nat} {t : TypeId} {cs : Array Value} (h : Bk w g t cs) (hne : g ≠ b) (u0 u1 u2 u3 : Value) : Bk ((((w.setCell ⟨b, 0, none⟩ u0).setCell ⟨b, 1, none⟩ u1).setCell ⟨b, 2, none⟩ u2).setCell ⟨b, 3, none⟩ u3) g t cs :=
  (((h.far (p := ⟨b, 0, none⟩) hne u0).far (p := ⟨b, 1, none⟩) hne u1).far (p := ⟨b, 2, none⟩) hne u2).far (p := ⟨b, 3, none⟩) hne u3
theorem put4 {w : World} {b : Nat} {t : TypeId} {a0 a1 a2 a3 : Value} (h : Bk w b t #[a0, a1, a2, a3]) (u0 u1 u2 u3 : Value) : Bk ((((w.setCell ⟨b, 0, none⟩ u0).setCell ⟨b, 1, none⟩ u1).setCell ⟨b, 2, none⟩ u2).setCell ⟨b, 3, none⟩ u3) b t #[u0, u1, u2, u3] :=
  (((h.put 0 u0).put 1 u1).put 2 u2).put 3 u3
theorem fr4 (w : World) (b : Nat) (u0 u1 u2 u3 : Value) : Fr (fun k => k = b) w ((((w.setCell ⟨b, 0, none⟩ u0).setCell ⟨b, 1, none⟩ u1).setCell ⟨b, 2, none⟩ u2).setCell ⟨b, 3, none⟩ u3) :=
  ((((Fr.refl _ w).own 0 u0).own 1 u1).own 2 u2).own 3 u3
theorem gcells {w : World} {g : Nat} {ty : TypeId} {t N s : Int} {A : Option Addr} {len c : Nat} (h : Bk w g ty #[.int .i64 t, .int .i64 N, .int .i64 s, .slice A len c]) :
    w.cell? ⟨g, 0, none⟩ = some (.int .i64 t) ∧ w.cell? ⟨g, 1, none⟩ = some (.int .i64 N) ∧ w.cell? ⟨g, 2, none⟩ = some (.int .i64 s) ∧ w.cell? ⟨g, 3, none⟩ = some (.slice A len c) := ⟨h.cell 0, h.cell 1, h.cell 2, h.cell 3⟩
theorem own_empty3 (w : World) (o : Obj) (base : Nat) (e : TypeId) (h : base ≤ w.heap.size) : ((w.alloc o).alloc (.cells #[] e)).ownsRow base e 2 (.slice (some ⟨w.heap.size + 1, 0, none⟩) 0 0) 0 [] := by
  have h1 := own_empty2 (w.alloc o) base e (by rw [World.size_alloc]; omega)
  rwa [World.size_alloc] at h1
/-- A row of the call's own, as a block. -/
theorem own_bkW {w : World} {base e n c g size : Nat} {xs : List Value} (h : w.ownsRow base e size (.slice (some ⟨g, 0, none⟩) n c) n xs) : ∃ cur, Bk w g e cur ∧ base ≤ g ∧ ∀ (j : Nat) (u : Value), xs[j]? = some u → cur[j]? = some u := by
  rcases h.2 with ⟨hv, _⟩ | ⟨g', cap, cur, hv, hb, hg, _, _, _, ht⟩
  · injection hv with hv; cases hv
  · injection hv with hv _ _
    injection hv with hv
    injection hv with hv _ _
    subst hv
    refine ⟨cur, hg, hb, fun j u hu => ?_⟩
    rw [← ht, List.getElem?_take] at hu
    split at hu
    · rw [← hu]; simp
    · cases hu
theorem set_reads {xs : List Value} {cur : Array Value} (h : ∀ (j : Nat) (u : Value), xs[j]? = some u → cur[j]? = some u) (i : Nat) (v : Value) : ∀ (j : Nat) (u : Value), (xs.set i v)[j]? = some u → (cur.setIfInBounds i v)[j]? = some u := by
  intro j u hu
  rw [List.getElem?_set] at hu
  rw [Array.getElem?_setIfInBounds]
  by_cases e : i = j
  · subst e
    rw [if_pos rfl] at hu ⊢
    split at hu
    · rename_i hi
      have h1 := h i xs[i] (List.getElem?_eq_getElem hi)
      have h2 : i < cur.size := by
        rcases Nat.lt_or_ge i cur.size with h3 | h3
        · exact h3
        · rw [Array.getElem?_eq_none h3] at h1; cases h1
      rw [if_pos h2]; exact hu
    · cases hu
  · rw [if_neg e] at hu ⊢
    exact h j u hu
theorem RdP.of_bk {w : World} {P : Nat → Prop} {g e : Nat} {cur : Array Value} {xs : List Value} (hb : Bk w g e cur) (h : ∀ (j : Nat) (u : Value), xs[j]? = some u → cur[j]? = some u) (hP : P g) : RdP w P (some ⟨g, 0, none⟩) xs :=
  fun _ => ⟨g, 0, rfl, hP, fun j u hu => by rw [hb.cell, Nat.zero_add]; exact h j u hu⟩
theorem syRow_set (l : List Gr.Sy) (b : Bool) (n m : Int) : (syRow (l ++ [⟨b, n⟩])).set (l.length * 2 + 1) (.int .i64 m) = syRow (l ++ [⟨b, m⟩]) := by
  rw [syRow_snoc, syRow_snoc, List.set_append_right _ _ (by rw [syRow_len]; omega), syRow_len, show l.length * 2 + 1 - l.length * 2 = 1 by omega]
  rfl
theorem own_rdW {w : World} {base e n c g size : Nat} {xs : List Value} (h : w.ownsRow base e size (.slice (some ⟨g, 0, none⟩) n c) n xs) : Rd w w.heap.size (some ⟨g, 0, none⟩) xs := by
  obtain ⟨cur, hk, _, hc⟩ := own_bkW h
  exact fun _ => ⟨g, 0, rfl, hk.lt, fun j u hu => by rw [hk.cell, Nat.zero_add]; exact hc j u hu⟩
theorem own_drew {w : World} {base e n size : Nat} {v : Value} {xs : List Value} (h : w.ownsRow base e size v n xs) : w.drew.ownsRow base e size v n xs := h
theorem own_alloc {w : World} {base e n size : Nat} {v : Value} {xs : List Value} (h : w.ownsRow base e size v n xs) (o : Obj) : (w.alloc o).ownsRow base e size v n xs := own_bl h ((Bl.refl w).alloc o)
/-- What Wild has: the argument's box, the result's, and the grammar that is put together. -/
structure WlRel (t N s : Int) (A : Option Addr) (len c : Nat) (gt g3 c3 : Nat) (hs : List Ph) (w0 w : World) : Prop where
  bg : Bk w w0.heap.size 24 #[.int .i64 t, .int .i64 N, .int .i64 s, .slice A len c]
  b2 : Bk w (w0.heap.size + 1) 24 #[.int .i64 0, .int .i64 0, .int .i64 0, .slice none 0 0]
  bt : Bk w gt 24 #[.int .i64 t, .int .i64 (2 * N), .int .i64 (N + s), .slice (some ⟨g3, 0, none⟩) hs.length c3]
  own : w.ownsRow w0.heap.size 45 2 (.slice (some ⟨g3, 0, none⟩) hs.length c3) hs.length (phRow hs)
  rd : ∀ h ∈ hs, RdP w (fun b => b < w.heap.size ∧ b ≠ g3 ∧ b ≠ gt ∧ b ≠ w0.heap.size + 1) h.at_ (syRow h.right)
  lo : w0.heap.size + 1 < gt
  b : Bl w0 w
section
variable {t N s : Int} {A : Option Addr} {len c gt g3 c3 g4 c4 : Nat} {hs : List Ph} {w0 w w2 : World} {x : Ph}
theorem WlRel.bl_ (h : WlRel t N s A len c gt g3 c3 hs w0 w) (hb : Bl w w2) : WlRel t N s A len c gt g3 c3 hs w0 w2 :=
  ⟨h.bg.bl hb, h.b2.bl hb, h.bt.bl hb, own_bl h.own hb, fun y hy => ((h.rd y hy).keep (fun b hP => hb.block b hP.1)).mono (fun _ hP => ⟨Nat.lt_of_lt_of_le hP.1 hb.size, hP.2⟩), h.lo, h.b.trans hb⟩
theorem WlRel.start {B : Nat} (bg : Bk w w0.heap.size 24 #[.int .i64 t, .int .i64 N, .int .i64 s, .slice A len c]) (b2 : Bk w (w0.heap.size + 1) 24 #[.int .i64 0, .int .i64 0, .int .i64 0, .slice none 0 0])
    (bt : Bk w gt 24 #[.int .i64 t, .int .i64 (2 * N), .int .i64 (N + s), .slice (some ⟨g3, 0, none⟩) hs.length c3]) (own : w.ownsRow w0.heap.size 45 2 (.slice (some ⟨g3, 0, none⟩) hs.length c3) hs.length (phRow hs))
    (rd : ∀ h ∈ hs, Rd w B h.at_ (syRow h.right)) (hB : B ≤ w0.heap.size) (lo : w0.heap.size + 1 < gt) (b : Bl w0 w) : WlRel t N s A len c gt g3 c3 hs w0 w :=
  ⟨bg, b2, bt, own, fun h hh hn => by
    obtain ⟨b', off, e, hb, hc⟩ := rd h hh hn
    have h1 : w0.heap.size ≤ g3 := (own.lt _ rfl).1
    have h2 : w0.heap.size ≤ w.heap.size := b.size
    exact ⟨b', off, e, ⟨by omega, by omega, by omega, by omega⟩, hc⟩, lo, b⟩
theorem WlRel.more (h : WlRel t N s A len c gt g3 c3 hs w0 w) {o : Obj} (ho : w2.ownsRow w0.heap.size 45 2 (.slice (some ⟨g4, 0, none⟩) (hs.length + 1) c4) (hs.length + 1) (phRow hs ++ [.int .i64 x.left, .slice x.at_ x.right.length x.cap]))
    (hg : (w.alloc o).grownBy w2 (some g3)) (hgl : some g3 = some g4 ∨ g4 = (w.alloc o).heap.size) (hx : RdP w (fun b => b < w.heap.size ∧ b ≠ g3 ∧ b ≠ gt ∧ b ≠ w0.heap.size + 1) x.at_ (syRow x.right)) :
    WlRel t N s A len c gt g4 c4 (hs ++ [x]) w0 (w2.setCell ⟨gt, 3, none⟩ (.slice (some ⟨g4, 0, none⟩) (hs.length + 1) c4)) := by
  have hs2 := hg.size
  have hwl : w.heap.size < (w.alloc o).heap.size := by rw [World.size_alloc]; omega
  have bgn : w0.heap.size ≠ g3 := fun e => h.bg.row h.own (by decide) (by rw [e]; rfl)
  have b2n : w0.heap.size + 1 ≠ g3 := fun e => h.b2.row h.own (by decide) (by rw [e]; rfl)
  have btn : gt ≠ g3 := fun e => h.bt.row h.own (by decide) (by rw [e]; rfl)
  have kp : ∀ {g : Nat} {cs : Array Value}, Bk w g 24 cs → g ≠ g3 → Bk w2 g 24 cs := fun hk hne => (hk.alloc o).grown hg (fun e => hne (by injection e))
  have hfr : Fr (fun k => k = gt) w2 (w2.setCell ⟨gt, 3, none⟩ (.slice (some ⟨g4, 0, none⟩) (hs.length + 1) c4)) := (Fr.refl _ w2).own 3 _
  have hlo := h.lo
  have hbs := h.b.size
  have btl := h.bt.lt
  have row : ∀ y : Ph, RdP w (fun b => b < w.heap.size ∧ b ≠ g3 ∧ b ≠ gt ∧ b ≠ w0.heap.size + 1) y.at_ (syRow y.right) → RdP w2 (fun b => b < w2.heap.size ∧ b ≠ g4 ∧ b ≠ gt ∧ b ≠ w0.heap.size + 1) y.at_ (syRow y.right) := fun y hy => by
    refine (hy.keep (w' := w2) fun b hP => ?_).mono fun b hP => ⟨by omega, ?_, hP.2.2⟩
    · exact (hg.block b (by omega) (fun e => hP.2.1 (by injection e))).trans (Below.heap_alloc w o b hP.1)
    · rcases hgl with e | e
      · intro e2; injection e with e; exact hP.2.1 (by rw [e2, e])
      · omega
  have bt2 := kp h.bt btn
  refine ⟨?_, ?_, ?_, ?_, ?_, h.lo, ?_⟩
  · exact (kp h.bg bgn).far (p := ⟨gt, 3, none⟩) (show w0.heap.size ≠ gt by omega) _
  · exact (kp h.b2 b2n).far (p := ⟨gt, 3, none⟩) (show w0.heap.size + 1 ≠ gt by omega) _
  · rw [List.length_append]
    exact bt2.put 3 _
  · rw [List.length_append, phRow_snoc]
    exact own_fr ho hfr fun j hj e => bt2.row ho (by decide) (show (Value.slice (some ⟨g4, 0, none⟩) (hs.length + 1) c4).ownBlock = some gt from hj.trans (congrArg some e))
  · intro y hy
    have h1 : RdP w2 (fun b => b < w2.heap.size ∧ b ≠ g4 ∧ b ≠ gt ∧ b ≠ w0.heap.size + 1) y.at_ (syRow y.right) := by
      rcases List.mem_append.mp hy with hy | hy
      · exact row y (h.rd y hy)
      · rw [List.mem_singleton] at hy
        subst hy
        exact row y hx
    exact (h1.keep fun b hP => hfr.block b hP.1 hP.2.2.1).mono fun b hP => ⟨Nat.lt_of_lt_of_le hP.1 hfr.size, hP.2⟩
  · have h1 : Bl w0 w2 := (h.b.alloc o).grown hg (fun k hk => by injection hk with hk; subst hk; exact (h.own.lt _ rfl).1)
    exact h1.fr hfr (fun i hi e => by omega)
end
theorem gram_info0 : (Try.prog.info? 24).map (·.size) = some 4 := by kernel_rfl
theorem prod_info : (Try.prog.info? 45).map (fun i => (i.zero, i.size, i.bytes)) = some (some (.agg #[.int .i64 0, .slice none 0 0]), 2, 32) := by kernel_rfl
theorem sym_size2 : (Try.prog.info? 48).map (·.size) = some 2 := by kernel_rfl
theorem sym_info : (Try.prog.info? 48).map (fun i => (i.zero, i.size, i.bytes)) = some (some (.agg #[.bool false, .int .i64 0]), 2, 16) := by kernel_rfl
/-- What Wild leaves. -/
def WildPost (t N s : Int) (g : Gr.Gm) (w : World) (e : Ending) (w' : World) : Prop :=
  ∃ A c, e = .returned (.agg #[.int .i64 t, .int .i64 (2 * N), .int .i64 (N + s), .slice A (Wi.wild g).prods.length c]) ∧ Prs w' w'.heap.size A (Wi.wild g).prods ∧ Bl w w'

set_option maxRecDepth 100000 in
set_option maxHeartbeats 8000000 in
theorem wild_any (t N s : Int) (A : Option Addr) (len c : Nat) (ps : List Gr.Pr) (w : World) (B : Nat) (hlen : len = ps.length) (hok : Gr.Ok ⟨t, N, s, ps⟩) (hpos : 0 < len) (hr : PrsC w B A ps) (hB : B ≤ w.heap.size) :
    Calls Try.prog 17 #[.agg #[.int .i64 t, .int .i64 N, .int .i64 s, .slice A len c]] w (WildPost t N s ⟨t, N, s, ps⟩ w) := by
  obtain ⟨hs, hps, hr1, hr2⟩ := hr
  have hlh : len = hs.length := by rw [hlen, hps, List.length_map]
  have hl60 : len ≤ 60 := by have := hok.2.2.2.2.2.2.1; have h : ps.length ≤ 60 := this; omega
  subst hlh
  obtain ⟨i0, hi, hz0, hz1, hz2⟩ := info_parts prod_info
  obtain ⟨j0, hj, gz0, gz1, gz2⟩ := info_parts sym_info
  have hN1 := hok.2.2.1
  have hN24 := hok.2.2.2.1
  have hs0 := hok.2.2.2.2.1
  have hs1 := hok.2.2.2.2.2.1
  simp only at hN1 hN24 hs0 hs1
  have HB0 : Hid (Bl w ((w.alloc (.cells #[.int .i64 t, .int .i64 N, .int .i64 s, .slice A hs.length c] 24)).alloc (.cells #[.int .i64 0, .int .i64 0, .int .i64 0, .slice none 0 0] 24))) := ((Bl.refl w).alloc _).alloc _
  have HKc := Lib.hid ((Bk.new w 24 #[.int .i64 t, .int .i64 N, .int .i64 s, .slice A hs.length c]).alloc (.cells #[.int .i64 0, .int .i64 0, .int .i64 0, .slice none 0 0] 24))
  have HK2 : Hid (Bk ((w.alloc (.cells #[.int .i64 t, .int .i64 N, .int .i64 s, .slice A hs.length c] 24)).alloc (.cells #[.int .i64 0, .int .i64 0, .int .i64 0, .slice none 0 0] 24)) (w.heap.size + 1) 24 #[.int .i64 0, .int .i64 0, .int .i64 0, .slice none 0 0]) := by
    have h := Bk.new (w.alloc (.cells #[.int .i64 t, .int .i64 N, .int .i64 s, .slice A hs.length c] 24)) 24 #[.int .i64 0, .int .i64 0, .int .i64 0, .slice none 0 0]
    rw [World.size_alloc] at h
    exact h
  have HR1 : Hid (∀ wx, Bl w wx → Rd wx B A (phRow hs)) := fun _ hb => hr1.bl hB hb
  have HR2 : Hid (∀ wx, Bl w wx → ∀ h ∈ hs, Rd wx B h.at_ (syRow h.right)) := fun _ hb h hh => (hr2 h hh).1.bl hB hb
  have HCap : Hid (∀ h ∈ hs, h.right.length ≤ h.cap ∧ h.cap ≤ maxLen) := fun h hh => (hr2 h hh).2
  have hwr1 : IntKind.i64.wrap (2 * N) = 2 * N := by simp [IntKind.wrap, IntKind.bits, IntKind.signed]; omega
  have hwr2 : IntKind.i64.wrap (N + s) = N + s := by simp [IntKind.wrap, IntKind.bits, IntKind.signed]; omega
  have HOk := Lib.hid hok
  have HPs := Lib.hid hps
  have HL := Lib.hid hlen
  clear hr1 hr2 hok hps hlen
  go_enter Try.func17, Try.ntmps17
  go_wp2_with fail
  generalize hwd : (w.alloc (.cells #[.int .i64 t, .int .i64 N, .int .i64 s, .slice A hs.length c] 24)).alloc (.cells #[.int .i64 0, .int .i64 0, .int .i64 0, .slice none 0 0] 24) = wd at HB0 HKc HK2 ⊢
  have HWd := Lib.hid hwd
  have hws : w.heap.size + 1 < wd.heap.size := HK2.out.lt
  clear hwd
  have tk1 : True := trivial
  have HKa := Lib.hid HKc.out
  have hq0 : w.heap.size ≤ wd.heap.size := HB0.out.size
  have HQ1 : Hid (∀ o, w.heap.size ≤ (wd.alloc o).heap.size) := fun o => by rw [World.size_alloc]; omega
  have HQ2 : Hid (∀ o, w.heap.size ≤ (wd.alloc o).drew.heap.size) := fun o => HQ1.out o
  have HQ3 : Hid (∀ o o', w.heap.size ≤ ((wd.alloc o).alloc o').drew.heap.size) := fun o o' => by show _ ≤ ((wd.alloc o).alloc o').heap.size; rw [World.size_alloc]; have := HQ1.out o; omega
  refine Code.wp_mono (Q := fun e a' w' => e = .normal ∧ ∃ (gt g3 c3 : Nat) (v19 : Value), a' = ⟨List.toArray ((.agg #[.int .i64 t, .int .i64 N, .int .i64 s, .slice A hs.length c] : Value) :: .pointer (some ⟨w.heap.size, 0, none⟩) :: .pointer (some ⟨w.heap.size + 1, 0, none⟩) :: .pointer (some ⟨gt, 0, none⟩) :: undef :: undef :: undef :: undef :: undef :: .pointer (some ⟨w.heap.size, 0, none⟩) :: .int .i64 t :: .pointer (some ⟨w.heap.size, 1, none⟩) :: .int .i64 N :: .int .i64 (2 * N) :: .pointer (some ⟨w.heap.size, 1, none⟩) :: .int .i64 N :: .pointer (some ⟨w.heap.size, 2, none⟩) :: .int .i64 s :: .int .i64 (N + s) :: v19 :: .pointer (some ⟨w.heap.size, 3, none⟩) :: .slice A hs.length c :: .slice (some ⟨g3, 0, none⟩) hs.length c3 :: .agg #[.int .i64 t, .int .i64 (2 * N), .int .i64 (N + s), .slice (some ⟨g3, 0, none⟩) hs.length c3] :: undef :: undef :: undef :: undef :: undef :: undef :: undef :: undef :: undef :: undef :: undef :: undef :: undef :: undef :: undef :: undef :: undef :: undef :: undef :: undef :: undef :: undef :: undef :: undef :: undef :: undef :: undef :: undef :: undef :: undef :: undef :: undef :: undef :: undef :: undef :: undef :: undef :: undef :: undef :: undef :: undef :: undef :: undef :: undef :: undef :: undef :: undef :: undef :: undef :: undef :: undef :: undef :: undef :: undef :: undef :: undef :: undef :: undef :: undef :: undef :: undef :: undef :: undef :: undef :: undef :: []), []⟩ ∧ WlRel t N s A hs.length c gt g3 c3 hs w w') ?next ?reg
  case reg =>
    have hne1 : w.heap.size ≠ wd.heap.size := by omega
    have hne2 : w.heap.size ≠ wd.heap.size + 1 := by omega
    go_region_held3 (fun w' => w'.cell? ⟨w.heap.size, 0, none⟩ = some (.int .i64 t) ∧ w'.cell? ⟨w.heap.size, 1, none⟩ = some (.int .i64 N) ∧ w'.cell? ⟨w.heap.size, 2, none⟩ = some (.int .i64 s) ∧ w'.cell? ⟨w.heap.size, 3, none⟩ = some (.slice A hs.length c)) (first | with_reducible exact gcells HKc.out | with_reducible exact gcells HKc.out.drew | with_reducible exact gcells (HKc.out.alloc _) | with_reducible exact gcells (HKc.out.alloc _).drew | with_reducible exact gcells ((HKc.out.alloc _).alloc _).drew | with_reducible exact gcells (far4 HKc.out hne1 _ _ _ _) | with_reducible exact gcells (far4 HKc.out hne2 _ _ _ _)) (first
      | ((refine step_append_rdN rfl (.tmp 19) (.tmp 21) 22 rfl w.heap.size 45 i0 (.agg #[.int .i64 0, .slice none 0 0]) 2 32 Try.underlying22 hi hz0 hz1 hz2 rfl (by decide) (.slice (some ⟨_, 0, none⟩) 0 0) 0 [] rfl ?hown B A hs.length c (phRow hs) rfl ?hrd (phRow_len _) (phRow_one _) (by simp only [maxLen]; omega) (by omega) ?hbase ?_); (case hown => first | with_reducible exact own_drew (own_empty2 wd _ _ hq0) | with_reducible exact own_drew (own_alloc (own_empty2 wd _ _ hq0) _) | with_reducible exact own_drew (own_empty3 wd _ _ _ hq0)); (case hrd => first | with_reducible exact HR1.out _ (HB0.out.alloc _).drew | with_reducible exact HR1.out _ ((HB0.out.alloc _).alloc _).drew); (case hbase => first | with_reducible exact HQ2.out _ | with_reducible exact HQ3.out _ _); intro v2 w2 hown2 hg2; obtain ⟨g3, c3, hv2, hb3, hc3, hm3⟩ := own_at hown2 (by omega); subst hv2; have HO2 := Lib.hid hown2; have HG2 := Lib.hid hg2; have HKz := Lib.hid HKc.out; first | ((with_reducible change World.grownBy (wd.alloc (.cells #[] 45)).drew w2 _ at hg2); have HKc : Hid (Bk w2 w.heap.size 24 #[.int .i64 t, .int .i64 N, .int .i64 s, .slice A hs.length c]) := (HKz.out.alloc _).drew.grown hg2 (by simp [Value.ownBlock]; omega)) | ((with_reducible change World.grownBy ((wd.alloc (.cells #[.int .i64 0, .int .i64 0, .int .i64 0, .slice none 0 0] 24)).alloc (.cells #[] 45)).drew w2 _ at hg2); have HKc : Hid (Bk w2 w.heap.size 24 #[.int .i64 t, .int .i64 N, .int .i64 s, .slice A hs.length c]) := ((HKz.out.alloc _).alloc _).drew.grown hg2 (by simp [Value.ownBlock]; omega); have hKt : Bk w2 wd.heap.size 24 #[.int .i64 0, .int .i64 0, .int .i64 0, .slice none 0 0] := ((Bk.new wd 24 #[.int .i64 0, .int .i64 0, .int .i64 0, .slice none 0 0]).alloc _).drew.grown hg2 (by simp [Value.ownBlock]); have HKt := Lib.hid hKt; have t0 : w2.cell? ⟨wd.heap.size, 0, none⟩ = some (.int .i64 0) := hKt.cell 0; have u0 : w2.frozen? ⟨wd.heap.size, 0, none⟩ = false := hKt.free 0; have t1 : w2.cell? ⟨wd.heap.size, 1, none⟩ = some (.int .i64 0) := hKt.cell 1; have u1 : w2.frozen? ⟨wd.heap.size, 1, none⟩ = false := hKt.free 1; have t2 : w2.cell? ⟨wd.heap.size, 2, none⟩ = some (.int .i64 0) := hKt.cell 2; have u2 : w2.frozen? ⟨wd.heap.size, 2, none⟩ = false := hKt.free 2; have t3 : w2.cell? ⟨wd.heap.size, 3, none⟩ = some (.slice none 0 0) := hKt.cell 3; have u3 : w2.frozen? ⟨wd.heap.size, 3, none⟩ = false := hKt.free 3; have tl := hKt.lt; clear hKt) | ((with_reducible change World.grownBy ((wd.alloc (.cells #[] 45)).alloc (.cells #[.int .i64 0, .int .i64 0, .int .i64 0, .slice none 0 0] 24)).drew w2 _ at hg2); have HKc : Hid (Bk w2 w.heap.size 24 #[.int .i64 t, .int .i64 N, .int .i64 s, .slice A hs.length c]) := ((HKz.out.alloc _).alloc _).drew.grown hg2 (by simp [Value.ownBlock]; omega); have h0 := Bk.new (wd.alloc (.cells #[] 45)) 24 #[.int .i64 0, .int .i64 0, .int .i64 0, .slice none 0 0]; rw [World.size_alloc] at h0; have hKt : Bk w2 (wd.heap.size + 1) 24 #[.int .i64 0, .int .i64 0, .int .i64 0, .slice none 0 0] := h0.drew.grown hg2 (by simp [Value.ownBlock]); clear h0; have HKt := Lib.hid hKt; have t0 : w2.cell? ⟨wd.heap.size + 1, 0, none⟩ = some (.int .i64 0) := hKt.cell 0; have u0 : w2.frozen? ⟨wd.heap.size + 1, 0, none⟩ = false := hKt.free 0; have t1 : w2.cell? ⟨wd.heap.size + 1, 1, none⟩ = some (.int .i64 0) := hKt.cell 1; have u1 : w2.frozen? ⟨wd.heap.size + 1, 1, none⟩ = false := hKt.free 1; have t2 : w2.cell? ⟨wd.heap.size + 1, 2, none⟩ = some (.int .i64 0) := hKt.cell 2; have u2 : w2.frozen? ⟨wd.heap.size + 1, 2, none⟩ = false := hKt.free 2; have t3 : w2.cell? ⟨wd.heap.size + 1, 3, none⟩ = some (.slice none 0 0) := hKt.cell 3; have u3 : w2.frozen? ⟨wd.heap.size + 1, 3, none⟩ = false := hKt.free 3; have tl := hKt.lt; clear hKt); clear hown2 hg2 hb3 hc3))
    · have hb2 : Bl w w2 := (HB0.out.alloc _).drew.grown HG2.out (fun k hk => by cases hk; exact hq0)
      have ho : w2.ownsRow w.heap.size 45 2 (.slice (some ⟨g3, 0, none⟩) hs.length c3) hs.length (phRow hs) := by have h := HO2.out; rwa [Nat.zero_add, List.nil_append] at h
      have h2 : Bk w2 (w.heap.size + 1) 24 #[.int .i64 0, .int .i64 0, .int .i64 0, .slice none 0 0] := (HK2.out.alloc _).drew.grown HG2.out (by simp [Value.ownBlock]; omega)
      exact ⟨rfl, _, g3, c3, _, rfl, WlRel.start (HKc.out.alloc _) (h2.alloc _) (Bk.new w2 _ _) (own_alloc ho _) (HR2.out _ (hb2.alloc _)) hB (Nat.lt_of_lt_of_le hws (Nat.le_trans (show wd.heap.size ≤ (wd.alloc _).heap.size by rw [World.size_alloc]; omega) HG2.out.size)) (hb2.alloc _)⟩
    · have hb2 : Bl w w2 := ((HB0.out.alloc _).alloc _).drew.grown HG2.out (fun k hk => by cases hk; exact Nat.le_trans hq0 (by first | exact Nat.le_refl _ | exact Nat.le_succ _))
      have ho : w2.ownsRow w.heap.size 45 2 (.slice (some ⟨g3, 0, none⟩) hs.length c3) hs.length (phRow hs) := by have h := HO2.out; rwa [Nat.zero_add, List.nil_append] at h
      have h2 : Bk w2 (w.heap.size + 1) 24 #[.int .i64 0, .int .i64 0, .int .i64 0, .slice none 0 0] := ((HK2.out.alloc _).alloc _).drew.grown HG2.out (by simp [Value.ownBlock]; omega)
      have hbl : Bl w ((((w2.setCell ⟨wd.heap.size + 1, 0, none⟩ (.int .i64 t)).setCell ⟨wd.heap.size + 1, 1, none⟩ (.int .i64 (2 * N))).setCell ⟨wd.heap.size + 1, 2, none⟩ (.int .i64 (N + s))).setCell ⟨wd.heap.size + 1, 3, none⟩ (.slice (some ⟨g3, 0, none⟩) hs.length c3)) := hb2.fr (fr4 _ _ _ _ _ _) (fun i hi e => by omega)
      exact ⟨rfl, _, g3, c3, _, rfl, WlRel.start (far4 HKc.out hne2 _ _ _ _) (far4 h2 (by omega) _ _ _ _) (put4 HKt.out _ _ _ _) (own_fr ho (fr4 _ _ _ _ _ _) fun k hk e => HKt.out.row ho (by decide) (hk.trans (congrArg some e))) (HR2.out _ hbl) hB (by omega) hbl⟩
    · have hb2 : Bl w w2 := ((HB0.out.alloc _).alloc _).drew.grown HG2.out (fun k hk => by cases hk; exact Nat.le_trans hq0 (by first | exact Nat.le_refl _ | exact Nat.le_succ _))
      have ho : w2.ownsRow w.heap.size 45 2 (.slice (some ⟨g3, 0, none⟩) hs.length c3) hs.length (phRow hs) := by have h := HO2.out; rwa [Nat.zero_add, List.nil_append] at h
      have h2 : Bk w2 (w.heap.size + 1) 24 #[.int .i64 0, .int .i64 0, .int .i64 0, .slice none 0 0] := ((HK2.out.alloc _).alloc _).drew.grown HG2.out (by simp [Value.ownBlock]; omega)
      have hbl : Bl w ((((w2.setCell ⟨wd.heap.size, 0, none⟩ (.int .i64 t)).setCell ⟨wd.heap.size, 1, none⟩ (.int .i64 (2 * N))).setCell ⟨wd.heap.size, 2, none⟩ (.int .i64 (N + s))).setCell ⟨wd.heap.size, 3, none⟩ (.slice (some ⟨g3, 0, none⟩) hs.length c3)) := hb2.fr (fr4 _ _ _ _ _ _) (fun i hi e => by omega)
      exact ⟨rfl, _, g3, c3, _, rfl, WlRel.start (far4 HKc.out hne1 _ _ _ _) (far4 h2 (by omega) _ _ _ _) (put4 HKt.out _ _ _ _) (own_fr ho (fr4 _ _ _ _ _ _) fun k hk e => HKt.out.row ho (by decide) (hk.trans (congrArg some e))) (HR2.out _ hbl) hB (by omega) hbl⟩
  case next =>
    rintro e a' w5 ⟨rfl, gt, g3, c3, v19, rfl, hrel5⟩
    have HRel := Lib.hid hrel5
    clear hrel5
    have hgl : w.heap.size + 1 < gt := HRel.out.lo
    have HWt0 : Hid (hs.map Ph.pr = Wi.wildTo ⟨t, N, s, ps⟩ 0) := by unfold Hid; rw [Wi.wildTo_zero, ← HPs.out]
    go_wp2_with fail
    go_loopw [4] (fun i wr => ∃ (k g3 c3 : Nat) (hx : List Ph), k ≤ hs.length ∧ i = .int .i64 k ∧ Hid (WlRel t N s A hs.length c gt g3 c3 hx w wr) ∧ Hid (hx.map Ph.pr = Wi.wildTo ⟨t, N, s, ps⟩ k)) (fun i _ => hs.length - (intOf i).toNat)
    case atStart => exact ⟨0, g3, c3, hs, Nat.zero_le _, rfl, HRel.out, HWt0.out⟩
    case round =>
      obtain ⟨k, g3, c3, hx, hk, rfl, HRk, HTk⟩ := hrel
      have k3 : wr.cell? ⟨w.heap.size, 3, none⟩ = some (.slice A hs.length c) := HRk.out.bg.cell 3
      have k1 : wr.cell? ⟨w.heap.size, 1, none⟩ = some (.int .i64 N) := HRk.out.bg.cell 1
      have kl := HRk.out.bg.lt
      by_cases hlt : k < hs.length
      · obtain ⟨b, off, rfl, hbB, c0, c1⟩ := Rd.two (HR1.out _ HRk.out.b) hlt
        have hmem : hs[k].pr ∈ ps := by rw [HPs.out]; exact List.mem_map_of_mem (List.getElem_mem hlt)
        have hokp := HOk.out.2.2.2.2.2.2.2 _ hmem
        have hget : (⟨t, N, s, ps⟩ : Gr.Gm).prods[k]? = some hs[k].pr := by show ps[k]? = _; rw [HPs.out, List.getElem?_map, List.getElem?_eq_getElem hlt]; rfl
        have HGet := Lib.hid hget
        have hlenk := Wi.wildTo_len HOk.out k (show k ≤ ps.length by rw [HPs.out, List.length_map]; omega)
        have hlx : hx.length ≤ 1000 := by
          have h1 := congrArg List.length HTk.out
          rw [List.length_map] at h1
          have h2 : ps.length = hs.length := by rw [HPs.out, List.length_map]
          have h3 : (Wi.wildTo ⟨t, N, s, ps⟩ k).length ≤ ps.length + 9 * k := hlenk
          omega
        have HCp := Lib.hid (HCap.out _ (List.getElem_mem hlt))
        have HXr : Hid (∀ wx, Bl w wx → Rd wx B hs[k].at_ (syRow hs[k].right)) := fun wx hb => HR2.out wx hb _ (List.getElem_mem hlt)
        have HInl := Lib.hid (fun j => Wi.wildIn_len HOk.out (show k ≤ ps.length by rw [HPs.out, List.length_map]; omega) hokp.2.2.1 j)
        have hL0 := hokp.1
        have hL1 := hokp.2.1
        have hr8 := hokp.2.2.1
        have HSy : Hid (∀ x ∈ hs[k].right, Gr.okSy ⟨t, N, s, ps⟩ x) := hokp.2.2.2
        clear hmem hokp hget hlenk
        generalize hs[k] = p at *
        obtain ⟨L, right, Ax, cx⟩ := p
        simp only [Ph.pr] at c0 c1 HGet HCp HXr HInl hL0 hL1 hr8 HSy
        have i1 : (0 : Int) ≤ (k : Int) := by omega
        have i2 : (k : Int) < (hs.length : Int) := by omega
        have hbw : b < wr.heap.size := by have := HRk.out.b.size; omega
        have hwL : IntKind.i64.wrap (N + L) = N + L := by simp [IntKind.wrap, IntKind.bits, IntKind.signed]; omega
        have HRa := Lib.hid (HRk.out.bl_ (((Bl.refl wr).alloc (.cells #[.int .i64 L, .slice Ax right.length cx] 45)).alloc (.cells #[.int .i64 (N + L), .slice none 0 0] 45)))
        have HRb := Lib.hid (HRk.out.bl_ ((Bl.refl wr).alloc (.cells #[.int .i64 L, .slice Ax right.length cx] 45)))
        have q3 : wr.cell? ⟨gt, 3, none⟩ = some (.slice (some ⟨g3, 0, none⟩) hx.length c3) := HRk.out.bt.cell 3
        have qf : wr.frozen? ⟨gt, 3, none⟩ = false := HRk.out.bt.free 3
        have ql := HRk.out.bt.lt
        have hpb3 : wr.heap.size ≠ g3 := by have h : g3 < wr.heap.size := (HRk.out.own.lt _ rfl).2; omega
        go_wp2_with (at_builtin; refine wpList_append_lies _ rfl (.tmp 42) (.tmp 45) 22 rfl w.heap.size 45 i0 (.agg #[.int .i64 0, .slice none 0 0]) 2 32 Try.underlying22 hi hz0 hz1 hz2 rfl (by decide) (.slice (some ⟨g3, 0, none⟩) hx.length c3) hx.length (phRow hx) rfl HRa.out.own ⟨wr.heap.size + 1, 0, none⟩ 1 1 [.int .i64 (N + L), .slice none 0 0] rfl rfl (by have h := cells_new (wr.alloc (.cells #[.int .i64 L, .slice Ax right.length cx] 45)) #[.int .i64 (N + L), .slice none 0 0] 45; rw [World.size_alloc] at h; exact h) (by simp [Value.oneCell']) (by decide) (by simp only [maxLen]; omega) (by omega) (HRa.out.b.size) _ rfl ?_; intro g4 c4 w6 hown6 hg6 hgl6 _; have HM6 := Lib.hid (HRb.out.more (x := ⟨N + L, [], none, 0⟩) hown6 hg6 hgl6 RdP.nil); have HK6 : Hid (Bk w6 gt 24 #[.int .i64 t, .int .i64 (2 * N), .int .i64 (N + s), .slice (some ⟨g3, 0, none⟩) hx.length c3]) := HRa.out.bt.grown hg6 (fun e => HRa.out.bt.row HRa.out.own (by decide) e.symm); have x3 : w6.cell? ⟨gt, 3, none⟩ = some (.slice (some ⟨g3, 0, none⟩) hx.length c3) := HK6.out.cell 3; have xf : w6.frozen? ⟨gt, 3, none⟩ = false := HK6.out.free 3; have xl := HK6.out.lt; have HPb6 : Hid (Bk w6 wr.heap.size 45 #[.int .i64 L, .slice Ax right.length cx]) := ((Bk.new wr 45 #[.int .i64 L, .slice Ax right.length cx]).alloc _).grown hg6 (fun e => hpb3 (by injection e)); have hpb4 : wr.heap.size ≠ g4 := hgl6.elim (fun e e2 => hpb3 (e2.trans (Option.some.inj e).symm)) (fun e => by rw [World.size_alloc, World.size_alloc] at e; omega); clear hown6 hg6 hgl6)
        have HPb7 := Lib.hid (HPb6.out.far (p := ⟨gt, 3, none⟩) (show wr.heap.size ≠ gt by have := HRk.out.bt.lt; omega) (.slice (some ⟨g4, 0, none⟩) (hx.length + 1) c4))
        have hpgt : wr.heap.size ≠ gt := by have := HRk.out.bt.lt; omega
        generalize hw7 : w6.setCell ⟨gt, 3, none⟩ (.slice (some ⟨g4, 0, none⟩) (hx.length + 1) c4) = w7 at HM6 HPb7 ⊢
        have HW7 := Lib.hid hw7
        clear hw7 HRa HRb HPb6 HK6 x3 xf xl q3 qf ql k1 k3 kl
        obtain ⟨pb, hpb⟩ : ∃ pb : Nat, pb = wr.heap.size := ⟨_, rfl⟩
        rw [← hpb] at HPb7 hpb4 hpgt ⊢
        clear hpb hpb3
        have HT0 : Hid ((hx ++ [(⟨N + L, [], none, 0⟩ : Ph)]).map Ph.pr = Wi.wildIn ⟨t, N, s, ps⟩ k ⟨L, right⟩ 0) := by unfold Hid; rw [List.map_append, HTk.out, Wi.wildIn_zero]; rfl
        go_loopw [7] (fun i wy => ∃ (j g4 c4 : Nat) (hy : List Ph), j ≤ right.length ∧ i = .int .i64 j ∧ Hid (WlRel t N s (some ⟨b, off, none⟩) hs.length c gt g4 c4 hy w wy) ∧ Hid (hy.map Ph.pr = Wi.wildIn ⟨t, N, s, ps⟩ k ⟨L, right⟩ j) ∧ Hid (Bk wy pb 45 #[.int .i64 L, .slice Ax right.length cx]) ∧ pb ≠ g4) (fun i _ => right.length - (intOf i).toNat)
        case atStart => exact ⟨0, g4, c4, _, Nat.zero_le _, rfl, HM6.out, HT0.out, HPb7.out, hpb4⟩
        case round =>
          obtain ⟨j, g4, c4, hy, hj', rfl, HRy, HTy, HPy, hpg⟩ := hrel
          have p1 : wr.cell? ⟨pb, 1, none⟩ = some (.slice Ax right.length cx) := HPy.out.cell 1
          have plt := HPy.out.lt
          have hly : hy.length ≤ 1000 := by
            have h1 := congrArg List.length HTy.out
            rw [List.length_map] at h1
            have h2 := HInl.out j
            rw [← h1] at h2
            omega
          by_cases hltj : j < right.length
          · obtain ⟨bs, os, rfl, hbs, d0, d1⟩ := (HXr.out _ HRy.out.b).sym hltj
            have HSu := Lib.hid (Wi.wildIn_succ ⟨t, N, s, ps⟩ k (p := ⟨L, right⟩) hltj)
            have HTake : Hid (right.take (j + 1) = right.take j ++ [right[j]]) := List.take_succ_eq_append_getElem hltj
            have hyo := HSy.out _ (List.getElem_mem hltj)
            have HTl : Hid ((right.take j).length = j) := by unfold Hid; rw [List.length_take]; omega
            have HRt : Hid (∀ wx, Bl w wx → Rd wx B (some ⟨bs, os, none⟩) (syRow (right.take (j + 1)))) := fun wx hb => (HXr.out wx hb).sy_take _
            have HTl1 : Hid ((right.take (j + 1)).length = j + 1) := by unfold Hid; rw [List.length_take]; omega
            simp only at HSu
            generalize right[j] = y at *
            obtain ⟨yb, yn⟩ := y
            simp only at d0 d1
            have hy0 : 0 ≤ yn := hyo.1
            have hy1 : yn ≤ 24 := by
              cases yb with
              | true => have := hyo.2.1 rfl; simp only at this; omega
              | false => have := hyo.2.2 rfl; have h2 := HOk.out.2.1; simp only at this h2; omega
            have hbsw : bs < wr.heap.size := by have := HRy.out.b.size; omega
            have hsl := fun (wx : World) => run_slice_head (P := Try.prog) (t := 43) (e := 48) (size := 2) Try.underlying43 sym_size2 (some ⟨bs, os, none⟩) right.length cx (j + 1) ((j : Int) + 1) (by omega) (by have := HCp.out; omega) wx
            have i3 : (0 : Int) ≤ (j : Int) := by omega
            have i4 : (j : Int) < (right.length : Int) := by omega
            have i5 : (j : Int) < (j : Int) + 1 := by omega
            obtain ⟨RR, hRR⟩ : ∃ RR : List Gr.Sy, RR = right.take j ++ [Wi.prime N ⟨yb, yn⟩] := ⟨_, rfl⟩
            have HRRe := Lib.hid hRR
            have HRR : Hid (RR.length = j + 1) := by unfold Hid; rw [hRR, List.length_append, HTl.out]; rfl
            clear hRR
            have hwy : IntKind.i64.wrap (yn + N) = yn + N := by simp [IntKind.wrap, IntKind.bits, IntKind.signed]; omega
            cases yb with
            | false =>
              go_wp2_with (first
                | (at_builtin; refine wpList_append_rdN _ rfl (.tmp 55) (.tmp 60) 43 rfl wr.heap.size 48 j0 (.agg #[.bool false, .int .i64 0]) 2 16 Try.underlying43 hj gz0 gz1 gz2 rfl (by decide) (.slice (some ⟨wr.heap.size, 0, none⟩) 0 0) 0 [] rfl (own_empty2 wr _ _ (Nat.le_refl _)) B (some ⟨bs, os, none⟩) (j + 1) cx (syRow (right.take (j + 1))) rfl (HRt.out _ (HRy.out.b.alloc _)) (by rw [syRow_len, HTl1.out]) (syRow_one _) (by simp only [maxLen]; omega) (by omega) (by simp) ?_; intro v8 w8 hown8 hg8; obtain ⟨g8, c8, hv8, hb8, _, _⟩ := own_at hown8 (by omega); subst hv8; have HB8 : Hid (Bl wr w8) := ((Bl.refl wr).alloc _).grown hg8 (fun k hk => by cases hk; exact Nat.le_refl _); obtain ⟨cur, hk8, _, hc8⟩ := own_bkW hown8; have HK8 := Lib.hid hk8; have HC8 := Lib.hid hc8; have HPb8 := Lib.hid (HPy.out.bl HB8.out); have HR8 := Lib.hid (HRy.out.bl_ HB8.out); have e0 : w8.cell? ⟨bs, os + j * 2, none⟩ = some (.bool false) := (Below.cell HB8.out (p := ⟨bs, os + j * 2, none⟩) hbsw).trans d0; have e1 : w8.cell? ⟨pb, 1, none⟩ = some (.slice (some ⟨bs, os, none⟩) right.length cx) := HPb8.out.cell 1; have el := HPb8.out.lt; have eb := Nat.lt_of_lt_of_le hbsw HB8.out.size; have f3 : w8.cell? ⟨gt, 3, none⟩ = some (.slice (some ⟨g4, 0, none⟩) hy.length c4) := HR8.out.bt.cell 3; have fl := HR8.out.bt.lt; have f1 : w8.cell? ⟨w.heap.size, 1, none⟩ = some (.int .i64 N) := HR8.out.bg.cell 1; have f1l := HR8.out.bg.lt; have HC9 : Hid (∀ (i : Nat) (u : Value), (syRow (right.take j ++ [(⟨false, yn⟩ : Gr.Sy)]))[i]? = some u → cur[i]? = some u) := (by intro i u hu; exact HC8.out i u (by rw [List.nil_append, HTake.out]; exact hu)); have hg84 : g8 ≠ g4 := (by have h : g4 < wr.heap.size := (HRy.out.own.lt _ rfl).2; omega); have hg8t : g8 ≠ gt := (by have := HRy.out.bt.lt; omega); have hg8w : g8 ≠ w.heap.size + 1 := (by have := HRy.out.b2.lt; omega); have HRd8 : Hid (RdP w8 (fun b => b < w8.heap.size ∧ b ≠ g4 ∧ b ≠ gt ∧ b ≠ w.heap.size + 1) (some ⟨g8, 0, none⟩) (syRow RR)) := (by rw [HRRe.out]; exact RdP.of_bk HK8.out HC9.out ⟨HK8.out.lt, hg84, hg8t, hg8w⟩); clear hown8 hg8 hk8 hc8)
                | (at_builtin; refine wpList_append_lies _ rfl (.tmp 81) (.tmp 85) 22 rfl w.heap.size 45 i0 (.agg #[.int .i64 0, .slice none 0 0]) 2 32 Try.underlying22 hi hz0 hz1 hz2 rfl (by decide) (.slice (some ⟨g4, 0, none⟩) hy.length c4) hy.length (phRow hy) rfl (own_alloc HR8.out.own _) ⟨w8.heap.size, 0, none⟩ 1 1 [.int .i64 (N + L), .slice (some ⟨g8, 0, none⟩) (j + 1) c8] rfl rfl (cells_new w8 #[.int .i64 (N + L), .slice (some ⟨g8, 0, none⟩) (j + 1) c8] 45) (by simp [Value.oneCell']) (by decide) (by simp only [maxLen]; omega) (by omega) (HR8.out.b.alloc _).size _ rfl ?_; intro g5 c5 w5' hown5 hg5 hgl5 _; have HM5 := Lib.hid (HR8.out.more (x := ⟨N + L, RR, some ⟨g8, 0, none⟩, c8⟩) (by show World.ownsRow _ _ _ _ _ _ (phRow hy ++ [.int .i64 (N + L), .slice (some ⟨g8, 0, none⟩) RR.length c8]); rw [HRR.out]; exact hown5) hg5 hgl5 HRd8.out); have HK5 : Hid (Bk w5' gt 24 #[.int .i64 t, .int .i64 (2 * N), .int .i64 (N + s), .slice (some ⟨g4, 0, none⟩) hy.length c4]) := (HR8.out.bt.alloc _).grown hg5 (fun e => HR8.out.bt.row HR8.out.own (by decide) e.symm); have x3 : w5'.cell? ⟨gt, 3, none⟩ = some (.slice (some ⟨g4, 0, none⟩) hy.length c4) := HK5.out.cell 3; have xf : w5'.frozen? ⟨gt, 3, none⟩ = false := HK5.out.free 3; have xl := HK5.out.lt; have HPb5 : Hid (Bk w5' pb 45 #[.int .i64 L, .slice (some ⟨bs, os, none⟩) right.length cx]) := (HPb8.out.alloc _).grown hg5 (fun e => hpg (by injection e)); have hpb5 : pb ≠ g5 := hgl5.elim (fun e e2 => hpg (e2.trans (Option.some.inj e).symm)) (fun e => by rw [World.size_alloc] at e; have := HPb8.out.lt; omega); clear hown5 hg5 hgl5))
              go_roundw
              case rel => exact ⟨j + 1, g5, c5, hy ++ [(⟨N + L, RR, some ⟨g8, 0, none⟩, c8⟩ : Ph)], by omega, by go_num, HM5.out, by rw [List.map_append, HTy.out, HSu.out, ← HRRe.out]; rfl, HPb5.out.far (p := ⟨gt, 3, none⟩) hpgt _, hpb5⟩
              case measure => simp [intOf]; omega
            | true =>
              go_wp2_with (at_builtin; refine wpList_append_rdN _ rfl (.tmp 55) (.tmp 60) 43 rfl wr.heap.size 48 j0 (.agg #[.bool false, .int .i64 0]) 2 16 Try.underlying43 hj gz0 gz1 gz2 rfl (by decide) (.slice (some ⟨wr.heap.size, 0, none⟩) 0 0) 0 [] rfl (own_empty2 wr _ _ (Nat.le_refl _)) B (some ⟨bs, os, none⟩) (j + 1) cx (syRow (right.take (j + 1))) rfl (HRt.out _ (HRy.out.b.alloc _)) (by rw [syRow_len, HTl1.out]) (syRow_one _) (by simp only [maxLen]; omega) (by omega) (by simp) ?_; intro v8 w8 hown8 hg8; obtain ⟨g8, c8, hv8, hb8, _, _⟩ := own_at hown8 (by omega); subst hv8; have HB8 : Hid (Bl wr w8) := ((Bl.refl wr).alloc _).grown hg8 (fun k hk => by cases hk; exact Nat.le_refl _); obtain ⟨cur, hk8, _, hc8⟩ := own_bkW hown8; have HK8 := Lib.hid hk8; have HC8 := Lib.hid hc8; have HPb8 := Lib.hid (HPy.out.bl HB8.out); have HR8 := Lib.hid (HRy.out.bl_ HB8.out); have e0 : w8.cell? ⟨bs, os + j * 2, none⟩ = some (.bool true) := (Below.cell HB8.out (p := ⟨bs, os + j * 2, none⟩) hbsw).trans d0; have e1 : w8.cell? ⟨pb, 1, none⟩ = some (.slice (some ⟨bs, os, none⟩) right.length cx) := HPb8.out.cell 1; have el := HPb8.out.lt; have eb := Nat.lt_of_lt_of_le hbsw HB8.out.size; have f3 : w8.cell? ⟨gt, 3, none⟩ = some (.slice (some ⟨g4, 0, none⟩) hy.length c4) := HR8.out.bt.cell 3; have fl := HR8.out.bt.lt; have f1 : w8.cell? ⟨w.heap.size, 1, none⟩ = some (.int .i64 N) := HR8.out.bg.cell 1; have f1l := HR8.out.bg.lt; have HC9 : Hid (∀ (i : Nat) (u : Value), (syRow (right.take j ++ [(⟨true, yn⟩ : Gr.Sy)]))[i]? = some u → cur[i]? = some u) := (by intro i u hu; exact HC8.out i u (by rw [List.nil_append, HTake.out]; exact hu)); have hg84 : g8 ≠ g4 := (by have h : g4 < wr.heap.size := (HRy.out.own.lt _ rfl).2; omega); have hg8t : g8 ≠ gt := (by have := HRy.out.bt.lt; omega); have hg8w : g8 ≠ w.heap.size + 1 := (by have := HRy.out.b2.lt; omega);  clear hown8 hg8 hk8 hc8)
              have hcell : w8.cell? ⟨g8, j * 2 + 1, none⟩ = some (.int .i64 yn) := by
                rw [HK8.out.cell]
                refine HC9.out _ _ ?_
                rw [syRow_snoc, List.getElem?_append_right (by rw [syRow_len, HTl.out]; omega), syRow_len, HTl.out, show j * 2 + 1 - j * 2 = 1 by omega]
                rfl
              have hfz := HK8.out.free (j * 2 + 1)
              have hgl8 := HK8.out.lt
              have HK9 : Hid (Bk (w8.setCell ⟨g8, j * 2 + 1, none⟩ (.int .i64 (yn + N))).drew g8 48 (cur.setIfInBounds (j * 2 + 1) (.int .i64 (yn + N)))) := (HK8.out.put _ _).drew
              have HB9 : Hid (Bl wr (w8.setCell ⟨g8, j * 2 + 1, none⟩ (.int .i64 (yn + N))).drew) := (HB8.out.fr ((Fr.refl _ w8).own (g := g8) (j * 2 + 1) (.int .i64 (yn + N))) (fun i hi e => by omega)).drew
              go_region
              generalize hw9 : (w8.setCell ⟨g8, j * 2 + 1, none⟩ (.int .i64 (yn + N))).drew = w9 at *
              clear hcell hfz hgl8 e0 e1 el eb f3 fl f1 f1l
              have HR9 := Lib.hid (HRy.out.bl_ HB9.out)
              have HPb9 := Lib.hid (HPy.out.bl HB9.out)
              have HRd9 : Hid (RdP w9 (fun b => b < w9.heap.size ∧ b ≠ g4 ∧ b ≠ gt ∧ b ≠ w.heap.size + 1) (some ⟨g8, 0, none⟩) (syRow RR)) := by
                rw [HRRe.out]
                have h := set_reads HC9.out (j * 2 + 1) (.int .i64 (yn + N))
                rw [← HTl.out] at h
                rw [HTl.out, show (j * 2 + 1) = (right.take j).length * 2 + 1 by rw [HTl.out], syRow_set, HTl.out] at h
                exact RdP.of_bk HK9.out h ⟨HK9.out.lt, hg84, hg8t, hg8w⟩
              have f3 : w9.cell? ⟨gt, 3, none⟩ = some (.slice (some ⟨g4, 0, none⟩) hy.length c4) := HR9.out.bt.cell 3
              have fl := HR9.out.bt.lt
              go_wp2_with (at_builtin; refine wpList_append_lies _ rfl (.tmp 81) (.tmp 85) 22 rfl w.heap.size 45 i0 (.agg #[.int .i64 0, .slice none 0 0]) 2 32 Try.underlying22 hi hz0 hz1 hz2 rfl (by decide) (.slice (some ⟨g4, 0, none⟩) hy.length c4) hy.length (phRow hy) rfl (own_alloc HR9.out.own _) ⟨w9.heap.size, 0, none⟩ 1 1 [.int .i64 (N + L), .slice (some ⟨g8, 0, none⟩) (j + 1) c8] rfl rfl (cells_new w9 #[.int .i64 (N + L), .slice (some ⟨g8, 0, none⟩) (j + 1) c8] 45) (by simp [Value.oneCell']) (by decide) (by simp only [maxLen]; omega) (by omega) (HR9.out.b.alloc _).size _ rfl ?_; intro g5 c5 w5' hown5 hg5 hgl5 _; have HM5 := Lib.hid (HR9.out.more (x := ⟨N + L, RR, some ⟨g8, 0, none⟩, c8⟩) (by show World.ownsRow _ _ _ _ _ _ (phRow hy ++ [.int .i64 (N + L), .slice (some ⟨g8, 0, none⟩) RR.length c8]); rw [HRR.out]; exact hown5) hg5 hgl5 HRd9.out); have HK5 : Hid (Bk w5' gt 24 #[.int .i64 t, .int .i64 (2 * N), .int .i64 (N + s), .slice (some ⟨g4, 0, none⟩) hy.length c4]) := (HR9.out.bt.alloc _).grown hg5 (fun e => HR9.out.bt.row HR9.out.own (by decide) e.symm); have x3 : w5'.cell? ⟨gt, 3, none⟩ = some (.slice (some ⟨g4, 0, none⟩) hy.length c4) := HK5.out.cell 3; have xf : w5'.frozen? ⟨gt, 3, none⟩ = false := HK5.out.free 3; have xl := HK5.out.lt; have HPb5 : Hid (Bk w5' pb 45 #[.int .i64 L, .slice (some ⟨bs, os, none⟩) right.length cx]) := (HPb9.out.alloc _).grown hg5 (fun e => hpg (by injection e)); have hpb5 : pb ≠ g5 := hgl5.elim (fun e e2 => hpg (e2.trans (Option.some.inj e).symm)) (fun e => by rw [World.size_alloc] at e; have := HPb9.out.lt; omega); clear hown5 hg5 hgl5)
              go_roundw
              case rel => exact ⟨j + 1, g5, c5, hy ++ [(⟨N + L, RR, some ⟨g8, 0, none⟩, c8⟩ : Ph)], by omega, by go_num, HM5.out, by rw [List.map_append, HTy.out, HSu.out, ← HRRe.out]; rfl, HPb5.out.far (p := ⟨gt, 3, none⟩) hpgt _, hpb5⟩
              case measure => simp [intOf]; omega
          · have hje : j = right.length := by omega
            have HTe : Hid (hy.map Ph.pr = Wi.wildTo ⟨t, N, s, ps⟩ (k + 1)) := by
              unfold Hid
              rw [HTy.out, hje]
              exact Wi.wildIn_end ⟨t, N, s, ps⟩ HGet.out
            go_wp2_with fail
            go_roundw
            case rel => exact ⟨k + 1, g4, c4, hy, by omega, by go_num, HRy.out, HTe.out⟩
            case measure => simp [intOf]; omega
      · have hke : k = ps.length := by have h2 : ps.length = hs.length := by rw [HPs.out, List.length_map]
                                       omega
        have HTe : Hid (hx.map Ph.pr = (Wi.wild ⟨t, N, s, ps⟩).prods) := by
          unfold Hid
          rw [HTk.out, hke]
          exact Wi.wildTo_all ⟨t, N, s, ps⟩
        clear hke
        have e0 : wr.cell? ⟨gt, 0, none⟩ = some (.int .i64 t) := HRk.out.bt.cell 0
        have e1 : wr.cell? ⟨gt, 1, none⟩ = some (.int .i64 (2 * N)) := HRk.out.bt.cell 1
        have e2 : wr.cell? ⟨gt, 2, none⟩ = some (.int .i64 (N + s)) := HRk.out.bt.cell 2
        have e3 : wr.cell? ⟨gt, 3, none⟩ = some (.slice (some ⟨g3, 0, none⟩) hx.length c3) := HRk.out.bt.cell 3
        have el := HRk.out.bt.lt
        have d0 : wr.cell? ⟨w.heap.size + 1, 0, none⟩ = some (.int .i64 0) := HRk.out.b2.cell 0
        have d1 : wr.cell? ⟨w.heap.size + 1, 1, none⟩ = some (.int .i64 0) := HRk.out.b2.cell 1
        have d2 : wr.cell? ⟨w.heap.size + 1, 2, none⟩ = some (.int .i64 0) := HRk.out.b2.cell 2
        have d3 : wr.cell? ⟨w.heap.size + 1, 3, none⟩ = some (.slice none 0 0) := HRk.out.b2.cell 3
        have f0 := HRk.out.b2.free 0
        have f1 := HRk.out.b2.free 1
        have f2 := HRk.out.b2.free 2
        have f3 := HRk.out.b2.free 3
        have dl := HRk.out.b2.lt
        have HF : Hid (Bk ((((wr.setCell ⟨w.heap.size + 1, 0, none⟩ (.int .i64 t)).setCell ⟨w.heap.size + 1, 1, none⟩ (.int .i64 (2 * N))).setCell ⟨w.heap.size + 1, 2, none⟩ (.int .i64 (N + s))).setCell ⟨w.heap.size + 1, 3, none⟩ (.slice (some ⟨g3, 0, none⟩) hx.length c3)) (w.heap.size + 1) 24 #[.int .i64 t, .int .i64 (2 * N), .int .i64 (N + s), .slice (some ⟨g3, 0, none⟩) hx.length c3]) := put4 HRk.out.b2 _ _ _ _
        have HB9 : Hid (Bl w ((((wr.setCell ⟨w.heap.size + 1, 0, none⟩ (.int .i64 t)).setCell ⟨w.heap.size + 1, 1, none⟩ (.int .i64 (2 * N))).setCell ⟨w.heap.size + 1, 2, none⟩ (.int .i64 (N + s))).setCell ⟨w.heap.size + 1, 3, none⟩ (.slice (some ⟨g3, 0, none⟩) hx.length c3))) := HRk.out.b.fr (fr4 _ _ _ _ _ _) (fun i hi e => by omega)
        have HFr : Hid (Fr (fun k => k = w.heap.size + 1) wr ((((wr.setCell ⟨w.heap.size + 1, 0, none⟩ (.int .i64 t)).setCell ⟨w.heap.size + 1, 1, none⟩ (.int .i64 (2 * N))).setCell ⟨w.heap.size + 1, 2, none⟩ (.int .i64 (N + s))).setCell ⟨w.heap.size + 1, 3, none⟩ (.slice (some ⟨g3, 0, none⟩) hx.length c3))) := fr4 _ _ _ _ _ _
        go_wp2_with fail
        generalize (((wr.setCell ⟨w.heap.size + 1, 0, none⟩ (.int .i64 t)).setCell ⟨w.heap.size + 1, 1, none⟩ (.int .i64 (2 * N))).setCell ⟨w.heap.size + 1, 2, none⟩ (.int .i64 (N + s))).setCell ⟨w.heap.size + 1, 3, none⟩ (.slice (some ⟨g3, 0, none⟩) hx.length c3) = w9 at HF HB9 HFr ⊢
        try simp only [Exit.inBlock, Exit.then]
        refine bodyPost_ret (results_row rfl _ _ (w.heap.size + 1) 24 _ _ rfl HF.out Try.underlying24 rfl gram_info0) rfl ?_
        have hlen9 : hx.length = (Wi.wild ⟨t, N, s, ps⟩).prods.length := by rw [← HTe.out, List.length_map]
        refine ⟨some ⟨g3, 0, none⟩, c3, by rw [hlen9], ?_, HB9.out⟩
        refine ⟨hx, HTe.out.symm, ?_, fun y hy => ?_⟩
        · have ho := own_fr HRk.out.own HFr.out fun k hk e => HRk.out.b2.row HRk.out.own (by decide) (hk.trans (congrArg some e))
          exact own_rdW ho
        · intro hn
          obtain ⟨b, off, e, hP, hc⟩ := HRk.out.rd y hy hn
          exact ⟨b, off, e, Nat.lt_of_lt_of_le hP.1 HFr.out.size, fun j u hu => (HFr.out.cell (p := ⟨b, off + j, none⟩) hP.1 hP.2.2.2).trans (hc j u hu)⟩
end Go.Proofs.Ytbncgjccmadkbaa
/- An argument that is a slice of ints, opened to cells. -/
namespace Go.Proofs.Ytbncgjccmadkbaa
open Go.ChangeShapes Go.WideShapes Go.RowKit Go.Deep

theorem drd_ints {w : World} {x : Addr} {len : Nat} {zs : List Int} (hl : len ≤ zs.length) (hc : ∀ i, i < zs.length → w.cell? (x.add i) = some (.int .i64 (zs.getD i 0))) : Rd w w.heap.size (some x) (ins (zs.take len)) := by
  intro hn
  rw [ins_len, List.length_take] at hn
  obtain ⟨b, off, spot⟩ := x
  have hc0 := hc 0 (by omega)
  have hspot : spot = none := by simpa [Addr.add] using World.cell?_spot hc0
  subst hspot
  refine ⟨b, off, rfl, World.block_lt_of_cell? w _ hc0, fun j u hu => ?_⟩
  have hj : j < len := by
    rcases Nat.lt_or_ge j len with h | h
    · exact h
    · rw [List.getElem?_eq_none (by rw [ins_len, List.length_take]; omega)] at hu; cases hu
  have h1 := hc j (by omega)
  have e : (⟨b, off, none⟩ : Addr).add j = ⟨b, off + j, none⟩ := by unfold Addr.add; split <;> simp_all
  rw [e] at h1
  rw [h1]
  have hzj : zs[j]? = some (zs[j]'(by omega)) := List.getElem?_eq_getElem (by omega)
  simp [ins, hj, hzj] at hu
  rw [← hu, List.getD_eq_getElem?_getD, hzj]
  rfl

section
variable {H : Type} {enc : TypeId × Value → H} {w : World} {spare : Nat → Bool} {held : Bool}
theorem dopen_ints {A : Option Addr} {len cap : Nat} {d : DataW H} {p : List MemPlace} (h : DataW.Trod enc Try.prog w 0 (fun _ => true) held 25 (.slice A len cap) d p) :
    ∃ l : List Int, len = l.length ∧ Rd w w.heap.size A (ins l) ∧ len ≤ cap ∧ cap ≤ maxLen := by
  obtain ⟨fuel, hf⟩ := h
  rcases open_ints Try.underlying25 Try.underlying3 (by kernel_rfl) hf with ⟨hcs, _⟩ | ⟨a, l, c, zs, hcs, _, hl, hm, hz, _, hcell, hwz⟩
  · simp [Value.cells] at hcs
    obtain ⟨rfl, rfl, rfl⟩ := hcs
    exact ⟨[], rfl, Rd.nil, Nat.le_refl _, Nat.zero_le _⟩
  · simp [Value.cells] at hcs
    obtain ⟨rfl, rfl, rfl⟩ := hcs
    have hlz : len ≤ zs.length := by rw [hz]; split <;> omega
    have e : (zs.take len).length = len := by rw [List.length_take]; omega
    exact ⟨zs.take len, e.symm, drd_ints hlz hcell, hl, hm⟩
end
end Go.Proofs.Ytbncgjccmadkbaa
