/- Rows of words in memory: 25 numbers each, one row behind the other, in a block that is known as far as it is looked at. -/
import Derived.Test.YtpblamiiggglaaaPlainS
import Derived.Test.YtpblamiiggglaaaFactS
import Derived.Test.YtpblamiiggglaaaRow
import Derived.Laws.StructEq
import Derived.Deep.WholeRow
import Derived.ChangeKeysEq
namespace Go.Proofs.Ytpblamiiggglaaa
open Go.RowKit

/-- Numbers, one put anew. -/
def upN (F : Nat → Nat) (i v : Nat) : Nat → Nat := fun j => if j = i then v else F j
/-- The first cells of a block of rows: numbers. -/
def Wn (t : TypeId) (w : World) (g N : Nat) (F : Nat → Nat) : Prop := ∃ cs : Array Value, Bk w g t cs ∧ N ≤ cs.size ∧ ∀ i, i < N → cs[i]? = some (.int .u32 (F i : Int))
section
variable {t : TypeId} {w w' : World} {g N : Nat} {F G : Nat → Nat}
theorem Wn.lt (h : Wn t w g N F) : g < w.heap.size := by obtain ⟨cs, h1, _⟩ := h; exact h1.lt
theorem Wn.cell (h : Wn t w g N F) {i : Nat} (hi : i < N) : w.cell? ⟨g, i, none⟩ = some (.int .u32 (F i : Int)) := by
  obtain ⟨cs, h1, _, h3⟩ := h
  rw [h1.cell]; exact h3 i hi
theorem Wn.free (h : Wn t w g N F) (i : Nat) : w.frozen? ⟨g, i, none⟩ = false := by obtain ⟨cs, h1, _⟩ := h; exact h1.free i
theorem Wn.bl (h : Wn t w g N F) (hb : Bl w w') : Wn t w' g N F := by obtain ⟨cs, h1, h2⟩ := h; exact ⟨cs, h1.bl hb, h2⟩
theorem Wn.fr {S : Nat → Prop} (h : Wn t w g N F) (hf : Fr S w w') (hg : ¬ S g) : Wn t w' g N F := by obtain ⟨cs, h1, h2⟩ := h; exact ⟨cs, h1.fr hf hg, h2⟩
theorem Wn.congr (h : Wn t w g N F) (e : ∀ i, i < N → F i = G i) : Wn t w g N G := by
  obtain ⟨cs, h1, h2, h3⟩ := h
  exact ⟨cs, h1, h2, fun i hi => by rw [h3 i hi, e i hi]⟩
theorem Wn.put (h : Wn t w g N F) {i : Nat} (hi : i < N) (v : Nat) : Wn t (w.setCell ⟨g, i, none⟩ (.int .u32 (v : Int))) g N (upN F i v) := by
  obtain ⟨cs, h1, h2, h3⟩ := h
  refine ⟨_, h1.put i _, by rw [Array.size_setIfInBounds]; exact h2, fun j hj => ?_⟩
  rw [Array.getElem?_setIfInBounds]
  unfold upN
  by_cases e : i = j
  · subst e
    rw [if_pos rfl, if_pos (by omega), if_pos rfl]
  · rw [if_neg e, if_neg (fun h => e h.symm)]
    exact h3 j hj
end
/-- A row by value. -/
def rc (f : Nat → Nat) : Array Value := (us ((List.range 25).map f)).toArray
theorem rc_size (f : Nat → Nat) : (rc f).size = 25 := by simp [rc, us]
theorem rc_at (f : Nat → Nat) {i : Nat} (hi : i < 25) : (rc f)[i]? = some (.int .u32 (f i : Int)) := by
  simp [rc, us, hi]
theorem rc_one (f : Nat → Nat) : (rc f).all (·.oneCell') = true := all_oneCell_toArray (cs := us ((List.range 25).map f)) (us_one _)
theorem rc_congr {f h : Nat → Nat} (e : ∀ i, i < 25 → f i = h i) : rc f = rc h := by
  unfold rc
  congr 2
  apply List.map_congr_left
  intro i hi
  exact e i (List.mem_range.mp hi)
theorem rc_inj {f h : Nat → Nat} (e : rc f = rc h) {i : Nat} (hi : i < 25) : f i = h i := by
  have h1 := rc_at f hi
  rw [e, rc_at h hi] at h1
  injection h1 with h1
  injection h1 with _ h1
  omega
/-- Whether the first n numbers are the same. -/
def sameN (n : Nat) (f h : Nat → Nat) : Bool := decide (∀ i, i < n → f i = h i)
theorem sameN_iff {n : Nat} {f h : Nat → Nat} : sameN n f h = true ↔ ∀ i, i < n → f i = h i := decide_eq_true_iff
/-- No row. -/
def rc0 : Array Value := rc fun _ => 0
theorem row_info : (Try.prog.info? 78).map (fun i => (i.zero, i.size, i.bytes)) = some (some (.agg rc0), 25, 100) := by kernel_rfl
theorem row_zero : (Try.prog.info? 78).map (fun i => (i.zero, i.size)) = some (some (.agg rc0), 25) := by kernel_rfl
section
variable {P : Program} (w : World)
/-- Whether numbers are the same, one by one. -/
theorem run_equalIn_nums (d : Nat) (t e : TypeId) (n : Nat) (ht : P.underlying t = some (.array n e)) (he : P.underlying e = some (.int .u32)) (hsz : ∀ w, (sizeOf e).run P w = .ok 1 w)
    (xs ys : Array Value) (f h : Nat → Nat) (hx : ∀ i, i < n → xs[i]? = some (.int .u32 (f i : Int))) (hy : ∀ i, i < n → ys[i]? = some (.int .u32 (h i : Int))) :
    (Op.equalIn (d + 2) t (.agg xs) (.agg ys)).run P w = .ok (sameN n f h) w := by
  have hall : sameN n f h = (List.range' 0 n 1).all fun i => f i == h i := by
    rw [Bool.eq_iff_iff, sameN_iff, List.all_eq_true]
    constructor
    · intro hh i hi
      have := (List.mem_range'_1.1 hi).2
      exact beq_iff_eq.2 (hh i (by omega))
    · intro hh i hi
      exact beq_iff_eq.1 (hh i (List.mem_range'_1.2 ⟨Nat.zero_le _, by omega⟩))
  rw [hall, Op.equalIn]
  simp only [Sem.run_bind, run_underlying ht, Result.andThen_ok, hsz, Std.Legacy.Range.forIn_eq_forIn_range', Std.Legacy.Range.size, Nat.sub_zero, Nat.add_sub_cancel, Nat.div_one]
  have hl : ∀ i ∈ List.range' 0 n 1, i < n := fun i hi => by simpa using (List.mem_range'_1.1 hi).2
  generalize List.range' 0 n 1 = l at hl ⊢
  clear hall
  induction l with
  | nil => simp
  | cons i l ih =>
    have hi : i < n := hl i (by simp)
    have px : (part e xs (i * 1)).run P w = .ok (.int .u32 (f i : Int)) w := by
      simp [part, isAgg, run_underlying he, hx i hi]
    have py : (part e ys (i * 1)).run P w = .ok (.int .u32 (h i : Int)) w := by
      simp [part, isAgg, run_underlying he, hy i hi]
    have pe : (Op.equalIn (d + 1) e (.int .u32 (f i : Int)) (.int .u32 (h i : Int))).run P w = .ok (f i == h i) w := by
      rw [run_equalIn_int w d e .u32 .u32 _ _ he]
      congr 1
      rw [Bool.eq_iff_iff, beq_iff_eq, beq_iff_eq]
      omega
    simp only [List.forIn_cons, Sem.run_bind, px, py, pe, Result.andThen_ok, List.all_cons]
    cases hb : (f i == h i)
    · simp
    · simp only [Bool.not_true, Bool.false_eq_true, if_false, Bool.true_and, Sem.run_pure, Result.andThen_ok]
      exact ih (fun j hj => hl j (by simp [hj]))
end
theorem u32_size (w : World) : (sizeOf 75).run Try.prog w = .ok 1 w := by kernel_rfl
theorem row_fields : (Try.prog.fieldsOf 78).toList.map (fun f => (f.name, f.type, f.offset)) = [("Ends", 76, 0), ("Over", 75, 24)] := by kernel_rfl
end Go.Proofs.Ytpblamiiggglaaa
/- Rows of words, compared as structs. -/
namespace Go.Proofs.Ytpblamiiggglaaa
open Go.RowKit

theorem rc_ends (f : Nat → Nat) {i : Nat} (hi : i < 24) : ((rc f).extract 0 24)[i]? = some (.int .u32 (f i : Int)) := by
  rw [Array.getElem?_extract, if_pos (by rw [rc_size]; omega), Nat.zero_add]
  exact rc_at f (by omega)
theorem same_split (f h : Nat → Nat) : sameN 25 f h = (sameN 24 f h && (f 24 == h 24)) := by
  rw [Bool.eq_iff_iff, Bool.and_eq_true, sameN_iff, sameN_iff, beq_iff_eq]
  constructor
  · intro e; exact ⟨fun i hi => e i (by omega), e 24 (by omega)⟩
  · rintro ⟨e1, e2⟩ i hi
    by_cases h24 : i = 24
    · subst h24; exact e2
    · exact e1 i (by omega)
theorem ends_size (w : World) : (sizeOf 76).run Try.prog w = .ok 24 w := by kernel_rfl
theorem ends_agg (w : World) : (isAgg 76).run Try.prog w = .ok true w := by kernel_rfl
theorem part_ends (w : World) (f : Nat → Nat) : (part 76 (rc f) 0).run Try.prog w = .ok (.agg ((rc f).extract 0 24)) w := by
  unfold part
  simp only [Sem.run_bind, ends_agg, Result.andThen_ok, if_true, ends_size, Sem.run_pure]
theorem part_over (w : World) (f : Nat → Nat) : (part 75 (rc f) 24).run Try.prog w = .ok (.int .u32 (f 24 : Int)) w := by
  simp [part, isAgg, run_underlying Try.underlying75, rc_at f (show 24 < 25 by decide)]
theorem nat_beq (x y : Nat) : ((x : Int) == (y : Int)) = (x == y) := by
  rw [Bool.eq_iff_iff, beq_iff_eq, beq_iff_eq]
  omega
theorem eq_fields (d : Nat) (fs : List Field) (w : World) (f h : Nat → Nat) (hfs : fs.map (fun f => (f.name, f.type, f.offset)) = [("Ends", 76, 0), ("Over", 75, 24)]) :
    (Op.eqFields (d + 2) (rc f) (rc h) fs).run Try.prog w = .ok (sameN 25 f h) w := by
  rw [List.map_eq_cons_iff] at hfs
  obtain ⟨a, l, rfl, ha, hl⟩ := hfs
  rw [List.map_eq_cons_iff] at hl
  obtain ⟨b, l2, rfl, hb, hl2⟩ := hl
  rw [List.map_eq_nil_iff] at hl2
  subst hl2
  simp only [Prod.mk.injEq] at ha hb
  obtain ⟨a1, a2, a3⟩ := ha
  obtain ⟨b1, b2, b3⟩ := hb
  have e1 := run_equalIn_nums w d 76 75 24 Try.underlying76 Try.underlying75 u32_size _ _ f h (fun i hi => rc_ends f hi) (fun i hi => rc_ends h hi)
  have e2 : (Op.equalIn (d + 1 + 1) 75 (.int .u32 (f 24 : Int)) (.int .u32 (h 24 : Int))).run Try.prog w = .ok (f 24 == h 24) w := by
    rw [run_equalIn_int w (d + 1) 75 .u32 .u32 _ _ Try.underlying75, nat_beq]
  rw [same_split]
  simp only [Op.eqFields, a1, a2, a3, b1, b2, b3]
  rw [if_pos (by decide), if_pos (by decide)]
  simp only [Sem.run_bind, part_ends, Result.andThen_ok, e1]
  cases hb : sameN 24 f h
  · simp
  · simp only [Bool.not_true, Bool.false_eq_true, if_false, Bool.true_and, Sem.run_bind, part_over, Result.andThen_ok, e2]
    cases hb2 : (f 24 == h 24) <;> simp
set_option maxRecDepth 100000 in
/-- Two rows, compared. -/
theorem eql_row (w : World) (f h : Nat → Nat) : (Op.equalIn 10000 78 (.agg (rc f)) (.agg (rc h))).run Try.prog w = .ok (sameN 25 f h) w := by
  rw [show (10000 : Nat) = 9999 + 1 from rfl, run_equalIn_agg w 9999 78 _ _ Try.underlying78 Try.stoodInHeld78]
  exact eq_fields 9997 _ w f h row_fields
/- As operations of a region. -/
section
variable {ops : Array Oper} {rest : List Oper} {o : Oper} {a : Act} {w : World} {Q : Exit → Act → World → Prop} {t g : Nat}
/-- What a load of a row's cells gives. -/
theorem run_load_row {P : Program} (w : World) (ty : TypeId) (b off : Nat) (f : Nat → Nat) (d : TypeDesc) (hu : P.underlying ty = some d) (hd : (match d with | .struct _ | .array _ _ => true | _ => false) = true) (hi : (P.info? ty).map (·.size) = some 25)
    (hc : ∀ i, i < 25 → w.cell? ⟨b, off + i, none⟩ = some (.int .u32 (f i : Int))) : (loadVar ty ⟨b, off, none⟩).run P w = .ok (.agg (rc f)) w := by
  have hl : (loadCells ⟨b, off, none⟩ (rc f).toList.length).run P w = .ok (rc f).toList.toArray w :=
    run_loadCells_list (P := P) w ⟨b, off, none⟩ (rc f).toList (fun j v hv => by
      have hj : j < 25 := by
        rcases Nat.lt_or_ge j 25 with h1 | h1
        · exact h1
        · rw [List.getElem?_eq_none (by rw [Array.length_toList, rc_size]; exact h1)] at hv; cases hv
      have hadd : (⟨b, off, none⟩ : Addr).add j = ⟨b, off + j, none⟩ := by unfold Addr.add; split <;> simp_all
      rw [hadd, hc j hj, ← rc_at f hj]
      simpa using hv)
  cases hq : P.info? ty with
  | none => simp [hq] at hi
  | some i =>
    have hs : i.size = 25 := by simpa [hq] using hi
    have hagg : (isAgg ty).run P w = .ok true w := by
      unfold isAgg
      simp only [Sem.run_bind, run_underlying hu, Result.andThen_ok]
      cases d <;> simp_all
    rw [Array.length_toList, rc_size] at hl
    unfold loadVar
    simp [Sem.run_bind, hagg, Result.andThen_ok, sizeOf, typeInfo, hq, hs, hl]
theorem wpList_load_row {P : Program} (hgd : o.guard = none) (ty : TypeId) (x : Operand) (ho : o.op = .load ty x) (b off : Nat) (f : Nat → Nat) (d : TypeDesc) (hx : a.eval x = .pointer (some ⟨b, off, none⟩)) (hu : P.underlying ty = some d)
    (hd : (match d with | .struct _ | .array _ _ => true | _ => false) = true) (hi : (P.info? ty).map (·.size) = some 25) (hc : ∀ i, i < 25 → w.cell? ⟨b, off + i, none⟩ = some (.int .u32 (f i : Int)))
    (h : wpList P ops Q rest (a.put o.dst (.agg (rc f))) w) : wpList P ops Q (o :: rest) a w :=
  wpList_plain hgd fun K hK => by
    have hrun := run_load_row (P := P) w ty b off f d hu hd hi hc
    unfold Oper.wp execOp
    simp only [ho, hx, Instr.loadAt, Instr.sureAddr, Sem.run_bind, Sem.run_pure, Result.andThen_ok, hrun]
    exact hK _ _ h
end
end Go.Proofs.Ytpblamiiggglaaa
