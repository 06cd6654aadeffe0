/- Ways in memory: a list of slices of steps; append onto a slice without room; what has been met, as a number of 32 bits. -/
import Derived.Test.YtbncgjccmadkbaaLOf
import Derived.Test.YtbncgjccmadkbaaEWin
import Derived.Test.YtbncgjccmadkbaaFoApp
import Derived.Laws.BitsAllLaws
namespace Go.Proofs.Ytbncgjccmadkbaa
open Go.RowKit

/-- The values cs are slices, in blocks of steps, that read as the rows of Q; an empty one is nil. -/
def QRow (w : World) : List Value → List (List Lf.Stp) → Prop
  | [], [] => True
  | c :: cs, l :: ls => (∃ A d, c = .slice A l.length d ∧ l.length ≤ d ∧ RdT w 138 A (stRow l) ∧ (l = [] → A = none)) ∧ QRow w cs ls
  | [], _ :: _ => False
  | _ :: _, [] => False
theorem QRow.keep {w w' : World} (hk : KeepT 138 w w') : ∀ {cs : List Value} {Q : List (List Lf.Stp)}, QRow w cs Q → QRow w' cs Q
  | [], [], _ => trivial
  | _ :: _, _ :: _, ⟨⟨A, d, h1, h2, h3, h4⟩, h⟩ => ⟨⟨A, d, h1, h2, h3.keep hk, h4⟩, QRow.keep hk h⟩
  | [], _ :: _, h => h.elim
  | _ :: _, [], h => h.elim
theorem QRow.len {w : World} : ∀ {cs : List Value} {Q : List (List Lf.Stp)}, QRow w cs Q → cs.length = Q.length
  | [], [], _ => rfl
  | _ :: cs, _ :: Q, ⟨_, h⟩ => by rw [List.length_cons, List.length_cons, QRow.len h]
  | [], _ :: _, h => h.elim
  | _ :: _, [], h => h.elim
theorem QRow.snoc {w : World} {l : List Lf.Stp} {A : Option Addr} {n d : Nat} (hn : n = l.length) (hd : n ≤ d) (hr : RdT w 138 A (stRow l)) (h0 : l ≠ []) : ∀ {cs : List Value} {Q : List (List Lf.Stp)}, QRow w cs Q → QRow w (cs ++ [.slice A n d]) (Q ++ [l])
  | [], [], _ => by subst hn; exact ⟨⟨A, d, rfl, hd, hr, fun e => absurd e h0⟩, trivial⟩
  | _ :: _, _ :: _, ⟨h1, h⟩ => ⟨h1, QRow.snoc hn hd hr h0 h⟩
  | [], _ :: _, h => h.elim
  | _ :: _, [], h => h.elim

/-- append onto a slice that has no room: a new row. -/
theorem run_append_clip {P : Program} (w : World) (t ty e : TypeId) (i : TypeInfo) (z : Value) (size bytes : Nat) (ht : P.underlying t = some (.slice e)) (hi : P.info? e = some i) (hz : i.zero = some z)
    (hsize : i.size = size) (hby : i.bytes = bytes) (hzs : z.cells.size = size) (hpos : 0 < size) (B : Nat) (A : Option Addr) (n : Nat) (olds : List Value) (hr : Rd w B A olds) (hlo : olds.length = n * size) (h0 : n = 0 → A = none)
    (ad : Addr) (c : Nat) (news : List Value) (hl : news.length = 1 * size) (hnews : ∀ j u, news[j]? = some u → w.cell? (ad.add j) = some u) (h1 : ∀ u ∈ news, u.oneCell' = true)
    (h63 : n + 1 ≤ maxLen) (hbytes : (n + 1) * bytes ≤ 140737488355328) :
    ∃ v' w', (Builtin.append_ #[t, t] ty #[.slice A n n, .slice (some ad) 1 c]).run P w = .ok v' w' ∧ w'.ownsRow w.heap.size e size v' (n + 1) (olds ++ news) ∧ w.grownBy w' none := by
  rcases Nat.eq_zero_or_pos n with hn | hn
  · have hA := h0 hn
    subst hn hA
    have ho : olds = [] := List.eq_nil_of_length_eq_zero (by rw [hlo]; simp)
    subst ho
    obtain ⟨v', w', hrun, h2, h3, _⟩ := run_append_own (P := P) w w.heap.size t ty e i z size bytes ht hi hz hsize hby hzs hpos (.slice none 0 0) 0 [] (World.ownsRow_nil _ _ _ _) ad 1 c news hl hnews h1 h63 hbytes (Nat.le_refl _)
    exact ⟨v', w', hrun, h2, h3⟩
  · obtain ⟨b, off, rfl, _, hc⟩ := hr (by rw [hlo]; exact Nat.mul_pos hn hpos)
    exact run_append_arg_grows (P := P) w t ty e i z size bytes ht hi hz hsize hby hzs hpos ⟨b, off, none⟩ n n olds hlo (fun j u hu => by rw [Addr.add_lit]; exact hc j u hu) ad 1 c news hl hnews (by omega) h63 hbytes
theorem step_append_clip {P : Program} {w : World} {ops : Array Oper} {o : Oper} {a : Act} {K : Act → World → Prop} {Q : Exit → Act → World → Prop} {E : Prop} (hgd : o.guard = none) (s x : Operand) (t : TypeId)
    (ho : o.op = .call { callee := .builtin .append, args := #[s, x], argTypes := #[t, t] })
    (e : TypeId) (i : TypeInfo) (z : Value) (size bytes : Nat) (ht : P.underlying t = some (.slice e)) (hi : P.info? e = some i) (hz : i.zero = some z)
    (hsize : i.size = size) (hby : i.bytes = bytes) (hzs : z.cells.size = size) (hpos : 0 < size)
    (B : Nat) (A : Option Addr) (n : Nat) (olds : List Value) (hs : a.eval s = .slice A n n) (hr : Rd w B A olds) (hlo : olds.length = n * size) (h0 : n = 0 → A = none)
    (ad : Addr) (c : Nat) (news : List Value) (hx : a.eval x = .slice (some ad) 1 c) (hl : news.length = 1 * size) (hnews : ∀ j u, news[j]? = some u → w.cell? (ad.add j) = some u) (h1 : ∀ u ∈ news, u.oneCell' = true)
    (h63 : n + 1 ≤ maxLen) (hbytes : (n + 1) * bytes ≤ 140737488355328)
    (h : ∀ v' w', w'.ownsRow w.heap.size e size v' (n + 1) (olds ++ news) → w.grownBy w' none → K (a.put o.dst v') w') :
    if Region.wanted o (yielded ops a.tmps) = true then Oper.wp P o a w K Q else E := by
  have hw : Region.wanted o (yielded ops a.tmps) = true := by simp [Region.wanted, hgd]
  rw [if_pos hw]
  obtain ⟨v', w', hrun, h2, h3⟩ := run_append_clip (P := P) w t o.type e i z size bytes ht hi hz hsize hby hzs hpos B A n olds hr hlo h0 ad c news hl hnews h1 h63 hbytes
  unfold Oper.wp execOp
  simp only [ho, resolve, invoke, builtin, Sem.run_bind, Sem.run_pure, Result.andThen_ok, List.map_toArray, List.map_cons, List.map_nil, hs, hx, hrun]
  exact h v' w' h2 h3

/-- A window's block is of its own type: no row of another type turns. -/
theorem KeepT.win {w w' : World} {base : Nat} {e t : TypeId} {v : Value} {xs : List Value} (hw : Win w base e v xs) (hg : w.grownBy w' v.ownBlock) (hne : e ≠ t) : KeepT t w w' := fun b cs fr hb => by
  refine (hg.block b (heap_lt hb) ?_).trans hb
  intro h1
  obtain ⟨g, off, cap, cur, rfl, _, hB, _⟩ := hw
  have : b = g := by simpa [Value.ownBlock] using h1
  subst this
  unfold Bk at hB
  rw [hB] at hb
  injection hb with hb
  injection hb with _ h2
  exact hne h2
/-- Is a bit set? -/
theorem bit_test {z : Nat} (k : Nat) (hz : z < 4294967296) : bits .and .u32 ((z : Int) / 2 ^ k) 1 = (((z.testBit k).toNat : Nat) : Int) := by
  have e : (z : Int) / 2 ^ k = ((z / 2 ^ k : Nat) : Int) := by rw [Int.natCast_ediv, Int.natCast_pow]; rfl
  have hl : z / 2 ^ k < 4294967296 := Nat.lt_of_le_of_lt (Nat.div_le_self _ _) hz
  have h1 := u32_and_nat (z / 2 ^ k) 1 hl (by decide)
  rw [e]
  rw [Nat.and_one_is_mod, Lf.bit_shift] at h1
  exact h1
/-- A bit is put in. -/
theorem bit_put {z k : Nat} (hz : z < 4294967296) (hk : k < 32) : bits .or .u32 (z : Int) ((2 : Int) ^ k % 4294967296) = ((z ||| 2 ^ k : Nat) : Int) := by
  have h2 : 2 ^ k < 4294967296 := Nat.pow_lt_pow_right (a := 2) (m := k) (n := 32) (by decide) hk
  have e : (2 : Int) ^ k % 4294967296 = ((2 ^ k : Nat) : Int) := by
    have e : (2 : Int) ^ k = ((2 ^ k : Nat) : Int) := (Int.natCast_pow 2 k).symm
    rw [e]
    exact Int.emod_eq_of_lt (Int.natCast_nonneg _) (Int.ofNat_lt.2 h2)
  rw [e, u32_or_nat z (2 ^ k) hz h2]
end Go.Proofs.Ytbncgjccmadkbaa
