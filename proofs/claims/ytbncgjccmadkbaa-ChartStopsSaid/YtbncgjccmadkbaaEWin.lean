/- A window of a row of the call's own: a slice that is cut from the front and appended to (a list of who is next), of elements of one cell. No program is named here. -/
import Derived.Test.YtbncgjccmadkbaaWMem
import Derived.ArgAppend
namespace Go.Proofs.Ytbncgjccmadkbaa
open Go.RowKit

/-- The slice value v is a window of a row of the call's own, and its elements are the cells xs. -/
def Win (w : World) (base : Nat) (e : TypeId) (v : Value) (xs : List Value) : Prop :=
  ∃ g off cap cur, v = .slice (some ⟨g, off, none⟩) xs.length cap ∧ base ≤ g ∧ Bk w g e cur ∧ xs.length ≤ cap ∧ cap ≤ maxLen ∧ off + cap ≤ cur.size ∧ ∀ j u, xs[j]? = some u → cur[off + j]? = some u
section
variable {w w' : World} {base : Nat} {e : TypeId} {v : Value} {xs : List Value}
theorem Win.one (w : World) (e : TypeId) (u : Value) (hb : base ≤ w.heap.size) : Win (w.alloc (.cells #[u] e)) base e (.slice (some ⟨w.heap.size, 0, none⟩) 1 1) [u] :=
  ⟨w.heap.size, 0, 1, #[u], rfl, hb, Bk.new w e #[u], Nat.le_refl _, by simp [maxLen], Nat.le_refl _, fun j u' hu => by
    cases j with
    | zero => simpa using hu
    | succ j => simp at hu⟩
theorem Win.fr {S : Nat → Prop} (h : Win w base e v xs) (hf : Fr S w w') (hS : ∀ k, v.ownBlock = some k → ¬ S k) : Win w' base e v xs := by
  obtain ⟨g, off, cap, cur, rfl, hb, hk, rest⟩ := h
  exact ⟨g, off, cap, cur, rfl, hb, hk.fr hf (hS g rfl), rest⟩
theorem Win.bl (h : Win w base e v xs) (hb : Bl w w') : Win w' base e v xs := h.fr (S := fun _ => False) (Fr.of_bl hb) fun _ _ h => h
theorem Win.lt (h : Win w base e v xs) : ∀ k, v.ownBlock = some k → base ≤ k ∧ k < w.heap.size := by
  intro k hk
  obtain ⟨g, off, cap, cur, rfl, hb, hB, _⟩ := h
  have : g = k := by simpa [Value.ownBlock] using hk
  subst this
  exact ⟨hb, hB.lt⟩
theorem Win.apart (h : Win w base e v xs) {g : Nat} {t : TypeId} {cs : Array Value} (hk : Bk w g t cs) (hne : e ≠ t) : v.ownBlock ≠ some g := by
  intro he
  obtain ⟨g', off, cap, cur, rfl, hb, hB, _⟩ := h
  have : g' = g := by simpa [Value.ownBlock] using he
  subst this
  exact Bk.apart hB hk hne rfl
/-- What stands at the front. -/
theorem Win.head {u : Value} {r : List Value} (h : Win w base e v (u :: r)) : ∃ g off cap, v = .slice (some ⟨g, off, none⟩) (r.length + 1) cap ∧ w.cell? ⟨g, off, none⟩ = some u ∧ g < w.heap.size ∧ 1 ≤ cap := by
  obtain ⟨g, off, cap, cur, rfl, hb, hB, h1, h2, h3, h4⟩ := h
  refine ⟨g, off, cap, rfl, ?_, hB.lt, by simp at h1; omega⟩
  rw [hB.cell]
  exact h4 0 u rfl
/-- Cut from the front. -/
theorem Win.pop {u : Value} {r : List Value} {g off n cap : Nat} (h : Win w base e (.slice (some ⟨g, off, none⟩) n cap) (u :: r)) :
    Win w base e (.slice (some (if cap = 1 then ⟨g, off, none⟩ else ⟨g, off + 1, none⟩)) r.length (cap - 1)) r := by
  obtain ⟨g', off', cap', cur, he, hb, hB, h1, h2, h3, h4⟩ := h
  cases he
  simp only [List.length_cons] at h1
  by_cases hc : cap = 1
  · subst hc
    have hr : r = [] := List.eq_nil_of_length_eq_zero (by omega)
    subst hr
    exact ⟨g, off, 0, cur, rfl, hb, hB, Nat.le_refl _, Nat.zero_le _, by omega, by simp⟩
  · rw [if_neg hc]
    exact ⟨g, off + 1, cap - 1, cur, rfl, hb, hB, by omega, by omega, by omega, fun j x hx => by rw [Nat.add_assoc, Nat.add_comm 1 j]; exact h4 (j + 1) x hx⟩
end

/-- append of one thing. -/
theorem run_append_win {P : Program} (w : World) (base : Nat) (t ty e : TypeId) (i : TypeInfo) (z : Value) (bytes : Nat) (ht : P.underlying t = some (.slice e)) (hi : P.info? e = some i) (hz : i.zero = some z)
    (hsize : i.size = 1) (hby : i.bytes = bytes) (hzs : z.cells.size = 1) (v : Value) (xs : List Value) (hw : Win w base e v xs)
    (ad : Addr) (c : Nat) (u : Value) (hnews : ∀ j x, [u][j]? = some x → w.cell? (ad.add j) = some x) (h1 : u.oneCell' = true)
    (h63 : xs.length + 1 ≤ maxLen) (hbytes : (xs.length + 1) * bytes ≤ 140737488355328) (hbase : base ≤ w.heap.size) :
    ∃ v' w', (Builtin.append_ #[t, t] ty #[v, .slice (some ad) 1 c]).run P w = .ok v' w' ∧ Win w' base e v' (xs ++ [u]) ∧ w.grownBy w' v.ownBlock := by
  obtain ⟨g, off, cap, cur, rfl, hb, hB, h2, h3, h4, h5⟩ := hw
  by_cases hroom : xs.length + 1 ≤ cap
  · have hin : off + xs.length < cur.size := by omega
    have hr := run_append_room_cells (P := P) w t ty e i ht hi g off xs.length cap ad 1 c [u] (by rw [hsize]; rfl) hnews (fun x hx => by simp at hx; subst hx; exact h1) hroom
      (fun j hj => by
        have : j = 0 := by simp at hj; omega
        subst this
        rw [hB.cell, hsize, Nat.mul_one, Nat.add_zero, Array.getElem?_eq_getElem hin]; rfl)
      (fun j _ => hB.free _)
    rw [hsize, Nat.mul_one] at hr
    have hfr : Fr (fun k => k = g) w (w.setCell ⟨g, off + xs.length, none⟩ u) := (Fr.refl _ w).own _ _
    refine ⟨_, _, hr, ⟨g, off, cap, cur.setIfInBounds (off + xs.length) u, by simp, hb, hB.put _ _, by simp; omega, h3, by simp; omega, ?_⟩, ?_⟩
    · intro j x hx
      rw [Array.getElem?_setIfInBounds]
      by_cases hj : j < xs.length
      · rw [if_neg (by omega)]
        rw [List.getElem?_append_left hj] at hx
        exact h5 j x hx
      · rw [List.getElem?_append_right (by omega)] at hx
        have hj0 : j - xs.length = 0 := by
          rcases Nat.eq_zero_or_pos (j - xs.length) with h | h
          · exact h
          · rw [List.getElem?_eq_none (by simp; omega)] at hx; cases hx
        rw [hj0] at hx
        rw [if_pos (by omega), if_pos (by omega)]
        simpa using hx
    · exact ⟨hfr.os, hfr.tape, hfr.output, hfr.size, fun k hk hne => hfr.block k hk (fun e => hne (by rw [e]; rfl))⟩
  · obtain ⟨v', w', hr, r1, r2⟩ := run_append_arg_grows (P := P) w t ty e i z 1 bytes ht hi hz hsize hby hzs (by decide) ⟨g, off, none⟩ xs.length cap xs (by omega)
      (fun j x hx => by rw [Addr.add_lit, hB.cell]; exact h5 j x hx) ad 1 c [u] rfl hnews (by omega) h63 hbytes
    refine ⟨v', w', hr, ?_, ⟨r2.os, r2.tape, r2.output, r2.size, fun k hk _ => r2.block k hk (by simp)⟩⟩
    rcases r1.2 with ⟨_, h0⟩ | ⟨g', cap', cur', rfl, hb', hg', hn, hm, hs, ht'⟩
    · omega
    · refine ⟨g', 0, cap', cur', by simp, Nat.le_trans hbase hb', hg', by simpa using hn, hm, by omega, fun j x hx => ?_⟩
      rw [Nat.zero_add, ← Array.getElem?_toList]
      rw [← ht', List.getElem?_take] at hx
      split at hx
      · exact hx
      · cases hx
theorem wpList_append_win {P : Program} (w : World) {ops : Array Oper} {rest : List Oper} {o : Oper} {a : Act} {Q : Exit → Act → World → Prop} (hgd : o.guard = none) (s x : Operand) (t : TypeId)
    (ho : o.op = .call { callee := .builtin .append, args := #[s, x], argTypes := #[t, t] })
    (base : Nat) (e : TypeId) (i : TypeInfo) (z : Value) (bytes : Nat) (ht : P.underlying t = some (.slice e)) (hi : P.info? e = some i) (hz : i.zero = some z)
    (hsize : i.size = 1) (hby : i.bytes = bytes) (hzs : z.cells.size = 1) (v : Value) (xs : List Value) (hs : a.eval s = v) (hw : Win w base e v xs)
    (ad : Addr) (c : Nat) (u : Value) (hx : a.eval x = .slice (some ad) 1 c) (hnews : ∀ j x, [u][j]? = some x → w.cell? (ad.add j) = some x) (h1 : u.oneCell' = true)
    (h63 : xs.length + 1 ≤ maxLen) (hbytes : (xs.length + 1) * bytes ≤ 140737488355328) (hbase : base ≤ w.heap.size)
    (h : ∀ v' w', Win w' base e v' (xs ++ [u]) → w.grownBy w' v.ownBlock → wpList P ops Q rest (a.put o.dst v') w') : wpList P ops Q (o :: rest) a w :=
  wpList_plain hgd fun _ hK => by
    obtain ⟨v', w', hrun, h2, h3⟩ := run_append_win (P := P) w base t o.type e i z bytes ht hi hz hsize hby hzs v xs hw ad c u hnews h1 h63 hbytes hbase
    unfold Oper.wp execOp
    simp only [ho, resolve, invoke, builtin, Sem.run_bind, Sem.run_pure, Result.andThen_ok, List.map_toArray, List.map_cons, List.map_nil, hs, hx, hrun]
    exact hK _ _ (h v' w' h2 h3)
end Go.Proofs.Ytbncgjccmadkbaa
