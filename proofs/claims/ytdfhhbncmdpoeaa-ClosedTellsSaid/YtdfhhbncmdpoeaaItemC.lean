/- chart.may, chart.bit: what an item tells of what is next. -/
import Derived.Test.YtdfhhbncmdpoeaaItemB
import Derived.Test.YtdfhhbncmdpoeaaFactM
import Derived.Test.YtdfhhbncmdpoeaaGRS
import Derived.Test.YtdfhhbncmdpoeaaBaseS
import Derived.BigQuiet
namespace Go.Proofs.Ytdfhhbncmdpoeaa
open Go.RowKit

/-- Any item, whatever its numbers are. -/
structure Ix where
  prod : Int
  dot : Int
  frm : Int
def ixc (x : Ix) : List Value := [.int .i64 x.prod, .int .i64 x.dot, .int .i64 x.frm]
theorem ixc_len (x : Ix) : (ixc x).length = 3 := rfl
def ixRow (l : List Ix) : List Value := rowN ixc l
theorem ixRow_len (l : List Ix) : (ixRow l).length = l.length * 3 := rowN_len ixc_len l
theorem Rd.ix {w : World} {B : Nat} {A : Option Addr} {l : List Ix} (h : Rd w B A (ixRow l)) {i : Nat} (hi : i < l.length) : ∃ b off, A = some ⟨b, off, none⟩ ∧ b < B ∧ w.cell? ⟨b, off + i * 3, none⟩ = some (.int .i64 l[i].prod) ∧
    w.cell? ⟨b, off + i * 3 + 1, none⟩ = some (.int .i64 l[i].dot) ∧ w.cell? ⟨b, off + i * 3 + 2, none⟩ = some (.int .i64 l[i].frm) := by
  obtain ⟨b, off, e, hb, hc⟩ := h (by rw [ixRow_len]; omega)
  exact ⟨b, off, e, hb, hc _ _ ((rowN_at ixc_len l i 0 hi (by decide)).trans rfl), hc _ _ ((rowN_at ixc_len l i 1 hi (by decide)).trans rfl), hc _ _ ((rowN_at ixc_len l i 2 hi (by decide)).trans rfl)⟩
def Ch.Im.ix (x : Ch.Im) : Ix := ⟨(x.prod : Int), (x.dot : Int), (x.frm : Int)⟩
theorem imRow_ix (l : List Ch.Im) : imRow l = ixRow (l.map Ch.Im.ix) := by
  unfold imRow ixRow rowN
  rw [List.flatMap_map]
  rfl
/-- Is an item of a production, and may as many of its symbols be behind? -/
def mayIx (ps : List Gr.Pr) (x : Ix) : Bool := decide (0 ≤ x.prod ∧ x.prod < (ps.length : Int) ∧ 0 ≤ x.dot) && (match ps[x.prod.toNat]? with | some p => decide (x.dot ≤ (p.right.length : Int)) | none => false)
theorem mayIx_iff {ps : List Gr.Pr} {x : Ix} : mayIx ps x = true ↔ ∃ (i d : Nat) (p : Gr.Pr), x.prod = (i : Int) ∧ x.dot = (d : Int) ∧ ps[i]? = some p ∧ d ≤ p.right.length := by
  unfold mayIx
  constructor
  · intro h
    rw [Bool.and_eq_true, decide_eq_true_eq] at h
    obtain ⟨⟨h1, h2, h3⟩, h4⟩ := h
    cases e : ps[x.prod.toNat]? with
    | none => rw [e] at h4; cases h4
    | some p =>
      rw [e] at h4
      have h4 : decide (x.dot ≤ (p.right.length : Int)) = true := h4
      rw [decide_eq_true_eq] at h4
      exact ⟨x.prod.toNat, x.dot.toNat, p, by omega, by omega, e, by omega⟩
  · rintro ⟨i, d, p, h1, h2, h3, h4⟩
    have hi := Ch.lt_of_get h3
    rw [Bool.and_eq_true, decide_eq_true_eq]
    refine ⟨⟨by omega, by omega, by omega⟩, ?_⟩
    rw [show x.prod.toNat = i by omega, h3]
    show decide (x.dot ≤ (p.right.length : Int)) = true
    rw [decide_eq_true_eq]; omega
/-- The number that an item adds. -/
def bitN (g : Gr.Gm) (x : Ix) : Nat :=
  if mayIx g.prods x = true then
    (match g.prods[x.prod.toNat]? with
    | some p => (match p.right[x.dot.toNat]? with
      | some s => if s.non = true then 0 else 2 ^ s.n.toNat
      | none => if p.left = g.start ∧ x.frm = 0 then 65536 else 0)
    | none => 0)
  else 0
def nextN (g : Gr.Gm) (l : List Ix) : Nat := l.foldl (fun z x => z ||| bitN g x) 0
theorem nextN_snoc (g : Gr.Gm) (l : List Ix) (x : Ix) : nextN g (l ++ [x]) = nextN g l ||| bitN g x := by unfold nextN; rw [List.foldl_append]; rfl
theorem bitN_no {g : Gr.Gm} {x : Ix} (h : mayIx g.prods x = false) : bitN g x = 0 := by unfold bitN; rw [if_neg (by rw [h]; simp)]
theorem bitN_some {g : Gr.Gm} {i d : Nat} {f : Int} {p : Gr.Pr} {s : Gr.Sy} (hp : g.prods[i]? = some p) (hs : p.right[d]? = some s) : bitN g ⟨(i : Int), (d : Int), f⟩ = if s.non = true then 0 else 2 ^ s.n.toNat := by
  have hm : mayIx g.prods ⟨(i : Int), (d : Int), f⟩ = true := mayIx_iff.2 ⟨i, d, p, rfl, rfl, hp, Nat.le_of_lt (Ch.lt_of_get hs)⟩
  unfold bitN
  rw [if_pos hm]
  simp only [Int.toNat_natCast, hp, hs]
theorem bitN_none {g : Gr.Gm} {i : Nat} {f : Int} {p : Gr.Pr} (hp : g.prods[i]? = some p) : bitN g ⟨(i : Int), (p.right.length : Int), f⟩ = if p.left = g.start ∧ f = 0 then 65536 else 0 := by
  have hm : mayIx g.prods ⟨(i : Int), (p.right.length : Int), f⟩ = true := mayIx_iff.2 ⟨i, p.right.length, p, rfl, rfl, hp, Nat.le_refl _⟩
  unfold bitN
  rw [if_pos hm]
  simp only [Int.toNat_natCast, hp, List.getElem?_eq_none (Nat.le_refl p.right.length)]
theorem bitN_lt {g : Gr.Gm} (hg : Gr.Ok g) (x : Ix) : bitN g x < 131072 := by
  cases hm : mayIx g.prods x with
  | false => rw [bitN_no hm]; omega
  | true =>
    obtain ⟨i, d, p, h1, h2, h3, h4⟩ := mayIx_iff.1 hm
    obtain ⟨xp, xd, xf⟩ := x
    simp only at h1 h2
    subst h1 h2
    rcases Nat.lt_or_ge d p.right.length with h | h
    · rw [bitN_some h3 (List.getElem?_eq_getElem h)]
      split
      · omega
      · rename_i hn
        have h5 := (hg.2.2.2.2.2.2.2 p (List.mem_of_getElem? h3)).2.2.2 _ (List.getElem_mem h)
        have h6 := h5.2.2 (by simpa using hn)
        have h7 := hg.2.1
        have h8 : 2 ^ p.right[d].n.toNat ≤ 2 ^ 16 := Nat.pow_le_pow_right (by decide) (by omega)
        omega
    · rw [show d = p.right.length by omega, bitN_none h3]
      split <;> omega
theorem nextN_lt {g : Gr.Gm} (hg : Gr.Ok g) (l : List Ix) : nextN g l < 131072 := by
  have key : ∀ (l : List Ix) (z : Nat), z < 131072 → l.foldl (fun z x => z ||| bitN g x) z < 131072 := by
    intro l
    induction l with
    | nil => intro z hz; exact hz
    | cons x l ih => intro z hz; exact ih _ (Nat.or_lt_two_pow (n := 17) hz (bitN_lt hg x))
  exact key l 0 (by decide)
theorem nextN_bit (g : Gr.Gm) (l : List Ix) (k : Nat) : (nextN g l).testBit k = l.any fun x => (bitN g x).testBit k := by
  have key : ∀ (l : List Ix) (z : Nat), (l.foldl (fun z x => z ||| bitN g x) z).testBit k = (z.testBit k || l.any fun x => (bitN g x).testBit k) := by
    intro l
    induction l with
    | nil => intro z; simp
    | cons x l ih => intro z; rw [List.foldl_cons, ih, Nat.testBit_or, List.any_cons, Bool.or_assoc]
  rw [nextN, key, Nat.zero_testBit, Bool.false_or]

set_option maxRecDepth 100000 in
set_option maxHeartbeats 4000000 in
theorem may_any (t n s : Int) (A : Option Addr) (len c : Nat) (ps : List Gr.Pr) (x : Ix) (w : World) (B : Nat) (hlen : len = ps.length) (hr : Prs w B A ps) (hB : B ≤ w.heap.size) :
    Calls Try.prog 33 #[.agg #[.int .i64 t, .int .i64 n, .int .i64 s, .slice A len c], .agg #[.int .i64 x.prod, .int .i64 x.dot, .int .i64 x.frm]] w fun e w' => e = .returned (.bool (mayIx ps x)) ∧ Bl w w' := by
  obtain ⟨xp, xd, xf⟩ := x
  have HK1 : Hid (Bk ((w.alloc (.cells #[.int .i64 t, .int .i64 n, .int .i64 s, .slice A len c] 24)).alloc (.cells #[.int .i64 xp, .int .i64 xd, .int .i64 xf] 42)) w.heap.size 24 #[.int .i64 t, .int .i64 n, .int .i64 s, .slice A len c]) := (Bk.new w _ _).alloc _
  have HK2 : Hid (Bk ((w.alloc (.cells #[.int .i64 t, .int .i64 n, .int .i64 s, .slice A len c] 24)).alloc (.cells #[.int .i64 xp, .int .i64 xd, .int .i64 xf] 42)) (w.heap.size + 1) 42 #[.int .i64 xp, .int .i64 xd, .int .i64 xf]) := by
    have h := Bk.new (w.alloc (.cells #[.int .i64 t, .int .i64 n, .int .i64 s, .slice A len c] 24)) 42 #[.int .i64 xp, .int .i64 xd, .int .i64 xf]
    rw [World.size_alloc] at h
    exact h
  have HB1 : Hid (Bl w ((w.alloc (.cells #[.int .i64 t, .int .i64 n, .int .i64 s, .slice A len c] 24)).alloc (.cells #[.int .i64 xp, .int .i64 xd, .int .i64 xf] 42))) := ((Bl.refl w).alloc _).alloc _
  have HR := Lib.hid (hr.bl hB HB1.out)
  have HL := Lib.hid hlen
  clear hr hlen
  have key : xp < 0 ∨ (0 ≤ xp ∧ (len : Int) ≤ xp) ∨ (0 ≤ xp ∧ xp < (len : Int) ∧ xd < 0) ∨ (0 ≤ xp ∧ xp < (len : Int) ∧ 0 ≤ xd) := by omega
  go_enter Try.func33, Try.ntmps33
  go_upto_region 1 with fail
  generalize (w.alloc (.cells #[.int .i64 t, .int .i64 n, .int .i64 s, .slice A len c] 24)).alloc (.cells #[.int .i64 xp, .int .i64 xd, .int .i64 xf] 42) = w1 at *
  have k3 : w1.cell? ⟨w.heap.size, 3, none⟩ = some (.slice A len c) := HK1.out.cell 3
  have j0 : w1.cell? ⟨w.heap.size + 1, 0, none⟩ = some (.int .i64 xp) := HK2.out.cell 0
  have j1 : w1.cell? ⟨w.heap.size + 1, 1, none⟩ = some (.int .i64 xd) := HK2.out.cell 1
  rcases key with h1 | ⟨h1, h2⟩ | ⟨h1, h2, h3⟩ | ⟨h1, h2, h3⟩
  · have HQ : Hid (mayIx ps ⟨xp, xd, xf⟩ = false) := by
      show _ = _
      unfold mayIx; rw [decide_eq_false (by simp only; omega)]; rfl
    have e1 : ¬ (0 : Int) ≤ xp := by omega
    have d1 : decide ((0 : Int) ≤ xp) = false := decide_eq_false e1
    clear h1
    go_quiet (fail)
    go_wp2_with fail
    go_ret
    exact ⟨by rw [HQ.out]; rfl, HB1.out.drewN _⟩
  · have HQ : Hid (mayIx ps ⟨xp, xd, xf⟩ = false) := by
      show _ = _
      unfold mayIx; rw [decide_eq_false (by simp only; have := HL.out; omega)]; rfl
    have e2 : ¬ xp < (len : Int) := by omega
    have d1 : decide ((0 : Int) ≤ xp) = true := decide_eq_true h1
    have d2 : decide (xp < (len : Int)) = false := decide_eq_false e2
    go_quiet (fail)
    go_wp2_with fail
    go_ret
    exact ⟨by rw [HQ.out]; rfl, HB1.out.drewN _⟩
  · have HQ : Hid (mayIx ps ⟨xp, xd, xf⟩ = false) := by
      show _ = _
      unfold mayIx; rw [decide_eq_false (by simp only; omega)]; rfl
    have e3 : ¬ (0 : Int) ≤ xd := by omega
    have d1 : decide ((0 : Int) ≤ xp) = true := decide_eq_true h1
    have d2 : decide (xp < (len : Int)) = true := decide_eq_true h2
    have d3 : decide ((0 : Int) ≤ xd) = false := decide_eq_false e3
    go_quiet (fail)
    go_wp2_with fail
    go_ret
    exact ⟨by rw [HQ.out]; rfl, HB1.out.drewN _⟩
  · obtain ⟨i, rfl⟩ : ∃ i : Nat, xp = (i : Int) := ⟨xp.toNat, by omega⟩
    have hi : i < ps.length := by have := HL.out; omega
    obtain ⟨b, off, Ax, cx, rfl, hbB, hrx, hc0, hc1⟩ := HR.out.at_ hi
    have hbl : b < w1.heap.size := Nat.lt_of_lt_of_le hbB (Nat.le_trans hB HB1.out.size)
    have HM : Hid (mayIx ps ⟨(i : Int), xd, xf⟩ = decide (xd ≤ (ps[i].right.length : Int))) := by
      show _ = _
      unfold mayIx
      rw [decide_eq_true (by simp only; omega), Bool.true_and]
      simp only [Int.toNat_natCast, List.getElem?_eq_getElem hi]
    have d1 : decide ((0 : Int) ≤ (i : Int)) = true := decide_eq_true h1
    have d2 : decide ((i : Int) < (len : Int)) = true := decide_eq_true h2
    have d3 : decide ((0 : Int) ≤ xd) = true := decide_eq_true h3
    clear hc0 hrx
    generalize ps[i].right.length = rl at *
    go_quiet (fail)
    go_wp2_with fail
    go_ret
    exact ⟨by rw [HM.out]; rfl, HB1.out.drewN _⟩
end Go.Proofs.Ytdfhhbncmdpoeaa
/- chart.bit: what an item that may be adds. -/
namespace Go.Proofs.Ytdfhhbncmdpoeaa
open Go.RowKit

set_option maxRecDepth 100000 in
set_option maxHeartbeats 4000000 in
theorem bit_some (t n s : Int) (A : Option Addr) (len c : Nat) (ps : List Gr.Pr) (i d : Nat) (fr : Int) (w : World) (B : Nat) (hlen : len = ps.length) (hok : okB ⟨t, n, s, ps⟩ = true) (hr : Prs w B A ps) (hB : B ≤ w.heap.size) (hi : i < ps.length) (hd : d < ps[i].right.length) :
    Calls Try.prog 34 #[.agg #[.int .i64 t, .int .i64 n, .int .i64 s, .slice A len c], .agg #[.int .i64 (i : Int), .int .i64 (d : Int), .int .i64 fr]] w fun e w' => e = .returned (.int .u32 (bitN ⟨t, n, s, ps⟩ ⟨(i : Int), (d : Int), fr⟩ : Nat)) ∧ Bl w w' := by
  have HK1 : Hid (Bk ((w.alloc (.cells #[.int .i64 t, .int .i64 n, .int .i64 s, .slice A len c] 24)).alloc (.cells #[.int .i64 (i : Int), .int .i64 (d : Int), .int .i64 fr] 42)) w.heap.size 24 #[.int .i64 t, .int .i64 n, .int .i64 s, .slice A len c]) := (Bk.new w _ _).alloc _
  have HK2 : Hid (Bk ((w.alloc (.cells #[.int .i64 t, .int .i64 n, .int .i64 s, .slice A len c] 24)).alloc (.cells #[.int .i64 (i : Int), .int .i64 (d : Int), .int .i64 fr] 42)) (w.heap.size + 1) 42 #[.int .i64 (i : Int), .int .i64 (d : Int), .int .i64 fr]) := by
    have h := Bk.new (w.alloc (.cells #[.int .i64 t, .int .i64 n, .int .i64 s, .slice A len c] 24)) 42 #[.int .i64 (i : Int), .int .i64 (d : Int), .int .i64 fr]
    rw [World.size_alloc] at h
    exact h
  have HB1 : Hid (Bl w ((w.alloc (.cells #[.int .i64 t, .int .i64 n, .int .i64 s, .slice A len c] 24)).alloc (.cells #[.int .i64 (i : Int), .int .i64 (d : Int), .int .i64 fr] 42))) := ((Bl.refl w).alloc _).alloc _
  have HL := Lib.hid hlen
  have HNx := Lib.hid (fun (wx : World) (hbx : Bl w wx) => next_some t n s A len c ps i d fr wx B hlen (hr.bl hB hbx) (Nat.le_trans hB hbx.size) hi hd)
  have HBit := Lib.hid (bitN_some (g := ⟨t, n, s, ps⟩) (i := i) (d := d) (f := fr) (List.getElem?_eq_getElem hi) (List.getElem?_eq_getElem hd))
  have hsy := ((okB_iff _).1 hok).2.2.2.2.2.2.2 _ (List.getElem_mem hi)
  have hs2 := hsy.2.2.2 _ (List.getElem_mem hd)
  have hs3 := ((okB_iff _).1 hok).2.1
  have HSy : Hid (ps[i].right[d].non = false → 0 ≤ ps[i].right[d].n ∧ ps[i].right[d].n < 16) := fun e => by
    have h1 := hs2.1
    have h2 := hs2.2.2 e
    simp only at h2 hs3
    omega
  clear hr hlen hok hsy hs2 hs3
  generalize bitN ⟨t, n, s, ps⟩ ⟨(i : Int), (d : Int), fr⟩ = bn at *
  generalize ps[i].right[d] = y at *
  obtain ⟨yb, yn⟩ := y
  simp only at HBit HSy
  go_enter Try.func34, Try.ntmps34
  have k0 := HK1.out.cell 0
  have k1 := HK1.out.cell 1
  have k2 := HK1.out.cell 2
  have k3 := HK1.out.cell 3
  have j0 := HK2.out.cell 0
  have j1 := HK2.out.cell 1
  have j2 := HK2.out.cell 2
  go_wp2_with fail
  refine (HNx.out _ HB1.out).mono ?_
  rintro e w2 ⟨rfl, hb2⟩
  have HB2 := Lib.hid (HB1.out.trans hb2)
  clear hb2 k0 k1 k2 k3 j0 j1 j2
  cases yb with
  | true =>
    go_upto_region 4 with fail
    go_quiet (fail)
    go_wp2_with fail
    go_ret
    exact ⟨by rw [HBit.out]; rfl, (HB2.out.alloc _).drewN _⟩
  | false =>
    obtain ⟨k, rfl, hk⟩ : ∃ k : Nat, yn = (k : Int) ∧ k < 16 := ⟨yn.toNat, by have := HSy.out rfl; omega, by have := HSy.out rfl; omega⟩
    have HPw : Hid ((2 : Int) ^ k % 4294967296 = ((2 ^ k : Nat) : Int)) := by
      have h2 : 2 ^ k < 4294967296 := Nat.pow_lt_pow_right (a := 2) (m := k) (n := 32) (by decide) (by omega)
      have e : (2 : Int) ^ k = ((2 ^ k : Nat) : Int) := (Int.natCast_pow 2 k).symm
      show _ = _
      rw [e]
      exact Int.emod_eq_of_lt (Int.natCast_nonneg _) (Int.ofNat_lt.2 h2)
    have HB3 : Hid (bn = 2 ^ k) := by show _ = _; rw [HBit.out]; simp
    go_wp2_with fail
    go_ret
    exact ⟨by rw [HB3.out, ← HPw.out]; rfl, HB2.out.alloc _⟩

set_option maxRecDepth 100000 in
set_option maxHeartbeats 4000000 in
theorem bit_none (t n s : Int) (A : Option Addr) (len c : Nat) (ps : List Gr.Pr) (i : Nat) (fr : Int) (w : World) (B : Nat) (hlen : len = ps.length) (hr : Prs w B A ps) (hB : B ≤ w.heap.size) (hi : i < ps.length) :
    Calls Try.prog 34 #[.agg #[.int .i64 t, .int .i64 n, .int .i64 s, .slice A len c], .agg #[.int .i64 (i : Int), .int .i64 (ps[i].right.length : Int), .int .i64 fr]] w fun e w' => e = .returned (.int .u32 (bitN ⟨t, n, s, ps⟩ ⟨(i : Int), (ps[i].right.length : Int), fr⟩ : Nat)) ∧ Bl w w' := by
  have HK1 : Hid (Bk ((w.alloc (.cells #[.int .i64 t, .int .i64 n, .int .i64 s, .slice A len c] 24)).alloc (.cells #[.int .i64 (i : Int), .int .i64 (ps[i].right.length : Int), .int .i64 fr] 42)) w.heap.size 24 #[.int .i64 t, .int .i64 n, .int .i64 s, .slice A len c]) := (Bk.new w _ _).alloc _
  have HK2 : Hid (Bk ((w.alloc (.cells #[.int .i64 t, .int .i64 n, .int .i64 s, .slice A len c] 24)).alloc (.cells #[.int .i64 (i : Int), .int .i64 (ps[i].right.length : Int), .int .i64 fr] 42)) (w.heap.size + 1) 42 #[.int .i64 (i : Int), .int .i64 (ps[i].right.length : Int), .int .i64 fr]) := by
    have h := Bk.new (w.alloc (.cells #[.int .i64 t, .int .i64 n, .int .i64 s, .slice A len c] 24)) 42 #[.int .i64 (i : Int), .int .i64 (ps[i].right.length : Int), .int .i64 fr]
    rw [World.size_alloc] at h
    exact h
  have HB1 : Hid (Bl w ((w.alloc (.cells #[.int .i64 t, .int .i64 n, .int .i64 s, .slice A len c] 24)).alloc (.cells #[.int .i64 (i : Int), .int .i64 (ps[i].right.length : Int), .int .i64 fr] 42))) := ((Bl.refl w).alloc _).alloc _
  have HL := Lib.hid hlen
  have HNx := Lib.hid (fun (wx : World) (hbx : Bl w wx) => next_none t n s A len c ps i fr wx B hlen (hr.bl hB hbx) (Nat.le_trans hB hbx.size) hi)
  have HBit := Lib.hid (bitN_none (g := ⟨t, n, s, ps⟩) (i := i) (f := fr) (List.getElem?_eq_getElem hi))
  have HR := Lib.hid (fun (wx : World) (hbx : Bl w wx) => hr.bl hB hbx)
  have i0 : (0 : Int) ≤ (i : Int) := by omega
  have i1 : (i : Int) < (len : Int) := by omega
  clear hr hlen
  generalize bitN ⟨t, n, s, ps⟩ ⟨(i : Int), (ps[i].right.length : Int), fr⟩ = bn at *
  go_enter Try.func34, Try.ntmps34
  have k0 := HK1.out.cell 0
  have k1 := HK1.out.cell 1
  have k2 := HK1.out.cell 2
  have k3 := HK1.out.cell 3
  have j0 := HK2.out.cell 0
  have j1 := HK2.out.cell 1
  have j2 := HK2.out.cell 2
  go_wp2_with fail
  refine (HNx.out _ HB1.out).mono ?_
  rintro e w2 ⟨rfl, hb2⟩
  have HB2 := Lib.hid (HB1.out.trans hb2)
  have HK3 := Lib.hid ((HK1.out.bl hb2).alloc (.cells #[.bool false, .int .i64 0] 37))
  have HK4 := Lib.hid ((HK2.out.bl hb2).alloc (.cells #[.bool false, .int .i64 0] 37))
  have HB3 := Lib.hid (HB2.out.alloc (.cells #[.bool false, .int .i64 0] 37))
  clear hb2 k0 k1 k2 k3 j0 j1 j2
  go_upto_region 4 with fail
  generalize w2.alloc (.cells #[.bool false, .int .i64 0] 37) = w3 at *
  obtain ⟨b, off, Ax, cx, hA, hbB, _, hc0, _⟩ := (HR.out _ HB3.out).at_ hi
  subst hA
  have hbl : b < w3.heap.size := by have := HB3.out.size; omega
  have k2 : w3.cell? ⟨w.heap.size, 2, none⟩ = some (.int .i64 s) := HK3.out.cell 2
  have k3 : w3.cell? ⟨w.heap.size, 3, none⟩ = some (.slice (some ⟨b, off, none⟩) len c) := HK3.out.cell 3
  have j0 : w3.cell? ⟨w.heap.size + 1, 0, none⟩ = some (.int .i64 (i : Int)) := HK4.out.cell 0
  have j2 : w3.cell? ⟨w.heap.size + 1, 2, none⟩ = some (.int .i64 fr) := HK4.out.cell 2
  generalize ps[i].left = lf at *
  generalize ps[i].right.length = rl at *
  by_cases h1 : lf = s
  · subst h1
    by_cases h2 : fr = 0
    · subst h2
      have HB : Hid (bn = 65536) := by show _ = _; rw [HBit.out]; simp
      go_quiet (fail)
      go_wp2_with fail
      go_ret
      exact ⟨by rw [HB.out]; rfl, HB3.out.drewN _⟩
    · have HB : Hid (bn = 0) := by show _ = _; rw [HBit.out]; simp [h2]
      have hq : (fr == 0) = false := beq_eq_false_iff_ne.2 h2
      clear h2
      go_quiet (fail)
      go_wp2_with fail
      go_ret
      exact ⟨by rw [HB.out]; rfl, HB3.out.drewN _⟩
  · have HB : Hid (bn = 0) := by show _ = _; rw [HBit.out]; simp [h1]
    have hq : (lf == s) = false := beq_eq_false_iff_ne.2 h1
    clear h1
    go_quiet (fail)
    go_wp2_with fail
    go_ret
    exact ⟨by rw [HB.out]; rfl, HB3.out.drewN _⟩
end Go.Proofs.Ytdfhhbncmdpoeaa
/- chart.Next: what is next at items. -/
namespace Go.Proofs.Ytdfhhbncmdpoeaa
open Go.RowKit

/-- What is told of what is next. -/
def nxtN (g : Gr.Gm) (l : List Ix) : Nat := if okB g = true then nextN g l else 0
theorem nxtN_lt (g : Gr.Gm) (l : List Ix) : nxtN g l < 131072 := by
  unfold nxtN
  split
  · rename_i h; exact nextN_lt ((okB_iff g).1 h) l
  · omega
set_option maxRecDepth 100000 in
set_option maxHeartbeats 4000000 in
theorem cnext_any (t n s : Int) (A : Option Addr) (len c : Nat) (ps : List Gr.Pr) (Ai : Option Addr) (li ci : Nat) (l : List Ix) (w : World) (B : Nat) (hlen : len = ps.length) (hmax : len ≤ 9223372036854775807) (hr : Prs w B A ps) (hli : li = l.length) (hmi : li ≤ 1000000000) (hri : Rd w B Ai (ixRow l)) (hB : B ≤ w.heap.size) :
    Calls Try.prog 13 #[.agg #[.int .i64 t, .int .i64 n, .int .i64 s, .slice A len c], .slice Ai li ci] w fun e w' => e = .returned (.int .u32 (nxtN ⟨t, n, s, ps⟩ l : Nat)) ∧ Bl w w' := by
  have HB0 : Hid (Bl w (w.alloc (.cells #[.int .i64 t, .int .i64 n, .int .i64 s, .slice A len c] 24))) := (Bl.refl w).alloc _
  have HK0 := Lib.hid (Bk.new w 24 #[.int .i64 t, .int .i64 n, .int .i64 s, .slice A len c])
  have HRt := Lib.hid (right_any t n s A len c ps (w.alloc (.cells #[.int .i64 t, .int .i64 n, .int .i64 s, .slice A len c] 24)) B hlen hmax (hr.bl hB HB0.out) (Nat.le_trans hB HB0.out.size))
  have HR := Lib.hid (fun (wx : World) (hb : Bl w wx) => hr.bl hB hb)
  have HRi := Lib.hid (fun (wx : World) (hb : Bl w wx) => hri.bl hB hb)
  have HL := Lib.hid hlen
  have HLi := Lib.hid hli
  have HDf : Hid (nxtN ⟨t, n, s, ps⟩ l = if okB ⟨t, n, s, ps⟩ = true then nextN ⟨t, n, s, ps⟩ l else 0) := rfl
  have HGl : Hid (okB ⟨t, n, s, ps⟩ = true → ∀ k : Nat, nextN ⟨t, n, s, ps⟩ (l.take k) < 131072) := fun h k => nextN_lt ((okB_iff _).1 h) _
  have HOk : Hid (okB ⟨t, n, s, ps⟩ = okB ⟨t, n, s, ps⟩) := rfl
  clear hr hri hlen hli
  generalize hob : okB ⟨t, n, s, ps⟩ = ob at HRt HDf HGl
  have HOb := Lib.hid hob
  clear hob HOk
  go_enter Try.func13, Try.ntmps13
  have k0 := HK0.out.cell 0
  have k1 := HK0.out.cell 1
  have k2 := HK0.out.cell 2
  have k3 := HK0.out.cell 3
  go_wp2_with fail
  refine HRt.out.mono ?_
  rintro e w1 ⟨rfl, hb1⟩
  have HB1 := Lib.hid (HB0.out.trans hb1)
  have HK1 := Lib.hid (HK0.out.bl hb1)
  clear hb1 k0 k1 k2 k3
  cases ob with
  | false =>
    have HQ : Hid (nxtN ⟨t, n, s, ps⟩ l = 0) := by show _ = _; rw [HDf.out]; simp
    go_wp2_with fail
    go_ret
    exact ⟨by rw [HQ.out]; rfl, HB1.out⟩
  | true =>
    have HQ : Hid (nxtN ⟨t, n, s, ps⟩ l = nextN ⟨t, n, s, ps⟩ l) := by show _ = _; rw [HDf.out]; simp
    go_wp2_with fail
    go_loopw [13, 5] (fun i v wr => ∃ k : Nat, k ≤ li ∧ i = .int .i64 k ∧ v = .int .u32 (nextN ⟨t, n, s, ps⟩ (l.take k) : Nat) ∧ Hid (Bk wr w.heap.size 24 #[.int .i64 t, .int .i64 n, .int .i64 s, .slice A len c]) ∧ Hid (Bl w wr)) (fun i _ _ => li - (intOf i).toNat)
    case atStart => exact ⟨0, Nat.zero_le _, rfl, rfl, HK1.out, HB1.out⟩
    case round =>
      obtain ⟨k, hk, rfl, rfl, HK, HB⟩ := hrel
      by_cases hlt : k < li
      · have hik : (k : Int) < (li : Int) := by omega
        have hlt2 : k < l.length := by have := HLi.out; omega
        obtain ⟨b, off, rfl, hbb, c0, c1, c2⟩ := (HRi.out wr HB.out).ix hlt2
        have hbl : b < wr.heap.size := by have := HB.out.size; omega
        have HSn : Hid (nextN ⟨t, n, s, ps⟩ (l.take (k + 1)) = nextN ⟨t, n, s, ps⟩ (l.take k) ||| bitN ⟨t, n, s, ps⟩ l[k]) := by
          show _ = _
          rw [take_snoc hlt2, nextN_snoc]
        have HZ := Lib.hid (HGl.out (by first | rfl | trivial) k)
        have HMy := Lib.hid (fun (wx : World) (hb : Bl w wx) => may_any t n s A len c ps l[k] wx B HL.out (HR.out wx hb) (Nat.le_trans hB hb.size))
        have HBn := Lib.hid (bitN_no (g := ⟨t, n, s, ps⟩) (x := l[k]))
        have HBl := Lib.hid (bitN_lt ((okB_iff _).1 HOb.out) l[k])
        have HBt : Hid (mayIx ps l[k] = true → ∀ (wx : World) (hb : Bl w wx), Calls Try.prog 34 #[.agg #[.int .i64 t, .int .i64 n, .int .i64 s, .slice A len c], .agg #[.int .i64 l[k].prod, .int .i64 l[k].dot, .int .i64 l[k].frm]] wx fun e w' => e = .returned (.int .u32 (bitN ⟨t, n, s, ps⟩ l[k] : Nat)) ∧ Bl wx w') := by
          intro hm wx hb
          obtain ⟨i, d, p, h1, h2, h3, h4⟩ := mayIx_iff.1 hm
          generalize l[k] = x at *
          obtain ⟨xp, xd, xf⟩ := x
          simp only at h1 h2
          subst h1 h2
          have hi := Ch.lt_of_get h3
          have hp : ps[i] = p := by rw [List.getElem?_eq_getElem hi] at h3; injection h3
          subst hp
          rcases Nat.lt_or_ge d (ps[i].right.length) with h | h
          · exact bit_some t n s A len c ps i d xf wx B HL.out HOb.out (HR.out wx hb) (Nat.le_trans hB hb.size) hi h
          · have e : d = ps[i].right.length := by omega
            subst e
            exact bit_none t n s A len c ps i xf wx B HL.out (HR.out wx hb) (Nat.le_trans hB hb.size) hi
        have HOr : Hid (∀ b : Nat, b < 131072 → bits .or .u32 ((nextN ⟨t, n, s, ps⟩ (l.take k) : Nat) : Int) (b : Int) = ((nextN ⟨t, n, s, ps⟩ (l.take k) ||| b : Nat) : Int)) := fun b hb => u32_or_nat _ _ (by have := HZ.out; omega) (by omega)
        generalize l[k] = x at *
        generalize nextN ⟨t, n, s, ps⟩ (l.take k) = z at *
        generalize bitN ⟨t, n, s, ps⟩ x = bb at *
        obtain ⟨xp, xd, xf⟩ := x
        simp only at c0 c1 c2
        generalize hmb : mayIx ps ⟨xp, xd, xf⟩ = mb at *
        clear hmb hlt2
        have HX4 : Hid (Bk (wr.alloc (.cells #[.int .i64 xp, .int .i64 xd, .int .i64 xf] 42)) wr.heap.size 42 #[.int .i64 xp, .int .i64 xd, .int .i64 xf]) := Bk.new wr _ _
        have HB4 : Hid (Bl wr (wr.alloc (.cells #[.int .i64 xp, .int .i64 xd, .int .i64 xf] 42))) := (Bl.refl wr).alloc _
        go_upto_region 7 with fail
        generalize wr.alloc (.cells #[.int .i64 xp, .int .i64 xd, .int .i64 xf] 42) = w4 at *
        have HK4 := Lib.hid (HK.out.bl HB4.out)
        have HBw4 := Lib.hid (HB.out.trans HB4.out)
        have k0 : w4.cell? ⟨w.heap.size, 0, none⟩ = some (.int .i64 t) := HK4.out.cell 0
        have k1 : w4.cell? ⟨w.heap.size, 1, none⟩ = some (.int .i64 n) := HK4.out.cell 1
        have k2 : w4.cell? ⟨w.heap.size, 2, none⟩ = some (.int .i64 s) := HK4.out.cell 2
        have k3 : w4.cell? ⟨w.heap.size, 3, none⟩ = some (.slice A len c) := HK4.out.cell 3
        have x0 : w4.cell? ⟨wr.heap.size, 0, none⟩ = some (.int .i64 xp) := HX4.out.cell 0
        have x1 : w4.cell? ⟨wr.heap.size, 1, none⟩ = some (.int .i64 xd) := HX4.out.cell 1
        have x2 : w4.cell? ⟨wr.heap.size, 2, none⟩ = some (.int .i64 xf) := HX4.out.cell 2
        have kl := HK4.out.lt
        have xl := HX4.out.lt
        clear c0 c1 c2 hbl
        go_wp2_with fail
        refine (HMy.out w4 HBw4.out).mono ?_
        rintro e w5 ⟨rfl, hb5⟩
        have HK5 := Lib.hid (HK4.out.bl hb5)
        have HX5 := Lib.hid (HX4.out.bl hb5)
        have HBw5 := Lib.hid (HBw4.out.trans hb5)
        clear hb5 k0 k1 k2 k3 x0 x1 x2 kl xl HX4 HK4 HB4 HK
        cases mb with
        | false =>
          have HE : Hid (nextN ⟨t, n, s, ps⟩ (l.take (k + 1)) = z) := by show _ = _; rw [HSn.out, HBn.out (by first | rfl | trivial), Nat.or_zero]
          go_wp2_with fail
          go_roundw
          case rel => exact ⟨k + 1, by omega, by go_num, (by rw [HE.out]), HK5.out, HBw5.out⟩
          case measure => simp [intOf]; omega
        | true =>
          have k0 : w5.cell? ⟨w.heap.size, 0, none⟩ = some (.int .i64 t) := HK5.out.cell 0
          have k1 : w5.cell? ⟨w.heap.size, 1, none⟩ = some (.int .i64 n) := HK5.out.cell 1
          have k2 : w5.cell? ⟨w.heap.size, 2, none⟩ = some (.int .i64 s) := HK5.out.cell 2
          have k3 : w5.cell? ⟨w.heap.size, 3, none⟩ = some (.slice A len c) := HK5.out.cell 3
          have x0 : w5.cell? ⟨wr.heap.size, 0, none⟩ = some (.int .i64 xp) := HX5.out.cell 0
          have x1 : w5.cell? ⟨wr.heap.size, 1, none⟩ = some (.int .i64 xd) := HX5.out.cell 1
          have x2 : w5.cell? ⟨wr.heap.size, 2, none⟩ = some (.int .i64 xf) := HX5.out.cell 2
          have kl := HK5.out.lt
          have xl := HX5.out.lt
          have hor := HOr.out bb HBl.out
          go_wp2_with fail
          refine (HBt.out (by first | rfl | trivial) w5 HBw5.out).mono ?_
          rintro e w6 ⟨rfl, hb6⟩
          have HK6 := Lib.hid (HK5.out.bl hb6)
          have HBw6 := Lib.hid (HBw5.out.trans hb6)
          clear hb6 k0 k1 k2 k3 x0 x1 x2 kl xl
          go_wp2_with fail
          go_roundw
          case rel => exact ⟨k + 1, by omega, by go_num, (by rw [HSn.out, ← hor]), HK6.out, HBw6.out⟩
          case measure => simp [intOf]; omega
      · have hik : ¬ (k : Int) < (li : Int) := by omega
        have HE : Hid (nextN ⟨t, n, s, ps⟩ l = nextN ⟨t, n, s, ps⟩ (l.take k)) := by show _ = _; rw [List.take_of_length_le (by have := HLi.out; omega)]
        go_wp2_with fail
        go_ret
        exact ⟨by rw [HQ.out, HE.out]; rfl, HB.out⟩
end Go.Proofs.Ytdfhhbncmdpoeaa
/- An argument that is a slice of items, opened to cells. -/
namespace Go.Proofs.Ytdfhhbncmdpoeaa
open Go.ChangeShapes Go.WideShapes Go.RowKit Go.Deep

section
variable {H : Type} {enc : TypeId × Value → H} {w : World} {spare : Nat → Bool} {held : Bool}
set_option maxRecDepth 100000 in
theorem open_item {fuel : Nat} {cs : List Value} {y : DataW H × List MemPlace} (h : DataW.trod enc Try.prog w 0 spare held fuel 42 cs = some y) : ∃ x : Ix, cs = ixc x := by
  obtain ⟨xs, n, _, _, hlen, hxl, hf⟩ := DataW.trod_struct Try.underlying42 h
  have h2 : Try.prog.cellsOf 42 = 3 := by kernel_rfl
  rw [h2] at hlen
  match cs, hlen with
  | [c0, c1, c2], _ =>
    have e3 : Try.prog.cellsOf 3 = 1 := by kernel_rfl
    match xs, hxl with
    | [y0, y1, y2], _ =>
      have h0 := hf 0 _ rfl
      have h1 := hf 1 _ rfl
      have h2 := hf 2 _ rfl
      simp [e3] at h0 h1 h2
      obtain ⟨a, ha, _, _⟩ := DataW.trod_int Try.underlying3 h0
      obtain ⟨b, hb, _, _⟩ := DataW.trod_int Try.underlying3 h1
      obtain ⟨c, hc, _, _⟩ := DataW.trod_int Try.underlying3 h2
      injection ha with ha _
      injection hb with hb _
      injection hc with hc _
      subst ha hb hc
      exact ⟨⟨a, b, c⟩, rfl⟩
/-- A slice of items, each of which opens. -/
theorem rd_ixs {a : Addr} {len : Nat} (key : ∀ i, i < len → ∃ x : Ix, w.cell? (a.add (i * 3)) = some (.int .i64 x.prod) ∧ w.cell? ((a.add (i * 3)).add 1) = some (.int .i64 x.dot) ∧ w.cell? ((a.add (i * 3)).add 2) = some (.int .i64 x.frm)) :
    ∃ xs : List Ix, xs.length = len ∧ Rd w w.heap.size (some a) (ixRow xs) := by
  have hf := Classical.skolem.1 fun i : Fin len => key i i.2
  obtain ⟨X, hX⟩ := hf
  refine ⟨List.ofFn X, by simp, ?_⟩
  intro hn
  rw [ixRow_len, List.length_ofFn] at hn
  obtain ⟨h0, _⟩ := hX ⟨0, by omega⟩
  obtain ⟨b, off, spot⟩ := a
  have hspot : spot = none := by simpa [Addr.add] using World.cell?_spot h0
  subst hspot
  refine ⟨b, off, rfl, by have := World.block_lt_of_cell? w _ h0; simpa [Addr.add] using this, fun j u hu => ?_⟩
  have e : ∀ j, (⟨b, off, none⟩ : Addr).add j = ⟨b, off + j, none⟩ := fun j => by unfold Addr.add; split <;> simp_all
  have e' : ∀ o j, (⟨b, o, none⟩ : Addr).add j = ⟨b, o + j, none⟩ := fun o j => by unfold Addr.add; split <;> simp_all
  have hj : j < len * 3 := by
    rcases Nat.lt_or_ge j (len * 3) with h | h
    · exact h
    · rw [List.getElem?_eq_none (by rw [ixRow_len, List.length_ofFn]; exact h)] at hu; cases hu
  have hi : j / 3 < len := by omega
  obtain ⟨q0, q1, q2⟩ := hX ⟨j / 3, hi⟩
  have hr : j % 3 < 3 := Nat.mod_lt _ (by decide)
  have r := rowN_at ixc_len (List.ofFn X) (j / 3) (j % 3) (by rw [List.length_ofFn]; exact hi) hr
  have ej : j / 3 * 3 + j % 3 = j := by omega
  rw [ej, List.getElem_ofFn] at r
  have hu : (rowN ixc (List.ofFn X))[j]? = some u := hu
  rw [r] at hu
  rw [e] at q0 q1 q2
  rw [e'] at q1 q2
  rw [← ej, ← Nat.add_assoc]
  generalize j % 3 = m at *
  have hm : m = 0 ∨ m = 1 ∨ m = 2 := by omega
  rcases hm with rfl | rfl | rfl
  · have hu : some (Value.int .i64 _) = some u := hu
    rw [← hu]; exact q0
  · have hu : some (Value.int .i64 _) = some u := hu
    rw [← hu]; exact q1
  · have hu : some (Value.int .i64 _) = some u := hu
    rw [← hu]; exact q2
theorem iopen_items {A : Option Addr} {len cap : Nat} {d : DataW H} {p : List MemPlace} (h : DataW.Trod enc Try.prog w 0 spare held 34 (.slice A len cap) d p) :
    ∃ l : List Ix, len = l.length ∧ Rd w w.heap.size A (ixRow l) ∧ len ≤ maxLen := by
  obtain ⟨fuel, hf⟩ := h
  rcases open_slice Try.underlying34 hf with ⟨hcs, _⟩ | ⟨a, len', cap', m, n, D, Pl, hcs, _, hl, hm, hmm, _, hi⟩
  · simp [Value.cells] at hcs
    obtain ⟨rfl, rfl, rfl⟩ := hcs
    exact ⟨[], rfl, Rd.nil, Nat.zero_le _⟩
  · simp [Value.cells] at hcs
    obtain ⟨rfl, rfl, rfl⟩ := hcs
    have h2 : Try.prog.cellsOf 42 = 3 := by kernel_rfl
    rw [h2] at hi
    have hlm : len ≤ m := by rw [hmm]; split <;> omega
    have key : ∀ i, i < len → ∃ x : Ix, w.cell? (a.add (i * 3)) = some (.int .i64 x.prod) ∧ w.cell? ((a.add (i * 3)).add 1) = some (.int .i64 x.dot) ∧ w.cell? ((a.add (i * 3)).add 2) = some (.int .i64 x.frm) := by
      intro i hil
      obtain ⟨cs', hc, ht⟩ := hi i (by omega)
      obtain ⟨x, rfl⟩ := open_item ht
      obtain ⟨_, _, hat⟩ := World.cells?_some hc
      have a0 := hat 0 (by show 0 < 3; omega)
      rw [show ∀ b : Addr, b.add 0 = b from fun b => by simp [Addr.add]] at a0
      exact ⟨x, a0, hat 1 (by show 1 < 3; omega), hat 2 (by show 2 < 3; omega)⟩
    obtain ⟨xs, hxl, hr⟩ := rd_ixs key
    exact ⟨xs, hxl.symm, hr, Nat.le_trans hl hm⟩
end
end Go.Proofs.Ytdfhhbncmdpoeaa
