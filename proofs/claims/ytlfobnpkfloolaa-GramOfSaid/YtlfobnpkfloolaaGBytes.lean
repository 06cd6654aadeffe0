/- gram.Bytes: a grammar's bytes. -/
import Derived.Test.YtlfobnpkfloolaaGRight
import Derived.Test.YtlfobnpkfloolaaGOf
import Derived.Test.YtlfobnpkfloolaaWWtr
namespace Go.Proofs.Ytlfobnpkfloolaa
open Go.RowKit

/-- Rows of unlike types are unlike blocks. -/
theorem own_apart {w : World} {b b' n n' sz sz' : Nat} {e e' : TypeId} {v v' : Value} {xs xs' : List Value} (h : w.ownsRow b e sz v n xs) (h' : w.ownsRow b' e' sz' v' n' xs') (hne : e ≠ e') : ∀ k, v.ownBlock = some k → v'.ownBlock ≠ some k := by
  intro k hk
  rcases h.2 with ⟨rfl, _⟩ | ⟨g, cap, cur, rfl, _, hg, _⟩
  · simp [Value.ownBlock] at hk
  · have e1 : g = k := by simpa [Value.ownBlock] using hk
    subst e1
    exact Bk.row (g := g) (cs := cur) (t := e) hg h' (fun e => hne e.symm)
theorem Wtr.row {w : World} {S : Nat → Prop} {g : Nat} {l : List Nat} (h : Wtr w S g l) {b n sz : Nat} {e : TypeId} {v : Value} {xs : List Value} (ho : w.ownsRow b e sz v n xs) (h1 : e ≠ 49) (h2 : e ≠ 5) : ∀ k, v.ownBlock = some k → ¬ S k := by
  obtain ⟨u, hk, hu, hS⟩ := h
  intro k hv hs
  rcases (hS k).1 hs with rfl | hk2
  · exact hk.row ho h1 hv
  · exact own_apart ho hu h2 k hv hk2
theorem Wtr.block {w : World} {S : Nat → Prop} {g : Nat} {l : List Nat} (h : Wtr w S g l) {g' : Nat} {t' : TypeId} {cs : Array Value} (ho : Bk w g' t' cs) (h1 : t' ≠ 49) (h2 : t' ≠ 5) : ¬ S g' := by
  obtain ⟨u, hk, hu, hS⟩ := h
  intro hs
  rcases (hS g').1 hs with rfl | hk2
  · exact Bk.apart ho hk h1 rfl
  · exact ho.row hu (fun e => h2 e.symm) hk2

/-- Blocks that are neither a writer nor bytes stay as they were. -/
def KeepB (w w' : World) : Prop := ∀ g t cs, t ≠ 49 → t ≠ 5 → Bk w g t cs → Bk w' g t cs
/-- A writer of the call's own. -/
def BRel (w : World) (gw : Nat) (l : List Nat) (wr : World) : Prop := ∃ S : Nat → Prop, Wtr wr S gw l ∧ (∀ k, S k → w.heap.size ≤ k) ∧ Bl w wr
section
variable {w wr w2 : World} {gw : Nat} {l : List Nat}
theorem BRel.b (h : BRel w gw l wr) : Bl w wr := by obtain ⟨_, _, _, h⟩ := h; exact h
theorem BRel.bl (h : BRel w gw l wr) (hb : Bl wr w2) : BRel w gw l w2 := by
  obtain ⟨S, h1, h2, h3⟩ := h
  exact ⟨S, h1.bl hb, h2, h3.trans hb⟩
theorem KeepB.of_bl (hb : Bl wr w2) : KeepB wr w2 := fun _ _ _ _ _ h => h.bl hb
theorem BRel.post {l2 : List Nat} {S : Nat → Prop} {e : Ending} (h1 : Wtr wr S gw l) (h2 : ∀ k, S k → w.heap.size ≤ k) (h3 : Bl w wr) (hp : WPost l2 S gw wr e w2) : e = .returned (.tuple #[]) ∧ BRel w gw l2 w2 ∧ KeepB wr w2 := by
  obtain ⟨he, S', h4, h5, h6⟩ := hp
  refine ⟨he, ⟨S', h4, fun k hk => ?_, h3.fr h5 fun i hi hs => by have := h2 i hs; omega⟩, fun g t cs ht1 ht2 hb => hb.fr h5 (h1.block hb ht1 ht2)⟩
  rcases h6 k hk with h | h
  · exact h2 k h
  · exact Nat.le_trans h3.size h
theorem BRel.num (h : BRel w gw l wr) (n : Nat) (hn : n < 9223372036854775808) (hl : l.length ≤ 100000000000) :
    Calls Try.prog 23 #[.pointer (some ⟨gw, 0, none⟩), .int .i64 n] wr fun e w2 => e = .returned (.tuple #[]) ∧ BRel w gw (l ++ Vy.enc n) w2 ∧ KeepB wr w2 := by
  obtain ⟨S, h1, h2, h3⟩ := h
  exact (wnum_any n l S gw wr h1 hn (by omega)).mono fun e w2 hp => BRel.post h1 h2 h3 hp
theorem BRel.nums (h : BRel w gw l wr) (A : Option Addr) (len cap : Nat) (xs : List Int) (b : Nat) (ho : wr.ownsRow b 3 1 (.slice A len cap) len (ins xs)) (hlen : len = xs.length) (hmax : len ≤ 1000000000)
    (hx : ∀ n ∈ xs, 0 ≤ n ∧ n < 9223372036854775808) (hl : l.length ≤ 100000000000) :
    Calls Try.prog 24 #[.pointer (some ⟨gw, 0, none⟩), .slice A len cap] wr fun e w2 => e = .returned (.tuple #[]) ∧ BRel w gw (l ++ Wr.wnums xs) w2 ∧ KeepB wr w2 := by
  obtain ⟨S, h1, h2, h3⟩ := h
  refine (wnums_any A len cap xs l S gw wr wr.heap.size h1 hlen hmax (Rd.own ho) (Nat.le_refl _) (fun b off e _ => h1.row ho (by decide) (by decide) b (by rw [e]; rfl)) hx hl).mono fun e w2 hp => BRel.post h1 h2 h3 hp
end

theorem wnums_ns (l : List Nat) : Wr.wnums (ns l) = Gr.encs (l.length :: l) := by
  unfold Wr.wnums Gr.encs
  rw [ns_len, List.flatMap_cons]
  congr 1
  induction l with
  | nil => rfl
  | cons n l ih =>
    show Vy.enc ((n : Int)).toNat ++ _ = Vy.enc n ++ _
    rw [Int.toNat_natCast]
    exact congrArg _ ih
theorem encs_len (l : List Nat) : (Gr.encs l).length ≤ 10 * l.length := by
  induction l with
  | nil => simp [Gr.encs]
  | cons n l ih =>
    have := (Vy.enc_len n).2
    rw [Gr.encs_cons, List.length_append, List.length_cons]
    omega

/-- A symbol whose number is small. -/
theorem code_two (k : Int) (h : 0 ≤ k) : ((Gr.code ⟨true, k⟩ : Nat) : Int) = 2 * k + 1 ∧ ((Gr.code ⟨false, k⟩ : Nat) : Int) = 2 * k := by
  constructor
  · show (((2 * k.toNat + 1 : Nat)) : Int) = _; omega
  · show (((2 * k.toNat + 0 : Nat)) : Int) = _; omega

set_option maxHeartbeats 400000 in
theorem code_any (b : Bool) (k : Int) (w : World) (h0 : 0 ≤ k) (h1 : k ≤ 1000000) :
    Calls Try.prog 40 #[.agg #[.bool b, .int .i64 k]] w fun e w' => e = .returned (.int .i64 (Gr.code ⟨b, k⟩ : Nat)) ∧ Bl w w' := by
  have HC := Lib.hid (code_two k h0)
  cases b with
  | true =>
    go_enter Try.func40, Try.ntmps40
    go_wp2_with fail
    go_ret
    exact ⟨by rw [HC.out.1]; rfl, (Bl.refl w).alloc _⟩
  | false =>
    go_enter Try.func40, Try.ntmps40
    go_wp2_with fail
    go_ret
    exact ⟨by rw [HC.out.2]; rfl, (Bl.refl w).alloc _⟩

/-- The numbers of the first k symbols. -/
def cds (l : List Gr.Sy) (k : Nat) : List Nat := (l.take k).map Gr.code
theorem cds_next {l : List Gr.Sy} {k : Nat} (h : k < l.length) : cds l (k + 1) = cds l k ++ [Gr.code l[k]] := by
  unfold cds; rw [List.take_succ_eq_append_getElem h, List.map_append]; rfl
theorem cds_len {l : List Gr.Sy} {k : Nat} (h : k ≤ l.length) : (cds l k).length = k := by unfold cds; rw [List.length_map, List.length_take]; omega
theorem cds_all (l : List Gr.Sy) : cds l l.length = l.map Gr.code := by unfold cds; rw [List.take_length]

/-- Where a loop stands that makes a row of ints. -/
def IRel (xs : List Nat) (w : World) (v : Value) (wr : World) : Prop := wr.ownsRow w.heap.size 3 1 v xs.length (ins (ns xs)) ∧ Bl w wr
section
variable {xs : List Nat} {w wr w2 : World} {v v' : Value}
theorem IRel.own (h : IRel xs w v wr) : wr.ownsRow w.heap.size 3 1 v xs.length (ins (ns xs)) := h.1
theorem IRel.b (h : IRel xs w v wr) : Bl w wr := h.2
theorem IRel.alloc (h : IRel xs w v wr) (o : Obj) : IRel xs w v (wr.alloc o) := ⟨h.1.alloc o, h.2.alloc o⟩
theorem IRel.bl (h : IRel xs w v wr) (hb : Bl wr w2) : IRel xs w v w2 := ⟨own_bl h.1 hb, h.2.trans hb⟩
theorem IRel.put (h : IRel xs w v wr) {ys : List Nat} {us : List Value} (hu : us = ins (ns ys)) (ho : w2.ownsRow w.heap.size 3 1 v' (xs.length + ys.length) (ins (ns xs) ++ us)) (hg : wr.grownBy w2 v.ownBlock) : IRel (xs ++ ys) w v' w2 := by
  refine ⟨?_, h.2.grown hg fun j hj => (h.1.lt j hj).1⟩
  rw [List.length_append, ns_append, ins_append, ← hu]
  exact ho
theorem IRel.makes (h : IRel xs w v wr) : IMakes (ns xs) w (.returned v) wr := by
  obtain ⟨A, c, rfl, hc⟩ := own_slice h.1
  refine ⟨A, c, by rw [ns_len], by rw [ns_len]; exact hc, ?_, h.2⟩
  rw [ns_len]
  exact h.1
end

set_option maxRecDepth 100000 in
set_option maxHeartbeats 1000000 in
theorem codes_any (A : Option Addr) (len cap : Nat) (l : List Gr.Sy) (w : World) (B : Nat) (hlen : len = l.length) (hmax : len ≤ 1000000) (hx : ∀ s ∈ l, 0 ≤ s.n ∧ s.n ≤ 1000000) (hr : Rd w B A (syRow l)) (hB : B ≤ w.heap.size) :
    Calls Try.prog 25 #[.slice A len cap] w (IMakes (ns (l.map Gr.code)) w) := by
  obtain ⟨i0, hi, hz0, hz1, hz2⟩ := info_parts int_info
  have HL := Lib.hid hlen; clear hlen
  have HA := Lib.hid hr; clear hr
  have HX := Lib.hid hx; clear hx
  have HCL := Lib.hid (fun k (h : k ≤ l.length) => cds_len (l := l) (k := k) h)
  go_enter Try.func25, Try.ntmps25
  go_wp2_with fail
  go_loopw [3, 8] (fun v i wr => ∃ k : Nat, k ≤ len ∧ i = .int .i64 k ∧ Hid (IRel (cds l k) w v wr)) (fun _ i _ => len - (intOf i).toNat)
  case atStart => exact ⟨0, Nat.zero_le _, rfl, World.ownsRow_nil _ _ _ _, Bl.refl w⟩
  case round =>
    obtain ⟨k, hk, rfl, HR⟩ := hrel
    by_cases hlt : k < len
    · have hj : k < l.length := by have := HL.out; omega
      obtain ⟨b, off, rfl, hbB, hc0, hc1⟩ := (HA.out.bl hB HR.out.b).sym hj
      have hxk := HX.out _ (List.getElem_mem hj)
      have HN := Lib.hid (cds_next hj)
      have hcl := HCL.out k (by omega)
      have hsz : w.heap.size ≤ wr.heap.size := HR.out.b.size
      generalize l[k] = x at hc0 hc1 hxk HN
      obtain ⟨xb, xn⟩ := x
      simp only at hc0 hc1 hxk
      obtain ⟨hx0, hx1⟩ := hxk
      generalize cds l k = xs at HR hcl HN
      go_wp2_with fail
      refine (code_any xb xn _ hx0 hx1).mono ?_
      rintro e w1 ⟨rfl, hb1⟩
      have HR1 := Lib.hid (HR.out.bl (((Bl.refl wr).alloc _).trans hb1)); clear hb1
      have hs1 : w.heap.size ≤ w1.heap.size := HR1.out.b.size
      generalize hcd : Gr.code ⟨xb, xn⟩ = cd at HN
      have HCD := Lib.hid hcd; clear hcd
      go_wp2_with (at_builtin; refine wpList_append_own _ rfl (.tmp 12) (.tmp 15) 36 rfl w.heap.size 3 i0 (.int .i64 0) 1 8 Try.underlying36 hi hz0 hz1 hz2 rfl (by decide) _ _ _ rfl (HR1.out.own.alloc _) ⟨w1.heap.size, 0, none⟩ 1 1 [.int .i64 (cd : Int)] rfl rfl (one_new _ _ _) (by simp [Value.oneCell']) (by simp only [maxLen]; omega) (by omega) (by simp; omega) ?_; intro v' w2 hown' hgrow _; have HY := Lib.hid ((HR1.out.alloc _).put (ys := [cd]) rfl hown' hgrow); clear hown' hgrow)
      go_roundw
      case rel => exact ⟨k + 1, by omega, by go_num, by rw [HN.out]; exact HY⟩
      case measure => simp [intOf]; omega
    · have HD : Hid (IMakes (ns (l.map Gr.code)) w (.returned u3) wr) := by
        have h := HR.out.makes
        rw [show k = l.length by have := HL.out; omega, cds_all] at h
        exact h
      go_wp2_with fail
      go_ret
      exact HD.out

/-- The numbers of a grammar's head, and of its first k productions. -/
def headNums (t n s : Int) (len : Nat) : List Nat := [t.toNat, n.toNat, s.toNat, len]
def prsNums (ps : List Gr.Pr) (k : Nat) : List Nat := (ps.take k).flatMap Gr.prNums
theorem prsNums_next {ps : List Gr.Pr} {k : Nat} (h : k < ps.length) : prsNums ps (k + 1) = prsNums ps k ++ Gr.prNums ps[k] := by
  unfold prsNums; rw [List.take_succ_eq_append_getElem h, List.flatMap_append]; simp
theorem prsNums_len (ps : List Gr.Pr) (h : ∀ p ∈ ps, p.right.length ≤ 8) (k : Nat) : (prsNums ps k).length ≤ 10 * k := by
  have key : ∀ l : List Gr.Pr, (∀ p ∈ l, p.right.length ≤ 8) → (l.flatMap Gr.prNums).length ≤ 10 * l.length := by
    intro l
    induction l with
    | nil => simp
    | cons p l ih =>
      intro hl
      have h1 := hl p (by simp)
      have h2 := ih fun q hq => hl q (by simp [hq])
      have h0 : (Gr.prNums p).length = p.right.length + 1 + 1 := by unfold Gr.prNums; rw [List.length_cons, List.length_cons, List.length_map]
      rw [List.flatMap_cons, List.length_append, List.length_cons]
      omega
  have h1 := key (ps.take k) fun p hp => h p (List.mem_of_mem_take hp)
  have h2 : (ps.take k).length ≤ k := List.length_take_le _ _
  unfold prsNums
  omega
theorem gmNums_all (t n s : Int) (ps : List Gr.Pr) : headNums t n s ps.length ++ prsNums ps ps.length = Gr.gmNums ⟨t, n, s, ps⟩ := by
  unfold headNums prsNums Gr.gmNums; rw [List.take_length]; rfl
theorem encs_snoc (l : List Nat) (n : Nat) : Gr.encs (l ++ [n]) = Gr.encs l ++ Vy.enc n := by rw [Gr.encs_append]; simp [Gr.encs]

/-- What Bytes tells: the bytes, and what is wrong. -/
def bytesOf (g : Gr.Gm) : List Nat := if okB g then Gr.gmBytes g else []
def errOf (g : Gr.Gm) : Int := if okB g then 0 else 1
theorem bytesOf_ok {g : Gr.Gm} (h : okB g = true) : bytesOf g = Gr.gmBytes g := by unfold bytesOf; rw [if_pos h]
theorem bytesOf_no {g : Gr.Gm} (h : okB g = false) : bytesOf g = [] := by unfold bytesOf; rw [if_neg (by rw [h]; simp)]
theorem errOf_ok {g : Gr.Gm} (h : okB g = true) : errOf g = 0 := by unfold errOf; rw [if_pos h]
theorem errOf_no {g : Gr.Gm} (h : okB g = false) : errOf g = 1 := by unfold errOf; rw [if_neg (by rw [h]; simp)]
def GBPost (g : Gr.Gm) (w : World) (e : Ending) (w' : World) : Prop :=
  ∃ A n c, e = .returned (.tuple #[.slice A n c, .int .i64 (errOf g)]) ∧ n = (bytesOf g).length ∧ n ≤ c ∧ w'.ownsRow w.heap.size 5 1 (.slice A n c) n (bys (bytesOf g)) ∧ Bl w w'
theorem GBPost.no {g : Gr.Gm} {w w' : World} (h : okB g = false) (hb : Bl w w') : GBPost g w (.returned (.tuple #[.slice none 0 0, .int .i64 1])) w' :=
  ⟨none, 0, 0, by rw [errOf_no h], by rw [bytesOf_no h]; rfl, Nat.le_refl _, by rw [bytesOf_no h]; exact World.ownsRow_nil _ _ _ _, hb⟩
theorem gmBytes_len (t n s : Int) (ps : List Gr.Pr) (h : okB ⟨t, n, s, ps⟩ = true) : (Gr.gmBytes ⟨t, n, s, ps⟩).length ≤ 7000 := by
  obtain ⟨_, _, _, _, _, _, h7, h8⟩ := (okB_iff _).1 h
  simp only at h7 h8
  have h1 := prsNums_len ps (fun p hp => (h8 p hp).2.2.1) ps.length
  have h2 := encs_len (Gr.gmNums ⟨t, n, s, ps⟩)
  have h3 : (Gr.gmNums ⟨t, n, s, ps⟩).length = 4 + (prsNums ps ps.length).length := by
    rw [← gmNums_all]; unfold headNums; rw [List.length_append]; rfl
  unfold Gr.gmBytes
  omega
theorem gmBytes_byte (t n s : Int) (ps : List Gr.Pr) (h : okB ⟨t, n, s, ps⟩ = true) : ∀ c ∈ Gr.gmBytes ⟨t, n, s, ps⟩, c < 256 := by
  obtain ⟨h1, h2, h3, h4, h5, h6, h7, h8⟩ := (okB_iff _).1 h
  simp only at h1 h2 h3 h4 h5 h6 h7 h8
  intro c hc
  unfold Gr.gmBytes Gr.encs at hc
  obtain ⟨m, hm, hc⟩ := List.mem_flatMap.1 hc
  refine Vy.enc_byte m ?_ c hc
  unfold Gr.gmNums at hm
  simp only [List.mem_cons, List.mem_flatMap] at hm
  rcases hm with rfl | rfl | rfl | rfl | ⟨p, hp, hm⟩
  · omega
  · omega
  · omega
  · omega
  · obtain ⟨q1, q2, q3, q4⟩ := h8 p hp
    unfold Gr.prNums at hm
    simp only [List.mem_cons, List.mem_map] at hm
    rcases hm with rfl | rfl | ⟨y, hy, rfl⟩
    · simp only at q2; omega
    · omega
    · obtain ⟨r1, r2, r3⟩ := q4 y hy
      simp only at r2 r3
      unfold Gr.code
      cases hb : y.non with
      | true => have := r2 hb; simp only [if_true]; omega
      | false => have := r3 hb; simp only [Bool.false_eq_true, if_false]; omega
end Go.Proofs.Ytlfobnpkfloolaa
