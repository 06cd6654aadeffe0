/- wire.Writer: what it holds, and the calls Num, Bool, Nums, Bytes. -/
import Derived.Test.YtmegpmkjhbihaaaWStep
import Derived.Test.YtmegpmkjhbihaaaWNew
import Derived.Deep.RegionLaw
namespace Go.Proofs.Ytmegpmkjhbihaaa
open Go.RowKit

/-- A writer at block g: all that was written; S are the blocks that are its own. -/
def Wtr (w : World) (S : Nat → Prop) (g : Nat) (l : List Nat) : Prop :=
  ∃ v, Bk w g 46 #[v] ∧ w.ownsRow 0 5 1 v l.length (bys l) ∧ ∀ k, S k ↔ k = g ∨ v.ownBlock = some k
/-- What a writer's call leaves: more is written, and nothing but what is the writer's own has turned. -/
def WPost (l : List Nat) (S : Nat → Prop) (g : Nat) (w : World) (e : Ending) (w' : World) : Prop :=
  e = .returned (.tuple #[]) ∧ ∃ S', Wtr w' S' g l ∧ Fr S w w' ∧ ∀ k, S' k → S k ∨ w.heap.size ≤ k

section
variable {w w' : World} {S : Nat → Prop} {g : Nat} {l : List Nat}
theorem Wtr.lt (h : Wtr w S g l) : ∀ k, S k → k < w.heap.size := by
  obtain ⟨v, hk, ho, hS⟩ := h
  intro k hs
  rcases (hS k).1 hs with rfl | hv
  · exact hk.lt
  · exact (ho.lt k hv).2
theorem Wtr.fr {T : Nat → Prop} (h : Wtr w S g l) (hf : Fr T w w') (hd : ∀ k, S k → ¬ T k) : Wtr w' S g l := by
  obtain ⟨v, hk, ho, hS⟩ := h
  exact ⟨v, hk.fr hf (hd g ((hS g).2 (.inl rfl))), own_fr ho hf fun k hv => hd k ((hS k).2 (.inr hv)), hS⟩
theorem Wtr.bl (h : Wtr w S g l) (hb : Bl w w') : Wtr w' S g l := h.fr (Fr.of_bl (S := fun _ => False) hb) fun _ _ h => h
theorem Wtr.drewN (h : Wtr w S g l) (n : Nat) : Wtr (w.drewN n) S g l := h
theorem Wtr.alloc (h : Wtr w S g l) (o : Obj) : Wtr (w.alloc o) S g l := h.bl ((Bl.refl w).alloc o)
theorem Wtr.new (w : World) : Wtr (w.alloc (.cells #[.slice none 0 0] 46)) (fun k => k = w.heap.size) w.heap.size [] :=
  ⟨.slice none 0 0, Bk.new w _ _, World.ownsRow_nil _ _ _ _, fun k => by simp [Value.ownBlock]⟩
/-- One call behind the other. -/
theorem WPost.trans {l1 l2 : List Nat} {S1 : Nat → Prop} {w1 w2 : World} {e : Ending} (hf : Fr S w w1) (hS : ∀ k, S1 k → S k ∨ w.heap.size ≤ k) (h : WPost l2 S1 g w1 e w2) (_ : l1 = l) : WPost l2 S g w e w2 := by
  obtain ⟨he, S2, h1, h2, h3⟩ := h
  refine ⟨he, S2, h1, hf.trans h2 fun k hk hs => ?_, fun k hk => ?_⟩
  · rcases hS k hs with h | h
    · exact h
    · omega
  · rcases h3 k hk with h | h
    · exact hS k h
    · exact .inr (Nat.le_trans hf.size h)
end

theorem wtr_more {w w1 w2 : World} {S : Nat → Prop} {g : Nat} {l r : List Nat} {v v2 : Value} (hS : ∀ k, S k ↔ k = g ∨ v.ownBlock = some k) (hb : Bl w w1) (hk : Bk w2 g 46 #[v]) (ho : w2.ownsRow 0 5 1 v2 (l ++ r).length (bys (l ++ r)))
    (hg : w1.grownBy w2 v.ownBlock) (hn : v2.ownBlock = v.ownBlock ∨ v2.ownBlock = some w1.heap.size) : WPost (l ++ r) S g w (.returned (.tuple #[])) (w2.setCell ⟨g, 0, none⟩ v2) := by
  have hf : Fr (fun k => k = g) w2 (w2.setCell ⟨g, 0, none⟩ v2) := (Fr.refl _ w2).own 0 _
  refine ⟨rfl, fun k => k = g ∨ v2.ownBlock = some k, ⟨v2, hk.put 0 v2, own_fr ho hf fun k hv e => hk.row ho (by decide) (by rw [hv, e]), fun _ => Iff.rfl⟩, ?_, ?_⟩
  · exact (((Fr.of_bl hb).grown hg fun k h _ => (hS k).2 (.inr h))).setCell (p := ⟨g, 0, none⟩) (.inl ((hS g).2 (.inl rfl))) _
  · rintro k (h | h)
    · exact .inl ((hS k).2 (.inl h))
    · rcases hn with e | e
      · rw [e] at h; exact .inl ((hS k).2 (.inr h))
      · rw [e] at h; injection h with h; rw [← h]; exact .inr hb.size

set_option maxRecDepth 100000 in
set_option maxHeartbeats 1000000 in
theorem wnum_any (n : Nat) (l : List Nat) (S : Nat → Prop) (g : Nat) (w : World) (h : Wtr w S g l) (hn : n < 9223372036854775808) (hl : l.length ≤ 1000000000000) :
    Calls Try.prog 32 #[.pointer (some ⟨g, 0, none⟩), .int .i64 n] w (WPost (l ++ Vy.enc n) S g w) := by
  obtain ⟨i0, hi, hz0, hz1, hz2⟩ := info_parts byte_info
  obtain ⟨v, hk, ho, hS⟩ := h
  obtain ⟨Av, cv, hv, hvc⟩ := own_slice ho
  subst hv
  have hc0 : w.cell? ⟨g, 0, none⟩ = some (.slice Av l.length cv) := hk.cell 0
  have hf0 := hk.free 0
  have hel := (Vy.enc_len n).2
  have HK := Lib.hid hk
  have HO := Lib.hid ho
  have HS := Lib.hid hS
  clear hk ho hS
  have hwr : IntKind.u64.wrap (n : Int) = (n : Int) := IntWalk.u64_in _ ⟨by omega, by omega⟩
  go_enter Try.func32, Try.ntmps32
  go_wp2_with fail
  go_region_law (first
    | (go_simp; go_at_call 41; ((with_reducible refine (put_any n _ (by omega)).mono ?_); rintro e w1 ⟨A1, n1, c1, rfl, hn1, hcap1, hown1, hb1⟩; have HN1 := Lib.hid hn1; have HO1 := Lib.hid hown1; have HB1 := Lib.hid (Bl.undrew hb1); have HKB := Lib.hid (HK.out.bl HB1.out); have hc1 : w1.cell? ⟨g, 0, none⟩ = some (.slice Av l.length cv) := HKB.out.cell 0; have hf1 : w1.frozen? ⟨g, 0, none⟩ = false := HKB.out.free 0; have HOW := Lib.hid (own_bl HO.out HB1.out); have hnn : n1 ≤ 10 := Nat.le_trans (Nat.le_of_eq hn1) hel; clear hn1 hown1 hb1))
    | (refine step_append_rd rfl (.tmp 8) (.tmp 11) 26 rfl 0 5 i0 (.int .u8 0) 1 Try.underlying26 hi hz0 hz1 hz2 rfl (.slice Av l.length cv) l.length (bys l) rfl HOW.out w1.heap.size A1 n1 c1 (bys (Vy.enc n)) rfl (Rd.own HO1.out) ((bys_len _).trans HN1.out.symm) (bys_one _) (by simp only [maxLen]; omega) (by omega) (Nat.zero_le _) ?_; intro v2 w2 hown2 hg2 hb2; have HO2 := Lib.hid hown2; have HG2 := Lib.hid hg2; have HB2 := Lib.hid hb2; have HK2 := Lib.hid (HKB.out.grown hg2 (fun e => HKB.out.row HOW.out (by decide) e.symm)); have hc2 : w2.cell? ⟨g, 0, none⟩ = some (.slice Av l.length cv) := HK2.out.cell 0; have hf2 : w2.frozen? ⟨g, 0, none⟩ = false := HK2.out.free 0; obtain ⟨A2, cc2, hv2, _⟩ := own_slice hown2; subst hv2; clear hown2 hg2 hb2))
  all_goals
    go_end0
    refine wtr_more HS.out HB1.out HK2.out ?_ HG2.out HB2.out
    rw [bys_append, List.length_append, ← HN1.out]
    exact HO2.out

set_option maxHeartbeats 400000 in
theorem wbytes_any (l : List Nat) (S : Nat → Prop) (g : Nat) (w : World) (h : Wtr w S g l) (hl : l.length ≤ 1000000000000) :
    Calls Try.prog 22 #[.pointer (some ⟨g, 0, none⟩)] w (Makes l w) := by
  obtain ⟨v, hk, ho, hS⟩ := h
  obtain ⟨Av, cv, hv, hvc⟩ := own_slice ho
  subst hv
  have hc0 : w.cell? ⟨g, 0, none⟩ = some (.slice Av l.length cv) := hk.cell 0
  have HO := Lib.hid (Rd.own ho)
  clear hk ho hS
  go_enter Try.func22, Try.ntmps22
  go_wp2_with fail
  refine (clone_any Av l.length cv l _ w.heap.size rfl (by omega) HO.out).mono ?_
  rintro e w1 ⟨A1, n1, c1, rfl, hn1, hc1, hown1, hb1⟩
  have HN := Lib.hid hn1; clear hn1
  have HO1 := Lib.hid hown1; clear hown1
  have HB := Lib.hid hb1; clear hb1
  go_wp2_with fail
  go_ret
  exact ⟨A1, n1, c1, rfl, HN.out, hc1, HO1.out, HB.out⟩

/-- The bytes of the first k of a list. -/
def wsome (l : List Int) (k : Nat) : List Nat := Vy.enc l.length ++ (l.take k).flatMap fun n => Vy.enc n.toNat
theorem wsome_all (l : List Int) : wsome l l.length = Wr.wnums l := by unfold wsome Wr.wnums; rw [List.take_length]
theorem wsome_next {l : List Int} {k : Nat} (h : k < l.length) : wsome l (k + 1) = wsome l k ++ Vy.enc l[k].toNat := by
  unfold wsome
  rw [List.take_succ_eq_append_getElem h, List.flatMap_append, ← List.append_assoc]
  simp
theorem wsome_len (l : List Int) : ∀ k, (wsome l k).length ≤ 10 + 10 * k := by
  intro k
  unfold wsome
  have h1 := (Vy.enc_len l.length).2
  have h2 : ∀ r : List Int, (r.flatMap fun n => Vy.enc n.toNat).length ≤ 10 * r.length := by
    intro r
    induction r with
    | nil => simp
    | cons n r ih =>
      have := (Vy.enc_len n.toNat).2
      rw [List.flatMap_cons, List.length_append, List.length_cons]
      omega
  have h3 := h2 (l.take k)
  have h4 : (l.take k).length ≤ k := List.length_take_le _ _
  rw [List.length_append]
  omega
theorem wnums_len (l : List Int) : (Wr.wnums l).length ≤ 10 + 10 * l.length := by rw [← wsome_all]; exact wsome_len l _

set_option maxRecDepth 100000 in
set_option maxHeartbeats 400000 in
theorem wnums_any (A : Option Addr) (len cap : Nat) (xs : List Int) (l : List Nat) (S : Nat → Prop) (g : Nat) (w : World) (B : Nat) (h : Wtr w S g l) (hlen : len = xs.length) (hmax : len ≤ 1000000000) (hr : Rd w B A (ins xs)) (hB : B ≤ w.heap.size)
    (hS : ∀ b off, A = some ⟨b, off, none⟩ → 0 < (ins xs).length → ¬ S b) (hx : ∀ n ∈ xs, 0 ≤ n ∧ n < 9223372036854775808) (hl : l.length ≤ 100000000000) :
    Calls Try.prog 21 #[.pointer (some ⟨g, 0, none⟩), .slice A len cap] w (WPost (l ++ Wr.wnums xs) S g w) := by
  have HW := Lib.hid h; clear h
  have HL := Lib.hid hlen; clear hlen
  have HA := Lib.hid hr; clear hr
  have HS := Lib.hid hS; clear hS
  have HX := Lib.hid hx; clear hx
  have HY := Lib.hid (wsome_len xs)
  go_enter Try.func21, Try.ntmps21
  go_wp2_with fail
  refine (wnum_any len l S g _ HW.out (by omega) (by omega)).mono ?_
  rintro e w0 ⟨rfl, S0, hw0, hf0, hs0⟩
  have HW0 := Lib.hid hw0; clear hw0
  have HF0 := Lib.hid hf0; clear hf0
  have HS0 := Lib.hid hs0; clear hs0
  go_wp2_with fail
  go_loopw [5, 12] (fun _ i wr => ∃ (k : Nat) (T : Nat → Prop), k ≤ len ∧ i = .int .i64 k ∧ Hid (Wtr wr T g (l ++ wsome xs k)) ∧ Hid (Fr S w wr) ∧ Hid (∀ j, T j → S j ∨ w.heap.size ≤ j)) (fun _ i _ => len - (intOf i).toNat)
  case atStart => exact ⟨0, S0, Nat.zero_le _, rfl, by unfold wsome Hid; rw [← HL.out]; simpa using HW0.out, HF0.out, HS0.out⟩
  case round =>
    obtain ⟨k, T, hk, rfl, HWk, HFk, HTk⟩ := hrel
    by_cases hlt : k < len
    · have hj : k < xs.length := by have := HL.out; omega
      have hr' : Rd wr B A (ins xs) := HA.out.fr hB HFk.out HS.out
      obtain ⟨b, off, rfl, _, hcell⟩ := hr'.int hj
      clear hr'
      have hxk := HX.out _ (List.getElem_mem hj)
      have HN := Lib.hid (wsome_next hj)
      have hyk := HY.out k
      have hll : (l ++ wsome xs k).length ≤ 1000000000000 := by rw [List.length_append]; omega
      generalize hn0 : xs[k] = n at hcell hxk HN
      obtain ⟨n0, rfl⟩ : ∃ n0 : Nat, n = (n0 : Int) := ⟨n.toNat, by omega⟩
      clear hn0 hj
      go_wp2_with fail
      refine (wnum_any n0 (l ++ wsome xs k) T g _ HWk.out (by omega) hll).mono ?_
      rintro e w1 ⟨rfl, S1, hw1, hf1, hs1⟩
      have HW1 : Hid (Wtr w1 S1 g (l ++ wsome xs (k + 1))) := by
        unfold Hid
        rw [HN.out, ← List.append_assoc]
        exact hw1
      have HF1 : Hid (Fr S w w1) := HFk.out.trans hf1 fun j hj hT => by
        rcases HTk.out j hT with h | h
        · exact h
        · omega
      have HS1 : Hid (∀ j, S1 j → S j ∨ w.heap.size ≤ j) := fun j hj => by
        rcases hs1 j hj with h | h
        · exact HTk.out j h
        · exact .inr (Nat.le_trans HFk.out.size h)
      clear hw1 hf1 hs1 hyk hll
      go_wp2_with fail
      go_roundw
      case rel => exact ⟨k + 1, S1, by omega, by go_num, HW1, HF1, HS1⟩
      case measure => simp [intOf]; omega
    · go_wp2_with fail
      go_end0
      have e : k = xs.length := by have := HL.out; omega
      subst e
      have h := HWk.out
      rw [wsome_all] at h
      exact ⟨rfl, T, h, HFk.out, HTk.out⟩
end Go.Proofs.Ytmegpmkjhbihaaa
