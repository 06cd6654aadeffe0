/- word.Bytes, word.Read and the reference's: words as bytes, and back. -/
import Derived.Test.YtmegpmkjhbihaaaDRRight
import Derived.Test.YtmegpmkjhbihaaaDWord
import Derived.Test.YtmegpmkjhbihaaaWNums
import Derived.Test.YtmegpmkjhbihaaaWWtr
import Derived.Test.YtmegpmkjhbihaaaWRefN
import Derived.Test.YtmegpmkjhbihaaaWRefP
namespace Go.Proofs.Ytmegpmkjhbihaaa
open Go.RowKit

/-- The bytes of a word, and why there are none. -/
def wbOf (xs : List Int) : List Nat := if Wd.okW xs then Wr.wnums xs else []
def wbErr (xs : List Int) : Int := if Wd.okW xs then 0 else 1
theorem wbOf_ok {xs : List Int} (h : Wd.okW xs = true) : wbOf xs = Wr.wnums xs := by unfold wbOf; rw [if_pos h]
theorem wbErr_ok {xs : List Int} (h : Wd.okW xs = true) : wbErr xs = 0 := by unfold wbErr; rw [if_pos h]
theorem wbOf_no {xs : List Int} (h : Wd.okW xs = false) : wbOf xs = [] := by unfold wbOf; rw [h]; rfl
theorem wbErr_no {xs : List Int} (h : Wd.okW xs = false) : wbErr xs = 1 := by unfold wbErr; rw [h]; rfl
/-- What Bytes leaves: a row of bytes of its own, and an error. -/
def DBPost (xs : List Int) (w : World) (e : Ending) (w' : World) : Prop :=
  ∃ A n c, e = .returned (.tuple #[.slice A n c, .int .i64 (wbErr xs)]) ∧ n = (wbOf xs).length ∧ n ≤ c ∧ w'.ownsRow w.heap.size 5 1 (.slice A n c) n (bys (wbOf xs)) ∧ Bl w w'
theorem DBPost.none {xs : List Int} (h : Wd.okW xs = false) {w w' : World} (hb : Bl w w') : DBPost xs w (.returned (.tuple #[.slice none 0 0, .int .i64 1])) w' := by
  refine ⟨.none, 0, 0, by rw [wbErr_no h], by rw [wbOf_no h]; rfl, Nat.le_refl _, ?_, hb⟩
  rw [wbOf_no h]
  exact World.ownsRow_nil _ _ _ _
/-- What Read and Apply leave: a row of ints of its own, and an error. -/
def IWPost (xs : List Int) (x : Int) (w : World) (e : Ending) (w' : World) : Prop :=
  ∃ A c, e = .returned (.tuple #[.slice A xs.length c, .int .i64 x]) ∧ xs.length ≤ c ∧ w'.ownsRow w.heap.size 3 1 (.slice A xs.length c) xs.length (ins xs) ∧ Bl w w'
theorem IWPost.none {x : Int} {w w' : World} (hb : Bl w w') : IWPost [] x w (.returned (.tuple #[.slice none 0 0, .int .i64 x])) w' :=
  ⟨.none, 0, rfl, Nat.le_refl _, World.ownsRow_nil _ _ _ _, hb⟩
theorem IWPost.mk {xs : List Int} {x : Int} {w w' : World} {v : Value} {n : Nat} (hn : n = xs.length) (ho : w'.ownsRow w.heap.size 3 1 v n (ins xs)) (hb : Bl w w') : IWPost xs x w (.returned (.tuple #[v, .int .i64 x])) w' := by
  subst hn
  obtain ⟨A, c, rfl, hc⟩ := own_form ho
  exact ⟨A, c, rfl, hc, ho, hb⟩
theorem small_word {xs : List Int} (h : Wd.okW xs = true) : ∀ n ∈ xs, 0 ≤ n ∧ n < 9223372036854775808 := fun n hn => by
  have := ((Wd.okW_iff xs).1 h).2 n hn
  omega

set_option maxHeartbeats 400000 in
theorem dbytes_any (A : Option Addr) (len cap : Nat) (xs : List Int) (w : World) (B : Nat) (hlen : len = xs.length) (hmax : len ≤ 9223372036854775807) (hr : Rd w B A (ins xs)) (hB : B ≤ w.heap.size) :
    Calls Try.prog 7 #[.slice A len cap] w (DBPost xs w) := by
  have HL := Lib.hid hlen; clear hlen
  have HA := Lib.hid hr
  have HA1 := Lib.hid (hr.alloc hB (.cells #[.slice none 0 0] 46))
  have HN : Hid (∀ b off, A = some ⟨b, off, none⟩ → 0 < (ins xs).length → ¬ (fun k => k = w.heap.size) b) := hr.notin (S := fun k => k = w.heap.size) fun k hk => by omega
  clear hr
  cases ho : Wd.okW xs with
  | false =>
    have HO := Lib.hid ho; clear ho
    go_enter Try.func7, Try.ntmps7
    go_wp2_with fail
    refine (dright_any A len cap xs _ B HL.out hmax HA.out).mono ?_
    rintro e w' ⟨rfl, rfl⟩
    rw [HO.out]
    go_wp2_with fail
    go_ret2
    exact DBPost.none HO.out (Bl.refl w)
  | true =>
    have HO := Lib.hid ho
    have h24 : len ≤ 24 := by have := ((Wd.okW_iff xs).1 ho).1; have := HL.out; omega
    clear ho
    have HW0 := Lib.hid (Wtr.new w)
    go_enter Try.func7, Try.ntmps7
    go_wp2_with fail
    refine (dright_any A len cap xs _ B HL.out hmax HA.out).mono ?_
    rintro e w' ⟨rfl, rfl⟩
    rw [HO.out]
    go_wp2_with fail
    refine (wnums_any A len cap xs [] (fun k => k = w.heap.size) w.heap.size _ B HW0.out HL.out (by omega) HA1.out (by simp; omega) HN.out (small_word HO.out) (by simp)).mono ?_
    rintro e w1 ⟨rfl, S1, hw1, hf1, hs1⟩
    have HW1 := Lib.hid hw1
    have HB1 : Hid (Bl w w1) := ((Bl.refl w).alloc _).fr hf1 fun i hi e => by omega
    clear hw1 hf1 hs1
    go_wp2_with fail
    refine (wbytes_any _ S1 w.heap.size _ HW1.out (by have := wnums_len xs; have := HL.out; simp; omega)).mono ?_
    rintro e w2 ⟨A2, n2, c2, rfl, hn2, hc2, ho2, hb2⟩
    have HD : Hid (DBPost xs w (.returned (.tuple #[.slice A2 n2 c2, .int .i64 0])) w2) := by
      rw [List.nil_append, ← wbOf_ok HO.out] at hn2 ho2
      refine ⟨A2, n2, c2, by rw [wbErr_ok HO.out], hn2, hc2, own_base ho2 fun j hj => ?_, HB1.out.trans hb2⟩
      have := (ho2.lt j hj).1
      have := HB1.out.size
      omega
    clear hn2 ho2 hb2
    go_wp2_with fail
    go_ret2
    exact HD.out

set_option maxHeartbeats 400000 in
theorem rdbytes_any (A : Option Addr) (len cap : Nat) (xs : List Int) (w : World) (B : Nat) (hlen : len = xs.length) (hmax : len ≤ 9223372036854775807) (hr : Rd w B A (ins xs)) (hB : B ≤ w.heap.size) :
    Calls Try.prog 8 #[.slice A len cap] w (DBPost xs w) := by
  have HL := Lib.hid hlen; clear hlen
  have HA := Lib.hid hr; clear hr
  cases ho : Wd.okW xs with
  | false =>
    have HO := Lib.hid ho; clear ho
    go_enter Try.func8, Try.ntmps8
    go_wp2_with fail
    refine (rdright_any A len cap xs _ B HL.out hmax HA.out).mono ?_
    rintro e w' ⟨rfl, rfl⟩
    rw [HO.out]
    go_wp2_with fail
    go_ret2
    exact DBPost.none HO.out (Bl.refl w)
  | true =>
    have HO := Lib.hid ho
    have h24 : len ≤ 24 := by have := ((Wd.okW_iff xs).1 ho).1; have := HL.out; omega
    clear ho
    go_enter Try.func8, Try.ntmps8
    go_wp2_with fail
    refine (rdright_any A len cap xs _ B HL.out hmax HA.out).mono ?_
    rintro e w' ⟨rfl, rfl⟩
    rw [HO.out]
    go_wp2_with fail
    refine (refnums_any A len cap xs _ B HL.out (by omega) HA.out hB (small_word HO.out)).mono ?_
    rintro e w2 ⟨A2, n2, c2, rfl, hn2, hc2, ho2, hb2⟩
    have HD : Hid (DBPost xs w (.returned (.tuple #[.slice A2 n2 c2, .int .i64 0])) w2) := by
      rw [← wbOf_ok HO.out] at hn2 ho2
      exact ⟨A2, n2, c2, by rw [wbErr_ok HO.out], hn2, hc2, ho2, hb2⟩
    clear hn2 ho2 hb2
    go_wp2_with fail
    go_ret2
    exact HD.out

theorem readW_ok {l : List Nat} (h : Wr.fin (Wr.nums ⟨l, 0⟩ 24 15).2 = 0) : Wd.readW l = ((Wr.nums ⟨l, 0⟩ 24 15).1, 0) := by unfold Wd.readW; rw [if_pos h]
theorem readW_no {l : List Nat} (h : Wr.fin (Wr.nums ⟨l, 0⟩ 24 15).2 ≠ 0) : Wd.readW l = ([], Wr.fin (Wr.nums ⟨l, 0⟩ 24 15).2) := by unfold Wd.readW; rw [if_neg h]

set_option maxHeartbeats 400000 in
theorem dread_any (A : Option Addr) (len cap : Nat) (l : List Nat) (w : World) (B : Nat) (hl : len = l.length) (hmax : len ≤ 140737488355328) (hr : Rd w B A (bys l)) (hby : ∀ c ∈ l, c < 256) :
    Calls Try.prog 9 #[.slice A len cap] w (IWPost (ns (Wd.readW l).1) (Wd.readW l).2 w) := by
  have HL := Lib.hid hl; clear hl
  have HA := Lib.hid hr; clear hr
  have HY := Lib.hid hby; clear hby
  have HOk : Hid (Wr.fin (Wr.nums ⟨l, 0⟩ 24 15).2 = 0 → Wd.readW l = ((Wr.nums ⟨l, 0⟩ 24 15).1, 0)) := readW_ok
  have HNo : Hid (Wr.fin (Wr.nums ⟨l, 0⟩ 24 15).2 ≠ 0 → Wd.readW l = ([], Wr.fin (Wr.nums ⟨l, 0⟩ 24 15).2)) := readW_no
  generalize Wd.readW l = D at *
  go_enter Try.func9, Try.ntmps9
  go_wp2_with fail
  refine (new_any A len cap l _ B HL.out hmax HA.out HY.out).mono ?_
  rintro e w1 ⟨g, rfl, hg, hr1, hb1⟩
  have HR1 := Lib.hid hr1
  have HB1 := Lib.hid hb1
  clear hr1 hb1
  go_wp2_with fail
  refine (nums_any g g ⟨l, 0⟩ 24 15 _ HR1.out (by decide) (by decide)).mono ?_
  rintro e w2 ⟨v, rfl, ho2, hr2, hf2⟩
  have HO2 : Hid (w2.ownsRow w.heap.size 3 1 v (Wr.nums ⟨l, 0⟩ 24 15).1.length (ins (ns (Wr.nums ⟨l, 0⟩ 24 15).1))) := own_base ho2 fun j hj => Nat.le_trans HB1.out.size (ho2.lt j hj).1
  have HR2 := Lib.hid hr2
  have HB2 : Hid (Bl w w2) := HB1.out.fr hf2 fun i hi e => by omega
  clear ho2 hr2 hf2
  generalize hR1 : (Wr.nums ⟨l, 0⟩ 24 15).1 = R1 at *
  generalize hR2 : (Wr.nums ⟨l, 0⟩ 24 15).2 = R2 at *
  clear hR1 hR2
  go_wp2_with fail
  refine (end_any g g R2 _ HR2.out).mono ?_
  rintro e w' ⟨rfl, rfl⟩
  by_cases hfin : Wr.fin R2 = 0
  · rw [hfin]
    have hD := HOk.out hfin
    subst hD
    go_wp2_with fail
    go_ret2
    exact IWPost.mk (by rw [ns_len]) HO2.out HB2.out
  · have hD := HNo.out hfin
    subst hD
    have hq : (Wr.fin R2 != 0) = true := by simpa using hfin
    clear hfin
    go_wp2_with fail
    go_ret2
    exact IWPost.none HB2.out

set_option maxHeartbeats 400000 in
theorem rdread_any (A : Option Addr) (len cap : Nat) (l : List Nat) (w : World) (B : Nat) (hl : len = l.length) (hmax : len ≤ cap) (hcap : cap ≤ 9223372036854775807) (hr : Rd w B A (bys l)) (hB : B ≤ w.heap.size) (hby : ∀ c ∈ l, c < 256) :
    Calls Try.prog 10 #[.slice A len cap] w (IWPost (ns (Wd.readW l).1) (Wd.readW l).2 w) := by
  have HR0 : Hid (RRd (w.alloc (.cells #[.slice A len cap, .int .i64 0] 56)) B w.heap.size ⟨l, 0⟩) := by
    refine ⟨A, cap, l, ?_, hr.alloc hB _, by omega, hcap, hby, fun _ => rfl, ⟨hby, fun h => absurd rfl h⟩, by simp; omega⟩
    rw [← hl]
    exact Bk.new w _ _
  have HB0 : Hid (Bl w (w.alloc (.cells #[.slice A len cap, .int .i64 0] 56))) := (Bl.refl w).alloc _
  clear hr hby hl
  have HOk : Hid (Wr.fin (Wr.nums ⟨l, 0⟩ 24 15).2 = 0 → Wd.readW l = ((Wr.nums ⟨l, 0⟩ 24 15).1, 0)) := readW_ok
  have HNo : Hid (Wr.fin (Wr.nums ⟨l, 0⟩ 24 15).2 ≠ 0 → Wd.readW l = ([], Wr.fin (Wr.nums ⟨l, 0⟩ 24 15).2)) := readW_no
  generalize Wd.readW l = D at *
  go_enter Try.func10, Try.ntmps10
  go_wp2_with fail
  refine (rnums_any B w.heap.size ⟨l, 0⟩ 24 15 _ HR0.out (by decide) (by decide)).mono ?_
  rintro e w2 ⟨v, rfl, ho2, hr2, hf2⟩
  have HO2 : Hid (w2.ownsRow w.heap.size 3 1 v (Wr.nums ⟨l, 0⟩ 24 15).1.length (ins (ns (Wr.nums ⟨l, 0⟩ 24 15).1))) := own_base ho2 fun j hj => Nat.le_trans HB0.out.size (ho2.lt j hj).1
  have HR2 := Lib.hid hr2
  have HB2 : Hid (Bl w w2) := HB0.out.fr hf2 fun i hi e => by omega
  clear ho2 hr2 hf2
  generalize hR1 : (Wr.nums ⟨l, 0⟩ 24 15).1 = R1 at *
  generalize hR2 : (Wr.nums ⟨l, 0⟩ 24 15).2 = R2 at *
  clear hR1 hR2
  go_wp2_with fail
  refine (rend_any B w.heap.size R2 _ HR2.out).mono ?_
  rintro e w' ⟨rfl, rfl⟩
  by_cases hfin : Wr.fin R2 = 0
  · rw [hfin]
    have hD := HOk.out hfin
    subst hD
    go_wp2_with fail
    go_ret2
    exact IWPost.mk (by rw [ns_len]) HO2.out HB2.out
  · have hD := HNo.out hfin
    subst hD
    have hq : (Wr.fin R2 != 0) = true := by simpa using hfin
    clear hfin
    go_wp2_with fail
    refine (rend_any B w.heap.size R2 _ HR2.out).mono ?_
    rintro e w' ⟨rfl, rfl⟩
    go_wp2_with fail
    go_ret2
    exact IWPost.none HB2.out
end Go.Proofs.Ytmegpmkjhbihaaa
