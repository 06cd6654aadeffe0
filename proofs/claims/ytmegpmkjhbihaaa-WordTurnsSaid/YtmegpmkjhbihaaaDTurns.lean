/- WordTurns' contract: a word of which all is dropped, and into which another one is put, is that one. -/
import Derived.Test.YtmegpmkjhbihaaaDAwake
namespace Go.Proofs.Ytmegpmkjhbihaaa
open Go.RowKit

theorem ed_info : (Try.prog.info? 43).map (fun i => (i.zero, i.size, i.bytes)) = some (some (.agg #[.int .i64 0, .bool false, .int .i64 0]), 3, 24) := by kernel_rfl
theorem three_new (w : World) (x y z : Value) (t : TypeId) : ∀ j u, [x, y, z][j]? = some u → (w.alloc (.cells #[x, y, z] t)).cell? ((⟨w.heap.size, 0, none⟩ : Addr).add j) = some u := by
  intro j u hu
  exact World.news_of_block (cs := #[x, y, z]) (t := t) (fr := (0, 0)) (heap_alloc_new w _) j u (by simpa using hu)
theorem rd_own {w : World} {base n c size : Nat} {e : TypeId} {A : Option Addr} {xs : List Value} (h : w.ownsRow base e size (.slice A n c) n xs) : Rd w w.heap.size A xs := by
  rcases h.2 with ⟨hv, rfl⟩ | ⟨g, cap, cur, hv, _, hg, _, _, _, _⟩
  · have : xs = [] := List.eq_nil_of_length_eq_zero (by simpa using h.1)
    subst this; exact Rd.nil
  · have hA : A = some ⟨g, 0, none⟩ := by injection hv
    subst hA
    intro _
    have hlt : g < w.heap.size := (h.lt g rfl).2
    refine ⟨g, 0, rfl, hlt, fun j u hu => ?_⟩
    have := h.cells (g := g) rfl j u hu
    unfold Addr.add at this
    split at this
    · rename_i hj; subst hj; simpa using this
    · simpa using this

/-- Edits that the law makes: a row of its own. -/
def EdRel (W : World) (es : List Wd.Ed) (v : Value) (wr : World) : Prop := wr.ownsRow W.heap.size 43 3 v es.length (edRow es) ∧ Bl W wr
section
variable {W wr w2 : World} {es : List Wd.Ed} {v v2 : Value} {o : Obj}
theorem EdRel.own (h : EdRel W es v wr) : wr.ownsRow W.heap.size 43 3 v es.length (edRow es) := h.1
theorem EdRel.b (h : EdRel W es v wr) : Bl W wr := h.2
theorem EdRel.nil (h : Bl W wr) : EdRel W [] (.slice none 0 0) wr := ⟨World.ownsRow_nil _ _ _ _, h⟩
theorem EdRel.more {a t : Int} {d : Bool} (h : EdRel W es v wr) (ho : w2.ownsRow W.heap.size 43 3 v2 (es.length + 1) (edRow es ++ [.int .i64 a, .bool d, .int .i64 t])) (hg : (wr.alloc o).grownBy w2 v.ownBlock) : EdRel W (es ++ [⟨a, d, t⟩]) v2 w2 := by
  refine ⟨?_, (h.b.alloc o).grown hg fun j hj => (h.1.lt j hj).1⟩
  rw [edRow_snoc, List.length_append]
  exact ho
end
theorem drops_next (k : Nat) : Wd.dropsAt 0 k ++ [⟨(k : Int), true, 0⟩] = Wd.dropsAt 0 (k + 1) := by
  rw [Wd.dropsAt_snoc, Int.zero_add]
theorem puts_more {l : List Wd.Ed} {ys : List Int} {n : Int} {k : Nat} (hk : k < ys.length) : (l ++ Wd.putsAt n (ys.take k)) ++ [⟨n, false, ys[k]⟩] = l ++ Wd.putsAt n (ys.take (k + 1)) := by
  rw [List.take_succ_eq_append_getElem hk]
  unfold Wd.putsAt
  rw [List.map_append, ← List.append_assoc]
  rfl
theorem gain_next {es : List Wd.Ed} {k : Nat} (hk : k < es.length) : Wd.gain (es.take (k + 1)) = Wd.gain (es.take k) + (if es[k].drop then -1 else 1) := by
  rw [List.take_succ_eq_append_getElem hk]
  unfold Wd.gain
  rw [List.map_append, List.sum_append]
  simp
theorem applied_none {xs : List Int} (h : Wd.okW xs = true) : applied xs [] = (xs, 0) := by
  have := applied_ok (es := []) h rfl (by rw [Wd.becomes_nil]; exact ((Wd.okW_iff xs).1 h).1)
  rw [this, Wd.becomes_nil]
theorem applied_all {xs ys : List Int} (h : Wd.okW xs = true) (h2 : Wd.okW ys = true) : applied xs (Wd.allOf xs ys) = (ys, 0) := by
  have := applied_ok (es := Wd.allOf xs ys) h (Wd.may_all xs ys ((Wd.okW_iff ys).1 h2).2) (by rw [Wd.becomes_all]; exact ((Wd.okW_iff ys).1 h2).1)
  rw [this, Wd.becomes_all]

set_option maxRecDepth 100000 in
set_option maxHeartbeats 4000000 in
theorem wordTurns_any (A : Option Addr) (len cap : Nat) (xs : List Int) (A' : Option Addr) (len' cap' : Nat) (ys : List Int) (Al : Option Addr) (ll cl : Nat) (es : List Wd.Ed) (W : World)
    (hlen : len = xs.length) (hcap : len ≤ cap) (hmax : cap ≤ 9223372036854775807) (hr : Rd W W.heap.size A (ins xs)) (hlen' : len' = ys.length) (hmax' : len' ≤ 9223372036854775807) (hr' : Rd W W.heap.size A' (ins ys))
    (hll : ll = es.length) (hml : ll ≤ 9223372036854775807) (hrl : Rd W W.heap.size Al (edRow es)) :
    Calls Try.prog 5 #[.slice A len cap, .slice A' len' cap', .slice Al ll cl] W fun e w' => e = .returned (.bool true) ∧ Bl W w' := by
  obtain ⟨i0, hi, hz0, hz1, hz2⟩ := info_parts ed_info
  have HL := Lib.hid hlen; clear hlen
  have HR := Lib.hid hr; clear hr
  have HL' := Lib.hid hlen'; clear hlen'
  have HR' := Lib.hid hr'; clear hr'
  have HLL := Lib.hid hll; clear hll
  have HRL := Lib.hid hrl; clear hrl
  go_enter Try.func5, Try.ntmps5
  go_wp2_with fail
  refine (dawake_any _).mono ?_
  rintro e w1 ⟨rfl, hb1⟩
  have HB1 := Lib.hid (Bl.own hb1); clear hb1
  go_wp2_with fail
  refine (dright_any A len cap xs _ w1.heap.size HL.out (by omega) (rd_far HR.out HB1.out)).mono ?_
  rintro e w' ⟨rfl, rfl⟩
  cases ho : Wd.okW xs with
  | false =>
    clear ho
    go_wp2_with fail
    go_ret
    exact ⟨rfl, HB1.out⟩
  | true =>
    have HO := Lib.hid ho
    have h24 : len ≤ 24 := by have := ((Wd.okW_iff xs).1 ho).1; have := HL.out; omega
    clear ho
    go_wp2_with fail
    refine (dright_any A' len' cap' ys _ w1.heap.size HL'.out hmax' (rd_far HR'.out HB1.out)).mono ?_
    rintro e w' ⟨rfl, rfl⟩
    cases ho' : Wd.okW ys with
    | false =>
      clear ho'
      go_wp2_with fail
      go_ret
      exact ⟨rfl, HB1.out⟩
    | true =>
      have HO' := Lib.hid ho'
      have h24' : len' ≤ 24 := by have := ((Wd.okW_iff ys).1 ho').1; have := HL'.out; omega
      clear ho'
      by_cases h60 : 60 < ll
      · go_wp2_with fail
        go_ret
        exact ⟨rfl, HB1.out⟩
      go_wp2_with fail
      refine (apply_any A len cap xs none 0 0 [] _ w1.heap.size HL.out hcap hmax (rd_far HR.out HB1.out) rfl (by omega) Rd.nil (Nat.le_refl _)).mono ?_
      rw [applied_none HO.out]
      intro e w3 h3
      obtain ⟨A3, c3, rfl, hc3, hr3, hb3⟩ := h3.lit (n := len) HL.out.symm
      have HS3 := Lib.hid hr3
      have HB3 := Lib.hid (HB1.out.trans hb3)
      clear h3 hr3 hb3 HB1
      have HE0 : Hid (EdRel w3 (Wd.dropsAt 0 0) (.slice none 0 0) w3) := EdRel.nil (Bl.refl w3)
      go_wp2_with fail
      go_loopw [9, 10, 42] (fun v _ i wr => ∃ k : Nat, k ≤ len ∧ i = .int .i64 k ∧ Hid (EdRel w3 (Wd.dropsAt 0 k) v wr)) (fun _ _ i _ => len - (intOf i).toNat)
      case atStart => exact ⟨0, Nat.zero_le _, rfl, HE0⟩
      case round =>
        obtain ⟨k, hk, rfl, HE⟩ := hrel
        have HOw := Lib.hid HE.out.own
        have hdl := Wd.dropsAt_len k 0
        have hwz : w3.heap.size ≤ wr.heap.size := HE.out.b.size
        by_cases hlt : k < len
        · have HMore := Lib.hid (fun (w2 : World) (v2 : Value) (o : Obj) ho hg => HE.out.more (w2 := w2) (v2 := v2) (o := o) (a := (k : Int)) (d := true) (t := 0) ho hg)
          go_wp2_with (at_builtin; refine wpList_append_own _ rfl (.tmp 45) (.tmp 48) 27 rfl w3.heap.size 43 i0 (.agg #[.int .i64 0, .bool false, .int .i64 0]) 3 24 Try.underlying27 hi hz0 hz1 hz2 rfl (by decide) _ _ _ rfl (HOw.out.alloc _) ⟨wr.heap.size, 0, none⟩ 1 1 [.int .i64 (k : Int), .bool true, .int .i64 0] rfl rfl (three_new _ _ _ _ _) (by simp [Value.oneCell']) (by simp only [maxLen]; omega) (by omega) (by simp; omega) ?_; intro v2 w2 hown2 hg2 _; have HX := HMore.out _ _ _ hown2 hg2; rw [drops_next] at HX; have HX := Lib.hid HX; clear hown2 hg2)
          go_roundw
          case rel => exact ⟨k + 1, by omega, by go_num, HX.out⟩
          case measure => simp [intOf]; omega
        · have hke : k = len := by omega
          have he1 := HE.out
          rw [hke, ← List.append_nil (Wd.dropsAt 0 len)] at he1
          have HE1 := Lib.hid he1
          clear he1
          clear hke HE HOw hdl hwz
          go_wp2_with fail
          clear hlt hk
          generalize hwr : wr = wo at *
          clear hwr
          go_loopw [9, 12, 53] (fun v _ i wr => ∃ k : Nat, k ≤ len' ∧ i = .int .i64 k ∧ Hid (EdRel w3 (Wd.dropsAt 0 len ++ Wd.putsAt (len : Int) (ys.take k)) v wr)) (fun _ _ i _ => len' - (intOf i).toNat)
          case atStart => exact ⟨0, Nat.zero_le _, rfl, HE1⟩
          case round =>
            obtain ⟨k, hk, rfl, HE⟩ := hrel
            have HOw := Lib.hid HE.out.own
            have hdl : (Wd.dropsAt 0 len ++ Wd.putsAt (len : Int) (ys.take k)).length ≤ 24 + k := by
              unfold Wd.putsAt
              rw [List.length_append, Wd.dropsAt_len, List.length_map, List.length_take]
              omega
            have hwz : w3.heap.size ≤ wr.heap.size := HE.out.b.size
            by_cases hlt : k < len'
            · have hj : k < ys.length := by have := HL'.out; omega
              have HBr := HB3.out.trans HE.out.b
              obtain ⟨b, off, rfl, hbB, hcell⟩ := (HR'.out.bl (Nat.le_refl _) HBr).int hj
              have HMore := Lib.hid (fun (w2 : World) (v2 : Value) (o : Obj) (t : Int) ho hg => HE.out.more (w2 := w2) (v2 := v2) (o := o) (a := (len : Int)) (d := false) (t := t) ho hg)
              have HNx := Lib.hid (puts_more (l := Wd.dropsAt 0 len) (n := (len : Int)) hj)
              generalize ys[k] = y at hcell HNx
              clear hj HBr
              go_wp2_with (at_builtin; refine wpList_append_own _ rfl (.tmp 57) (.tmp 62) 27 rfl w3.heap.size 43 i0 (.agg #[.int .i64 0, .bool false, .int .i64 0]) 3 24 Try.underlying27 hi hz0 hz1 hz2 rfl (by decide) _ _ _ rfl (HOw.out.alloc _) ⟨wr.heap.size, 0, none⟩ 1 1 [.int .i64 (len : Int), .bool false, .int .i64 y] rfl rfl (three_new _ _ _ _ _) (by simp [Value.oneCell']) (by simp only [maxLen]; omega) (by omega) (by simp; omega) ?_; intro v2 w2 hown2 hg2 _; have HX := HMore.out _ _ _ _ hown2 hg2; rw [HNx.out] at HX; have HX := Lib.hid HX; clear hown2 hg2)
              go_roundw
              case rel => exact ⟨k + 1, by omega, by go_num, HX.out⟩
              case measure => simp [intOf]; omega
            · have hke : k = ys.length := by have := HL'.out; omega
              have hall := HE.out
              rw [hke, List.take_length, HL.out, show Wd.dropsAt 0 xs.length ++ Wd.putsAt (xs.length : Int) ys = Wd.allOf xs ys from rfl] at hall
              have HAll := Lib.hid hall
              clear hall
              have hal : (Wd.allOf xs ys).length ≤ 48 := by
                unfold Wd.allOf Wd.putsAt
                rw [List.length_append, Wd.dropsAt_len, List.length_map]
                have := HL.out; have := HL'.out
                omega
              have HMA : Hid (Wd.may (len : Int) (Wd.allOf xs ys) = true) := by
                unfold Hid
                rw [HL.out]
                exact Wd.may_all xs ys ((Wd.okW_iff ys).1 HO'.out).2
              have HAA := Lib.hid (applied_all HO.out HO'.out)
              generalize Wd.allOf xs ys = al at *
              obtain ⟨Aa, ca, hva, hca⟩ := own_form HAll.out.own
              subst hva
              have HRa := Lib.hid (rd_own HAll.out.own)
              have HB4 := Lib.hid (HB3.out.trans HAll.out.b)
              have HS4 := Lib.hid (rd_far HS3.out HAll.out.b)
              clear hke HE HOw hdl hwz HAll HE1 HS3
              go_wp2_with fail
              clear hlt hk
              refine (apply_any A len cap xs Aa al.length ca al _ wr.heap.size HL.out hcap hmax (rd_far HR.out HB4.out) rfl (by omega) HRa.out (Nat.le_refl _)).mono ?_
              rw [HAA.out]
              intro e w5 h5
              obtain ⟨A5, c5, rfl, hc5, hr5, hb5⟩ := h5.lit (n := len') HL'.out.symm
              have HT5 := Lib.hid hr5
              have HS5 := Lib.hid (rd_far HS4.out hb5)
              have HA5 := Lib.hid (rd_far HRa.out hb5)
              have HB5 := Lib.hid (HB4.out.trans hb5)
              clear h5 hr5 hb5 HS4 HRa HB4 HAA
              go_wp2_with fail
              refine (disame_bl A3 A len len c3 cap xs xs _ w5.heap.size HL.out HL.out (by omega) HS5.out (rd_far HR.out HB5.out)).mono ?_
              rintro e w6 ⟨rfl, hb6⟩
              rw [decide_eq_true rfl]
              have HT6 := Lib.hid (rd_far HT5.out hb6)
              have HA6 := Lib.hid (rd_far HA5.out hb6)
              have HB6 := Lib.hid (HB5.out.trans hb6)
              clear hb6 HT5 HA5 HB5 HS5
              go_wp2_with fail
              refine (disame_bl A5 A' len' len' c5 cap' ys ys _ w6.heap.size HL'.out HL'.out hmax' HT6.out (rd_far HR'.out HB6.out)).mono ?_
              rintro e w7 ⟨rfl, hb7⟩
              rw [decide_eq_true rfl]
              have HA7 := Lib.hid (rd_far HA6.out hb7)
              have HB7 := Lib.hid (HB6.out.trans hb7)
              clear hb7 HT6 HA6 HB6
              go_wp2_with fail
              refine (may_any Aa al.length ca al len _ w7.heap.size rfl (by omega) (by omega) HA7.out (Nat.le_refl _)).mono ?_
              rintro e w8 ⟨rfl, hb8⟩
              rw [HMA.out]
              have HB8 := Lib.hid (HB7.out.trans hb8)
              clear hb8 HA7 HB7 HMA
              go_wp2_with fail
              go_loopw [15, 100] (fun v i wr => ∃ (k : Nat) (s : Int), k ≤ ll ∧ v = .int .i64 s ∧ i = .int .i64 k ∧ (len : Int) - k ≤ s ∧ s ≤ (len : Int) + k ∧ Hid (s = (len : Int) + Wd.gain (es.take k)) ∧ Hid (Bl W wr)) (fun _ i _ => ll - (intOf i).toNat)
              case atStart => exact ⟨0, len, Nat.zero_le _, rfl, rfl, by omega, by omega, by simp [Hid, Wd.gain], HB8⟩
              case round =>
                obtain ⟨k, s, hk, rfl, rfl, hs1, hs2, HSz, HB⟩ := hrel
                by_cases hlt : k < ll
                · have hj : k < es.length := by have := HLL.out; omega
                  obtain ⟨b, off, rfl, hbB, hc0, hc1, hc2⟩ := (HRL.out.bl (Nat.le_refl _) HB.out).edit hj
                  have HG := Lib.hid (gain_next hj)
                  generalize es[k] = x at *
                  obtain ⟨xa, xd, xt⟩ := x
                  simp only at hc0 hc1 hc2
                  clear hj
                  cases xd with
                  | true =>
                    have hwp : IntKind.i64.wrap (s - 1) = s - 1 := IntWalk.i64_in _ ⟨by omega, by omega⟩
                    have HN : Hid (s - 1 = (len : Int) + Wd.gain (es.take (k + 1))) := by
                      have h1 := HG.out; have h2 := HSz.out
                      simp only [if_true] at h1
                      unfold Hid; omega
                    go_wp2_with fail
                    go_roundw
                    case rel => exact ⟨k + 1, s - 1, by omega, by go_num, by go_num, by omega, by omega, HN.out, HB.out.alloc _⟩
                    case measure => simp [intOf]; omega
                  | false =>
                    have hwp : IntKind.i64.wrap (s + 1) = s + 1 := IntWalk.i64_in _ ⟨by omega, by omega⟩
                    have HN : Hid (s + 1 = (len : Int) + Wd.gain (es.take (k + 1))) := by
                      have h1 := HG.out; have h2 := HSz.out
                      simp only [Bool.false_eq_true, if_false] at h1
                      unfold Hid; omega
                    go_wp2_with fail
                    go_roundw
                    case rel => exact ⟨k + 1, s + 1, by omega, by go_num, by go_num, by omega, by omega, HN.out, HB.out.alloc _⟩
                    case measure => simp [intOf]; omega
                · have hke : k = es.length := by have := HLL.out; omega
                  have hsz : s = (len : Int) + Wd.gain es := by
                    have h := HSz.out
                    rw [hke, List.take_length] at h
                    exact h
                  clear hke
                  cases hm : Wd.may xs.length es with
                  | false =>
                    have HM : Hid (Wd.may (len : Int) es = false) := by unfold Hid; rw [HL.out]; exact hm
                    have HAp := Lib.hid (applied_form HO.out hm)
                    clear hm hsz
                    go_wp2_with fail
                    refine (apply_any A len cap xs Al ll cl es _ wr.heap.size HL.out hcap hmax (rd_far HR.out HB.out) HLL.out (by omega) (rd_far HRL.out HB.out) (Nat.le_refl _)).mono ?_
                    rw [HAp.out]
                    intro e w9 h9
                    obtain ⟨A9, c9, rfl, hc9, _, hb9⟩ := h9.lit (n := 0) rfl
                    have HB9 := Lib.hid (HB.out.trans hb9)
                    clear h9 hb9
                    go_wp2_with fail
                    refine (may_any Al ll cl es len _ w9.heap.size HLL.out (by omega) (by omega) (rd_far HRL.out HB9.out) (Nat.le_refl _)).mono ?_
                    rintro e w10 ⟨rfl, hb10⟩
                    rw [HM.out]
                    have HB10 := Lib.hid (HB9.out.trans hb10)
                    clear hb10
                    go_wp2_with fail
                    go_ret
                    exact ⟨rfl, HB10.out⟩
                  | true =>
                    have HM : Hid (Wd.may (len : Int) es = true) := by unfold Hid; rw [HL.out]; exact hm
                    have hbl : ((Wd.becomes xs es).length : Int) = s := by
                      have h := Wd.becomes_len hm
                      have := HL.out
                      omega
                    by_cases hbig : 24 < (Wd.becomes xs es).length
                    · have HAp := Lib.hid (applied_big HO.out hm hbig)
                      have hs24 : 24 < s := by omega
                      clear hm hbl hbig hsz
                      go_wp2_with fail
                      refine (apply_any A len cap xs Al ll cl es _ wr.heap.size HL.out hcap hmax (rd_far HR.out HB.out) HLL.out (by omega) (rd_far HRL.out HB.out) (Nat.le_refl _)).mono ?_
                      rw [HAp.out]
                      intro e w9 h9
                      obtain ⟨A9, c9, rfl, hc9, _, hb9⟩ := h9.lit (n := 0) rfl
                      have HB9 := Lib.hid (HB.out.trans hb9)
                      clear h9 hb9
                      go_wp2_with fail
                      refine (may_any Al ll cl es len _ w9.heap.size HLL.out (by omega) (by omega) (rd_far HRL.out HB9.out) (Nat.le_refl _)).mono ?_
                      rintro e w10 ⟨rfl, hb10⟩
                      rw [HM.out]
                      have HB10 := Lib.hid (HB9.out.trans hb10)
                      clear hb10
                      go_wp2_with fail
                      go_ret
                      exact ⟨rfl, HB10.out⟩
                    · have HAp := Lib.hid (applied_ok HO.out hm (by omega))
                      have hs24 : s ≤ 24 := by omega
                      have HOk : Hid (Wd.okW (Wd.becomes xs es) = true) := Wd.becomes_ok hm HO.out (by have := HL.out; omega)
                      have hq : (((Wd.becomes xs es).length : Int) == s) = true := by simpa using hbl
                      clear hm hbl hsz
                      generalize Wd.becomes xs es = u at *
                      go_wp2_with fail
                      refine (apply_any A len cap xs Al ll cl es _ wr.heap.size HL.out hcap hmax (rd_far HR.out HB.out) HLL.out (by omega) (rd_far HRL.out HB.out) (Nat.le_refl _)).mono ?_
                      rw [HAp.out]
                      intro e w9 h9
                      obtain ⟨A9, c9, rfl, hc9, hr9, hb9⟩ := h9.lit (n := u.length) rfl
                      have HB9 := Lib.hid (HB.out.trans hb9)
                      have HU9 := Lib.hid hr9
                      clear h9 hr9 hb9
                      go_wp2_with fail
                      refine (may_any Al ll cl es len _ w9.heap.size HLL.out (by omega) (by omega) (rd_far HRL.out HB9.out) (Nat.le_refl _)).mono ?_
                      rintro e w10 ⟨rfl, hb10⟩
                      rw [HM.out]
                      have HB10 := Lib.hid (HB9.out.trans hb10)
                      have HU10 := Lib.hid (rd_far HU9.out hb10)
                      clear hb10
                      go_wp2_with fail
                      refine (dright_any A9 u.length c9 u _ w10.heap.size rfl (by omega) HU10.out).mono ?_
                      rintro e w' ⟨rfl, rfl⟩
                      rw [HOk.out]
                      go_wp2_with fail
                      go_ret
                      exact ⟨rfl, HB10.out⟩
end Go.Proofs.Ytmegpmkjhbihaaa
