/- rank.facts's closure: a round, in place. -/
import Derived.Test.YthhgjdnbeeadhaaKLeans
namespace Go.Proofs.Ythhgjdnbeeadhaa
open Go.RowKit

/-- What the closure captures: the grammar at block gg, the variable of the facts at gl, whether terminals may stand at gt; and the facts, a row of the call's own. -/
structure KRel (t n s : Int) (A : Option Addr) (len c : Nat) (terms : Bool) (nons cf gg gl gt gf : Nat) (w0 : World) (cur : Rk.Fs) (w : World) : Prop where
  bg : Bk w gg 24 #[.int .i64 t, .int .i64 n, .int .i64 s, .slice A len c]
  bl : Bk w gl 30 #[.slice (some ⟨gf, 0, none⟩) nons cf]
  bt : Bk w gt 4 #[.bool terms]
  own : w.ownsRow w0.heap.size 33 2 (.slice (some ⟨gf, 0, none⟩) nons cf) nons (fcRow (fz cur))
  len_ : cur.length = nons
  b : Bl w0 w
section
variable {t n s : Int} {A : Option Addr} {len c : Nat} {terms : Bool} {nons cf gg gl gt gf : Nat} {w0 : World} {cur cur' : Rk.Fs} {w w' : World}
theorem KRel.bl_ (h : KRel t n s A len c terms nons cf gg gl gt gf w0 cur w) (hb : Bl w w') : KRel t n s A len c terms nons cf gg gl gt gf w0 cur w' :=
  ⟨h.bg.bl hb, h.bl.bl hb, h.bt.bl hb, own_bl h.own hb, h.len_, h.b.trans hb⟩
theorem KRel.alloc (h : KRel t n s A len c terms nons cf gg gl gt gf w0 cur w) (o : Obj) : KRel t n s A len c terms nons cf gg gl gt gf w0 cur (w.alloc o) := h.bl_ ((Bl.refl w).alloc o)
theorem KRel.is (h : KRel t n s A len c terms nons cf gg gl gt gf w0 cur w) (e : cur' = cur) : KRel t n s A len c terms nons cf gg gl gt gf w0 cur' w := by subst e; exact h
theorem KRel.rd (h : KRel t n s A len c terms nons cf gg gl gt gf w0 cur w) : Rd w w.heap.size (some ⟨gf, 0, none⟩) (fcRow (fz cur)) := by
  intro _
  have hlt := (h.own.lt gf rfl).2
  refine ⟨gf, 0, rfl, hlt, fun j u hu => ?_⟩
  have := h.own.cells (g := gf) rfl j u hu
  unfold Addr.add at this
  split at this
  · rename_i hj; subst hj; simpa using this
  · simpa using this
theorem KRel.rank (h : KRel t n s A len c terms nons cf gg gl gt gf w0 cur w) {m : Nat} (hm : m < nons) : w.cell? ⟨gf, m * 2, none⟩ = some (.int .i64 (Rk.rk cur m : Int)) := by
  have hl : m < (fz cur).length := by rw [fz_len, h.len_]; exact hm
  have e := (fcRow_at (fz cur) m hl).1
  rw [fz_rank] at e
  exact (h.own.cellAt _ (by omega)).trans e
theorem KRel.free (h : KRel t n s A len c terms nons cf gg gl gt gf w0 cur w) (j : Nat) : w.frozen? ⟨gf, j, none⟩ = false := h.own.frozenAt j
theorem KRel.glt (h : KRel t n s A len c terms nons cf gg gl gt gf w0 cur w) : gf < w.heap.size := (h.own.lt gf rfl).2
theorem KRel.isSome (h : KRel t n s A len c terms nons cf gg gl gt gf w0 cur w) {j : Nat} (hj : j < nons * 2) : ∃ u, w.cell? ⟨gf, j, none⟩ = some u := by
  have hl : j < (fcRow (fz cur)).length := by rw [fcRow_len, fz_len, h.len_]; exact hj
  exact ⟨_, (h.own.cellAt j hj).trans (List.getElem?_eq_getElem hl)⟩
theorem KRel.put (h : KRel t n s A len c terms nons cf gg gl gt gf w0 cur w) {m r i : Nat} :
    KRel t n s A len c terms nons cf gg gl gt gf w0 (cur.set m (r, i)) ((w.setCell ⟨gf, m * 2, none⟩ (.int .i64 r)).setCell ⟨gf, m * 2 + 1, none⟩ (.int .i64 i)) := by
  have hfr : Fr (fun k => k = gf) w ((w.setCell ⟨gf, m * 2, none⟩ (.int .i64 r)).setCell ⟨gf, m * 2 + 1, none⟩ (.int .i64 i)) := ((Fr.refl _ w).own _ _).own _ _
  have ne : ∀ {g : Nat} {ty : TypeId} {cs : Array Value}, Bk w g ty cs → 33 ≠ ty → ¬ g = gf := fun hk hne e => hk.row h.own hne (by rw [e]; rfl)
  have h1 := (h.own.stored (m * 2) (.int .i64 r)).1
  have h2 := (h1.stored (m * 2 + 1) (.int .i64 i)).1
  have hlow := (h.own.lt gf rfl).1
  refine ⟨h.bg.fr hfr (ne h.bg (by decide)), h.bl.fr hfr (ne h.bl (by decide)), h.bt.fr hfr (ne h.bt (by decide)), ?_, by rw [List.length_set]; exact h.len_, h.b.fr hfr fun k hk e => by omega⟩
  rw [fz_set, fcRow_set]
  exact h2
end

theorem set_ne {a b : Rk.Fs} {m r i : Nat} (h0 : Rk.rk b m = 0) (hr : 0 < r) (hm : m < a.length) : a.set m (r, i) ≠ b := by
  rintro rfl
  unfold Rk.rk at h0
  rw [List.getD_eq_getElem?_getD, List.getElem?_set, if_pos rfl, if_pos hm] at h0
  have h0 : r = 0 := h0
  omega

set_option maxRecDepth 100000 in
set_option maxHeartbeats 2000000 in
theorem round_any (t n s : Int) (A : Option Addr) (len c : Nat) (ps : List Gr.Pr) (terms : Bool) (nons cf gg gl gt gf : Nat) (w0 : World) (cur : Rk.Fs) (r : Nat) (w : World) (B : Nat)
    (hlen : len = ps.length) (hok : okB ⟨t, n, s, ps⟩ = true) (hn : n = (nons : Int)) (hr : Prs w0 B A ps) (hB : B ≤ w0.heap.size)
    (hk : KRel t n s A len c terms nons cf gg gl gt gf w0 cur w) (hlt : ∀ m, Rk.rk cur m < r) (hr0 : r ≤ 1000000) :
    Calls Try.prog 34 #[.int .i64 r, .pointer (some ⟨gg, 0, none⟩), .pointer (some ⟨gl, 0, none⟩), .pointer (some ⟨gt, 0, none⟩)] w fun e w' =>
      e = .returned (.bool (decide (Rk.round (Rk.pick terms ps) cur r ≠ cur))) ∧ KRel t n s A len c terms nons cf gg gl gt gf w0 (Rk.round (Rk.pick terms ps) cur r) w' := by
  have hmax : len ≤ 60 := by have := (ok_nons hok).2.2; omega
  have hnb : nons ≤ 24 := by have := (ok_nons hok).2.1; omega
  have HL := Lib.hid hlen; clear hlen
  have HOK := Lib.hid hok; clear hok
  have HN := Lib.hid hn; clear hn
  have HA := Lib.hid hr; clear hr
  have HLT := Lib.hid hlt; clear hlt
  have HK0 := Lib.hid hk
  have k3 : w.cell? ⟨gg, 3, none⟩ = some (.slice A len c) := hk.bg.cell 3
  have klt : gg < w.heap.size := hk.bg.lt
  clear hk
  go_enter Try.func34, Try.ntmps34
  go_wp2_with fail
  clear k3 klt
  go_loopw [6, 12] (fun f i wr => ∃ k : Nat, k ≤ len ∧ i = .int .i64 k ∧ f = .bool (decide (Rk.roundTo terms ps cur r k ≠ cur)) ∧ Hid (KRel t n s A len c terms nons cf gg gl gt gf w0 (Rk.roundTo terms ps cur r k) wr)) (fun _ i _ => len - (intOf i).toNat)
  case atStart => exact ⟨0, Nat.zero_le _, rfl, by rw [Rk.roundTo_zero]; simp, HK0.out.is (Rk.roundTo_zero ..)⟩
  case round =>
    obtain ⟨k, hk, rfl, rfl, HK⟩ := hrel
    by_cases hlt : k < len
    · have hj : k < ps.length := by have := HL.out; omega
      have hb0 := HK.out.b
      have hBr : B ≤ wr.heap.size := Nat.le_trans hB hb0.size
      obtain ⟨b, off, Ax, cx, rfl, hbB, hrx, hc0, hc1⟩ := (HA.out.bl hB hb0).at_ hj
      obtain ⟨⟨o1, o2⟩, o3, o4⟩ := ok_syms HOK.out hj
      obtain ⟨m, hme, hmlt⟩ : ∃ m : Nat, ps[k].left = (m : Int) ∧ m < nons := ⟨ps[k].left.toNat, by omega, by have := HN.out; omega⟩
      have HS : Hid (∀ x ∈ ps[k].right, x.non = true → 0 ≤ x.n ∧ x.n < (nons : Int)) := fun x hx hn => by have := o4 x hx hn; have := HN.out; omega
      have HSkip := Lib.hid (fun h => Rk.roundTo_skip terms ps cur r HLT.out hj hme h)
      have HPut := Lib.hid (fun h0 hb => Rk.roundTo_put terms ps cur r HLT.out hj hme h0 hb (by have := HK0.out.len_; omega))
      have HFz := Lib.hid (leansB_fz terms (Rk.roundTo terms ps cur r k) r ps[k])
      have HNe : Hid (Rk.rk (Rk.roundTo terms ps cur r k) m = 0 → Rk.rk cur m = 0) := fun h => by
        rcases Rk.roundTo_rk terms ps cur r k m with e | ⟨e, _⟩
        · rw [← e]; exact h
        · exact e
      have HRX := Lib.hid hrx
      rw [hme] at hc0
      have hpl : ps[k].right.length ≤ 8 := o3
      have kk0 : wr.cell? ⟨gl, 0, none⟩ = some (.slice (some ⟨gf, 0, none⟩) nons cf) := HK.out.bl.cell 0
      have kk1 : wr.cell? ⟨gt, 0, none⟩ = some (.bool terms) := HK.out.bt.cell 0
      have klt1 : gl < wr.heap.size := HK.out.bl.lt
      have klt2 : gt < wr.heap.size := HK.out.bt.lt
      have klt3 : gf < wr.heap.size := HK.out.glt
      have kr := HK.out.rank hmlt
      clear hrx o1 o2 o3 o4 hb0 hme
      generalize ps[k].right = right at *
      have HR0 : Hid (0 < r) := by have := HLT.out m; show 0 < r; omega
      generalize Rk.roundTo terms ps cur r k = cu at *
      by_cases hz : Rk.rk cu m = 0
      · rw [hz] at kr
        have HZ := Lib.hid hz; clear hz
        have HAl := Lib.hid (HK.out.alloc (.cells #[.int .i64 m, .slice Ax right.length cx] 41))
        have HPb := Lib.hid (Bk.new wr 41 #[.int .i64 m, .slice Ax right.length cx])
        go_wp2_with fail
        refine (leans_any r Ax right.length cx right (some ⟨gf, 0, none⟩) nons cf (fz cu) terms _ (wr.heap.size + 1) rfl (by omega) ((HRX.out.alloc hBr _).more (by omega)) (by rw [fz_len]; exact HK.out.len_.symm) (HAl.out.rd.more (by simp)) (by simp) HS.out).mono ?_
        rintro e w1 ⟨rfl, hb1⟩
        have HK1 := Lib.hid (HAl.out.bl_ hb1)
        have HP1 := Lib.hid (HPb.out.bl hb1)
        clear hb1 kk0 kk1 klt1 klt2 klt3 kr hc0 hc1
        have hwl : wr.heap.size < w1.heap.size := HP1.out.lt
        have kk0 : w1.cell? ⟨gl, 0, none⟩ = some (.slice (some ⟨gf, 0, none⟩) nons cf) := HK1.out.bl.cell 0
        have kk2 : w1.cell? ⟨wr.heap.size, 0, none⟩ = some (.int .i64 m) := HP1.out.cell 0
        have klt1 : gl < w1.heap.size := HK1.out.bl.lt
        have klt3 : gf < w1.heap.size := HK1.out.glt
        have kf0 := HK1.out.free (m * 2)
        have kf1 := HK1.out.free (m * 2 + 1)
        obtain ⟨u0, ku0⟩ := HK1.out.isSome (j := m * 2) (by omega)
        obtain ⟨u1, ku1⟩ := HK1.out.isSome (j := m * 2 + 1) (by omega)
        cases hb : leansB terms (fz cu) r right with
        | true =>
          have e1 := HPut.out HZ.out (by rw [← HFz.out]; exact hb)
          have e2 : decide (Rk.roundTo terms ps cur r (k + 1) ≠ cur) = true := by rw [e1]; exact decide_eq_true (set_ne (HNe.out HZ.out) HR0.out (by have := HK.out.len_; omega))
          have HX := Lib.hid ((HK1.out.put (m := m) (r := r) (i := k)).is e1)
          have HE2 := Lib.hid e2
          clear hb e1 e2
          go_wp2_with fail
          go_roundw
          case rel => exact ⟨k + 1, by omega, by go_num, by rw [HE2.out], HX.out⟩
          case measure => simp [intOf]; omega
        | false =>
          have e1 := HSkip.out (.inr (by rw [← HFz.out]; exact hb))
          have HX := Lib.hid (HK1.out.is e1)
          have HE1 := Lib.hid e1
          clear hb e1
          go_wp2_with fail
          go_roundw
          case rel => exact ⟨k + 1, by omega, by go_num, by rw [HE1.out]; first | done | simp, HX.out⟩
          case measure => simp [intOf]; omega
      · have hq : (((Rk.rk cu m : Nat) : Int) == 0) = false := by simp; omega
        have e1 := HSkip.out (.inl hz)
        have HX := Lib.hid ((HK.out.alloc (.cells #[.int .i64 m, .slice Ax right.length cx] 41)).is e1)
        have HE1 := Lib.hid e1
        clear hz e1
        generalize Rk.rk cu m = x at kr hq
        go_wp2_with fail
        go_roundw
        case rel => exact ⟨k + 1, by omega, by go_num, by rw [HE1.out]; first | done | simp, HX.out⟩
        case measure => simp [intOf]; omega
    · have e := Rk.roundTo_all terms ps cur r (show ps.length ≤ k by have := HL.out; omega)
      have HE := Lib.hid e; clear e
      go_wp2_with fail
      go_ret
      exact ⟨by rw [HE.out]; rfl, HK.out.is HE.out.symm⟩
end Go.Proofs.Ythhgjdnbeeadhaa
