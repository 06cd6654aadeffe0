/- kept.elsewhere: may a symbol of a node begin at another place, and end where it does? -/
import Derived.Test.YtdfhhbncmdpoeaaClCls
namespace Go.Proofs.Ytdfhhbncmdpoeaa
open Go.RowKit

def ElsewP (g : Gr.Gm) (P : List St4) (i dot : Nat) (non : Int) (f0 fd fe : Nat) : Prop := ∃ m, f0 ≤ m ∧ m ≤ fe ∧ m ≠ fd ∧ (m, (⟨i, dot, f0⟩ : Ch.Im)) ∈ P ∧ (non, m, fe) ∈ Ch.endL g P
set_option maxRecDepth 100000 in
set_option maxHeartbeats 4000000 in
theorem elsewhere_any (G : Kg) (ps : List Gr.Pr) (base : Nat) (K : Kw) (V : Int × Nat → Value) (P : List St4) (B : Nat) (xs : List Int) (i dot : Nat) (non : Int) (row : List Nat) (f0 fd fe : Nat) (Ar : Option Addr) (nr cr B2 : Nat) (w : World) (h : ClE G ps base K V P B xs w)
    (hi : i < 1000) (hdo : dot < 1000) (hnon : 0 ≤ non ∧ non < 1000) (hnr : nr = row.length) (hrd : Rd w B2 Ar (ins (ns row))) (hB2 : B2 ≤ w.heap.size) (h0 : row[0]? = some f0) (hd : row[dot]? = some fd) (he : row[dot + 1]? = some fe) (hs0 : f0 ≤ 1000) (hse : fe ≤ 1000) (hnl : nr ≤ 1000) :
    Calls Try.prog 46 #[.pointer (some ⟨K.p, 0, none⟩), .agg #[.int .i64 (i : Int), .slice Ar nr cr], .int .i64 (dot : Int), .int .i64 non] w fun e w' => ∃ b : Bool, e = .returned (.bool b) ∧ (b = true ↔ ElsewP ⟨G.t, G.n, G.s, ps⟩ P i dot non f0 fd fe) ∧ Bl w w' := by
  have HB1 : Hid (Bl w (w.alloc (.cells #[.int .i64 (i : Int), .slice Ar nr cr] 60))) := (Bl.refl w).alloc _
  have HX1 := Lib.hid (Bk.new w 60 #[.int .i64 (i : Int), .slice Ar nr cr])
  have HE1 := Lib.hid (h.bl HB1.out)
  have hcell : ∀ (j x : Nat), row[j]? = some x → ∃ b off, Ar = some ⟨b, off, none⟩ ∧ b < B2 ∧ ∀ wx, Bl w wx → wx.cell? ⟨b, off + j, none⟩ = some (.int .i64 (x : Int)) := fun j x hj => by
    have hjl := Ch.lt_of_get hj
    obtain ⟨b, off, e, hb, hc⟩ := hrd.int (j := j) (by rw [ns_len]; exact hjl)
    have e2 : (ns row)[j]'(by rw [ns_len]; exact hjl) = (x : Int) := by
      unfold ns
      rw [List.getElem_map]
      rw [List.getElem?_eq_getElem hjl] at hj
      injection hj with hj
      rw [hj]
    rw [e2] at hc
    exact ⟨b, off, e, hb, fun wx hbx => (World.cell?_of_block (hbx.block b (Nat.lt_of_lt_of_le hb hB2))).trans hc⟩
  obtain ⟨br, orr, eA, hbr, c0⟩ := hcell 0 f0 h0
  obtain ⟨b2, o2, e2, _, cd⟩ := hcell dot fd hd
  obtain ⟨b3, o3, e3, _, ce⟩ := hcell (dot + 1) fe he
  rw [eA] at e2 e3
  injection e2 with e2
  injection e2 with q1 q2 _
  injection e3 with e3
  injection e3 with q3 q4 _
  subst q1 q2 q3 q4 eA
  have hn2 : dot + 1 < nr := by rw [hnr]; exact Ch.lt_of_get he
  have C0 := Lib.hid c0
  have CD := Lib.hid cd
  have CE := Lib.hid ce
  clear hrd h hcell c0 cd ce h0 hd he hnr
  go_enter Try.func46, Try.ntmps46
  go_upto_region 1 with fail
  have hz : Bl w (w.alloc (.cells #[.int .i64 (i : Int), .slice (some ⟨br, orr, none⟩) nr cr] 60)) := HB1.out
  generalize w.alloc (.cells #[.int .i64 (i : Int), .slice (some ⟨br, orr, none⟩) nr cr] 60) = w1 at *
  have x0 : w1.cell? ⟨w.heap.size, 0, none⟩ = some (.int .i64 (i : Int)) := HX1.out.cell 0
  have x1 : w1.cell? ⟨w.heap.size, 1, none⟩ = some (.slice (some ⟨br, orr, none⟩) nr cr) := HX1.out.cell 1
  have xl := HX1.out.lt
  have c0 : w1.cell? ⟨br, orr, none⟩ = some (.int .i64 (f0 : Int)) := C0.out w1 HB1.out
  have ce : w1.cell? ⟨br, orr + (dot + 1), none⟩ = some (.int .i64 (fe : Int)) := CE.out w1 HB1.out
  have hbl : br < w1.heap.size := Nat.lt_of_lt_of_le hbr (Nat.le_trans hB2 HB1.out.size)
  have i0 : (0 : Int) < (nr : Int) := by omega
  have i1 : (0 : Int) ≤ (dot : Int) + 1 := by omega
  have i2 : (dot : Int) + 1 < (nr : Int) := by omega
  have hwr : IntKind.i64.wrap ((dot : Int) + 1) = (dot : Int) + 1 := by rw [IntKind.wrap_i64]; omega
  go_region
  clear hz
  have HX1d := Lib.hid (HX1.out.drew)
  have HAh : Hid (Bk (w1.alloc (.cells #[.int .i64 (i : Int), .int .i64 (dot : Int), .int .i64 (f0 : Int)] 42)).drew w1.heap.size 42 #[.int .i64 (i : Int), .int .i64 (dot : Int), .int .i64 (f0 : Int)]) := (Bk.new w1 _ _).drew
  have HBa : Hid (Bl w (w1.alloc (.cells #[.int .i64 (i : Int), .int .i64 (dot : Int), .int .i64 (f0 : Int)] 42)).drew) := (HB1.out.alloc _).drew
  have HBx : Hid (Bl w1 (w1.alloc (.cells #[.int .i64 (i : Int), .int .i64 (dot : Int), .int .i64 (f0 : Int)] 42)).drew) := ((Bl.refl w1).alloc _).drew
  go_wp2_with fail
  generalize (w1.alloc (.cells #[.int .i64 (i : Int), .int .i64 (dot : Int), .int .i64 (f0 : Int)] 42)).drew = w2 at *
  have HX2 := Lib.hid (HX1.out.bl HBx.out)
  have HE2 := Lib.hid (HE1.out.bl HBx.out)
  clear x0 x1 xl c0 ce hbl HX1 HX1d HE1 HBx
  go_loopw [12] (fun iv wr => ∃ m : Nat, f0 ≤ m ∧ m ≤ 1001 ∧ iv = .int .i64 m ∧ Hid (Bl w2 wr) ∧ ∀ m', f0 ≤ m' → m' < m → m' ≤ fe → m' ≠ fd → (m', (⟨i, dot, f0⟩ : Ch.Im)) ∈ P → (non, m', fe) ∉ Ch.endL ⟨G.t, G.n, G.s, ps⟩ P) (fun iv _ => fe + 1 - (intOf iv).toNat)
  case atStart => exact ⟨f0, Nat.le_refl _, by omega, rfl, Bl.refl _, fun m' h1 h2 => by omega⟩
  case round =>
    obtain ⟨m, hm0, hm1, rfl, HBr, hno⟩ := hrel
    have HNo := Lib.hid hno
    clear hno
    by_cases hle : m ≤ fe
    · have hle2 : (m : Int) ≤ (fe : Int) := by omega
      have HX3 := Lib.hid (HX2.out.bl HBr.out)
      have HE3 := Lib.hid (HE2.out.bl HBr.out)
      have HA3 := Lib.hid (HAh.out.bl HBr.out)
      have HB3 : Hid (Bl w wr) := HBa.out.trans HBr.out
      have x0 : wr.cell? ⟨w.heap.size, 0, none⟩ = some (.int .i64 (i : Int)) := HX3.out.cell 0
      have x1 : wr.cell? ⟨w.heap.size, 1, none⟩ = some (.slice (some ⟨br, orr, none⟩) nr cr) := HX3.out.cell 1
      have xl := HX3.out.lt
      have cd : wr.cell? ⟨br, orr + dot, none⟩ = some (.int .i64 (fd : Int)) := CD.out wr HB3.out
      have hbl : br < wr.heap.size := Nat.lt_of_lt_of_le hbr (Nat.le_trans hB2 HB3.out.size)
      have a0 : wr.cell? ⟨w1.heap.size, 0, none⟩ = some (.int .i64 (i : Int)) := HA3.out.cell 0
      have a1 : wr.cell? ⟨w1.heap.size, 1, none⟩ = some (.int .i64 (dot : Int)) := HA3.out.cell 1
      have a2 : wr.cell? ⟨w1.heap.size, 2, none⟩ = some (.int .i64 (f0 : Int)) := HA3.out.cell 2
      have al := HA3.out.lt
      have k5 : wr.cell? ⟨K.p, 5, none⟩ = some (.map (some K.h)) := HE3.out.k.kb.cell 5
      have k7 : wr.cell? ⟨K.p, 7, none⟩ = some (.map (some K.e)) := HE3.out.k.kb.cell 7
      have kl := HE3.out.k.kb.lt
      have j0 : (0 : Int) ≤ (dot : Int) := by omega
      have j1 : (dot : Int) < (nr : Int) := by omega
      have HStk : Hid (stOk (m, (⟨i, dot, f0⟩ : Ch.Im))) := ⟨by show m < 1000000; omega, by show i < 1000000; omega, by show dot < 1000000; omega, by show f0 < 1000000; omega⟩
      have HNd : Hid (ndOk (non, m, fe)) := ⟨hnon.1, by show non < 1000000; omega, by show m < 1000000; omega, by show fe < 1000000; omega⟩
      have HGo : Hid (¬ (m ≠ fd ∧ (m, (⟨i, dot, f0⟩ : Ch.Im)) ∈ P ∧ (non, m, fe) ∈ Ch.endL ⟨G.t, G.n, G.s, ps⟩ P) → ∀ m', f0 ≤ m' → m' < m + 1 → m' ≤ fe → m' ≠ fd → (m', (⟨i, dot, f0⟩ : Ch.Im)) ∈ P → (non, m', fe) ∉ Ch.endL ⟨G.t, G.n, G.s, ps⟩ P) := fun h m' h1 h2 h3 h4 h5 h6 => by
        rcases Nat.lt_or_ge m' m with h7 | h7
        · exact HNo.out m' h1 h7 h3 h4 h5 h6
        · have e : m' = m := by omega
          subst e
          exact h ⟨h4, h5, h6⟩
      by_cases hmd : m = fd
      · have d1 : ((m : Int) == (fd : Int)) = true := by rw [hmd]; simp
        have d2 : ((m : Int) != (fd : Int)) = false := by rw [hmd]; simp
        have d4 : (m == fd) = true := by rw [hmd]; simp
        have d5 : (m != fd) = false := by rw [hmd]; simp
        have d6 : decide (m = fd) = true := decide_eq_true hmd
        go_upto_region 6 with fail
        go_quiet (fail)
        go_wp2_with fail
        go_roundw
        case rel => exact ⟨m + 1, by omega, by omega, by go_num, HBr.out.drewN _, HGo.out fun h => h.1 hmd⟩
        case measure => simp [intOf]; omega
      · have d1 : ((m : Int) == (fd : Int)) = false := by rw [beq_eq_false_iff_ne]; omega
        have d2 : ((m : Int) != (fd : Int)) = true := by rw [bne_iff_ne]; omega
        have d3 : decide ((m : Int) = (fd : Int)) = false := decide_eq_false (by omega)
        have d4 : (m == fd) = false := by rw [beq_eq_false_iff_ne]; exact hmd
        have d5 : (m != fd) = true := by rw [bne_iff_ne]; exact hmd
        have d6 : decide (m = fd) = false := decide_eq_false hmd
        by_cases hm9 : (m, (⟨i, dot, f0⟩ : Ch.Im)) ∈ P
        · have hlk : ∀ nq, (Instr.lookup 74 (.map (some K.h)) (.agg #[.int .i64 (m : Int), .int .i64 (i : Int), .int .i64 (dot : Int), .int .i64 (f0 : Int)]) false).run Try.prog (wr.drewN nq) = .ok (.bool true) (wr.drewN nq) := fun nq => (HE3.out.k.has.of_block (w' := wr.drewN nq) rfl).look_yes st_law Try.underlying74 HStk.out hm9 (key_st HStk.out)
          by_cases hme : (non, m, fe) ∈ Ch.endL ⟨G.t, G.n, G.s, ps⟩ P
          · have hle9 : ∀ nq, (Instr.lookup 76 (.map (some K.e)) (.agg #[.int .i64 non, .int .i64 (m : Int), .int .i64 (fe : Int)]) false).run Try.prog (wr.drewN nq) = .ok (.bool true) (wr.drewN nq) := fun nq => (HE3.out.k.ends.of_block (w' := wr.drewN nq) rfl).look_yes nd_law Try.underlying76 HNd.out hme (key_nd HNd.out)
            go_upto_region 6 with fail
            go_quiet (fail)
            go_wp2_with fail
            go_ret
            exact ⟨true, rfl, ⟨fun _ => ⟨m, hm0, hle, hmd, hm9, hme⟩, fun _ => rfl⟩, HB3.out.drewN _⟩
          · have hle9 : ∀ nq, (Instr.lookup 76 (.map (some K.e)) (.agg #[.int .i64 non, .int .i64 (m : Int), .int .i64 (fe : Int)]) false).run Try.prog (wr.drewN nq) = .ok (.bool false) (wr.drewN nq) := fun nq => (HE3.out.k.ends.of_block (w' := wr.drewN nq) rfl).look_no nd_law Try.underlying76 HNd.out hme (key_nd HNd.out)
            go_upto_region 6 with fail
            go_quiet (fail)
            go_wp2_with fail
            go_roundw
            case rel => exact ⟨m + 1, by omega, by omega, by go_num, HBr.out.drewN _, HGo.out fun h => hme h.2.2⟩
            case measure => simp [intOf]; omega
        · have hlk : ∀ nq, (Instr.lookup 74 (.map (some K.h)) (.agg #[.int .i64 (m : Int), .int .i64 (i : Int), .int .i64 (dot : Int), .int .i64 (f0 : Int)]) false).run Try.prog (wr.drewN nq) = .ok (.bool false) (wr.drewN nq) := fun nq => (HE3.out.k.has.of_block (w' := wr.drewN nq) rfl).look_no st_law Try.underlying74 HStk.out hm9 (key_st HStk.out)
          go_upto_region 6 with fail
          go_quiet (fail)
          go_wp2_with fail
          go_roundw
          case rel => exact ⟨m + 1, by omega, by omega, by go_num, HBr.out.drewN _, HGo.out fun h => hm9 h.2.1⟩
          case measure => simp [intOf]; omega
    · have hle2 : ¬ (m : Int) ≤ (fe : Int) := by omega
      go_wp2_with fail
      go_ret
      refine .inl ⟨rfl, ?_, HBa.out.trans HBr.out⟩
      rintro ⟨m', h1, h2, h3, h4, h5⟩
      exact HNo.out m' h1 (by omega) h2 h3 h4 h5
end Go.Proofs.Ytdfhhbncmdpoeaa
