/- deriving.next: the leftmost nonterminal is taken, and all that stands ahead of it. -/
import Derived.Test.YtmdepbgcgkifpaaTMem
import Derived.Test.YtmdepbgcgkifpaaTPop
import Derived.Test.YtmdepbgcgkifpaaTSym
import Derived.Deep.LoopGhost
import Derived.Deep.CutRange
import Derived.Test.YtmdepbgcgkifpaaWStep
import Derived.StillTailTactics
namespace Go.Proofs.Ytmdepbgcgkifpaa
open Go.RowKit

theorem below_bl {lo : Nat} {w w1 w2 : World} (h : Below lo w w1) (hlo : lo ≤ w1.heap.size) (hb : Bl w1 w2) : Below lo w w2 := h.trans (hb.mono hlo)
theorem NdM.tyB {w : World} {n0 nb N : Nat} {f : Nat → Value} {don : List Int} (h : NdM w n0 nb N f don) {n : Nat} : Ty w (nblk n0 nb n) 53 := by
  obtain ⟨c0, cN, h0, hN, _⟩ := h
  cases n with
  | zero => exact h0.ty
  | succ n => exact hN.ty
/-- What next leaves. -/
def NextPost (lo dd n0 nb N K : Nat) (u : List Int) (S : List (Nat × List Gr.Sy)) (ats : List (List Int)) (don : List Int) (w : World) (e : Ending) (w' : World) : Prop :=
  ∃ x u' S' ats', Dv.Nx u S ats x u' S' ats' ∧ e = .returned (.tuple #[.int .i64 (x.getD 0), .bool x.isSome]) ∧ (∃ f vl cs, DRel lo dd n0 nb N u' S' ats' don f vl cs w') ∧ Dv.Bd K u' S' ats' ∧ Below lo w w'

set_option maxRecDepth 100000 in
set_option maxHeartbeats 4000000 in
theorem next_any (lo dd n0 nb N K : Nat) (u : List Int) (S : List (Nat × List Gr.Sy)) (ats : List (List Int)) (don : List Int) (w : World) (h : ∃ f vl cs, DRel lo dd n0 nb N u S ats don f vl cs w) (hB : Dv.Bd K u S ats) (hK : K ≤ 1000000) :
    Calls Try.prog 25 #[.pointer (some ⟨dd, 0, none⟩)] w (NextPost lo dd n0 nb N K u S ats don w) := by
  obtain ⟨i1, hj, hy0, hy1, hy2⟩ := info_parts tp_int
  have HR0 := Lib.hid h; clear h
  have HB0 := Lib.hid hB; clear hB
  go_enter Try.func25, Try.ntmps25
  go_wp2_with fail
  go_loopg [] (Dv.todo S + 1) (fun g wr => ∃ (u' : List Int) (S' : List (Nat × List Gr.Sy)) (ats' : List (List Int)), Dv.todo S' + 1 = g ∧ Hid (∃ f vl cs, DRel lo dd n0 nb N u' S' ats' don f vl cs wr) ∧ Hid (∀ x u2 S2 a2, Dv.Nx u' S' ats' x u2 S2 a2 → Dv.Nx u S ats x u2 S2 a2) ∧ Hid (Dv.Bd K u' S' ats') ∧ Hid (Below lo w wr))
  case atStart => exact ⟨u, S, ats, rfl, HR0.out, fun _ _ _ _ h => h, HB0.out, Below.refl _ _⟩
  case round =>
    obtain ⟨u', S', ats', hg, HR, HN, HB, HW⟩ := hrel
    obtain ⟨f, vl, cs, hd⟩ := HR.out
    clear HR
    cases S' with
    | nil =>
      obtain ⟨Al, cl, hv, _⟩ := own_form hd.st
      subst hv
      have HD := Lib.hid hd; clear hd
      have HP := Lib.hid (pop_none dd (f 0) Al cl wr HD.out.bd)
      go_wp2_with fail
      refine HP.out.mono ?_
      rintro e w2 ⟨rfl, hb2⟩
      have HB2 := Lib.hid hb2; clear hb2
      go_wp2_with fail
      go_ret2
      exact ⟨none, u', [], ats', HN.out _ _ _ _ .none, rfl, ⟨f, _, cs, HD.out.bl (HB2.out.alloc _)⟩, HB.out, below_bl HW.out HD.out.lt.2.2.2 (HB2.out.alloc _)⟩
    | cons x S' =>
      obtain ⟨n, r⟩ := x
      obtain ⟨ds, A, c, hcs, hsk, hrc, hrd⟩ := hd.sk.inv
      subst hcs
      have hn : n < N + 1 := hd.ids.head
      have hT : Dv.todo ((n, r) :: S') = r.length + 1 + Dv.todo S' := rfl
      have hSl : S'.length ≤ 1000000 := by have h1 := Dv.todo_len S'; have h2 := HB.out.1; omega
      have HP := Lib.hid (pop_some dd lo S'.length (f 0) vl (some ⟨nblk n0 nb n, noff n, none⟩) A r.length c ds wr hd.bd hd.st hsk.len hSl)
      have HD := Lib.hid hd; clear hd
      go_wp2_with fail
      refine HP.out.mono ?_
      rintro e w2 ⟨rfl, vl2, hb2, ho2, hv2, hf2⟩
      have HD2 := Lib.hid (HD.out.cut hb2 ho2 hsk hf2)
      have HR2 := Lib.hid (hrd.keep (below_fr hf2 (fun k hk => hk ▸ HD.out.los.1) HD.out.lt.2.2.2) (.of_fr hf2 fun k hk hT => by subst hk; exact hT.ne HD.out.bd.ty (by decide)))
      have HW2 := Lib.hid (HW.out.trans (below_fr hf2 (fun k hk => hk ▸ HD.out.los.1) HD.out.lt.2.2.2))
      have HVB : Hid (∀ k, vl2.ownBlock = some k → k < w2.heap.size) := fun k hk => (ho2.lt k hk).2
      clear hb2 ho2 hv2 hf2 hsk hrd HP HW HD
      have HX3 : Hid (Bk (w2.alloc (.cells #[.pointer (some ⟨nblk n0 nb n, noff n, none⟩), .slice A r.length c] 67)) w2.heap.size 67 #[.pointer (some ⟨nblk n0 nb n, noff n, none⟩), .slice A r.length c]) := Bk.new w2 _ _
      have hb3 : Bl w2 (w2.alloc (.cells #[.pointer (some ⟨nblk n0 nb n, noff n, none⟩), .slice A r.length c] 67)) := (Bl.refl w2).alloc _
      have HD3 := Lib.hid (HD2.out.bl hb3)
      have HR3 := Lib.hid (HR2.out.bl HD2.out.lt.2.2.2 hb3)
      have HW3 := Lib.hid (below_bl HW2.out HD2.out.lt.2.2.2 hb3)
      clear hb3 HD2 HR2 HW2
      go_wp2_with fail
      generalize w2.alloc (.cells #[.pointer (some ⟨nblk n0 nb n, noff n, none⟩), .slice A r.length c] 67) = w3 at *
      generalize w2.heap.size = rb at *
      go_cut [] from 7 to 64 (fun wx => ∃ v, Hid (DRel lo dd n0 nb N u' S' (Dv.addAll ats' n [(u'.length : Int)]) don (setF f (n + 1) v) vl2 ds wx) ∧ Hid (Bk wx rb 67 #[.pointer (some ⟨nblk n0 nb n, noff n, none⟩), .slice A r.length c]) ∧ Hid (RdS wx lo A (syRow r)) ∧ Hid (Below lo w wx))
      case first =>
        obtain ⟨q1, q2, q3⟩ := HD3.out.nd.cell hn
        generalize hra : ats'.getD n [] = ra at *
        obtain ⟨Aa, ca, ha0, ha1⟩ : ∃ A c, f (n + 1) = .slice A ra.length c ∧ ra.length ≤ c := by
          have h := own_form (HD3.out.fam.own (n + 1) (by rw [List.length_cons, HD3.out.len]; omega))
          rw [List.getD_cons_succ, hra] at h
          exact h
        obtain ⟨Aw, cw, hw0, hw1⟩ : ∃ A c, f 0 = .slice A u'.length c ∧ u'.length ≤ c := own_form (HD3.out.fam.own 0 (by rw [List.length_cons]; omega))
        have q4 : w3.cell? ⟨dd, 0, none⟩ = some (.slice Aw u'.length cw) := (HD3.out.bd.cell 0).trans (by rw [hw0]; rfl)
        have q7 := HD3.out.lt.1
        rw [ha0] at q1
        have q5 : w3.cell? ⟨rb, 0, none⟩ = some (.pointer (some ⟨nblk n0 nb n, noff n, none⟩)) := HX3.out.cell 0
        have q8 : rb < w3.heap.size := HX3.out.lt
        have hla : ra.length ≤ 1000000 := by have := HB.out.2 n; rw [hra] at this; omega
        have hlu : u'.length ≤ 1000000 := by have := HB.out.1; omega
        have HB4 : Hid (Bl w3 (w3.alloc (.cells #[.int .i64 (u'.length : Int)] 3)).drew) := ((Bl.refl w3).alloc _).drew
        have HO4 : Hid ((w3.alloc (.cells #[.int .i64 (u'.length : Int)] 3)).drew.ownsRow lo 3 1 (.slice Aa ra.length ca) ra.length (ins ra)) := by
          have h := HD3.out.fam.own (n + 1) (by rw [List.length_cons, HD3.out.len]; omega)
          rw [ha0, List.getD_cons_succ, hra] at h
          exact own_bl h HB4.out
        have HN4 : Hid (Rd (w3.alloc (.cells #[.int .i64 (u'.length : Int)] 3)).drew (w3.heap.size + 1) (some ⟨w3.heap.size, 0, none⟩) [.int .i64 (u'.length : Int)]) := rd_newB w3 3 #[.int .i64 (u'.length : Int)]
        have hlo4 : lo ≤ (w3.alloc (.cells #[.int .i64 (u'.length : Int)] 3)).drew.heap.size := Nat.le_trans HD3.out.lt.2.2.2 HB4.out.size
        have HF4 : Hid (∀ (w5 : World) (A5 : Option Addr) (c5 : Nat), w5.ownsRow lo 3 1 (.slice A5 (ra.length + 1) c5) (ra.length + 1) (ins ra ++ [.int .i64 (u'.length : Int)]) → (w3.alloc (.cells #[.int .i64 (u'.length : Int)] 3)).drew.grownBy w5 (Value.slice Aa ra.length ca).ownBlock → ((Value.slice A5 (ra.length + 1) c5).ownBlock = (Value.slice Aa ra.length ca).ownBlock ∨ (Value.slice A5 (ra.length + 1) c5).ownBlock = some (w3.alloc (.cells #[.int .i64 (u'.length : Int)] 3)).drew.heap.size) →
            (w5.cell? ⟨nblk n0 nb n, noff n + 1, none⟩ = some (.slice Aa ra.length ca) ∧ w5.frozen? ⟨nblk n0 nb n, noff n + 1, none⟩ = false ∧ nblk n0 nb n < w5.heap.size ∧ w5.cell? ⟨rb, 0, none⟩ = some (.pointer (some ⟨nblk n0 nb n, noff n, none⟩))) ∧ DRel lo dd n0 nb N u' S' (Dv.addAll ats' n [(u'.length : Int)]) don (setF f (n + 1) (.slice A5 (ra.length + 1) c5)) vl2 ds (w5.setCell ⟨nblk n0 nb n, noff n + 1, none⟩ (.slice A5 (ra.length + 1) c5)) ∧
            Bk (w5.setCell ⟨nblk n0 nb n, noff n + 1, none⟩ (.slice A5 (ra.length + 1) c5)) rb 67 #[.pointer (some ⟨nblk n0 nb n, noff n, none⟩), .slice A r.length c] ∧ RdS (w5.setCell ⟨nblk n0 nb n, noff n + 1, none⟩ (.slice A5 (ra.length + 1) c5)) lo A (syRow r) ∧ Below lo w (w5.setCell ⟨nblk n0 nb n, noff n + 1, none⟩ (.slice A5 (ra.length + 1) c5))) := by
          intro w5 A5 c5 hown hg5 hl5
          rw [← ha0] at hg5 hl5
          have hX := HD3.out.place (x := (u'.length : Int)) hn HB4.out (by rw [hra, ins_append]; exact hown) hg5 hl5
          have hr5 := HD3.out.rows (i := n + 1) (by omega) HB4.out hg5
          have hko := HD3.out.fam.own (n + 1) (by rw [List.length_cons, HD3.out.len]; omega)
          have hk := hr5.2.2.2.1.cell hn
          rw [ha0] at hk
          have hT5 := hr5.2.2.2.1.tyB (n := n)
          have hnlo : lo ≤ nblk n0 nb n := by
            cases n with
            | zero => exact HD3.out.los.2.1
            | succ n => exact HD3.out.los.2.2
          have hX5 := HX3.out.fr hr5.2.2.2.2 (fun hs => (own_ty hko hs).ne HX3.out.ty (by decide))
          have hR5 := HR3.out.keep (below_fr hr5.2.2.2.2 (fun k hk => (hko.lt k hk).1) HD3.out.lt.2.2.2) (.of_fr hr5.2.2.2.2 (fun k hs hT => (own_ty hko hs).ne hT (by decide)))
          exact ⟨⟨hk.1, hk.2.1, hk.2.2, hX5.cell 0⟩, hX.1, hX5.far (p := ⟨nblk n0 nb n, noff n + 1, none⟩) (fun e => by have e : rb = nblk n0 nb n := e; rw [← e] at hT5; exact hX5.ty.ne hT5 (by decide)) _,
            hR5.keep (below_fr ((Fr.refl (fun k => k = nblk n0 nb n) w5).own (noff n + 1) _) (fun k hk => hk ▸ hnlo) (Nat.le_trans HD3.out.lt.2.2.2 hr5.2.2.2.2.size)) (KeepT.of_fr (S := fun k => k = nblk n0 nb n) ((Fr.refl _ w5).own (noff n + 1) _) (fun k hk hT => by subst hk; exact hT.ne hT5 (by decide))), HW3.out.trans hX.2⟩
        clear HD3 HX3 HR3 HW3 HB4 HN HB hg HVB hT
        go_region_law (first
          | (refine step_append_rd rfl (.tmp 22) (.tmp 28) 25 rfl lo 3 i1 (.int .i64 0) 8 Try.underlying25 hj hy0 hy1 hy2 rfl (.slice Aa ra.length ca) ra.length (ins ra) rfl HO4.out (w3.heap.size + 1) (some ⟨w3.heap.size, 0, none⟩) 1 1 [.int .i64 (u'.length : Int)] rfl HN4.out rfl (fun u hu => by simp at hu; subst hu; rfl) (by simp only [maxLen]; omega) (by omega) hlo4 ?_; intro v2 w5 hown hg5 hl5; obtain ⟨A5, c5, hv5, hc5⟩ := own_form hown; subst hv5; have HX := Lib.hid (HF4.out _ _ _ hown hg5 hl5); obtain ⟨k1, k2, k3, k4⟩ := HX.out.1; clear hown hg5 hl5 hc5)
          | fail)
        all_goals
          go_wp2_with fail
          go_meet
          exact ⟨_, HX.out.2.1, HX.out.2.2.1, HX.out.2.2.2.1, HX.out.2.2.2.2⟩
      case rest =>
      obtain ⟨v6, HD6, HX6, HR6, HW6⟩ := hcut
      clear HD3 HX3 HR3 HW3
      obtain ⟨w6, hw6⟩ : ∃ x, x = wc := ⟨_, rfl⟩
      subst hw6
      have x0 : w6.cell? ⟨rb, 0, none⟩ = some (.pointer (some ⟨nblk n0 nb n, noff n, none⟩)) := HX6.out.cell 0
      have x1 : w6.cell? ⟨rb, 1, none⟩ = some (.slice A r.length c) := HX6.out.cell 1
      cases r with
      | nil =>
        go_wp2_with fail
        go_roundg (Dv.todo S' + 1)
        case rel => exact ⟨u', S', _, rfl, ⟨_, _, _, HD6.out⟩, fun _ _ _ _ h => HN.out _ _ _ _ (.pop h), HB.out.go (by simp only [List.length_nil] at hT; omega) (by omega), HW6.out⟩
        case measure => simp only [List.length_nil] at hT; omega
      | cons s r' =>
        obtain ⟨sn, sv⟩ := s
        simp only [List.length_cons] at *
        obtain ⟨bs, os, hA, hcell⟩ := HR6.out.at_ (by rw [syRow_len]; simp)
        subst hA
        have hcut := HR6.out.sy_cut (k := 1) (cap := c) (by rw [List.length_cons]; exact hrc)
        have hsl := fun (wx : World) => run_slice_tail (P := Try.prog) (t := 44) (e := 43) (size := 2) Try.underlying44 tp_size (some ⟨bs, os, none⟩) (r'.length + 1) c 1 1 rfl (by omega) wx
        rw [Nat.add_sub_cancel] at hsl
        generalize (if c = 1 then (some ⟨bs, os, none⟩ : Option Addr) else (some (⟨bs, os, none⟩ : Addr)).map (·.add (1 * 2))) = Ay at hcut hsl
        have HC7 : Hid (RdS w6.drew lo Ay (syRow r')) := hcut
        have HR7 : Hid (RdS w6.drew lo (some ⟨bs, os, none⟩) (syRow (⟨sn, sv⟩ :: r'))) := HR6.out
        have HX7 : Hid (Bk w6.drew rb 67 #[.pointer (some ⟨nblk n0 nb n, noff n, none⟩), .slice (some ⟨bs, os, none⟩) (r'.length + 1) c]) := HX6.out
        have HD7 := Lib.hid (HD6.out.bl (Bl.refl _).drew)
        have HW7 := Lib.hid (below_bl HW6.out HD6.out.lt.2.2.2 (Bl.refl _).drew)
        clear hcut hcell
        have i0 : (0 : Int) < ((r'.length + 1 : Nat) : Int) := by omega
        go_wp2_with fail
        go_still_tail 9, (by kernel_rfl)
        change wpList _ _ _ _ _ w6.drew
        clear x0 x1 HD6 HW6 HX6 HR6
        generalize w6.drew = w7 at *
        go_wp2_with fail
        refine (push_any dd lo S'.length (setF f (n + 1) v6 0) vl2 (some ⟨nblk n0 nb n, noff n, none⟩) Ay r'.length (c - 1) ds w7 HD7.out.bd HD7.out.st hSl HD7.out.lt.2.2.2).mono ?_
        rintro e w8 ⟨rfl, vl8, hb8, ho8, hf8⟩
        have HD8 := Lib.hid (HD7.out.more hn (by omega) HC7.out hb8 ho8 hf8)
        have HX8 := Lib.hid (HX7.out.fr hf8 (fun hs => by
          rcases hs with hs | hs
          · exact HX7.out.ty.ne (hs ▸ HD7.out.bd.ty) (by decide)
          · exact absurd (HVB.out _ hs) (by omega)))
        have hbw8 := below_fr hf8 (fun k hk => by
          rcases hk with hk | hk
          · exact hk ▸ HD7.out.los.1
          · exact (HD7.out.st.lt k hk).1) HD7.out.lt.2.2.2
        have HR8 := Lib.hid (HR7.out.keep hbw8 (.of_fr hf8 (fun k hs hT => by
          rcases hs with hs | hs
          · subst hs; exact hT.ne HD7.out.bd.ty (by decide)
          · exact hT.ne (own_ty HD7.out.st hs) (by decide))))
        have HW8 := Lib.hid (HW7.out.trans hbw8)
        clear hb8 ho8 hf8 hbw8 HC7 HR7 HX7 HW7 HD7
        have x1 : w8.cell? ⟨rb, 1, none⟩ = some (.slice (some ⟨bs, os, none⟩) (r'.length + 1) c) := HX8.out.cell 1
        obtain ⟨b2, o2, hA, hcell⟩ := HR8.out.at_ (by rw [syRow_len]; simp)
        cases hA
        have y0 : w8.cell? ⟨bs, os, none⟩ = some (.bool sn) := hcell 0 _ rfl
        have y1 : w8.cell? ⟨bs, os + 1, none⟩ = some (.int .i64 sv) := hcell 1 _ rfl
        clear hcell
        have hb9 : Bl w8 (w8.alloc (.cells #[.bool sn, .int .i64 sv] 43)) := (Bl.refl w8).alloc _
        have HD9 := Lib.hid (HD8.out.bl hb9)
        have HW9 := Lib.hid (below_bl HW8.out HD8.out.lt.2.2.2 hb9)
        have HS9 : Hid (Bk (w8.alloc (.cells #[.bool sn, .int .i64 sv] 43)) w8.heap.size 43 #[.bool sn, .int .i64 sv]) := Bk.new w8 _ _
        clear hb9
        have hT2 : Dv.todo ((n, r') :: S') = r'.length + 1 + Dv.todo S' := rfl
        cases sn with
        | true =>
          go_wp2_with fail
          go_ret2
          exact ⟨some sv, u', (n, r') :: S', _, HN.out _ _ _ _ (.non rfl), rfl, ⟨_, _, _, HD9.out⟩, HB.out.go (by omega) (by omega), HW9.out⟩
        | false =>
          go_wp2_with fail
          generalize w8.alloc (.cells #[.bool false, .int .i64 sv] 43) = w9 at *
          have z0 : w9.cell? ⟨w8.heap.size, 1, none⟩ = some (.int .i64 sv) := HS9.out.cell 1
          obtain ⟨Aw, cw, hw0, hw1⟩ : ∃ A c, setF f (n + 1) v6 0 = .slice A u'.length c ∧ u'.length ≤ c := own_form (HD9.out.fam.own 0 (by rw [List.length_cons]; omega))
          have z1 : w9.cell? ⟨dd, 0, none⟩ = some (.slice Aw u'.length cw) := (HD9.out.bd.cell 0).trans (by rw [hw0]; rfl)
          have z2 : dd < w9.heap.size := HD9.out.lt.1
          have hlu : u'.length ≤ 1000000 := by have := HB.out.1; omega
          have HBA : Hid (Bl w9 (w9.alloc (.cells #[.int .i64 sv] 3)).drew) := ((Bl.refl w9).alloc _).drew
          have HOA : Hid ((w9.alloc (.cells #[.int .i64 sv] 3)).drew.ownsRow lo 3 1 (.slice Aw u'.length cw) u'.length (ins u')) := by
            have h := HD9.out.fam.own 0 (by rw [List.length_cons]; omega)
            rw [hw0] at h
            exact own_bl h HBA.out
          have HNA : Hid (Rd (w9.alloc (.cells #[.int .i64 sv] 3)).drew (w9.heap.size + 1) (some ⟨w9.heap.size, 0, none⟩) [.int .i64 sv]) := rd_newB w9 3 #[.int .i64 sv]
          have hloA : lo ≤ (w9.alloc (.cells #[.int .i64 sv] 3)).drew.heap.size := Nat.le_trans HD9.out.lt.2.2.2 HBA.out.size
          clear HD8 HX8 HR8 HW8 x1 y0 y1
          go_region_law (first
            | (refine step_append_rd rfl (.tmp 58) (.tmp 61) 25 rfl lo 3 i1 (.int .i64 0) 8 Try.underlying25 hj hy0 hy1 hy2 rfl (.slice Aw u'.length cw) u'.length (ins u') rfl HOA.out (w9.heap.size + 1) (some ⟨w9.heap.size, 0, none⟩) 1 1 [.int .i64 sv] rfl HNA.out rfl (fun u hu => by simp at hu; subst hu; rfl) (by simp only [maxLen]; omega) (by omega) hloA ?_; intro v2 wB hown hgB hlB; obtain ⟨AB, cB, hvB, hcB⟩ := own_form hown; subst hvB; rw [← hw0] at hgB hlB; have HX := Lib.hid (HD9.out.word (x := sv) HBA.out (by rw [ins_append]; exact hown) hgB hlB); have hrB := HD9.out.rows (i := 0) (by omega) HBA.out hgB; have k1 := hrB.1.cell 0; have k2 := hrB.1.free 0; have k3 := hrB.1.lt; clear hrB hown hgB hlB hcB)
            | fail)
          all_goals
            go_wp2_with fail
            go_roundg (Dv.todo ((n, r') :: S') + 1)
            case rel => exact ⟨u' ++ [sv], (n, r') :: S', _, rfl, ⟨_, _, _, HX.out.1⟩, fun _ _ _ _ h => HN.out _ _ _ _ (.tok rfl h), HB.out.go (by omega) (by rw [List.length_append]; exact Nat.le_refl _), HW9.out.trans HX.out.2⟩
            case measure => omega
end Go.Proofs.Ytmdepbgcgkifpaa
