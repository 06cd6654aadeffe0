/- ChartMeans: block 4, the loop over an item's symbols: at which places they may end (made by tools/genmeansblk.py). -/
import Derived.Test.YtckckejgocbkkaaChMeansM
import Derived.Deep.LoopGhost
import Derived.Deep.RegionHeld3
import Derived.Deep.CutRange
import Derived.Deep.CutBlock
import Derived.BigQuiet
namespace Go.Proofs.Ytckckejgocbkkaa
open Go.RowKit

/-- A block of the program's own text. -/
def cblk (k : Nat) : Code → Option Code
  | .block n c => if n = k then some (.block n c) else cblk k c
  | .loop c => cblk k c
  | .scope c => cblk k c
  | .seq a b => match cblk k a with
    | some c => some c
    | none => cblk k b
  | .cond _ a b => match cblk k a with
    | some c => some c
    | none => cblk k b
  | _ => none
noncomputable def means4 : Code := ((Try.f5.body.bind (cblk 4)).getD .skip)

set_option maxRecDepth 1000000 in
set_option maxHeartbeats 16000000 in
theorem means4_any (bo N co B4 : Nat) (rows : List RowD) (T : Cf.Tb) (Al : Option Addr) (ll cl : Nat) (xs : List Int) (Ax : Option Addr) (xd cx xf g0 cg0 : Nat) (right : List Gr.Sy) (wc : World)
    (hT : ∀ wx, Bl wc wx → Tab B4 (ll + 1) (.slice (some ⟨bo, 0, none⟩) N co) rows T wx) (hrows : rows.length = N) (hX : ∀ wx, Bl wc wx → Rd wx wx.heap.size Al (ins xs)) (hll : ll = xs.length) (hl8 : ll ≤ 8)
    (hRx : ∀ wx, Bl wc wx → Rd wx wc.heap.size Ax (syRow right)) (hxd : xd ≤ right.length) (hr8 : right.length ≤ 8) (hSs : ∀ y ∈ right, y.non = true → 0 ≤ y.n ∧ y.n < (N : Int))
    (hA0 : RdP wc (fun b => b < wc.heap.size) (some ⟨g0, 0, none⟩) (bls (ll + 1) (atC T xs xf (right.take 0))))
    (x0 x2 x3 x4 x6 x7 x8 x9 x10 x12 x13 x14 x15 x16 x17 x18 x19 x20 x21 x22 x23 x24 x25 x26 x27 x28 x29 x30 x31 x32 x33 x34 x35 x36 x37 x38 x39 x40 x41 x42 x43 x44 x45 x46 x47 x48 x49 x50 x51 x52 x53 x54 x55 x56 x57 x58 x59 x60 x61 x62 x63 x64 x65 x66 x67 x68 x69 x70 x71 x72 x73 x74 x75 x76 x77 x78 x79 x80 x81 x82 x83 x84 x85 x86 x87 x88 x89 x90 x91 x92 x93 x94 x95 x96 x97 x98 x99 x100 x101 x102 x103 x104 x105 x106 x107 x108 x109 x110 x111 x112 x113 x114 x115 x116 x117 x118 x119 x120 x121 x122 x123 x127 x128 x129 x130 x131 x132 x133 x134 x135 x136 x137 x138 x139 x140 x141 x142 x143 x144 x145 x146 x147 x148 x149 x150 x151 x152 x153 x154 x155 x156 x157 x158 x159 x160 x161 x162 x163 x164 x165 x166 x167 x168 x169 x170 x171 x172 x173 x174 x175 x176 x177 x178 x179 x180 x181 x182 x183 x184 x185 x186 x187 x188 x189 x190 x191 x192 x193 x194 x195 x196 x197 x198 x199 : Value) (KK : Act → World → Prop) (QQ : Exit → Act → World → Prop)
    (hKK : ∀ (y13 y14 y15 y16 y127 y128 y129 y130 y131 y132 y133 y134 y135 y136 y137 y138 y139 y140 y141 y142 y143 y144 y145 y146 y147 y148 y149 y150 y151 y152 y153 y154 y155 y156 y157 y158 y159 y160 y161 y162 y163 y164 y165 y166 y167 y168 y169 y170 y171 y172 y173 y174 y175 y176 y177 y178 y179 y180 y181 y182 y183 y184 y185 y186 y187 y188 y189 y190 y191 y192 : Value) (g cg : Nat) (w' : World), RdP w' (fun b => b < w'.heap.size) (some ⟨g, 0, none⟩) (bls (ll + 1) (atC T xs xf (right.take xd))) → Bl wc w' → KK { tmps := List.toArray (x0 :: .slice Al ll cl :: x2 :: x3 :: x4 :: .slice (some ⟨bo, 0, none⟩) N co :: x6 :: x7 :: x8 :: x9 :: x10 :: .slice (some ⟨g, 0, none⟩) (ll + 1) cg :: x12 :: y13 :: y14 :: y15 :: y16 :: x17 :: x18 :: x19 :: x20 :: x21 :: x22 :: x23 :: x24 :: x25 :: x26 :: x27 :: x28 :: x29 :: x30 :: x31 :: x32 :: x33 :: x34 :: x35 :: x36 :: x37 :: x38 :: x39 :: x40 :: x41 :: x42 :: x43 :: x44 :: x45 :: x46 :: x47 :: x48 :: x49 :: x50 :: x51 :: x52 :: x53 :: x54 :: x55 :: x56 :: x57 :: x58 :: x59 :: x60 :: x61 :: x62 :: x63 :: x64 :: x65 :: x66 :: x67 :: x68 :: x69 :: x70 :: x71 :: x72 :: x73 :: x74 :: x75 :: x76 :: x77 :: x78 :: x79 :: x80 :: x81 :: x82 :: x83 :: x84 :: x85 :: x86 :: x87 :: x88 :: x89 :: x90 :: x91 :: x92 :: x93 :: x94 :: x95 :: x96 :: x97 :: x98 :: x99 :: x100 :: x101 :: x102 :: x103 :: x104 :: x105 :: x106 :: x107 :: x108 :: x109 :: x110 :: x111 :: x112 :: x113 :: x114 :: x115 :: x116 :: x117 :: x118 :: x119 :: x120 :: x121 :: x122 :: x123 :: .slice Ax xd cx :: .int .i64 (xd : Int) :: .int .i64 (xd : Int) :: y127 :: y128 :: y129 :: y130 :: y131 :: y132 :: y133 :: y134 :: y135 :: y136 :: y137 :: y138 :: y139 :: y140 :: y141 :: y142 :: y143 :: y144 :: y145 :: y146 :: y147 :: y148 :: y149 :: y150 :: y151 :: y152 :: y153 :: y154 :: y155 :: y156 :: y157 :: y158 :: y159 :: y160 :: y161 :: y162 :: y163 :: y164 :: y165 :: y166 :: y167 :: y168 :: y169 :: y170 :: y171 :: y172 :: y173 :: y174 :: y175 :: y176 :: y177 :: y178 :: y179 :: y180 :: y181 :: y182 :: y183 :: y184 :: y185 :: y186 :: y187 :: y188 :: y189 :: y190 :: y191 :: y192 :: x193 :: x194 :: x195 :: x196 :: x197 :: x198 :: x199 :: []), defers := [] } w') :
    Code.wp Try.prog means4 (Exit.then KK QQ) { tmps := List.toArray (x0 :: .slice Al ll cl :: x2 :: x3 :: x4 :: .slice (some ⟨bo, 0, none⟩) N co :: x6 :: x7 :: x8 :: x9 :: x10 :: .slice (some ⟨g0, 0, none⟩) (ll + 1) cg0 :: x12 :: x13 :: x14 :: x15 :: x16 :: x17 :: x18 :: x19 :: x20 :: x21 :: x22 :: x23 :: x24 :: x25 :: x26 :: x27 :: x28 :: x29 :: x30 :: x31 :: x32 :: x33 :: x34 :: x35 :: x36 :: x37 :: x38 :: x39 :: x40 :: x41 :: x42 :: x43 :: x44 :: x45 :: x46 :: x47 :: x48 :: x49 :: x50 :: x51 :: x52 :: x53 :: x54 :: x55 :: x56 :: x57 :: x58 :: x59 :: x60 :: x61 :: x62 :: x63 :: x64 :: x65 :: x66 :: x67 :: x68 :: x69 :: x70 :: x71 :: x72 :: x73 :: x74 :: x75 :: x76 :: x77 :: x78 :: x79 :: x80 :: x81 :: x82 :: x83 :: x84 :: x85 :: x86 :: x87 :: x88 :: x89 :: x90 :: x91 :: x92 :: x93 :: x94 :: x95 :: x96 :: x97 :: x98 :: x99 :: x100 :: x101 :: x102 :: x103 :: x104 :: x105 :: x106 :: x107 :: x108 :: x109 :: x110 :: x111 :: x112 :: x113 :: x114 :: x115 :: x116 :: x117 :: x118 :: x119 :: x120 :: x121 :: x122 :: x123 :: .slice Ax xd cx :: .int .i64 (xd : Int) :: .int .i64 0 :: x127 :: x128 :: x129 :: x130 :: x131 :: x132 :: x133 :: x134 :: x135 :: x136 :: x137 :: x138 :: x139 :: x140 :: x141 :: x142 :: x143 :: x144 :: x145 :: x146 :: x147 :: x148 :: x149 :: x150 :: x151 :: x152 :: x153 :: x154 :: x155 :: x156 :: x157 :: x158 :: x159 :: x160 :: x161 :: x162 :: x163 :: x164 :: x165 :: x166 :: x167 :: x168 :: x169 :: x170 :: x171 :: x172 :: x173 :: x174 :: x175 :: x176 :: x177 :: x178 :: x179 :: x180 :: x181 :: x182 :: x183 :: x184 :: x185 :: x186 :: x187 :: x188 :: x189 :: x190 :: x191 :: x192 :: x193 :: x194 :: x195 :: x196 :: x197 :: x198 :: x199 :: []), defers := [] } wc := by
  conv => arg 2; whnf
  obtain ⟨i0, hi, hz0, hz1, hz2⟩ := info_parts cm_bool_info
  have HKK := Lib.hid hKK
  have HT5 := Lib.hid hT
  have HRl := Lib.hid hrows
  have HXc := Lib.hid hX
  have HLL := Lib.hid hll
  have HRx := Lib.hid hRx
  have HRl8 := Lib.hid hr8
  have HSs := Lib.hid hSs
  have HA0 := Lib.hid hA0
  generalize hrn : right.length = rn at *
  have HRn := Lib.hid hrn
  clear hKK hT hrows hX hll hRx hr8 hSs hA0 hrn
  go_wp2_with fail
  go_loopw [11, 126] (fun v i wr => ∃ (d g cg : Nat), d ≤ xd ∧ v = .slice (some ⟨g, 0, none⟩) (ll + 1) cg ∧ i = .int .i64 (d : Int) ∧ Hid (RdP wr (fun b => b < wr.heap.size) (some ⟨g, 0, none⟩) (bls (ll + 1) (atC T xs xf (right.take d)))) ∧ Hid (Bl wc wr)) (fun _ i _ => xd - (intOf i).toNat)
  case atStart => exact ⟨0, _, _, Nat.zero_le _, rfl, rfl, HA0.out, Bl.refl _⟩
  case round =>
    obtain ⟨d, g, cg, hd, rfl, rfl, HAk, HBd⟩ := hrel
    have hrn8 := HRl8.out
    by_cases hdl : d < xd
    · have hdr : d < right.length := by have := HRn.out; omega
      have hdi : (d : Int) < (xd : Int) := by omega
      have hd0 : (0 : Int) ≤ (d : Int) := by omega
      have HNext := Lib.hid (atC_succ T xs xf right hdr)
      have HSk := Lib.hid (HSs.out _ (List.getElem_mem hdr))
      obtain ⟨bs, os, rfl, hbs, s0, s1⟩ := (HRx.out wr HBd.out).sym hdr
      have hbsw : bs < wr.heap.size := by have h2 := HBd.out.size; omega
      generalize atC T xs xf (right.take d) = atk at *
      generalize right[d] = sy at *
      obtain ⟨wo, hwo⟩ : ∃ wo : World, wo = wr := ⟨_, rfl⟩
      subst hwo
      obtain ⟨sb, sv⟩ := sy
      simp only at s0 s1 HSk
      have HQs := Lib.hid (Bk.new wo 48 #[.bool sb, .int .i64 sv])
      have HBs : Hid (Bl wo (wo.alloc (.cells #[.bool sb, .int .i64 sv] 48))) := (Bl.refl wo).alloc _
      clear hdr
      go_upto_region 22 with fail
      generalize wo.alloc (.cells #[.bool sb, .int .i64 sv] 48) = ws at *
      clear s0 s1 hbsw
      have HAs := Lib.hid (HAk.out.keep (fun b hb => bl_block HBs.out hb))
      have HBcs := Lib.hid (HBd.out.trans HBs.out)
      have hqs : wo.heap.size < ws.heap.size := HQs.out.lt
      generalize wo.heap.size = qs at *
      obtain ⟨sy, hsy⟩ : ∃ sy : Gr.Sy, sy = ⟨sb, sv⟩ := ⟨_, rfl⟩
      rw [← hsy] at HNext
      have HSyE := Lib.hid hsy
      clear hsy
      go_wp2_with (refine wpList_make_full _ rfl (.tmp 132) (.tmp 132) 46 rfl ws.heap.size 4 i0 (.bool false) 1 Try.underlying46 hi hz0 hz1 .i64 .i64 ((ll : Int) + 1) ((ll : Int) + 1) (ll + 1) rfl rfl (by omega) (by omega) (by rw [hz2]; omega) (by simp only [maxLen]; omega) (Nat.le_refl _) ?_; intro w3 hown1 hg1; rw [← bls_false] at hown1; have HO3 : Hid (w3.ownsRow ws.heap.size 4 1 (.slice (some ⟨ws.heap.size, 0, none⟩) (ll + 1) (ll + 1)) (ll + 1) (bls (ll + 1) (stepTo (Cf.sym T xs sy) atk 0))) := hown1; have HB3 : Hid (Bl ws w3) := (Bl.refl ws).grown hg1 (by simp); clear hown1 hg1)
      go_wp2_with fail
      go_loopw [136] (fun i wr => ∃ a : Nat, a ≤ ll + 1 ∧ i = .int .i64 (a : Int) ∧ Hid (wr.ownsRow ws.heap.size 4 1 (.slice (some ⟨ws.heap.size, 0, none⟩) (ll + 1) (ll + 1)) (ll + 1) (bls (ll + 1) (stepTo (Cf.sym T xs sy) atk a))) ∧ Hid (Bl ws wr)) (fun i _ => ll + 1 - (intOf i).toNat)
      case atStart => exact ⟨0, Nat.zero_le _, rfl, HO3.out, HB3.out⟩
      case round =>
        obtain ⟨a, ha, rfl, HOw, HBa⟩ := hrel
        by_cases hal : a < ll + 1
        · have hai : (a : Int) < (ll : Int) + 1 := by omega
          have ha0 : (0 : Int) ≤ (a : Int) := by omega
          go_wp2_with fail
          go_loopw [16] (fun i wy => ∃ b : Nat, a ≤ b ∧ b ≤ ll + 1 ∧ i = .int .i64 (b : Int) ∧ Hid (atk a = false → b = a) ∧ Hid (wy.ownsRow ws.heap.size 4 1 (.slice (some ⟨ws.heap.size, 0, none⟩) (ll + 1) (ll + 1)) (ll + 1) (bls (ll + 1) (inTo (Cf.sym T xs sy) atk a b))) ∧ Hid (Bl ws wy)) (fun i _ => ll + 1 - (intOf i).toNat)
          case atStart => exact ⟨a, Nat.le_refl _, by omega, rfl, fun _ => rfl, by rw [inTo_start]; exact HOw.out, HBa.out⟩
          case round =>
            obtain ⟨b, hab, hb, rfl, HZ, HOb, HBb⟩ := hrel
            obtain ⟨ka, kg⟩ := (HAs.out.keep (fun b hb => bl_block HBb.out (Nat.lt_trans hb hqs))).bls0 hal
            obtain ⟨wy, hwy⟩ : ∃ wy : World, wy = wr := ⟨_, rfl⟩
            subst hwy
            have kgl : g < wy.heap.size := by have h1 : g < qs := kg; have h2 := HBb.out.size; omega
            have HZ' := Lib.hid HZ.out
            by_cases hbl : b < ll + 1
            · have hbi9 : (b : Int) ≤ (ll : Int) := by omega
              have hb0 : (0 : Int) ≤ (b : Int) := by omega
              have hbl2 : (b : Int) < (ll : Int) + 1 := by omega
              cases hak : atk a with
              | false =>
                rw [hak] at ka
                have hba : b = a := HZ.out hak
                have HE : Hid (wy.ownsRow ws.heap.size 4 1 (.slice (some ⟨ws.heap.size, 0, none⟩) (ll + 1) (ll + 1)) (ll + 1) (bls (ll + 1) (stepTo (Cf.sym T xs sy) atk (a + 1)))) := by
                  have h := HOb.out
                  rw [hba, inTo_start] at h
                  rw [stepTo_skip _ atk hak]
                  exact h
                clear hak HZ HZ' HOb hba
                go_wp2_with fail
                go_roundw
                case rel => exact ⟨a + 1, by omega, by go_num, HE.out, HBb.out⟩
                case measure => simp [intOf]; omega
              | true =>
                rw [hak] at ka
                have HAt9 := Lib.hid hak
                clear hak HZ HZ'
                have HQy := Lib.hid (HQs.out.bl HBb.out)
                have q0 : wy.cell? ⟨qs, 0, none⟩ = some (.bool sb) := HQy.out.cell 0
                have q1 : wy.cell? ⟨qs, 1, none⟩ = some (.int .i64 sv) := HQy.out.cell 1
                have ql := HQy.out.lt
                have HByw := Lib.hid (HBcs.out.trans HBb.out)
                cases sb with
                | true =>
                  obtain ⟨hs0, hsN⟩ := HSk.out rfl
                  obtain ⟨v, rfl⟩ : ∃ v : Nat, sv = (v : Int) := ⟨sv.toNat, by omega⟩
                  have hvN : v < N := by omega
                  have hv0 : (0 : Int) ≤ (v : Int) := by omega
                  have hvi : (v : Int) < (N : Int) := by omega
                  obtain ⟨y1, z1, y2, y3, y4, y5, y6, y7, y8⟩ := (HT5.out wy HByw.out).peek HRl.out (n := v) (a := a) (b := b) hvN hal hbl
                  have HSf0 : Hid (Cf.sym T xs sy a b = T v a b) := by rw [HSyE.out]; rfl
                  cases htv : T v a b with
                  | true =>
                    rw [htv] at y8 HSf0
                    have HSf := HSf0
                    clear htv
                    have kf := HOb.out.frozenAt b
                    have kc := (HOb.out.cellAt b (by omega)).trans (bls_at _ hbl)
                    have klt := (HOb.out.lt _ rfl).2
                    have HX : Hid (∀ wx, Bl wy wx → (wx.setCell ⟨ws.heap.size, b, none⟩ (.bool true)).ownsRow ws.heap.size 4 1 (.slice (some ⟨ws.heap.size, 0, none⟩) (ll + 1) (ll + 1)) (ll + 1) (bls (ll + 1) (inTo (Cf.sym T xs sy) atk a (b + 1)))) := fun wx hbx => by
                      rw [inTo_put _ _ hab HSf.out, ← bls_set]
                      exact ((own_bl HOb.out hbx).stored b (.bool true)).1
                    have HY : Hid (∀ wx, Bl wy wx → Bl ws (wx.setCell ⟨ws.heap.size, b, none⟩ (.bool true))) := fun wx hbx => Bl.fr (HBb.out.trans hbx) ((Fr.refl (fun k => k = ws.heap.size) wx).own _ _) (fun i hi e => by omega)
                    go_wp2_with fail
                    go_quiet (fail)
                    go_wp2_with fail
                    go_roundw
                    case rel => exact ⟨b + 1, by omega, by omega, by go_num, (fun e => by cases e), HX.out _ ((Bl.refl _).drewN _), HY.out _ ((Bl.refl _).drewN _)⟩
                    case measure => simp [intOf]; omega
                  | false =>
                    rw [htv] at y8 HSf0
                    have HSf := HSf0
                    clear htv
                    go_wp2_with fail
                    go_quiet (fail)
                    go_wp2_with fail
                    go_roundw
                    case rel => exact ⟨b + 1, by omega, by omega, by go_num, (fun e => by cases e), (by rw [inTo_skip _ _ HSf.out]; exact own_bl HOb.out ((Bl.refl _).drewN _)), HBb.out.drewN _⟩
                    case measure => simp [intOf]; omega
                | false =>
                  have HSf0 : Hid (Cf.sym T xs sy a b = (decide (xs[a]? = some sv) && decide (b = a + 1))) := by rw [HSyE.out]; exact csym_tok T xs sv a b
                  have hwa : IntKind.i64.wrap ((a : Int) + 1) = (a : Int) + 1 := by simp [IntKind.wrap, IntKind.bits, IntKind.signed]; omega
                  by_cases hba : b = a + 1
                  · have hq : ((b : Int) == (a : Int) + 1) = true := by rw [beq_iff_eq]; omega
                    have hau : a < xs.length := by have := HLL.out; omega
                    obtain ⟨b6, o6, rfl, hb6, hc6⟩ := (HXc.out wy HByw.out).int hau
                    have hai2 : (a : Int) < (ll : Int) := by omega
                    by_cases hx : xs[a] = sv
                    · have hxq : (xs[a] == sv) = true := by rw [beq_iff_eq]; exact hx
                      have HSf : Hid (Cf.sym T xs sy a b = true) := by
                        rw [HSf0.out, List.getElem?_eq_getElem hau, decide_eq_true (by rw [hx]), decide_eq_true hba]; rfl
                      generalize xs[a] = x at *
                      clear hx hau HSf0 hba
                      have kf := HOb.out.frozenAt b
                      have kc := (HOb.out.cellAt b (by omega)).trans (bls_at _ hbl)
                      have klt := (HOb.out.lt _ rfl).2
                      have HX : Hid (∀ wx, Bl wy wx → (wx.setCell ⟨ws.heap.size, b, none⟩ (.bool true)).ownsRow ws.heap.size 4 1 (.slice (some ⟨ws.heap.size, 0, none⟩) (ll + 1) (ll + 1)) (ll + 1) (bls (ll + 1) (inTo (Cf.sym T xs sy) atk a (b + 1)))) := fun wx hbx => by
                        rw [inTo_put _ _ hab HSf.out, ← bls_set]
                        exact ((own_bl HOb.out hbx).stored b (.bool true)).1
                      have HY : Hid (∀ wx, Bl wy wx → Bl ws (wx.setCell ⟨ws.heap.size, b, none⟩ (.bool true))) := fun wx hbx => Bl.fr (HBb.out.trans hbx) ((Fr.refl (fun k => k = ws.heap.size) wx).own _ _) (fun i hi e => by omega)
                      go_wp2_with fail
                      go_quiet (fail)
                      go_wp2_with fail
                      go_roundw
                      case rel => exact ⟨b + 1, by omega, by omega, by go_num, (fun e => by cases e), HX.out _ ((Bl.refl _).drewN _), HY.out _ ((Bl.refl _).drewN _)⟩
                      case measure => simp [intOf]; omega
                    · have hxq : (xs[a] == sv) = false := by rw [beq_eq_false_iff_ne]; exact hx
                      have HSf : Hid (Cf.sym T xs sy a b = false) := by
                        rw [HSf0.out, List.getElem?_eq_getElem hau, decide_eq_false (fun e => hx (by injection e))]; rfl
                      generalize xs[a] = x at *
                      clear hx hau HSf0 hba
                      go_wp2_with fail
                      go_quiet (fail)
                      go_wp2_with fail
                      go_roundw
                      case rel => exact ⟨b + 1, by omega, by omega, by go_num, (fun e => by cases e), (by rw [inTo_skip _ _ HSf.out]; exact own_bl HOb.out ((Bl.refl _).drewN _)), HBb.out.drewN _⟩
                      case measure => simp [intOf]; omega
                  · have hq : ((b : Int) == (a : Int) + 1) = false := by rw [beq_eq_false_iff_ne]; omega
                    have HSf : Hid (Cf.sym T xs sy a b = false) := by show _ = _; rw [HSf0.out, decide_eq_false hba, Bool.and_false]
                    clear HSf0 hba
                    go_wp2_with fail
                    go_quiet (fail)
                    go_wp2_with fail
                    go_roundw
                    case rel => exact ⟨b + 1, by omega, by omega, by go_num, (fun e => by cases e), (by rw [inTo_skip _ _ HSf.out]; exact own_bl HOb.out ((Bl.refl _).drewN _)), HBb.out.drewN _⟩
                    case measure => simp [intOf]; omega
            · have hbe : b = ll + 1 := by omega
              have hbi9 : ¬ (b : Int) ≤ (ll : Int) := by omega
              have HE : Hid (wy.ownsRow ws.heap.size 4 1 (.slice (some ⟨ws.heap.size, 0, none⟩) (ll + 1) (ll + 1)) (ll + 1) (bls (ll + 1) (stepTo (Cf.sym T xs sy) atk (a + 1)))) := by
                have h := HOb.out
                cases hak : atk a with
                | false => have := HZ.out hak; omega
                | true =>
                  rw [hbe] at h
                  rwa [bls_congr (fun i hi => inTo_end (Cf.sym T xs sy) atk hak hi)] at h
              clear HZ HZ' HOb hbe
              go_wp2_with fail
              go_roundw
              case rel => exact ⟨a + 1, by omega, by go_num, HE.out, HBb.out⟩
              case measure => simp [intOf]; omega
        · have hai : ¬ (a : Int) < (ll : Int) + 1 := by omega
          have hae : a = ll + 1 := by omega
          have HN9 : Hid (RdP wr (fun b => b < wr.heap.size) (some ⟨ws.heap.size, 0, none⟩) (bls (ll + 1) (atC T xs xf (right.take (d + 1))))) := by
            have h := HOw.out
            rw [hae, bls_congr (fun i hi => stepTo_end (f := Cf.sym T xs sy) (at_ := atk) hi)] at h
            have h2 : RdP wr (fun b => b < wr.heap.size) (some ⟨ws.heap.size, 0, none⟩) (bls (ll + 1) (stepF (Cf.sym T xs sy) atk)) := RdP.of_own h fun b h1 h2 => h2
            rw [HNext.out]
            exact h2
          clear HOw hae
          go_wp2_with fail
          go_roundw
          case rel => exact ⟨d + 1, _, _, by omega, rfl, by go_num, HN9.out, HBcs.out.trans HBa.out⟩
          case measure => simp [intOf]; omega
    · have hde : d = xd := by omega
      have hdi : ¬ (d : Int) < (xd : Int) := by omega
      subst hde
      go_wp2_with fail
      exact HKK.out _ _ _ _ _ _ _ _ _ _ _ _ _ _ _ _ _ _ _ _ _ _ _ _ _ _ _ _ _ _ _ _ _ _ _ _ _ _ _ _ _ _ _ _ _ _ _ _ _ _ _ _ _ _ _ _ _ _ _ _ _ _ _ _ _ _ _ _ _ _ _ _ _ HAk.out HBd.out
end Go.Proofs.Ytckckejgocbkkaa
