/- Plain facts on the lead reference: what its reach says of what may come; what it chooses. -/
import Derived.Test.YtpblamiiggglaaaLdE
import Derived.Test.YtpblamiiggglaaaLdC
import Derived.Test.YtpblamiiggglaaaPlainS
import Derived.Test.YtpblamiiggglaaaOpW
import Derived.Test.YtpblamiiggglaaaFoApp
import Derived.Deep.LoopGhost
import Derived.Deep.RegionHeld3
import Derived.Deep.CutRange
import Derived.BigQuiet
namespace Go.Proofs.Ytpblamiiggglaaa
open Gr (Sy Pr Gm)
open Cf (Cm)

/-- What reach says: may it come? -/
def mayR (K : Nat) (T W : Cf.Tb) (N : Nat) (u : List Int) (f : Nat) (l : List Sy) : Bool := if K = 2 then ovK T W N u f l l.length else atR T u f l u.length
section
variable {g : Gm} {u : List Int} {T W : Cf.Tb} {f N : Nat}
theorem wild_key (hg : Gr.Ok g) (hv : Wi.Lives g) (hs : Cf.Sound (Wi.wild g) u W) (hc : Cf.Closed (Wi.wild g) u W) (hN : g.nons = (N : Int)) (n a : Nat) (hn : n < N) (ha : a ≤ u.length) :
    W (N + n) a u.length = true ↔ ∃ v, Cm g [⟨true, (n : Int)⟩] (u.drop a ++ v) := by
  have hp : Cf.part u a u.length = u.drop a := by
    rw [Sp.part_drop, List.take_of_length_le (by rw [List.length_drop]; exact Nat.le_refl _)]
  rw [Cf.table hs hc _ ha (Nat.le_refl _), hp, ← Wi.high_iff hg hv (n := (n : Int)) (by omega) (by omega)]
  rw [show ((N + n : Nat) : Int) = g.nons + (n : Int) by omega]
theorem rowG_pos {l : List Sy} (hr : Ld.RowG g l) : Cf.Pos l := fun s hs => (hr s hs).1
theorem rowG_non {l : List Sy} (hr : Ld.RowG g l) (hN : g.nons = (N : Int)) : ∀ s ∈ l, s.non = true → 0 ≤ s.n ∧ s.n < (N : Int) := fun s hs h => ⟨(hr s hs).1, by rw [← hN]; exact (hr s hs).2.1 h⟩
theorem mayR_is (hg : Gr.Ok g) (hv : Wi.Lives g) (hs : Cf.Sound g u T) (hc : Cf.Closed g u T) (hsW : Cf.Sound (Wi.wild g) u W) (hcW : Cf.Closed (Wi.wild g) u W) (hN : g.nons = (N : Int)) {l : List Sy} (hr : Ld.RowG g l) (hf : f ≤ u.length) (K : Nat) :
    mayR K T W N u f l = Ld.mayB K g u l f := by
  rw [Bool.eq_iff_iff, Ld.mayB_iff]
  unfold mayR
  by_cases hK : K = 2
  · rw [if_pos hK, ovK_iff hs hc (wild_key hg hv hsW hcW hN) (rowG_pos hr) (rowG_non hr hN) (Nat.le_refl _), List.take_length, Ld.ov_iff hv hr hf]
    subst hK
    exact Ld.may_two.symm
  · rw [if_neg hK, atR_iff hs hc (rowG_pos hr) (Nat.le_refl _), Ld.may_one hK]
    have hp : Cf.part u f u.length = u.drop f := by
      rw [Sp.part_drop, List.take_of_length_le (by rw [List.length_drop]; exact Nat.le_refl _)]
    unfold Ld.At
    rw [hp]
    exact ⟨fun h => h.2.2, fun h => ⟨hf, Nat.le_refl _, h⟩⟩
end
theorem lead_tok {K : Nat} {g : Gm} {f : Nat → Nat} {u : List Int} {k a : Nat} {s : Sy} {r : List Sy} (h : s.non = false) : Ld.lead K g f u k a (s :: r) = Ld.lead K g f u k (if a < u.length then a + 1 else a) r := by
  cases k with
  | zero => unfold Ld.lead; rw [Ld.nextOf_tok h]
  | succ k =>
    conv => lhs; unfold Ld.lead
    conv => rhs; unfold Ld.lead
    rw [Ld.nextOf_tok h]
/-- What is best so far, as the reference has it. -/
def bestI : Option Nat → Int
  | none => -1
  | some b => (b : Int)
theorem bestI_neg {o : Option Nat} : bestI o < 0 ↔ o = none := by
  cases o with
  | none => exact ⟨fun _ => rfl, fun _ => by decide⟩
  | some b => exact ⟨fun h => absurd h (by show ¬ ((b : Int) < 0); omega), fun h => by cases h⟩
/-- Each choice is a production. -/
theorem canOf_lt {K : Nat} {g : Gm} {f : Nat → Nat} (hf : Ld.Fits g f) {b : Bool} {m : Nat} (hm : (m : Int) < g.nons) {x : Nat} (hx : x ∈ Ld.canOf K g.prods (f m) b (m : Int)) : x < g.prods.length := by
  have key : ∀ y, (∃ p, g.prods[y]? = some p ∧ p.left = (m : Int)) → y < g.prods.length := by
    rintro y ⟨p, h1, _⟩
    rcases Nat.lt_or_ge y g.prods.length with h | h
    · exact h
    · rw [List.getElem?_eq_none h] at h1; cases h1
  unfold Ld.canOf at hx
  split at hx
  · rw [List.mem_singleton] at hx
    subst hx
    exact key _ (hf m hm)
  · exact key _ (Ld.mem_ofL.1 hx)
theorem fact_prod {g : Gm} (hg : Gr.Ok g) {j : Nat} (hj : j < (factsOf true g).length) : (factsOf true g)[j].prod = (factP g j : Int) := by
  have h3 := factsOf_prod hg j
  rw [List.getD_eq_getElem?_getD, List.getElem?_eq_getElem hj] at h3
  have h4 := factsOf_pos g _ (List.getElem_mem hj)
  have h3 : (factsOf true g)[j].prod.toNat = factP g j := h3
  omega
/-- The whole, behind one more step. -/
theorem lead_map {K : Nat} {g : Gm} {f : Nat → Nat} {u : List Int} {q a i : Nat} {s : Sy} {r : List Sy} {dn : List Nat} {X : Option (List Nat)} (hs : s.non = true) (hp : Ld.pick K g f u a s.n r = some i)
    (h : (Ld.lead K g f u (q + 1) a (s :: r)).map (dn ++ ·) = X) : (Ld.lead K g f u q a (Ld.rig g.prods i ++ r)).map ((dn ++ [i]) ++ ·) = X := by
  rw [← h, Ld.lead_step (Ld.nextOf_non hs) hp, Option.map_map]
  congr 1
  funext z
  simp
end Go.Proofs.Ytpblamiiggglaaa
/- The lead reference's Lead: a round of its inner loop: a production is tried (made by tools/genldin.py). -/
namespace Go.Proofs.Ytpblamiiggglaaa
open Go.RowKit

/-- What reach tells, of the kind that is asked for. -/
def RmPost (K lw : Nat) (mb : Bool) (w : World) (e : Ending) (w' : World) : Prop :=
  ∃ (g7 c7 : Nat) (az oz : Bool), e = .returned (.tuple #[.slice (some ⟨g7, 0, none⟩) (lw + 1) c7, .bool oz]) ∧ w'.cell? ⟨g7, lw, none⟩ = some (.bool az) ∧ g7 < w'.heap.size ∧ (K = 2 → oz = mb) ∧ (K ≠ 2 → az = mb) ∧ Bl w w'
/-- A block of the program's own text. -/
def blk (k : Nat) : Code → Option Code
  | .block n c => if n = k then some (.block n c) else blk k c
  | .loop c => blk k c
  | .scope c => blk k c
  | .seq a b => match blk k a with
    | some c => some c
    | none => blk k b
  | .cond _ a b => match blk k a with
    | some c => some c
    | none => blk k b
  | _ => none
noncomputable def tryOne : Code := ((Try.f12.body.bind (blk 3)).getD .skip)
theorem ks_any {K : Nat} (h : K ≤ 2) : (K = 2 ∧ ¬ (K : Int) < 2 ∧ ((K : Int) == 2) = true) ∨ (K ≠ 2 ∧ (K : Int) < 2 ∧ ((K : Int) == 2) = false) := by
  rcases Nat.lt_or_ge K 2 with h2 | h2
  · exact .inr ⟨by omega, by omega, by rw [beq_eq_false_iff_ne]; omega⟩
  · exact .inl ⟨by omega, by omega, by rw [beq_iff_eq]; omega⟩

set_option maxRecDepth 1000000 in
set_option maxHeartbeats 8000000 in
theorem tryOne_any (t s : Int) (len c : Nat) (ps : List Gr.Pr) (Aw : Option Addr) (lw cw : Nat) (u : List Int) (K gg N bo co bw cw2 bt ot ll ct : Nat) (Ay : Option Addr) (r : List Gr.Sy) (a bc oc cl cd : Nat) (bv : Int) (j x b off : Nat) (Ax : Option Addr) (cx : Nat) (wr : World)
    (HRch : ∀ (wx : World) (l : List Gr.Sy) (Al : Option Addr) (ll cl f : Nat), Bl wr wx → ll = l.length → ll ≤ 1000000 → RdP wx (fun b => b < wx.heap.size) Al (syRow l) → f ≤ lw → Ld.RowG ⟨t, (N : Int), s, ps⟩ l →
      Calls Try.prog 25 #[.slice Al ll cl, .slice Aw lw cw, .int .i64 (f : Int), .slice (some ⟨bo, 0, none⟩) N co, .slice (some ⟨bw, 0, none⟩) (2 * N) cw2, .int .i64 (N : Int)] wx (RmPost K lw (Ld.mayB K ⟨t, (N : Int), s, ps⟩ u l f) wx))
    (k1 : wr.cell? ⟨gg, 1, none⟩ = some (.int .i64 (N : Int))) (k3 : wr.cell? ⟨gg, 3, none⟩ = some (.slice (some ⟨b, off, none⟩) len c)) (y0 : wr.cell? ⟨bc, oc + j, none⟩ = some (.int .i64 (x : Int)))
    (hrx : Rd wr wr.heap.size Ax (syRow (Ld.rig ps x))) (hc1 : wr.cell? ⟨b, off + x * 2 + 1, none⟩ = some (.slice Ax (Ld.rig ps x).length cx)) (hjl : j < cl) (hxl : x < len)
    (hsl : ∀ (wx : World), (Instr.slice 42 (.slice (some ⟨bt, ot, none⟩) ll ct) (some (.int .i64 1)) none none).run Try.prog wx = .ok (.slice Ay (ll - 1) (ct - 1)) wx) (hcut : RdT wr 41 Ay (syRow r)) (hlr : r.length = ll - 1) (hlr1 : ll - 1 ≤ 16001)
    (ha : a ≤ lw) (hlw : lw ≤ 24) (hrow : Ld.RowG ⟨t, (N : Int), s, ps⟩ (Ld.rig ps x ++ r)) (hr8 : (Ld.rig ps x).length ≤ 8) (hK : K ≤ 2)
    (x0 x4 x5 x6 x7 x10 x12 x13 x14 x16 x20 x21 x22 x23 x24 x25 x26 x27 x28 x29 x30 x31 x32 x33 x34 x35 x36 x37 x38 x39 x40 x41 x42 x43 x44 x45 x46 x47 x48 x49 x50 x51 x52 x53 x54 x55 x56 x57 x58 x59 x60 x61 x62 x63 x64 x65 x66 x67 x68 x69 x70 x71 x72 x73 x74 x75 x76 x77 x78 x79 x80 x81 x82 x83 x84 x85 x86 x87 x88 x89 x90 x91 x92 x93 x94 x95 x96 x97 x98 x99 x100 x101 x102 x103 x104 x105 x106 x107 x108 x109 x110 x111 x112 x113 x114 x115 x116 x117 x118 x119 x120 x121 x122 x123 x124 x125 x126 x127 x128 x129 x130 x131 x132 x133 x134 x135 x136 x137 x138 x139 x140 x141 x142 x143 x144 x145 x146 x147 x148 x149 x150 x151 x152 x153 x154 x155 x156 x157 x158 x159 x160 x161 x162 x163 x164 x165 x166 x167 x168 x169 x170 x171 x172 x173 x174 x175 x176 x177 x178 x179 x180 x181 x182 x183 x184 x185 x186 x187 x188 x189 x190 x191 x192 : Value) (KK : Act → World → Prop) (QQ : Exit → Act → World → Prop)
    (hKK : ∀ (y20 y21 y22 y23 y117 y118 y119 y120 y121 y122 y123 y124 y125 y126 y127 y128 y129 y130 y131 y132 y133 y134 y135 y136 y137 y138 y139 y140 y141 y142 y143 y144 y145 y146 y147 y148 y149 y150 y151 y152 y153 y154 y155 y156 y157 y158 y159 y160 y161 y162 y163 y164 y165 y166 y167 y168 y169 y170 y171 y172 y173 y174 y175 y176 : Value) (bz : Int) (w' : World), bz = (if (Ld.mayB K ⟨t, (N : Int), s, ps⟩ u (Ld.rig ps x ++ r) a && (decide (bv < 0) || decide (K = 1))) = true then (x : Int) else bv) → Bl wr w' → KK { tmps := List.toArray (x0 :: .slice Aw lw cw :: .int .i64 (K : Int) :: .pointer (some ⟨gg, 0, none⟩) :: x4 :: x5 :: x6 :: x7 :: .slice (some ⟨bo, 0, none⟩) N co :: .slice (some ⟨bw, 0, none⟩) (2 * N) cw2 :: x10 :: .slice (some ⟨bt, ot, none⟩) ll ct :: x12 :: x13 :: x14 :: .int .i64 (a : Int) :: x16 :: .slice (some ⟨bc, oc, none⟩) cl cd :: .int .i64 bz :: .int .i64 (j : Int) :: y20 :: y21 :: y22 :: y23 :: x24 :: x25 :: x26 :: x27 :: x28 :: x29 :: x30 :: x31 :: x32 :: x33 :: x34 :: x35 :: x36 :: x37 :: x38 :: x39 :: x40 :: x41 :: x42 :: x43 :: x44 :: x45 :: x46 :: x47 :: x48 :: x49 :: x50 :: x51 :: x52 :: x53 :: x54 :: x55 :: x56 :: x57 :: x58 :: x59 :: x60 :: x61 :: x62 :: x63 :: x64 :: x65 :: x66 :: x67 :: x68 :: x69 :: x70 :: x71 :: x72 :: x73 :: x74 :: x75 :: x76 :: x77 :: x78 :: x79 :: x80 :: x81 :: x82 :: x83 :: x84 :: x85 :: x86 :: x87 :: x88 :: x89 :: x90 :: x91 :: x92 :: x93 :: x94 :: x95 :: x96 :: x97 :: x98 :: x99 :: x100 :: x101 :: x102 :: x103 :: x104 :: x105 :: x106 :: x107 :: x108 :: x109 :: x110 :: x111 :: x112 :: x113 :: x114 :: x115 :: x116 :: y117 :: y118 :: y119 :: y120 :: y121 :: y122 :: y123 :: y124 :: y125 :: y126 :: y127 :: y128 :: y129 :: y130 :: y131 :: y132 :: y133 :: y134 :: y135 :: y136 :: y137 :: y138 :: y139 :: y140 :: y141 :: y142 :: y143 :: y144 :: y145 :: y146 :: y147 :: y148 :: y149 :: y150 :: y151 :: y152 :: y153 :: y154 :: y155 :: y156 :: y157 :: y158 :: y159 :: y160 :: y161 :: y162 :: y163 :: y164 :: y165 :: y166 :: y167 :: y168 :: y169 :: y170 :: y171 :: y172 :: y173 :: y174 :: y175 :: y176 :: x177 :: x178 :: x179 :: x180 :: x181 :: x182 :: x183 :: x184 :: x185 :: x186 :: x187 :: x188 :: x189 :: x190 :: x191 :: x192 :: []), defers := [] } w') :
    Code.wp Try.prog tryOne (Exit.then KK QQ) { tmps := List.toArray (x0 :: .slice Aw lw cw :: .int .i64 (K : Int) :: .pointer (some ⟨gg, 0, none⟩) :: x4 :: x5 :: x6 :: x7 :: .slice (some ⟨bo, 0, none⟩) N co :: .slice (some ⟨bw, 0, none⟩) (2 * N) cw2 :: x10 :: .slice (some ⟨bt, ot, none⟩) ll ct :: x12 :: x13 :: x14 :: .int .i64 (a : Int) :: x16 :: .slice (some ⟨bc, oc, none⟩) cl cd :: .int .i64 bv :: .int .i64 (j : Int) :: x20 :: x21 :: x22 :: x23 :: x24 :: x25 :: x26 :: x27 :: x28 :: x29 :: x30 :: x31 :: x32 :: x33 :: x34 :: x35 :: x36 :: x37 :: x38 :: x39 :: x40 :: x41 :: x42 :: x43 :: x44 :: x45 :: x46 :: x47 :: x48 :: x49 :: x50 :: x51 :: x52 :: x53 :: x54 :: x55 :: x56 :: x57 :: x58 :: x59 :: x60 :: x61 :: x62 :: x63 :: x64 :: x65 :: x66 :: x67 :: x68 :: x69 :: x70 :: x71 :: x72 :: x73 :: x74 :: x75 :: x76 :: x77 :: x78 :: x79 :: x80 :: x81 :: x82 :: x83 :: x84 :: x85 :: x86 :: x87 :: x88 :: x89 :: x90 :: x91 :: x92 :: x93 :: x94 :: x95 :: x96 :: x97 :: x98 :: x99 :: x100 :: x101 :: x102 :: x103 :: x104 :: x105 :: x106 :: x107 :: x108 :: x109 :: x110 :: x111 :: x112 :: x113 :: x114 :: x115 :: x116 :: x117 :: x118 :: x119 :: x120 :: x121 :: x122 :: x123 :: x124 :: x125 :: x126 :: x127 :: x128 :: x129 :: x130 :: x131 :: x132 :: x133 :: x134 :: x135 :: x136 :: x137 :: x138 :: x139 :: x140 :: x141 :: x142 :: x143 :: x144 :: x145 :: x146 :: x147 :: x148 :: x149 :: x150 :: x151 :: x152 :: x153 :: x154 :: x155 :: x156 :: x157 :: x158 :: x159 :: x160 :: x161 :: x162 :: x163 :: x164 :: x165 :: x166 :: x167 :: x168 :: x169 :: x170 :: x171 :: x172 :: x173 :: x174 :: x175 :: x176 :: x177 :: x178 :: x179 :: x180 :: x181 :: x182 :: x183 :: x184 :: x185 :: x186 :: x187 :: x188 :: x189 :: x190 :: x191 :: x192 :: []), defers := [] } wr := by
  conv => arg 2; whnf
  obtain ⟨i1, hj, hy0, hy1, hy2⟩ := info_parts tp_sym
  have HKK := Lib.hid hKK
  have HRc := Lib.hid HRch
  have HLr := Lib.hid hlr
  have HRw := Lib.hid hrow
  have kl1 := World.block_lt_of_cell? _ _ k1
  have kl := World.block_lt_of_cell? _ _ k3
  have ybl := World.block_lt_of_cell? _ _ y0
  have cbl := World.block_lt_of_cell? _ _ hc1
  have HRy := Lib.hid hrx
  have HCj := Lib.hid hcut
  have HKs := Lib.hid (ks_any hK)
  have hjl1 : (j : Int) < (cl : Int) := by omega
  have hj0 : (0 : Int) ≤ (j : Int) := by omega
  have hx0 : (0 : Int) ≤ (x : Int) := by omega
  have hx1 : (x : Int) < (len : Int) := by omega
  have hlw0 : (lw : Int) < (lw : Int) + 1 := by omega
  have hlw1 : (0 : Int) ≤ (lw : Int) := by omega
  have hk0 : ¬ ((K : Int) < 0) := by omega
  have hk2 : ¬ ((2 : Int) < (K : Int)) := by omega
  have HK1 : Hid (∀ w1, Bl wr w1 → w1.cell? ⟨gg, 1, none⟩ = some (.int .i64 (N : Int)) ∧ gg < w1.heap.size) := fun w1 hb => ⟨(Below.cell hb kl1).trans k1, Nat.lt_of_lt_of_le kl1 hb.size⟩
  have HS : Hid (∀ w1, Bl wr w1 → w1.cell? ⟨gg, 3, none⟩ = some (.slice (some ⟨b, off, none⟩) len c) ∧ w1.cell? ⟨bc, oc + j, none⟩ = some (.int .i64 (x : Int)) ∧ w1.cell? ⟨b, off + x * 2 + 1, none⟩ = some (.slice Ax (Ld.rig ps x).length cx)) := fun w1 hb =>
    ⟨(Below.cell hb kl).trans k3, (Below.cell hb ybl).trans y0, (Below.cell hb cbl).trans hc1⟩
  have HLit : Hid ((wr.alloc (.cells #[] 41)).ownsRow wr.heap.size 41 2 (.slice (some ⟨wr.heap.size, 0, none⟩) 0 0) 0 []) := World.ownsRow_lit (base := wr.heap.size) (e := 41) (size := 2) wr #[] 0 (Nat.le_refl _) (by simp [maxLen]) rfl
  have HBc : Hid (Bl wr wr.drew) := (Bl.refl wr).drew
  clear hKK HRch hlr hrow hrx hcut
  go_wp2_with fail
  go_region_held3 (fun w' => w'.cell? ⟨gg, 3, none⟩ = some (.slice (some ⟨b, off, none⟩) len c) ∧ w'.cell? ⟨bc, oc + j, none⟩ = some (.int .i64 (x : Int)) ∧ w'.cell? ⟨b, off + x * 2 + 1, none⟩ = some (.slice Ax (Ld.rig ps x).length cx)) (first | exact HS.out _ HBc.out | exact HS.out _ ((Bl.refl wr).alloc _) | exact HS.out _ ((Bl.refl wr).alloc _).drew) (first
    | (refine step_append_rdN rfl (.tmp 123) (.tmp 132) 42 rfl wr.heap.size 41 _ (.agg #[.bool false, .int .i64 0]) 2 16 Try.underlying42 hj hy0 hy1 hy2 rfl (by decide) (.slice (some ⟨wr.heap.size, 0, none⟩) 0 0) 0 [] rfl HLit.out _ Ax (Ld.rig ps x).length cx (syRow (Ld.rig ps x)) rfl (rd_on HRy.out (by first | exact ((Bl.refl wr).alloc _) | exact ((Bl.refl wr).alloc _).drew)) (syRow_len _) (syRow_one _) (by simp only [maxLen]; omega) (by omega) (by simp) ?_; intro v2 x2 hown2 hg2; rw [Nat.zero_add, List.nil_append] at hown2; obtain ⟨A2, d2, hv2, hd2⟩ := own_form hown2; subst hv2; have HO2 := Lib.hid hown2; have HBx : Hid (Bl wr x2) := (by first | exact ((Bl.refl wr).alloc _).grown hg2 (fun k hk => (HLit.out.lt k hk).1) | exact (((Bl.refl wr).alloc _).drew).grown hg2 (fun k hk => (HLit.out.lt k hk).1)); clear HBc; have HBc := Lib.hid HBx.out; clear HBx hown2 hg2 hd2)
    | (refine step_append_rdN rfl (.tmp 133) (.tmp 135) 42 rfl wr.heap.size 41 _ (.agg #[.bool false, .int .i64 0]) 2 16 Try.underlying42 hj hy0 hy1 hy2 rfl (by decide) (.slice A2 (Ld.rig ps x).length d2) (Ld.rig ps x).length (syRow (Ld.rig ps x)) rfl HO2.out _ Ay (ll - 1) (ct - 1) (syRow r) rfl (HCj.out.keep (.of_bl HBc.out)).rd ((syRow_len _).trans (by rw [HLr.out])) (syRow_one _) (by simp only [maxLen]; omega) (by omega) HBc.out.size ?_; intro v3 x3 hown3 hg3; obtain ⟨A3, d3, hv3, hd3⟩ := own_form hown3; subst hv3; have HO3 := Lib.hid hown3; have HD3 := Lib.hid hd3; have HBx : Hid (Bl wr x3) := HBc.out.grown hg3 (fun k hk => (HO2.out.lt k hk).1); clear HBc; have HBc := Lib.hid HBx.out; clear HBx hown3 hg3 hd3)
    | fail)
  obtain ⟨kx1, klx⟩ := HK1.out x3 HBc.out
  have HRq := Lib.hid (HRc.out x3 (Ld.rig ps x ++ r) A3 ((Ld.rig ps x).length + (ll - 1)) d3 a HBc.out (by rw [List.length_append, HLr.out]) (by omega) (by
    have h := (RdT.of_own HO3.out).rd
    rw [← syRow_append] at h
    exact h) ha HRw.out)
  go_wp2_with fail
  refine HRq.out.mono ?_
  rintro e w9 ⟨g9, c9, az9, oz9, rfl, kz, kzl, hm2, hm1, hb9⟩
  have HB9 := Lib.hid (HBc.out.trans hb9)
  have HM2 := Lib.hid hm2
  have HM1 := Lib.hid hm1
  clear hm2 hm1 hb9 HRq kx1 klx HBc HO3 HD3 HO2 HLit HRc
  generalize Ld.mayB K ⟨t, (N : Int), s, ps⟩ u (Ld.rig ps x ++ r) a = mb at HKK HM2 HM1
  go_upto_region 29 with fail
  go_cut [2, 23] from 117 to 176 (fun k v wx => k = .int .i64 (K : Int) ∧ v = .bool mb ∧ wx = w9)
  case first =>
    rcases HKs.out with ⟨q0, q1, q2⟩ | ⟨q0, q1, q2⟩
    · obtain rfl := HM2.out q0
      have HQ : Hid ((2 : Int) = (K : Int)) := by unfold Hid; omega
      clear q0
      cases oz9 <;> (go_wp2_with fail; go_meet; first | exact ⟨rfl, rfl, rfl⟩ | exact ⟨congrArg (Value.int .i64) HQ.out, rfl, rfl⟩)
    · obtain rfl := HM1.out q0
      clear q0
      cases az9 <;> (go_wp2_with fail; go_meet; exact ⟨rfl, rfl, rfl⟩)
  case rest =>
    obtain ⟨rfl, rfl, hwc⟩ := hcut
    subst hwc
    obtain ⟨w9, hw9⟩ : ∃ w9 : World, w9 = wc := ⟨_, rfl⟩
    subst hw9
    clear kz kzl HM2 HM1
    go_upto_region 30 with fail
    go_cut [2, 18, 172] from 117 to 176 (fun k b v wx => k = .int .i64 (K : Int) ∧ b = .int .i64 bv ∧ v = .bool (mb && (decide (bv < 0) || decide (K = 1))) ∧ wx = w9)
    case first =>
      cases mb with
      | false => go_wp2_with fail; go_meet; exact ⟨rfl, rfl, rfl, rfl⟩
      | true =>
        by_cases hb : bv < 0
        · have HD := Lib.hid (decide_eq_true hb)
          go_wp2_with fail
          go_meet
          exact ⟨rfl, rfl, by rw [HD.out]; rfl, rfl⟩
        · have HD := Lib.hid (decide_eq_false hb)
          by_cases hk1 : K = 1
          · have HE := Lib.hid (decide_eq_true hk1)
            have hq1 : ((K : Int) == 1) = true := by rw [beq_iff_eq]; omega
            have HQ : Hid ((1 : Int) = (K : Int)) := by unfold Hid; omega
            clear hk1
            go_wp2_with fail
            go_meet
            exact ⟨by first | exact rfl | exact congrArg (Value.int .i64) HQ.out, rfl, by rw [HD.out, HE.out]; rfl, rfl⟩
          · have HE := Lib.hid (decide_eq_false hk1)
            have hq1 : ((K : Int) == 1) = false := by rw [beq_eq_false_iff_ne]; omega
            clear hk1
            go_wp2_with fail
            go_meet
            exact ⟨rfl, rfl, by rw [HD.out, HE.out]; rfl, rfl⟩
    case rest =>
      obtain ⟨rfl, rfl, rfl, hwc⟩ := hcut
      subst hwc
      generalize (mb && (decide (bv < 0) || decide (K = 1))) = sel at *
      obtain ⟨-, yc, -⟩ := HS.out _ HB9.out
      have ycl := World.block_lt_of_cell? _ _ yc
      cases sel with
      | false =>
        go_wp2_with fail
        exact HKK.out _ _ _ _ _ _ _ _ _ _ _ _ _ _ _ _ _ _ _ _ _ _ _ _ _ _ _ _ _ _ _ _ _ _ _ _ _ _ _ _ _ _ _ _ _ _ _ _ _ _ _ _ _ _ _ _ _ _ _ _ _ _ _ _ bv _ (by simp) HB9.out
      | true =>
        go_wp2_with fail
        exact HKK.out _ _ _ _ _ _ _ _ _ _ _ _ _ _ _ _ _ _ _ _ _ _ _ _ _ _ _ _ _ _ _ _ _ _ _ _ _ _ _ _ _ _ _ _ _ _ _ _ _ _ _ _ _ _ _ _ _ _ _ _ _ _ _ _ (x : Int) _ (by simp) HB9.out
end Go.Proofs.Ytpblamiiggglaaa
