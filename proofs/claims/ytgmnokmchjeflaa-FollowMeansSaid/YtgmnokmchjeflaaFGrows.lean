/- first.First's closure: a production's symbols are put into its nonterminal's set. -/
import Derived.Test.YtgmnokmchjeflaaFBegin
import Derived.OwnWalk
namespace Go.Proofs.Ytgmnokmchjeflaa
open Go.RowKit

/-- What the closure captures: the variable of the sets at gl, the variable of the facts at gn; the sets, a row of the call's own, at gf; the facts, another one. The grammar at block gg. -/
structure FRel (t n s : Int) (A : Option Addr) (len c nons cf gg gl gn gf : Nat) (An : Option Addr) (cn : Nat) (fs : List Fc) (w0 : World) (F : List Nat) (w : World) : Prop where
  bg : Bk w gg 24 #[.int .i64 t, .int .i64 n, .int .i64 s, .slice A len c]
  bl : Bk w gl 28 #[.slice (some ⟨gf, 0, none⟩) nons cf]
  bn : Bk w gn 51 #[.slice An nons cn]
  own : w.ownsRow w0.heap.size 33 1 (.slice (some ⟨gf, 0, none⟩) nons cf) nons (us F)
  nul : w.ownsRow w0.heap.size 63 2 (.slice An nons cn) nons (fcRow fs)
  len_ : F.length = nons
  b : Bl w0 w
section
variable {t n s : Int} {A : Option Addr} {len c nons cf gg gl gn gf : Nat} {An : Option Addr} {cn : Nat} {fs : List Fc} {w0 : World} {F F' : List Nat} {w w' : World}
theorem FRel.bl_ (h : FRel t n s A len c nons cf gg gl gn gf An cn fs w0 F w) (hb : Bl w w') : FRel t n s A len c nons cf gg gl gn gf An cn fs w0 F w' :=
  ⟨h.bg.bl hb, h.bl.bl hb, h.bn.bl hb, own_bl h.own hb, own_bl h.nul hb, h.len_, h.b.trans hb⟩
theorem FRel.alloc (h : FRel t n s A len c nons cf gg gl gn gf An cn fs w0 F w) (o : Obj) : FRel t n s A len c nons cf gg gl gn gf An cn fs w0 F (w.alloc o) := h.bl_ ((Bl.refl w).alloc o)
theorem FRel.is (h : FRel t n s A len c nons cf gg gl gn gf An cn fs w0 F w) (e : F' = F) : FRel t n s A len c nons cf gg gl gn gf An cn fs w0 F' w := by subst e; exact h
theorem FRel.rd (h : FRel t n s A len c nons cf gg gl gn gf An cn fs w0 F w) : Rd w w.heap.size (some ⟨gf, 0, none⟩) (us F) := Rd.own h.own
theorem FRel.rdn (h : FRel t n s A len c nons cf gg gl gn gf An cn fs w0 F w) : Rd w w.heap.size An (fcRow fs) := own_rd2 h.nul
theorem FRel.cell (h : FRel t n s A len c nons cf gg gl gn gf An cn fs w0 F w) {m : Nat} (hm : m < nons) : w.cell? ⟨gf, m, none⟩ = some (.int .u32 (F.getD m 0 : Int)) :=
  (h.own.cellAt m (by omega)).trans (us_at F m (by rw [h.len_]; exact hm))
theorem FRel.free (h : FRel t n s A len c nons cf gg gl gn gf An cn fs w0 F w) (j : Nat) : w.frozen? ⟨gf, j, none⟩ = false := h.own.frozenAt j
theorem FRel.glt (h : FRel t n s A len c nons cf gg gl gn gf An cn fs w0 F w) : gf < w.heap.size := (h.own.lt gf rfl).2
theorem FRel.put (h : FRel t n s A len c nons cf gg gl gn gf An cn fs w0 F w) {m v : Nat} {x : Int} (hx : x = (v : Int)) :
    FRel t n s A len c nons cf gg gl gn gf An cn fs w0 (F.set m v) (w.setCell ⟨gf, m, none⟩ (.int .u32 x)) := by
  subst hx
  have hfr : Fr (fun k => k = gf) w (w.setCell ⟨gf, m, none⟩ (.int .u32 (v : Int))) := (Fr.refl _ w).own _ _
  have ne : ∀ {g : Nat} {ty : TypeId} {cs : Array Value}, Bk w g ty cs → 33 ≠ ty → ¬ g = gf := fun hk hne e => hk.row h.own hne (by rw [e]; rfl)
  have h1 := (h.own.stored m (.int .u32 (v : Int))).1
  have hlow := (h.own.lt gf rfl).1
  refine ⟨h.bg.fr hfr (ne h.bg (by decide)), h.bl.fr hfr (ne h.bl (by decide)), h.bn.fr hfr (ne h.bn (by decide)), ?_, ?_, by rw [List.length_set]; exact h.len_, h.b.fr hfr fun k hk e => by omega⟩
  · rw [us_set]; exact h1
  · refine own_fr h.nul hfr fun k hk e => ?_
    subst e
    rcases h.own.2 with ⟨hv, _⟩ | ⟨g, cap, cur, hv, _, hg, _⟩
    · cases hv
    · have hgk : g = k := by injection hv with hv; injection hv with hv; injection hv with hv; exact hv.symm
      subst hgk
      exact Bk.row (t := 33) hg h.nul (by decide) hk
end

set_option maxRecDepth 100000 in
set_option maxHeartbeats 2000000 in
theorem grows_any (t n s : Int) (A : Option Addr) (len c nons cf gg gl gn gf : Nat) (An : Option Addr) (cn : Nat) (fs : List Fc) (w0 : World) (F : List Nat) (w : World)
    (m : Nat) (right : List Gr.Sy) (Ax : Option Addr) (cx : Nat)
    (hk : FRel t n s A len c nons cf gg gl gn gf An cn fs w0 F w) (hfs : nons = fs.length) (hr : Rd w w.heap.size Ax (syRow right)) (hm : m < nons) (hs : Fi.SyOk nons right) (hlr : right.length ≤ 8) (hlt : ∀ n, F.getD n 0 < 4294967296) :
    Calls Try.prog 30 #[.agg #[.int .i64 m, .slice Ax right.length cx], .pointer (some ⟨gl, 0, none⟩), .pointer (some ⟨gn, 0, none⟩)] w fun e w' =>
      e = .returned (.bool (decide (F.getD m 0 ||| Fi.ofN F (nlz fs) right ≠ F.getD m 0))) ∧ FRel t n s A len c nons cf gg gl gn gf An cn fs w0 (F.set m (F.getD m 0 ||| Fi.ofN F (nlz fs) right)) w' := by
  have HN := Lib.hid hfs; clear hfs
  have HS := Lib.hid hs; clear hs
  have hlm := hlt m
  have hlo := Fi.ofN_lt (nl := nlz fs) hlt (fun x hx e => (HS.out x hx).2.2 e)
  have HOR := Lib.hid (or_nat _ _ hlm hlo)
  have HLT := Lib.hid hlt; clear hlt hlo hlm
  have HPut := Lib.hid (fun (w1 : World) (h : FRel t n s A len c nons cf gg gl gn gf An cn fs w0 F w1) => h.put (m := m) HOR.out)
  have HC := Lib.hid (fun (w1 : World) (h : FRel t n s A len c nons cf gg gl gn gf An cn fs w0 F w1) => h.cell hm)
  have HV : Hid ((bits .or .u32 (F.getD m 0 : Int) (Fi.ofN F (nlz fs) right : Int) != (F.getD m 0 : Int)) = decide (F.getD m 0 ||| Fi.ofN F (nlz fs) right ≠ F.getD m 0)) := by
    rw [HOR.out, Bool.eq_iff_iff, decide_eq_true_eq, bne_iff_ne]
    exact not_congr Int.ofNat_inj
  have HP := Lib.hid (Bk.new w 37 #[.int .i64 m, .slice Ax right.length cx])
  have HK0 := Lib.hid (hk.alloc (.cells #[.int .i64 m, .slice Ax right.length cx] 37))
  have HR := Lib.hid hr; clear hr
  have k0 : w.cell? ⟨gl, 0, none⟩ = some (.slice (some ⟨gf, 0, none⟩) nons cf) := hk.bl.cell 0
  have k1 : w.cell? ⟨gn, 0, none⟩ = some (.slice An nons cn) := hk.bn.cell 0
  have kc := HC.out _ hk
  have klt1 : gl < w.heap.size := hk.bl.lt
  have klt2 : gn < w.heap.size := hk.bn.lt
  have klt3 : gf < w.heap.size := hk.glt
  have hm0 : (0 : Int) ≤ (m : Int) := by omega
  have hm1 : (m : Int) < (nons : Int) := by omega
  clear hk
  have HB := Lib.hid (fun w' B h1 h2 h3 h4 h5 => begin_any Ax right.length cx right (some ⟨gf, 0, none⟩) nons cf F An cn fs w' B rfl (by omega) h1 HK0.out.len_.symm h2 HN.out h3 h4 h5 HLT.out)
  generalize Fi.ofN F (nlz fs) right = v at *
  generalize F.getD m 0 = a at *
  go_enter Try.func30, Try.ntmps30
  go_wp2_with fail
  refine (HB.out _ (w.heap.size + 1) ((HR.out.alloc (Nat.le_refl _) _).more (by omega)) (HK0.out.rd.more (by simp)) (HK0.out.rdn.more (by simp)) (by simp) HS.out).mono ?_
  rintro e w1 ⟨rfl, hb1⟩
  have HK1 := Lib.hid (HK0.out.bl_ hb1)
  have HP1 := Lib.hid (HP.out.bl hb1)
  clear hb1 k0 k1 kc klt1 klt2 klt3
  have k0 : w1.cell? ⟨gl, 0, none⟩ = some (.slice (some ⟨gf, 0, none⟩) nons cf) := HK1.out.bl.cell 0
  have kc := HC.out _ HK1.out
  have kp : w1.cell? ⟨w.heap.size, 0, none⟩ = some (.int .i64 m) := HP1.out.cell 0
  have klt1 : gl < w1.heap.size := HK1.out.bl.lt
  have klt3 : gf < w1.heap.size := HK1.out.glt
  have klt4 : w.heap.size < w1.heap.size := HP1.out.lt
  have kf := HK1.out.free m
  have HX := Lib.hid (HPut.out _ HK1.out)
  have kl2 : (w1.setCell ⟨gf, m, none⟩ (.int .u32 (bits .or .u32 (a : Int) (v : Int)))).cell? ⟨gl, 0, none⟩ = some (.slice (some ⟨gf, 0, none⟩) nons cf) := HX.out.bl.cell 0
  have kp2 : (w1.setCell ⟨gf, m, none⟩ (.int .u32 (bits .or .u32 (a : Int) (v : Int)))).cell? ⟨w.heap.size, 0, none⟩ = some (.int .i64 m) := by
    have hne : w.heap.size ≠ gf := fun e => HP1.out.row HK1.out.own (by decide) (by rw [e]; rfl)
    exact (HP1.out.far (p := ⟨gf, m, none⟩) hne _).cell 0
  go_wp2_with fail
  go_ret
  exact ⟨by rw [← HV.out]; rfl, HX.out⟩
end Go.Proofs.Ytgmnokmchjeflaa
