/- word's closure that puts tokens out: the variable that it captures, and its row. -/
import Derived.Test.YtmegpmkjhbihaaaDMay
import Derived.Test.YtmegpmkjhbihaaaWNew
namespace Go.Proofs.Ytmegpmkjhbihaaa
open Go.RowKit

/-- What was put out so far: the variable at block g, its row of the call's own; nothing that was there at w0 has turned. -/
def Out (w0 : World) (g : Nat) (l : List Int) (w : World) : Prop :=
  ∃ v, Bk w g 25 #[v] ∧ w.ownsRow w0.heap.size 3 1 v l.length (ins l) ∧ Bl w0 w
/-- Blocks of other types stay. -/
def KeepO (w w' : World) : Prop := ∀ k t cs, t ≠ 25 → t ≠ 3 → Bk w k t cs → Bk w' k t cs
section
variable {w0 w w1 w2 w' : World} {g : Nat} {l r : List Int} {v v2 : Value}
theorem Out.b (h : Out w0 g l w) : Bl w0 w := by obtain ⟨_, _, _, h⟩ := h; exact h
theorem Out.lt (h : Out w0 g l w) : g < w.heap.size := by obtain ⟨_, h, _⟩ := h; exact h.lt
theorem Out.bl (h : Out w0 g l w) (hb : Bl w w') : Out w0 g l w' := by
  obtain ⟨v, h1, h2, h3⟩ := h
  exact ⟨v, h1.bl hb, own_bl h2 hb, h3.trans hb⟩
theorem Out.alloc (h : Out w0 g l w) (o : Obj) : Out w0 g l (w.alloc o) := h.bl ((Bl.refl w).alloc o)
theorem Out.drewN (h : Out w0 g l w) (n : Nat) : Out w0 g l (w.drewN n) := h.bl ((Bl.refl w).drewN n)
theorem Out.new (w : World) : Out w w.heap.size [] (w.alloc (.cells #[.slice none 0 0] 25)) :=
  ⟨_, Bk.new w _ _, World.ownsRow_nil _ _ _ _, (Bl.refl w).alloc _⟩
theorem out_more (hg0 : w0.heap.size ≤ g) (hk : Bk w g 25 #[v]) (ho : w.ownsRow w0.heap.size 3 1 v l.length (ins l)) (hb : Bl w0 w)
    (ho2 : w2.ownsRow w0.heap.size 3 1 v2 (l.length + r.length) (ins l ++ ins r)) (hg : w.grownBy w2 v.ownBlock) : Out w0 g (l ++ r) (w2.setCell ⟨g, 0, none⟩ v2) ∧ KeepO w (w2.setCell ⟨g, 0, none⟩ v2) := by
  have hk2 : Bk w2 g 25 #[v] := hk.grown hg fun e => hk.row ho (by decide) e.symm
  have hf : Fr (fun k => k = g) w2 (w2.setCell ⟨g, 0, none⟩ v2) := (Fr.refl _ w2).own 0 _
  have hb2 : Bl w0 w2 := hb.grown hg fun k hk => (ho.lt k hk).1
  refine ⟨⟨v2, hk2.put 0 v2, ?_, hb2.fr hf fun i hi e => by omega⟩, fun k t cs h1 h2 h => ?_⟩
  · rw [ins_append, List.length_append]
    exact own_fr ho2 hf fun k hv e => hk2.row ho2 (by decide) (by rw [hv, e])
  · have e1 : g ≠ k := hk.apart h h1.symm
    exact (h.grown hg fun e => h.row ho h2.symm e.symm).fr hf fun e => e1 e.symm
theorem Out.done (h : Out w0 g l w) : ∃ A c, Bk w g 25 #[.slice A l.length c] ∧ l.length ≤ c ∧ w.ownsRow w0.heap.size 3 1 (.slice A l.length c) l.length (ins l) ∧ Bl w0 w := by
  obtain ⟨v, h1, h2, h3⟩ := h
  obtain ⟨A, c, rfl, hc⟩ := own_slice h2
  exact ⟨A, c, h1, hc, h2, h3⟩
end

set_option maxRecDepth 100000 in
set_option maxHeartbeats 400000 in
theorem dput_any (w0 : World) (g : Nat) (l r : List Int) (A : Option Addr) (m c : Nat) (w : World) (B : Nat) (h : Out w0 g l w) (hg0 : w0.heap.size ≤ g) (hm : m = r.length) (hr : Rd w B A (ins r)) (hs : l.length + m ≤ 1000000000000) :
    Calls Try.prog 39 #[.slice A m c, .pointer (some ⟨g, 0, none⟩)] w fun e w' => e = .returned (.tuple #[]) ∧ Out w0 g (l ++ r) w' ∧ KeepO w w' := by
  obtain ⟨i0, hi, hz0, hz1, hz2⟩ := info_parts int_info
  obtain ⟨Av, cv, hk, hcv, ho, hb⟩ := h.done
  have hc0 : w.cell? ⟨g, 0, none⟩ = some (.slice Av l.length cv) := hk.cell 0
  have hf0 := hk.free 0
  have hbase : w0.heap.size ≤ w.heap.size := hb.size
  have HK := Lib.hid hk
  have HO := Lib.hid ho
  have HB := Lib.hid hb
  have HM := Lib.hid hm
  have HR := Lib.hid hr
  clear hk ho hb hm hr h
  go_enter Try.func39, Try.ntmps39
  go_wp2_with (at_builtin; refine wpList_append_rd _ rfl (.tmp 3) (.tmp 4) 25 rfl w0.heap.size 3 i0 (.int .i64 0) 8 Try.underlying25 hi hz0 hz1 hz2 rfl (.slice Av l.length cv) l.length (ins l) rfl HO.out B A m c (ins r) rfl HR.out ((ins_len _).trans HM.out.symm) (ins_one _) (by simp only [maxLen]; omega) (by omega) hbase ?_; intro v2 w2 hown2 hg2 _; obtain ⟨A2, c2, hv2, _⟩ := own_slice hown2; subst hv2; have HK2 := Lib.hid (HK.out.grown hg2 (fun e => HK.out.row HO.out (by decide) e.symm)); have hc2 : w2.cell? ⟨g, 0, none⟩ = some (.slice Av l.length cv) := HK2.out.cell 0; have hf2 : w2.frozen? ⟨g, 0, none⟩ = false := HK2.out.free 0; rw [HM.out] at hown2; have HX := Lib.hid (out_more hg0 HK.out HO.out HB.out hown2 hg2); clear hown2 hg2)
  go_end0
  rw [HM.out]
  exact ⟨rfl, HX.out⟩
end Go.Proofs.Ytmegpmkjhbihaaa
