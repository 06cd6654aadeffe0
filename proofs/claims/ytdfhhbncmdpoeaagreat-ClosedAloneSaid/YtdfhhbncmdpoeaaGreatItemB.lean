/- chart.next: an item's next symbol. -/
import Derived.Test.YtdfhhbncmdpoeaaGreatItemA
import Derived.Test.YtdfhhbncmdpoeaaGreatBaseS
import Derived.Deep.RegionHeld3
import Derived.Deep.DeepCutAuto
import Derived.RegionTactic
import Derived.BigRegion
import Derived.Deep.RegionLaw
set_option maxRecDepth 100000
set_option maxHeartbeats 1000000
namespace Go.Proofs.YtdfhhbncmdpoeaaGreat
open Go.RowKit
theorem sym_size:(Tryz.prog.info? 39).map (·.size)=some 2:=by kernel_rfl
theorem item_size:(Tryz.prog.info? 44).map (·.size)=some 3:=by kernel_rfl
theorem build0_sym (w:World):(Instr.build 39 (#[]:Array (Nat × Value))).run Tryz.prog w=.ok (.agg #[.bool false,.int .i64 0]) w:=by kernel_rfl
theorem next_none (t n s:Int) (A:Option Addr) (len c:Nat) (ps:List Gr.Pr) (i:Nat) (fr:Int) (w:World) (B:Nat) (hlen:len=ps.length) (hr:Prs w B A ps) (hB:B≤w.heap.size) (hi:i < ps.length) :
  Calls Tryz.prog 85 #[.agg #[.int .i64 t,.int .i64 n,.int .i64 s,.slice A len c],.agg #[.int .i64 (i:Int),.int .i64 (ps[i].right.length:Int),.int .i64 fr]] w fun e w'=>e=.returned (.tuple #[.agg #[.bool false,.int .i64 0],.bool false])∧Bl w w':=by
 have HK1:Hid (Bk (((w.alloc (.cells #[.int .i64 t,.int .i64 n,.int .i64 s,.slice A len c] 24)).alloc (.cells #[.int .i64 (i:Int),.int .i64 (ps[i].right.length:Int),.int .i64 fr] 44)).alloc (.cells #[.bool false,.int .i64 0] 39)) w.heap.size 24 #[.int .i64 t,.int .i64 n,.int .i64 s,.slice A len c]):=((Bk.new w _ _).alloc _).alloc _
 have HK2:Hid (Bk (((w.alloc (.cells #[.int .i64 t,.int .i64 n,.int .i64 s,.slice A len c] 24)).alloc (.cells #[.int .i64 (i:Int),.int .i64 (ps[i].right.length:Int),.int .i64 fr] 44)).alloc (.cells #[.bool false,.int .i64 0] 39)) (w.heap.size + 1) 44 #[.int .i64 (i:Int),.int .i64 (ps[i].right.length:Int),.int .i64 fr]):=by
  have h:=(Bk.new (w.alloc (.cells #[.int .i64 t,.int .i64 n,.int .i64 s,.slice A len c] 24)) 44 #[.int .i64 (i:Int),.int .i64 (ps[i].right.length:Int),.int .i64 fr]).alloc (.cells #[.bool false,.int .i64 0] 39)
  rw [World.size_alloc] at h
  exact h
 have HK3:Hid (Bk (((w.alloc (.cells #[.int .i64 t,.int .i64 n,.int .i64 s,.slice A len c] 24)).alloc (.cells #[.int .i64 (i:Int),.int .i64 (ps[i].right.length:Int),.int .i64 fr] 44)).alloc (.cells #[.bool false,.int .i64 0] 39)) (w.heap.size + 1 + 1) 39 #[.bool false,.int .i64 0]):=by
  have h:=Bk.new ((w.alloc (.cells #[.int .i64 t,.int .i64 n,.int .i64 s,.slice A len c] 24)).alloc (.cells #[.int .i64 (i:Int),.int .i64 (ps[i].right.length:Int),.int .i64 fr] 44)) 39 #[.bool false,.int .i64 0]
  rw [World.size_alloc,World.size_alloc] at h
  exact h
 have HB1:Hid (Bl w (((w.alloc (.cells #[.int .i64 t,.int .i64 n,.int .i64 s,.slice A len c] 24)).alloc (.cells #[.int .i64 (i:Int),.int .i64 (ps[i].right.length:Int),.int .i64 fr] 44)).alloc (.cells #[.bool false,.int .i64 0] 39))):=(((Bl.refl w).alloc _).alloc _).alloc _
 obtain ⟨b,off,Ax,cx,rfl,hbB,hrx,hc0,hc1⟩:=(hr.bl hB HB1.out).at_ hi
 have hbl:b < (((w.alloc (.cells #[.int .i64 t,.int .i64 n,.int .i64 s,.slice (some ⟨b,off,none⟩) len c] 24)).alloc (.cells #[.int .i64 (i:Int),.int .i64 (ps[i].right.length:Int),.int .i64 fr] 44)).alloc (.cells #[.bool false,.int .i64 0] 39)).heap.size:=Nat.lt_of_lt_of_le hbB (Nat.le_trans hB HB1.out.size)
 have i0:(0:Int)≤(i:Int):=by omega
 have i1:(i:Int) < (len:Int):=by omega
 have HL:=Lib.hid hlen
 clear hr hrx hc0 hlen
 generalize ps[i].right.length=d at *
 go_enter Tryz.func85,Tryz.ntmps85
 have k3:=HK1.out.cell 3
 have j0:=HK2.out.cell 0
 have j1:=HK2.out.cell 1
 go_upto_region 3 with fail
 generalize ((w.alloc (.cells #[.int .i64 t,.int .i64 n,.int .i64 s,.slice (some ⟨b,off,none⟩) len c] 24)).alloc (.cells #[.int .i64 (i:Int),.int .i64 (d:Int),.int .i64 fr] 44)).alloc (.cells #[.bool false,.int .i64 0] 39)=w1 at *
 have s0:=HK3.out.cell 0
 have s1:=HK3.out.cell 1
 have f0:=HK3.out.free 0
 have f1:=HK3.out.free 1
 have l0:=HK3.out.lt
 go_wp2_with (refine wpList_build_none rfl 39 rfl #[.bool false,.int .i64 0] build0_sym ?_)
 try simp only [Exit.inBlock,Exit.then]
 refine bodyPost_ret (results_cell_st rfl _ _ (w.heap.size + 1 + 1) 39 #[.bool false,.int .i64 0] _ rfl ((HK3.out.put 0 _).put 1 _) Tryz.underlying39 rfl sym_size) rfl ?_
 exact ⟨rfl,(((Fr.of_bl (S:=fun k=>k=w.heap.size + 1 + 1) HB1.out).own 0 _).own 1 _).bl (fun i hi e=>by omega)⟩
theorem next_some (t n s:Int) (A:Option Addr) (len c:Nat) (ps:List Gr.Pr) (i d:Nat) (fr:Int) (w:World) (B:Nat) (hlen:len=ps.length) (hr:Prs w B A ps) (hB:B≤w.heap.size) (hi:i < ps.length) (hd:d < ps[i].right.length) :
  Calls Tryz.prog 85 #[.agg #[.int .i64 t,.int .i64 n,.int .i64 s,.slice A len c],.agg #[.int .i64 (i:Int),.int .i64 (d:Int),.int .i64 fr]] w fun e w'=>e=.returned (.tuple #[.agg #[.bool ps[i].right[d].non,.int .i64 ps[i].right[d].n],.bool true])∧Bl w w':=by
 have HK1:Hid (Bk (((w.alloc (.cells #[.int .i64 t,.int .i64 n,.int .i64 s,.slice A len c] 24)).alloc (.cells #[.int .i64 (i:Int),.int .i64 (d:Int),.int .i64 fr] 44)).alloc (.cells #[.bool false,.int .i64 0] 39)) w.heap.size 24 #[.int .i64 t,.int .i64 n,.int .i64 s,.slice A len c]):=((Bk.new w _ _).alloc _).alloc _
 have HK2:Hid (Bk (((w.alloc (.cells #[.int .i64 t,.int .i64 n,.int .i64 s,.slice A len c] 24)).alloc (.cells #[.int .i64 (i:Int),.int .i64 (d:Int),.int .i64 fr] 44)).alloc (.cells #[.bool false,.int .i64 0] 39)) (w.heap.size + 1) 44 #[.int .i64 (i:Int),.int .i64 (d:Int),.int .i64 fr]):=by
  have h:=(Bk.new (w.alloc (.cells #[.int .i64 t,.int .i64 n,.int .i64 s,.slice A len c] 24)) 44 #[.int .i64 (i:Int),.int .i64 (d:Int),.int .i64 fr]).alloc (.cells #[.bool false,.int .i64 0] 39)
  rw [World.size_alloc] at h
  exact h
 have HK3:Hid (Bk (((w.alloc (.cells #[.int .i64 t,.int .i64 n,.int .i64 s,.slice A len c] 24)).alloc (.cells #[.int .i64 (i:Int),.int .i64 (d:Int),.int .i64 fr] 44)).alloc (.cells #[.bool false,.int .i64 0] 39)) (w.heap.size + 1 + 1) 39 #[.bool false,.int .i64 0]):=by
  have h:=Bk.new ((w.alloc (.cells #[.int .i64 t,.int .i64 n,.int .i64 s,.slice A len c] 24)).alloc (.cells #[.int .i64 (i:Int),.int .i64 (d:Int),.int .i64 fr] 44)) 39 #[.bool false,.int .i64 0]
  rw [World.size_alloc,World.size_alloc] at h
  exact h
 have HB1:Hid (Bl w (((w.alloc (.cells #[.int .i64 t,.int .i64 n,.int .i64 s,.slice A len c] 24)).alloc (.cells #[.int .i64 (i:Int),.int .i64 (d:Int),.int .i64 fr] 44)).alloc (.cells #[.bool false,.int .i64 0] 39))):=(((Bl.refl w).alloc _).alloc _).alloc _
 obtain ⟨b,off,Ax,cx,rfl,hbB,hrx,hc0,hc1⟩:=(hr.bl hB HB1.out).at_ hi
 have hbl:b < (((w.alloc (.cells #[.int .i64 t,.int .i64 n,.int .i64 s,.slice (some ⟨b,off,none⟩) len c] 24)).alloc (.cells #[.int .i64 (i:Int),.int .i64 (d:Int),.int .i64 fr] 44)).alloc (.cells #[.bool false,.int .i64 0] 39)).heap.size:=Nat.lt_of_lt_of_le hbB (Nat.le_trans hB HB1.out.size)
 have i0:(0:Int)≤(i:Int):=by omega
 have i1:(i:Int) < (len:Int):=by omega
 have HL:=Lib.hid hlen
 have HRx:=Lib.hid (hrx.sym hd)
 have d0:(0:Int)≤(d:Int):=by omega
 have d1:(d:Int) < (ps[i].right.length:Int):=by omega
 have hq:((d:Int) == (ps[i].right.length:Int))=false:=by rw [beq_eq_false_iff_ne];omega
 clear hr hrx hc0 hlen
 generalize ps[i].right[d]=y at *
 clear hd
 generalize ps[i].right.length=rl at *
 obtain ⟨yb,yn⟩:=y
 go_enter Tryz.func85,Tryz.ntmps85
 have k3:(((w.alloc (.cells #[.int .i64 t,.int .i64 n,.int .i64 s,.slice (some ⟨b,off,none⟩) len c] 24)).alloc (.cells #[.int .i64 (i:Int),.int .i64 (d:Int),.int .i64 fr] 44)).alloc (.cells #[.bool false,.int .i64 0] 39)).cell? ⟨w.heap.size,3,none⟩=some (.slice (some ⟨b,off,none⟩) len c):=HK1.out.cell 3
 have j0:(((w.alloc (.cells #[.int .i64 t,.int .i64 n,.int .i64 s,.slice (some ⟨b,off,none⟩) len c] 24)).alloc (.cells #[.int .i64 (i:Int),.int .i64 (d:Int),.int .i64 fr] 44)).alloc (.cells #[.bool false,.int .i64 0] 39)).cell? ⟨w.heap.size + 1,0,none⟩=some (.int .i64 (i:Int)):=HK2.out.cell 0
 have j1:(((w.alloc (.cells #[.int .i64 t,.int .i64 n,.int .i64 s,.slice (some ⟨b,off,none⟩) len c] 24)).alloc (.cells #[.int .i64 (i:Int),.int .i64 (d:Int),.int .i64 fr] 44)).alloc (.cells #[.bool false,.int .i64 0] 39)).cell? ⟨w.heap.size + 1,1,none⟩=some (.int .i64 (d:Int)):=HK2.out.cell 1
 go_upto_region 3 with fail
 generalize ((w.alloc (.cells #[.int .i64 t,.int .i64 n,.int .i64 s,.slice (some ⟨b,off,none⟩) len c] 24)).alloc (.cells #[.int .i64 (i:Int),.int .i64 (d:Int),.int .i64 fr] 44)).alloc (.cells #[.bool false,.int .i64 0] 39)=w1 at *
 obtain ⟨b2,o2,rfl,hb2,q0,q1⟩:=HRx.out
 have hbl2:b2 < w1.heap.size:=Nat.lt_of_lt_of_le hb2 (Nat.le_trans hB HB1.out.size)
 have s0:=HK3.out.cell 0
 have s1:=HK3.out.cell 1
 have f0:=HK3.out.free 0
 have f1:=HK3.out.free 1
 have l0:=HK3.out.lt
 have hh:((Instr.indexAt 40 (.slice (some ⟨b2,o2,none⟩) rl cx) (.int .i64 (d:Int))).run Tryz.prog w1)=.ok (.pointer (some ⟨b2,o2 + d * 2,none⟩)) w1:=by go_simp
 go_wp2_with fail
 rw [hh]
 go_simp
 go_wp2_with fail
 try simp only [Exit.inBlock,Exit.then]
 refine bodyPost_ret (results_cell_st rfl _ _ (w.heap.size + 1 + 1) 39 #[.bool yb,.int .i64 yn] _ rfl ((HK3.out.put 0 _).put 1 _) Tryz.underlying39 rfl sym_size) rfl ?_
 exact ⟨rfl,(((Fr.of_bl (S:=fun k=>k=w.heap.size + 1 + 1) HB1.out).own 0 _).own 1 _).bl (fun i hi e=>by omega)⟩
end Go.Proofs.YtdfhhbncmdpoeaaGreat
namespace Go.Proofs.YtdfhhbncmdpoeaaGreat
open Go.RowKit
open Ch (St)
def imIn (g:Gr.Gm) (y:Ch.Im):Prop:=∃ p,g.prods[y.prod]?=some p∧y.dot≤p.right.length
def nxt (g:Gr.Gm) (y:Ch.Im):Gr.Sy:=(Ch.symAt g y).getD ⟨false,0⟩
theorem next_at (t n s:Int) (A:Option Addr) (len c:Nat) (ps:List Gr.Pr) (y:Ch.Im) (w:World) (B:Nat) (hlen:len=ps.length) (hr:Prs w B A ps) (hB:B≤w.heap.size) (hy:imIn ⟨t,n,s,ps⟩ y) :
  Calls Tryz.prog 85 #[.agg #[.int .i64 t,.int .i64 n,.int .i64 s,.slice A len c],.agg #[.int .i64 (y.prod:Int),.int .i64 (y.dot:Int),.int .i64 (y.frm:Int)]] w fun e w'=>
   e=.returned (.tuple #[.agg #[.bool (nxt ⟨t,n,s,ps⟩ y).non,.int .i64 (nxt ⟨t,n,s,ps⟩ y).n],.bool (Ch.symAt ⟨t,n,s,ps⟩ y).isSome])∧Bl w w':=by
 obtain ⟨p,hp,hd⟩:=hy
 have hi:=Ch.lt_of_get hp
 have hp2:ps[y.prod]'hi=p:=by have h:ps[y.prod]?=some p:=hp;rw [List.getElem?_eq_getElem hi] at h;injection h
 subst hp2
 unfold nxt
 rcases Nat.lt_or_ge y.dot (ps[y.prod]'hi).right.length with h | h
 ·have e:Ch.symAt ⟨t,n,s,ps⟩ y=some ((ps[y.prod]'hi).right[y.dot]'h):=Ch.symAt_iff.2 ⟨_,hp,List.getElem?_eq_getElem h⟩
  rw [e]
  exact next_some t n s A len c ps y.prod y.dot y.frm w B hlen hr hB hi h
 ·have e0:y.dot=(ps[y.prod]'hi).right.length:=by omega
  have e:Ch.symAt ⟨t,n,s,ps⟩ y=none:=(Ch.symAt_none hp hd).2 e0
  rw [e,e0]
  exact next_none t n s A len c ps y.prod y.frm w B hlen hr hB hi
theorem nxt_some {g:Gr.Gm} {y:Ch.Im} (h:(Ch.symAt g y).isSome=true):Ch.symAt g y=some (nxt g y):=by
 unfold nxt
 cases e:Ch.symAt g y with
 | none=>rw [e] at h;cases h
 | some s=>rfl
theorem nxt_none {g:Gr.Gm} {y:Ch.Im} (h:(Ch.symAt g y).isSome=false):Ch.symAt g y=none:=by
 cases e:Ch.symAt g y with
 | none=>rfl
 | some s=>rw [e] at h;cases h
theorem rd_pre {w:World} {B:Nat} {A:Option Addr} {l m:List Ch.Im} (h:Rd w B A (imRow m)) (hp:l <+: m):Rd w B A (imRow l):=by
 obtain ⟨r,rfl⟩:=hp
 rw [imRow_append] at h
 intro hn
 obtain ⟨b,off,e,hb,hc⟩:=h (by rw [List.length_append];omega)
 refine ⟨b,off,e,hb,fun j u hu=>hc j u ?_⟩
 have hj:j < (imRow l).length:=by
  rcases Nat.lt_or_ge j (imRow l).length with h | h
  ·exact h
  ·rw [List.getElem?_eq_none h] at hu;cases hu
 rw [List.getElem?_append_left hj]
 exact hu
theorem adds_le (l xs:List Ch.Im):(Kn.adds l xs).length≤l.length + xs.length:=by
 rw [Kn.adds_length];have:=Kn.gains_le xs l;omega
theorem begs_len (g:Gr.Gm) (a:Nat) (n:Int):(Ch.begs g a n).length≤g.prods.length:=by
 unfold Ch.begs Ch.ofN
 rw [List.length_map]
 exact Nat.le_trans (List.length_filter_le _ _) (by rw [List.length_range];exact Nat.le_refl _)
theorem take_snoc {α:Type} {l:List α} {k:Nat} (h:k < l.length):l.take (k + 1)=l.take k ++ [l[k]]:=by
 rw [List.take_add_one,List.getElem?_eq_getElem h];rfl
end Go.Proofs.YtdfhhbncmdpoeaaGreat
