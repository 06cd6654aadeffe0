/- closed.may: may an item stand in a place's set? -/
import Derived.Test.YtdfhhbncmdpoeaaGreatClNext
import Derived.Test.YtdfhhbncmdpoeaaGreatClKey
set_option maxRecDepth 100000
set_option maxHeartbeats 2000000
namespace Go.Proofs.YtdfhhbncmdpoeaaGreat
open Go.RowKit
def standB (ps:List Gr.Pr) (a:Nat) (x:Ix):Bool:=mayIx ps x && decide (0≤x.frm∧x.frm≤(a:Int))
theorem standB_iff {ps:List Gr.Pr} {a:Nat} {x:Ix}:standB ps a x=true↔∃ y:Ch.Im,x=y.ix∧(∃ p,ps[y.prod]?=some p∧y.dot≤p.right.length)∧y.frm≤a:=by
 unfold standB
 rw [Bool.and_eq_true,mayIx_iff,decide_eq_true_eq]
 constructor
 ·rintro ⟨⟨i,d,p,h1,h2,h3,h4⟩,h5,h6⟩
  refine ⟨⟨i,d,x.frm.toNat⟩,?_,⟨p,h3,h4⟩,by show x.frm.toNat≤a;omega⟩
  obtain ⟨xp,xd,xf⟩:=x
  simp only at h1 h2 h5
  subst h1 h2
  unfold Ch.Im.ix
  simp only [Ix.mk.injEq,true_and]
  omega
 ·rintro ⟨y,rfl,⟨p,h3,h4⟩,h5⟩
  exact ⟨⟨y.prod,y.dot,p,rfl,rfl,h3,h4⟩,by unfold Ch.Im.ix;simp only;omega,by unfold Ch.Im.ix;simp only;omega⟩
theorem cmay_any (t n s:Int) (A:Option Addr) (len c:Nat) (ps:List Gr.Pr) (a:Nat) (x:Ix) (w:World) (B:Nat) (hlen:len=ps.length) (hr:Prs w B A ps) (hB:B≤w.heap.size) :
  Calls Tryz.prog 43 #[.agg #[.int .i64 t,.int .i64 n,.int .i64 s,.slice A len c],.int .i64 (a:Int),.agg #[.int .i64 x.prod,.int .i64 x.dot,.int .i64 x.frm]] w fun e w'=>e=.returned (.bool (standB ps a x))∧Bl w w':=by
 obtain ⟨xp,xd,xf⟩:=x
 have HK1:Hid (Bk ((w.alloc (.cells #[.int .i64 t,.int .i64 n,.int .i64 s,.slice A len c] 24)).alloc (.cells #[.int .i64 xp,.int .i64 xd,.int .i64 xf] 44)) w.heap.size 24 #[.int .i64 t,.int .i64 n,.int .i64 s,.slice A len c]):=(Bk.new w _ _).alloc _
 have HK2:Hid (Bk ((w.alloc (.cells #[.int .i64 t,.int .i64 n,.int .i64 s,.slice A len c] 24)).alloc (.cells #[.int .i64 xp,.int .i64 xd,.int .i64 xf] 44)) (w.heap.size + 1) 44 #[.int .i64 xp,.int .i64 xd,.int .i64 xf]):=by
  have h:=Bk.new (w.alloc (.cells #[.int .i64 t,.int .i64 n,.int .i64 s,.slice A len c] 24)) 44 #[.int .i64 xp,.int .i64 xd,.int .i64 xf]
  rw [World.size_alloc] at h
  exact h
 have HB1:Hid (Bl w ((w.alloc (.cells #[.int .i64 t,.int .i64 n,.int .i64 s,.slice A len c] 24)).alloc (.cells #[.int .i64 xp,.int .i64 xd,.int .i64 xf] 44))):=((Bl.refl w).alloc _).alloc _
 have HR:=Lib.hid (hr.bl hB HB1.out)
 have HL:=Lib.hid hlen
 have hBw:=Nat.le_trans hB HB1.out.size
 have HDf:Hid (standB ps a ⟨xp,xd,xf⟩=(mayIx ps ⟨xp,xd,xf⟩ && decide (0≤xf∧xf≤(a:Int)))):=rfl
 have HMd:Hid (mayIx ps ⟨xp,xd,xf⟩=(decide (0≤xp∧xp < (ps.length:Int)∧0≤xd) && (match ps[xp.toNat]? with | some p=>decide (xd≤(p.right.length:Int)) | none=>false))):=rfl
 clear hr hlen
 go_enter Tryz.func43,Tryz.ntmps43
 go_upto_region 1 with fail
 generalize (w.alloc (.cells #[.int .i64 t,.int .i64 n,.int .i64 s,.slice A len c] 24)).alloc (.cells #[.int .i64 xp,.int .i64 xd,.int .i64 xf] 44)=w1 at *
 have k3:w1.cell? ⟨w.heap.size,3,none⟩=some (.slice A len c):=HK1.out.cell 3
 have j0:w1.cell? ⟨w.heap.size + 1,0,none⟩=some (.int .i64 xp):=HK2.out.cell 0
 have j1:w1.cell? ⟨w.heap.size + 1,1,none⟩=some (.int .i64 xd):=HK2.out.cell 1
 have j2:w1.cell? ⟨w.heap.size + 1,2,none⟩=some (.int .i64 xf):=HK2.out.cell 2
 have l1:=HK1.out.lt
 have l2:=HK2.out.lt
 by_cases h1:xp < 0
 ·have HQ:Hid (standB ps a ⟨xp,xd,xf⟩=false):=by
   show _=_
   rw [HDf.out,HMd.out,decide_eq_false (p:=0≤xp∧_) (by omega)];rfl
  go_wp2_with fail
  go_ret
  exact ⟨by rw [HQ.out];rfl,HB1.out⟩
 by_cases h2:(len:Int)≤xp
 ·have HQ:Hid (standB ps a ⟨xp,xd,xf⟩=false):=by
   have:=HL.out
   show _=_
   rw [HDf.out,HMd.out,decide_eq_false (p:=0≤xp∧_) (by omega)];rfl
  go_wp2_with fail
  go_ret
  exact ⟨by rw [HQ.out];rfl,HB1.out⟩
 by_cases h3:xf < 0
 ·have HQ:Hid (standB ps a ⟨xp,xd,xf⟩=false):=by
   show _=_
   rw [HDf.out,decide_eq_false (p:=0≤xf∧_) (by omega),Bool.and_false]
  go_wp2_with fail
  go_ret
  exact ⟨by rw [HQ.out];rfl,HB1.out⟩
 by_cases h4:(a:Int) < xf
 ·have HQ:Hid (standB ps a ⟨xp,xd,xf⟩=false):=by
   show _=_
   rw [HDf.out,decide_eq_false (p:=0≤xf∧_) (by omega),Bool.and_false]
  go_wp2_with fail
  go_ret
  exact ⟨by rw [HQ.out];rfl,HB1.out⟩
 have HS1:Hid (standB ps a ⟨xp,xd,xf⟩=mayIx ps ⟨xp,xd,xf⟩):=by
  show _=_
  rw [HDf.out,decide_eq_true (p:=0≤xf∧_) (by omega),Bool.and_true]
 have h4':¬ xf > (a:Int):=h4
 go_upto_region 3 with fail
 by_cases h5:(0:Int)≤xd
 ·obtain ⟨i,rfl⟩:∃ i:Nat,xp=(i:Int):=⟨xp.toNat,by omega⟩
  have hi:i < ps.length:=by have:=HL.out;omega
  obtain ⟨b,off,Ax,cx,rfl,hbB,hrx,hc0,hc1⟩:=HR.out.at_ hi
  have hbl:b < w1.heap.size:=Nat.lt_of_lt_of_le hbB hBw
  have HQ:Hid (standB ps a ⟨(i:Int),xd,xf⟩=decide (xd≤(ps[i].right.length:Int))):=by
   show _=_
   rw [HS1.out,HMd.out,decide_eq_true (p:=0≤(i:Int)∧_) (by omega),Bool.true_and]
   simp only [Int.toNat_natCast,List.getElem?_eq_getElem hi]
  have d3:decide ((0:Int)≤xd)=true:=decide_eq_true h5
  have i0:(0:Int)≤(i:Int):=by omega
  have i1:(i:Int) < (len:Int):=by omega
  clear hc0 hrx h1 h2 h3 h4
  generalize ps[i].right.length=rl at *
  go_quiet (fail)
  go_wp2_with fail
  go_ret
  exact ⟨by rw [HQ.out];rfl,HB1.out.drewN _⟩
 ·have HQ:Hid (standB ps a ⟨xp,xd,xf⟩=false):=by
   show _=_
   rw [HS1.out,HMd.out,decide_eq_false (p:=0≤xp∧_) (by omega)];rfl
  have d3:decide ((0:Int)≤xd)=false:=decide_eq_false h5
  go_quiet (fail)
  go_wp2_with fail
  go_ret
  exact ⟨by rw [HQ.out];rfl,HB1.out.drewN _⟩
end Go.Proofs.YtdfhhbncmdpoeaaGreat
