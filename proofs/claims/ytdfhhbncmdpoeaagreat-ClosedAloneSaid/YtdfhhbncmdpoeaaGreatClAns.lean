/- probatelaw09.Large: what is more than the laws of ranks (and later ones) look at. -/
import Derived.Test.YtdfhhbncmdpoeaaGreatFactS
import Derived.Test.YtdfhhbncmdpoeaaGreatBaseS
import Derived.Test.YtdfhhbncmdpoeaaGreatClAln
import Derived.BigFrame
set_option maxRecDepth 100000
set_option maxHeartbeats 3200000
namespace Go.Proofs.YtdfhhbncmdpoeaaGreat
open Go.RowKit
def lgB (ps:List Gr.Pr):Bool:=!(decide (ps.length≤100) && ps.all fun p=>decide (p.right.length≤20))
theorem lgB_false {ps:List Gr.Pr} (h:lgB ps=false):ps.length≤100∧∀ p ∈ ps,p.right.length≤20:=by
 unfold lgB at h
 simp only [Bool.not_eq_false',Bool.and_eq_true,decide_eq_true_eq,List.all_eq_true] at h
 exact h
theorem lgB_of {ps:List Gr.Pr} (h:ps.length≤100) (hx:∀ p ∈ ps,p.right.length≤20):lgB ps=false:=by
 unfold lgB
 simp only [Bool.not_eq_false',Bool.and_eq_true,decide_eq_true_eq,List.all_eq_true]
 exact ⟨h,hx⟩
theorem lgB_long {ps:List Gr.Pr} (h:100 < ps.length):lgB ps=true:=by unfold lgB;rw [decide_eq_false (by omega)];rfl
theorem lgB_one {ps:List Gr.Pr} {k:Nat} (h:k < ps.length) (hx:20 < ps[k].right.length):lgB ps=true:=by
 cases hl:lgB ps with
 | true=>rfl
 | false=>have:=(lgB_false hl).2 _ (List.getElem_mem h);omega
theorem large9_any (t n s:Int) (A:Option Addr) (len c:Nat) (ps:List Gr.Pr) (w:World) (B:Nat) (hlen:len=ps.length) (hmax:len≤9223372036854775807) (hr:Prs w B A ps) (hB:B≤w.heap.size) :
  Calls Tryz.prog 14 #[.agg #[.int .i64 t,.int .i64 n,.int .i64 s,.slice A len c]] w fun e w'=>e=.returned (.bool (lgB ps))∧Bl w w':=by
 have HL:=Lib.hid hlen;clear hlen
 have HA:=Lib.hid hr;clear hr
 have HB0:Hid (Bl w (w.alloc (.cells #[.int .i64 t,.int .i64 n,.int .i64 s,.slice A len c] 24))):=(Bl.refl w).alloc _
 by_cases h100:100 < len
 ·have HG:Hid (lgB ps=true):=lgB_long (by rw [← HL.out];exact h100)
  go_enter Tryz.func14,Tryz.ntmps14
  go_wp2_with fail
  go_ret
  exact ⟨by rw [HG.out];rfl,HB0.out⟩
 ·go_enter Tryz.func14,Tryz.ntmps14
  go_wp2_with fail
  generalize hw0:w.alloc (.cells #[.int .i64 t,.int .i64 n,.int .i64 s,.slice A len c] 24)=w0 at HB0 ⊢
  have HW0:=Lib.hid hw0;clear hw0
  go_loopw [12] (fun i wr=>∃ k:Nat,k≤len∧i=.int .i64 k∧Hid (∀ x ∈ ps.take k,x.right.length≤20)∧Hid (Bl w0 wr)) (fun i _=>len - (intOf i).toNat)
  case atStart=>exact ⟨0,Nat.zero_le _,rfl,by simp [Hid],Bl.refl w0⟩
  case round=>
   obtain ⟨k,hk,rfl,HF,HB⟩:=hrel
   by_cases hlt:k < len
   ·have hj:k < ps.length:=by have:=HL.out;omega
    obtain ⟨b,off,Ax,cx,rfl,hbB,hrx,hc0,hc1⟩:=(HA.out.bl hB (HB0.out.trans HB.out)).at_ hj
    have HBad:=Lib.hid (fun h=>lgB_one hj h)
    have HGood:=Lib.hid (all_snoc (P:=fun x:Gr.Pr=>x.right.length≤20) hj HF.out)
    generalize ps[k]=x at *
    obtain ⟨xl,xs⟩:=x
    simp only at hc0 hc1 HBad HGood
    clear hj hrx
    by_cases hx:20 < xs.length
    ·have HG:=Lib.hid (HBad.out hx)
     go_wp2_with fail
     go_ret
     exact ⟨by rw [HG.out];rfl,(HB0.out.trans HB.out).alloc _⟩
    ·have HY:=Lib.hid (HGood.out (by omega))
     go_wp2_with fail
     go_roundw
     case rel=>exact ⟨k + 1,by omega,by go_num,HY.out,HB.out.alloc _⟩
     case measure=>simp [intOf];omega
   ·go_wp2_with fail
    go_ret
    have hg:lgB ps=false:=lgB_of (by have:=HL.out;omega) (by
     have h:=HF.out
     rw [List.take_of_length_le (by have:=HL.out;omega)] at h
     exact h)
    exact ⟨by rw [hg];rfl,HB0.out.trans HB.out⟩
end Go.Proofs.YtdfhhbncmdpoeaaGreat
namespace Go.Proofs.YtdfhhbncmdpoeaaGreat
open Go.RowKit
def lg17 (ps:List Gr.Pr) (lw:Nat):Bool:=lgB ps || decide (20 < ps.length) || (decide (8 < lw) && decide (lw≤24)) || decide (40 < lw)
theorem large17_any (t n s:Int) (A:Option Addr) (len c:Nat) (ps:List Gr.Pr) (Aw:Option Addr) (lw cw:Nat) (w:World) (B:Nat) (hlen:len=ps.length) (hmax:len≤9223372036854775807) (hmw:lw≤9223372036854775807) (hr:Prs w B A ps) (hB:B≤w.heap.size) :
  Calls Tryz.prog 5 #[.agg #[.int .i64 t,.int .i64 n,.int .i64 s,.slice A len c],.slice Aw lw cw] w fun e w'=>e=.returned (.bool (lg17 ps lw))∧Bl w w':=by
 have HB0:Hid (Bl w (w.alloc (.cells #[.int .i64 t,.int .i64 n,.int .i64 s,.slice A len c] 24))):=(Bl.refl w).alloc _
 have HK0:=Lib.hid (Bk.new w 24 #[.int .i64 t,.int .i64 n,.int .i64 s,.slice A len c])
 have HLa:=Lib.hid (large9_any t n s A len c ps (w.alloc (.cells #[.int .i64 t,.int .i64 n,.int .i64 s,.slice A len c] 24)) B hlen hmax (hr.bl hB HB0.out) (Nat.le_trans hB HB0.out.size))
 have HG:Hid (lg17 ps lw=(lgB ps || decide (20 < len) || (decide (8 < lw) && decide (lw≤24)) || decide (40 < lw))):=by rw [hlen];rfl
 clear hr hlen
 cases hl:lgB ps with
 | true=>
  rw [hl] at HLa HG
  clear hl
  have HGt:Hid (lg17 ps lw=true):=by unfold Hid;rw [HG.out];simp
  go_enter Tryz.func5,Tryz.ntmps5
  go_wp2_with fail
  refine HLa.out.mono ?_
  rintro e w1 ⟨rfl,hb1⟩
  have HB1:=Lib.hid (HB0.out.trans hb1)
  clear hb1
  go_wp2_with fail
  go_ret
  exact ⟨by rw [HGt.out];rfl,HB1.out⟩
 | false=>
  rw [hl] at HLa HG
  clear hl
  have key:(20 < len)∨(¬ 20 < len∧8 < lw∧lw≤24)∨(¬ 20 < len∧8 < lw∧¬ lw≤24∧40 < lw)∨(¬ 20 < len∧8 < lw∧¬ lw≤24∧¬ 40 < lw)∨(¬ 20 < len∧¬ 8 < lw∧¬ 40 < lw):=by omega
  go_enter Tryz.func5,Tryz.ntmps5
  go_wp2_with fail
  refine HLa.out.mono ?_
  rintro e w1 ⟨rfl,hb1⟩
  have HB1:=Lib.hid (HB0.out.trans hb1)
  have HK1:=Lib.hid (HK0.out.bl hb1)
  have k3:w1.cell? ⟨w.heap.size,3,none⟩=some (.slice A len c):=HK1.out.cell 3
  have kl:=HK1.out.lt
  clear hb1
  rcases key with k1 | ⟨k1,k2,k3'⟩ | ⟨k1,k2,k3',k4⟩ | ⟨k1,k2,k3',k4⟩ | ⟨k1,k2,k4⟩
  ·have HGt:Hid (lg17 ps lw=true):=by unfold Hid;rw [HG.out,decide_eq_true k1];simp
   have d1:decide ((20:Int) < (len:Int))=true:=decide_eq_true (by omega)
   clear k1
   go_wp2_with fail
   go_ret
   exact ⟨by rw [HGt.out];rfl,HB1.out⟩
  ·have HGt:Hid (lg17 ps lw=true):=by unfold Hid;rw [HG.out,decide_eq_true k2,decide_eq_true k3'];simp
   have d1:decide ((20:Int) < (len:Int))=false:=decide_eq_false (by omega)
   have d2:decide ((8:Int) < (lw:Int))=true:=decide_eq_true (by omega)
   have d3:decide ((lw:Int)≤(24:Int))=true:=decide_eq_true (by omega)
   clear k1 k2 k3'
   go_wp2_with fail
   go_ret
   exact ⟨by rw [HGt.out];rfl,HB1.out⟩
  ·have HGt:Hid (lg17 ps lw=true):=by unfold Hid;rw [HG.out,decide_eq_true k4];simp
   have d1:decide ((20:Int) < (len:Int))=false:=decide_eq_false (by omega)
   have d2:decide ((8:Int) < (lw:Int))=true:=decide_eq_true (by omega)
   have d3:decide ((lw:Int)≤(24:Int))=false:=decide_eq_false (by omega)
   have d4:decide ((40:Int) < (lw:Int))=true:=decide_eq_true (by omega)
   clear k1 k2 k3' k4
   go_wp2_with fail
   go_ret
   exact ⟨by rw [HGt.out];rfl,HB1.out⟩
  ·have HGt:Hid (lg17 ps lw=false):=by unfold Hid;rw [HG.out,decide_eq_false k1,decide_eq_false k3',decide_eq_false k4];simp
   have d1:decide ((20:Int) < (len:Int))=false:=decide_eq_false (by omega)
   have d2:decide ((8:Int) < (lw:Int))=true:=decide_eq_true (by omega)
   have d3:decide ((lw:Int)≤(24:Int))=false:=decide_eq_false (by omega)
   have d4:decide ((40:Int) < (lw:Int))=false:=decide_eq_false (by omega)
   clear k1 k2 k3' k4
   go_wp2_with fail
   go_ret
   exact ⟨by rw [HGt.out];rfl,HB1.out⟩
  ·have HGt:Hid (lg17 ps lw=false):=by unfold Hid;rw [HG.out,decide_eq_false k1,decide_eq_false k2,decide_eq_false k4];simp
   have d1:decide ((20:Int) < (len:Int))=false:=decide_eq_false (by omega)
   have d2:decide ((8:Int) < (lw:Int))=false:=decide_eq_false (by omega)
   have d4:decide ((40:Int) < (lw:Int))=false:=decide_eq_false (by omega)
   clear k1 k2 k4
   go_wp2_with fail
   go_ret
   exact ⟨by rw [HGt.out];rfl,HB1.out⟩
theorem lrd_new (w:World) (t:TypeId) (cs:Array Value) {xs:List Value} (h:cs.toList=xs) {g:Nat} (hg:g=w.heap.size):Rd (w.alloc (.cells cs t)) (w.alloc (.cells cs t)).heap.size (some ⟨g,0,none⟩) xs:=by
 subst h hg
 exact (rd_newB w t cs).more (by simp)
theorem lrd_on {w w':World} {A:Option Addr} {xs:List Value} (h:Rd w w.heap.size A xs) (hb:Bl w w'):Rd w' w'.heap.size A xs:=(h.bl (Nat.le_refl _) hb).more hb.size
theorem lprs_on {w w':World} {A:Option Addr} {ps:List Gr.Pr} (h:PrsC w w.heap.size A ps) (hb:Bl w w'):PrsC w' w'.heap.size A ps:=(h.bl (Nat.le_refl _) hb).more hb.size
end Go.Proofs.YtdfhhbncmdpoeaaGreat
namespace Go.Proofs.YtdfhhbncmdpoeaaGreat
open Go.RowKit
def allB (g:Gr.Gm) (xs:List Int) (m:Nat) (P:List St4):Bool:=
 (begL g (g.start,0)).all (fun s=>decide (s ∈ P)) && P.all (fun t=>match Ch.waitOf g t with | some x=>(begL g x).all fun s=>decide (s ∈ P) | none=>true) &&
 P.all (fun t=>match Ch.symAt g t.2 with | some y=>!decide (y.non=false∧t.1 < m∧xs[t.1]?=some y.n) || decide ((t.1 + 1,(⟨t.2.prod,t.2.dot + 1,t.2.frm⟩:Ch.Im)) ∈ P) | none=>true) &&
 (Ch.endL g P).all (fun e=>(Ch.waitL g P (e.1,e.2.1)).all fun y=>decide ((e.2.2,(⟨y.prod,y.dot + 1,y.frm⟩:Ch.Im)) ∈ P))
theorem wait_ne {g:Gr.Gm} {P:List St4} {x:Int × Nat}:Ch.waitL g P x≠[]↔∃ t ∈ P,Ch.waitOf g t=some x:=by
 unfold Ch.waitL
 constructor
 ·intro h
  obtain ⟨y,hy⟩:=List.exists_mem_of_ne_nil _ h
  obtain ⟨t,ht,_⟩:=List.mem_map.1 hy
  rw [List.mem_filter] at ht
  exact ⟨t,ht.1,of_decide_eq_true ht.2⟩
 ·rintro ⟨t,ht,h⟩ e
  have h2:t.2 ∈ (P.filter fun s=>decide (Ch.waitOf g s=some x)).map (·.2):=List.mem_map.2 ⟨t,List.mem_filter.2 ⟨ht,decide_eq_true h⟩,rfl⟩
  rw [e] at h2
  cases h2
theorem allB_iff {g:Gr.Gm} {xs:List Int} {m:Nat} {P:List St4}:allB g xs m P=true↔AllIn g xs m P:=by
 unfold allB AllIn
 rw [Bool.and_eq_true,Bool.and_eq_true,Bool.and_eq_true,List.all_eq_true,List.all_eq_true,List.all_eq_true,List.all_eq_true,and_assoc,and_assoc]
 refine and_congr ?_ (and_congr ?_ (and_congr ?_ ?_))
 ·exact forall_congr' fun s=>⟨fun h hs=>of_decide_eq_true (h hs),fun h hs=>decide_eq_true (h hs)⟩
 ·constructor
  ·rintro h s ⟨x,hx,hs⟩
   obtain ⟨t,ht,hw⟩:=wait_ne.1 hx
   have h1:=h t ht
   rw [hw] at h1
   exact of_decide_eq_true (List.all_eq_true.1 h1 s hs)
  ·intro h t ht
   cases hw:Ch.waitOf g t with
   | none=>rfl
   | some x=>exact List.all_eq_true.2 fun s hs=>decide_eq_true (h s ⟨x,wait_ne.2 ⟨t,ht,hw⟩,hs⟩)
 ·constructor
  ·rintro h s ⟨t,ht,y,hy,h1,h2,h3,rfl⟩
   have h4:=h t ht
   rw [hy] at h4
   simp only [decide_eq_true (show y.non=false∧t.1 < m∧xs[t.1]?=some y.n from ⟨h1,h2,h3⟩),Bool.not_true,Bool.false_or] at h4
   exact of_decide_eq_true h4
  ·intro h t ht
   cases hy:Ch.symAt g t.2 with
   | none=>rfl
   | some y=>
    show (!decide (y.non=false∧t.1 < m∧xs[t.1]?=some y.n) || decide _)=true
    by_cases hc:y.non=false∧t.1 < m∧xs[t.1]?=some y.n
    ·rw [decide_eq_true (h _ ⟨t,ht,y,hy,hc.1,hc.2.1,hc.2.2,rfl⟩),Bool.or_true]
    ·rw [decide_eq_false hc];rfl
 ·constructor
  ·rintro h s ⟨e,he,y,hy,rfl⟩
   exact of_decide_eq_true (List.all_eq_true.1 (h e he) y hy)
  ·intro h e he
   exact List.all_eq_true.2 fun y hy=>decide_eq_true (h _ ⟨e,he,y,hy,rfl⟩)
def closedB (g:Gr.Gm) (xs:List Int) (L:List (List Ix)):Bool:=keepB g xs.length L && allB g xs (L.length - 1) (putS (doneS L L.length 0))
theorem closedB_iff {g:Gr.Gm} {xs:List Int} {L:List (List Ix)}:closedB g xs L=true↔ClosedP g xs L:=by
 unfold closedB ClosedP
 rw [Bool.and_eq_true,allB_iff]
def ps19:List Gr.Pr:=[⟨0,[⟨false,0⟩]⟩]
def ls19:List (List Ix):=[[⟨0,0,0⟩],[⟨0,1,0⟩]]
theorem c19a:closedB ⟨1,1,0,ps19⟩ [0] ls19=true:=by kernel_rfl
theorem c19b:closedB ⟨1,1,0,ps19⟩ [0] [[⟨0,0,0⟩],[]]=false:=by kernel_rfl
theorem c19c:closedB ⟨1,1,0,ps19⟩ [0] (ls19.take 1)=true:=by kernel_rfl
theorem c19d:closedB ⟨1,1,0,ps19⟩ [] ls19=false:=by kernel_rfl
theorem r19a:Dv.replayOf (okB ⟨1,1,0,ps19⟩) ⟨1,1,0,ps19⟩ [0]=([0],0):=by kernel_rfl
theorem r19b:(Dv.replayOf (okB ⟨1,1,0,ps19⟩) ⟨1,1,0,ps19⟩ []).2≠0:=by
 have h:(Dv.replayOf (okB ⟨1,1,0,ps19⟩) ⟨1,1,0,ps19⟩ []).2=3:=by kernel_rfl
 rw [h];decide
theorem a19a:AloneP ⟨1,1,0,ps19⟩ [0] ls19 [0]:=by
 refine ⟨rfl,r19a,closedB_iff.1 c19a,fun nd hnd=>?_⟩
 obtain ⟨m,nds,pl,hl,hd⟩:=nds_of r19a
 rintro ⟨i,row,hm,ho⟩
 have hok:=nds_ok hl hd (by decide) hnd
 obtain ⟨i2,row2,e,hn⟩:=hok _ hm
 have hi:i=0:=by
  injection e with e1 e2
  have h3:i2 < 1:=hn.prod
  have e1:=Int.ofNat.inj e1
  omega
 subst hi
 rcases ho with ⟨p,j,q,h1,h2,h3,h4,h5⟩ | ⟨p,dot,s,fd,fe,h1,h2,h3,_⟩
 ·have h6:j < 1:=Ch.lt_of_get h2
  omega
 ·have h6:p=⟨0,[⟨false,0⟩]⟩:=(Option.some.inj h1).symm
  subst h6
  cases dot with
  | zero=>
   have h7:s=⟨false,0⟩:=(Option.some.inj h2).symm
   subst h7
   cases h3
  | succ d=>cases h2
theorem a19b:¬ AloneP ⟨1,1,0,ps19⟩ [0] ls19 []:=fun h=>r19b (by rw [h.2.1])
theorem a19c:¬ AloneP ⟨1,1,0,ps19⟩ [0] (ls19.take 1) [0]:=fun h=>by have:=h.1;simp [ls19] at this
end Go.Proofs.YtdfhhbncmdpoeaaGreat
