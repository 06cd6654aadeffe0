/- The reference's All: all steps, by productions, then by places. -/
import Derived.Test.YtdfhhbncmdpoeaaGreatLIs
import Derived.Test.YtdfhhbncmdpoeaaGreatBaseS
import Derived.Test.YtdfhhbncmdpoeaaGreatRRankS
set_option maxRecDepth 100000
set_option maxHeartbeats 8000000
namespace Go.Proofs.YtdfhhbncmdpoeaaGreat
open Go.RowKit
def stCells (x:Lf.Stp):List Value:=[.int .i64 x.1,.int .i64 x.2]
def stRow (l:List Lf.Stp):List Value:=rowN stCells l
theorem stCells_len (x:Lf.Stp):(stCells x).length=2:=rfl
theorem stRow_len (l:List Lf.Stp):(stRow l).length=l.length * 2:=rowN_len stCells_len l
theorem stRow_snoc (a:List Lf.Stp) (i k:Nat):stRow (a ++ [(i,k)])=stRow a ++ [.int .i64 i,.int .i64 k]:=rowN_snoc a _
theorem stRow_one (l:List Lf.Stp):∀ u ∈ stRow l,u.oneCell'=true:=rowN_one (fun x u hu=>by
 rcases List.mem_cons.1 hu with rfl | hu
 ·rfl
 ·rw [List.mem_singleton] at hu;subst hu;rfl) l
theorem Rd.stp {w:World} {B:Nat} {A:Option Addr} {l:List Lf.Stp} (h:Rd w B A (stRow l)) {i:Nat} (hi:i < l.length) :
  ∃ b off,A=some ⟨b,off,none⟩∧b < B∧w.cell? ⟨b,off + i * 2,none⟩=some (.int .i64 l[i].1)∧w.cell? ⟨b,off + i * 2 + 1,none⟩=some (.int .i64 l[i].2):=by
 obtain ⟨b,off,e,hb,hc⟩:=h.thing stCells_len (by decide) hi
 exact ⟨b,off,e,hb,hc 0 _ rfl,hc 1 _ rfl⟩
theorem st_info:(Tryz.prog.info? 121).map (fun i=>(i.zero,i.size,i.bytes))=some (some (.agg #[.int .i64 0,.int .i64 0]),2,16):=by kernel_rfl
namespace Lf
def stPre (ps:List Gr.Pr) (nl:Nat→Bool) (i k:Nat):List Stp:=(List.range k).filterMap fun k=>if isStep ps nl (i,k) then some (i,k) else none
def stTo (ps:List Gr.Pr) (nl:Nat→Bool) (i:Nat):List Stp:=(List.range i).flatMap (stepsOf ps nl)
section
variable {ps:List Gr.Pr} {nl:Nat→Bool} {i k:Nat}
theorem stPre_zero:stPre ps nl i 0=[]:=rfl
theorem stPre_yes (h:isStep ps nl (i,k)=true):stPre ps nl i (k + 1)=stPre ps nl i k ++ [(i,k)]:=by
 unfold stPre
 rw [List.range_succ,List.filterMap_append,List.filterMap_cons,if_pos h];rfl
theorem stPre_no (h:isStep ps nl (i,k)=false):stPre ps nl i (k + 1)=stPre ps nl i k:=by
 unfold stPre
 rw [List.range_succ,List.filterMap_append,List.filterMap_cons,if_neg (by rw [h];decide),List.filterMap_nil,List.append_nil]
theorem stPre_len:∀ k,(stPre ps nl i k).length≤k
 | 0=>Nat.le_refl _
 | k + 1=>by
  have ih:=stPre_len k
  cases h:isStep ps nl (i,k) with
  | true=>rw [stPre_yes h,List.length_append];show _ + 1≤_;omega
  | false=>rw [stPre_no h];omega
theorem stTo_succ (hi:i < ps.length):stTo ps nl (i + 1)=stTo ps nl i ++ stPre ps nl i ps[i].right.length:=by
 unfold stTo
 rw [List.range_succ,List.flatMap_append,List.flatMap_cons,List.flatMap_nil,List.append_nil]
 congr 1
 unfold stepsOf stPre
 rw [List.getElem?_eq_getElem hi]
theorem stTo_len (h8:∀ p ∈ ps,p.right.length≤8):∀ i,i≤ps.length→(stTo ps nl i).length≤8 * i
 | 0,_=>Nat.le_refl _
 | i + 1,hi=>by
  have ih:=stTo_len h8 i (by omega)
  rw [stTo_succ (show i < ps.length by omega),List.length_append]
  have h1:=stPre_len (ps:=ps) (nl:=nl) (i:=i) (ps[i]'(show i < ps.length by omega)).right.length
  have h2:=h8 _ (List.getElem_mem (show i < ps.length by omega))
  omega
theorem all_is:all ps nl=stTo ps nl ps.length:=rfl
end
end Lf
theorem lall_any (t n s:Int) (A:Option Addr) (len c:Nat) (ps:List Gr.Pr) (w:World) (B:Nat) (hlen:len=ps.length) (hr:Prs w B A ps) (hB:B≤w.heap.size) (hok:okB ⟨t,n,s,ps⟩=true) :
  Calls Tryz.prog 61 #[.agg #[.int .i64 t,.int .i64 n,.int .i64 s,.slice A len c]] w fun e w'=>
   ∃ A' len' c',e=.returned (.slice A' len' c')∧len'=(Lf.all ps (Fi.nulls ⟨t,n,s,ps⟩)).length∧w'.ownsRow w.heap.size 121 2 (.slice A' len' c') len' (stRow (Lf.all ps (Fi.nulls ⟨t,n,s,ps⟩)))∧Bl w w':=by
 obtain ⟨i0,hi,hz0,hz1,hz2⟩:=info_parts st_info
 have HL:=Lib.hid hlen;clear hlen
 have HP:Hid (∀ w',Bl w w'→Prs w' w'.heap.size A ps):=fun _ hb=>(hr.bl hB hb).more (Nat.le_trans hB hb.size)
 clear hr hB
 have HOK:=Lib.hid hok
 have hlx60:len≤60:=by obtain ⟨n1,n2,n3⟩:=ok_nons hok;have:=HL.out;omega
 have HT8:Hid (∀ i,i≤len→(Lf.stTo ps (Fi.nulls ⟨t,n,s,ps⟩) i).length≤480):=fun i h=>by
  have:=Lf.stTo_len (ps:=ps) (nl:=Fi.nulls ⟨t,n,s,ps⟩) (fun p hp=>by
   obtain ⟨j,hj,rfl⟩:=List.mem_iff_getElem.1 hp
   exact (ok_syms HOK.out hj).2.1) i (by have:=HL.out;omega)
  omega
 have HYes:=Lib.hid (factsOf_ok (terms:=false) hok)
 have HRl:Hid ((Rk.ranks false ps n.toNat).length=n.toNat):=Rk.ranks_length false ps n.toNat
 clear hok
 have HG0:=Lib.hid ((Bk.new w 24 #[.int .i64 t,.int .i64 n,.int .i64 s,.slice A len c]).alloc (.cells #[] 121))
 have HO0:=Lib.hid (World.ownsRow_lit (base:=w.heap.size) (e:=121) (size:=2) (w.alloc (.cells #[.int .i64 t,.int .i64 n,.int .i64 s,.slice A len c] 24)) #[] 0 (by simp) (by simp [maxLen]) rfl)
 have HB0:Hid (Bl w ((w.alloc (.cells #[.int .i64 t,.int .i64 n,.int .i64 s,.slice A len c] 24)).alloc (.cells #[] 121))):=((Bl.refl w).alloc _).alloc _
 have HR0:Hid (ORel w 121 2 w.heap.size 24 #[.int .i64 t,.int .i64 n,.int .i64 s,.slice A len c] 0 [] (.slice (some ⟨w.heap.size + 1,0,none⟩) 0 0) ((w.alloc (.cells #[.int .i64 t,.int .i64 n,.int .i64 s,.slice A len c] 24)).alloc (.cells #[] 121))):=
  ⟨by have h:=HO0.out;rw [show (w.alloc (.cells #[.int .i64 t,.int .i64 n,.int .i64 s,.slice A len c] 24)).heap.size=w.heap.size + 1 by simp] at h;exact h,HG0.out,HB0.out⟩
 clear HG0 HO0 HB0
 go_enter Tryz.func61,Tryz.ntmps61
 go_wp2_with fail
 refine (rranks_new t n s A len c ps false _ _ HL.out (by omega) (HP.out _ HR0.out.b) (Nat.le_refl _)).mono ?_
 intro e w1 h
 obtain ⟨Af,cf,he,hof,hbf⟩:=h.lit (k:=n.toNat) HYes.out (by rw [fz_len];exact HRl.out)
 subst he
 have HR1:=Lib.hid (HR0.out.bl_ hbf)
 have HF1:=Lib.hid (RdT.of_own hof)
 clear h hof hbf HR0
 go_wp2_with fail
 go_loopw [3,5] (fun v i wr=>∃ k:Nat,k≤len∧i=.int .i64 k∧Hid (ORel w 121 2 w.heap.size 24 #[.int .i64 t,.int .i64 n,.int .i64 s,.slice A len c] (Lf.stTo ps (Fi.nulls ⟨t,n,s,ps⟩) k).length (stRow (Lf.stTo ps (Fi.nulls ⟨t,n,s,ps⟩) k)) v wr)∧Hid (RdT wr 73 Af (fcRow (fz (Rk.ranks false ps n.toNat))))) (fun _ i _=>len - (intOf i).toNat)
 case atStart=>exact ⟨0,Nat.zero_le _,rfl,HR1.out,HF1.out⟩
 case round=>
  obtain ⟨k,hk,rfl,HR,HF⟩:=hrel
  have HB:=Lib.hid HR.out.b
  have g3:wr.cell? ⟨w.heap.size,3,none⟩=some (.slice A len c):=HR.out.bg.cell 3
  have glt:w.heap.size < wr.heap.size:=HR.out.bg.lt
  by_cases hlt:k < len
  ·have hj:k < ps.length:=by have:=HL.out;omega
   have HSuc:=Lib.hid (Lf.stTo_succ (nl:=Fi.nulls ⟨t,n,s,ps⟩) hj)
   have HTl:=Lib.hid (HT8.out k (by omega))
   obtain ⟨_,o3,_⟩:=ok_syms HOK.out hj
   have h8:ps[k].right.length≤8:=o3
   clear o3
   go_wp2_with fail
   go_loopw [3,6] (fun v i wr=>∃ j:Nat,j≤ps[k].right.length∧i=.int .i64 j∧Hid (ORel w 121 2 w.heap.size 24 #[.int .i64 t,.int .i64 n,.int .i64 s,.slice A len c] (Lf.stTo ps (Fi.nulls ⟨t,n,s,ps⟩) k ++ Lf.stPre ps (Fi.nulls ⟨t,n,s,ps⟩) k j).length (stRow (Lf.stTo ps (Fi.nulls ⟨t,n,s,ps⟩) k ++ Lf.stPre ps (Fi.nulls ⟨t,n,s,ps⟩) k j)) v wr)∧Hid (RdT wr 73 Af (fcRow (fz (Rk.ranks false ps n.toNat))))) (fun _ i _=>ps[k].right.length - (intOf i).toNat)
   case atStart=>exact ⟨0,Nat.zero_le _,rfl,HR.out.is (by rw [Lf.stPre_zero,List.append_nil]) (by rw [Lf.stPre_zero,List.append_nil]),HF.out⟩
   case round=>
    obtain ⟨j,hjl,rfl,HRj,HFj⟩:=hrel
    have HBj:=Lib.hid HRj.out.b
    have g3:wr.cell? ⟨w.heap.size,3,none⟩=some (.slice A len c):=HRj.out.bg.cell 3
    have g0:wr.cell? ⟨w.heap.size,0,none⟩=some (.int .i64 t):=HRj.out.bg.cell 0
    have g1:wr.cell? ⟨w.heap.size,1,none⟩=some (.int .i64 n):=HRj.out.bg.cell 1
    have g2:wr.cell? ⟨w.heap.size,2,none⟩=some (.int .i64 s):=HRj.out.bg.cell 2
    have glt:w.heap.size < wr.heap.size:=HRj.out.bg.lt
    obtain ⟨b,off,Ax,cx,rfl,hbB,hrx,hc0,hc1⟩:=(HP.out _ HBj.out).at_ hj
    clear hrx hc0
    by_cases hjt:j < ps[k].right.length
    ·have HIs:=Lib.hid (lis_any t n s (some ⟨b,off,none⟩) len c ps Af n.toNat cf (Rk.ranks false ps n.toNat) k j wr wr.heap.size HL.out (HP.out _ HBj.out) (Nat.le_refl _) HOK.out HRl.out.symm HRl.out HFj.out.rd hj hjt)
     have HYs:=Lib.hid (fun h=>Lf.stPre_yes (ps:=ps) (nl:=Fi.nulls ⟨t,n,s,ps⟩) (i:=k) (k:=j) h)
     have HNs:=Lib.hid (fun h=>Lf.stPre_no (ps:=ps) (nl:=Fi.nulls ⟨t,n,s,ps⟩) (i:=k) (k:=j) h)
     have HPl:=Lib.hid (Lf.stPre_len (ps:=ps) (nl:=Fi.nulls ⟨t,n,s,ps⟩) (i:=k) j)
     have HTo:=Lib.hid HTl.out
     generalize Lf.stTo ps (Fi.nulls ⟨t,n,s,ps⟩) k=lt at HRj HTo ⊢
     go_wp2_with fail
     refine HIs.out.mono ?_
     rw [show (fun m=>decide (Rk.rk (Rk.ranks false ps n.toNat) m≠0))=Fi.nulls ⟨t,n,s,ps⟩ from rfl]
     clear g0 g1 g2 g3 glt hc1
     rintro e v1 ⟨rfl,hb1⟩
     have HR6:=Lib.hid (HRj.out.bl_ hb1)
     have HF6:=Lib.hid (HFj.out.keep (.of_bl hb1))
     clear hb1
     cases hst:Lf.isStep ps (Fi.nulls ⟨t,n,s,ps⟩) (k,j) with
     | false=>
      have HX:=Lib.hid (HR6.out.is (m:=(lt ++ Lf.stPre ps (Fi.nulls ⟨t,n,s,ps⟩) k (j + 1)).length) (ys:=stRow (lt ++ Lf.stPre ps (Fi.nulls ⟨t,n,s,ps⟩) k (j + 1))) (by rw [HNs.out hst]) (by rw [HNs.out hst]))
      go_wp2_with fail
      go_roundw
      case rel=>exact ⟨j + 1,by omega,by go_num,HX.out,HF6.out⟩
      case measure=>simp [intOf];omega
     | true=>
      have HNx:=Lib.hid (HYs.out hst)
      clear hst
      generalize hlp:Lf.stPre ps (Fi.nulls ⟨t,n,s,ps⟩) k j=lp at *
      have hlq:(lt ++ lp).length≤500:=by
       have h1:lt.length≤480:=HTo.out
       have h2:lp.length≤j:=HPl.out
       rw [List.length_append];omega
      have HLp:=Lib.hid hlp;clear hlp
      have hlen2:(lt ++ (lp ++ [(k,j)])).length=(lt ++ lp).length + 1:=by simp [List.length_append];omega
      have hrow2:stRow (lt ++ (lp ++ [(k,j)]))=stRow (lt ++ lp) ++ [.int .i64 k,.int .i64 j]:=by rw [← List.append_assoc,stRow_snoc]
      have HN2:=Lib.hid hlen2;have HW2:=Lib.hid hrow2
      clear hlen2 hrow2
      generalize (lt ++ lp).length=nl at *
      generalize stRow (lt ++ lp)=rw_ at *
      have HOw:=Lib.hid HR6.out.own
      have HMore:=Lib.hid (fun (w2:World) (v2:Value) (o:Obj) (m:Nat) (ys:List Value) ho hg=>HR6.out.more (w2:=w2) (v2:=v2) (o:=o) (m:=m) (ys:=ys) ho hg (by decide))
      have HKeep:=Lib.hid (fun (w2:World) (o:Obj) hg=>HF6.out.keep (HR6.out.rows (w2:=w2) (o:=o) hg (by decide)))
      have hsz:w.heap.size≤v1.heap.size:=HR6.out.b.size
      go_wp2_with (at_builtin;refine wpList_append_own _ rfl (.tmp 34) (.tmp 38) 75 rfl w.heap.size 121 i0 (.agg #[.int .i64 0,.int .i64 0]) 2 16 Tryz.underlying75 hi hz0 hz1 hz2 rfl (by decide) _ _ _ rfl (HOw.out.alloc _) ⟨v1.heap.size,0,none⟩ 1 1 [.int .i64 (k:Int),.int .i64 (j:Int)] rfl rfl (cells_new _ _ _) (by simp [Value.oneCell']) (by simp only [maxLen];omega) (by omega) (by simp;omega) ?_;intro v2 w2 hown2 hg2 _;have HY:=Lib.hid (HMore.out _ _ _ _ _ hown2 hg2);have HZ:=Lib.hid (HKeep.out _ _ hg2);clear hown2 hg2)
      go_roundw
      case rel=>exact ⟨j + 1,by omega,by go_num,by rw [HNx.out];exact HY.out.is HN2.out HW2.out,HZ.out⟩
      case measure=>simp [intOf];omega
    ·have HX:=Lib.hid (HRj.out.is (m:=(Lf.stTo ps (Fi.nulls ⟨t,n,s,ps⟩) (k + 1)).length) (ys:=stRow (Lf.stTo ps (Fi.nulls ⟨t,n,s,ps⟩) (k + 1))) (by rw [HSuc.out,show j=ps[k].right.length by omega]) (by rw [HSuc.out,show j=ps[k].right.length by omega]))
     go_wp2_with fail
     go_roundw
     case rel=>exact ⟨k + 1,by omega,by go_num,HX.out,HFj.out⟩
     case measure=>simp [intOf];omega
  ·have hke:k=len:=by omega
   have HE:=Lib.hid (HR.out.is (m:=(Lf.all ps (Fi.nulls ⟨t,n,s,ps⟩)).length) (ys:=stRow (Lf.all ps (Fi.nulls ⟨t,n,s,ps⟩))) (by rw [Lf.all_is,show ps.length=k by have:=HL.out;omega]) (by rw [Lf.all_is,show ps.length=k by have:=HL.out;omega]))
   obtain ⟨Av,cv,hv,_⟩:=own_form HE.out.own
   subst hv
   clear hke HR
   go_wp2_with fail
   go_ret
   exact ⟨_,_,_,rfl,rfl,HE.out.own,HE.out.b⟩
end Go.Proofs.YtdfhhbncmdpoeaaGreat
