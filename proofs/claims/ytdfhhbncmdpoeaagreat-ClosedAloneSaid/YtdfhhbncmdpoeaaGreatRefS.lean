/- The reference's To: where a step leads. -/
import Derived.Test.YtdfhhbncmdpoeaaGreatLIs
import Derived.Test.YtdfhhbncmdpoeaaGreatLAll
import Derived.Test.YtdfhhbncmdpoeaaGreatBaseS
import Derived.Test.YtdfhhbncmdpoeaaGreatPlainR
import Derived.Test.YtdfhhbncmdpoeaaGreatReachS
import Derived.Test.YtdfhhbncmdpoeaaGreatRRankS
import Derived.Deep.RegionHeld3
set_option maxRecDepth 100000
set_option maxHeartbeats 8000000
namespace Go.Proofs.YtdfhhbncmdpoeaaGreat
open Go.RowKit
theorem lto_any (t n s:Int) (A:Option Addr) (len c:Nat) (ps:List Gr.Pr) (i k:Nat) (w:World) (B:Nat)
  (hlen:len=ps.length) (hr:Prs w B A ps) (hB:B≤w.heap.size) (hok:okB ⟨t,n,s,ps⟩=true)
  (hi:i < ps.length) (hk:k < ps[i].right.length) (hn:ps[i].right[k].non=true) :
  Calls Tryz.prog 62 #[.agg #[.int .i64 t,.int .i64 n,.int .i64 s,.slice A len c],.agg #[.int .i64 i,.int .i64 k]] w
   fun e w'=>e=.returned (.int .i64 (Lf.to ps (i,k):Int))∧Bl w w':=by
 have HB0:Hid (Bl w ((w.alloc (.cells #[.int .i64 t,.int .i64 n,.int .i64 s,.slice A len c] 24)).alloc (.cells #[.int .i64 i,.int .i64 k] 121))):=((Bl.refl w).alloc _).alloc _
 have HK0:=Lib.hid ((Bk.new w 24 #[.int .i64 t,.int .i64 n,.int .i64 s,.slice A len c]).alloc (.cells #[.int .i64 i,.int .i64 k] 121))
 have HS0:Hid (Bk ((w.alloc (.cells #[.int .i64 t,.int .i64 n,.int .i64 s,.slice A len c] 24)).alloc (.cells #[.int .i64 i,.int .i64 k] 121)) (w.heap.size + 1) 121 #[.int .i64 i,.int .i64 k]):=by
  have h:=Bk.new (w.alloc (.cells #[.int .i64 t,.int .i64 n,.int .i64 s,.slice A len c] 24)) 121 #[.int .i64 i,.int .i64 k]
  rw [show (w.alloc (.cells #[.int .i64 t,.int .i64 n,.int .i64 s,.slice A len c] 24)).heap.size=w.heap.size + 1 by simp] at h
  exact h
 obtain ⟨b,off,Ax,cx,rfl,hbB,hrx,hc0,hc1⟩:=(hr.bl hB HB0.out).at_ hi
 obtain ⟨⟨o1,o2⟩,o3,o4⟩:=ok_syms hok hi
 obtain ⟨bs,os,rfl,hbs,q0,q1⟩:=hrx.sym hk
 have hto:=to_at hi hk
 rw [hto]
 have hnn:=o4 _ (List.getElem_mem hk) hn
 have hi60:len≤60:=by obtain ⟨_,_,h⟩:=ok_nons hok;omega
 have hil:i < len:=by omega
 have h8:ps[i].right.length≤8:=o3
 clear hr hc0 o1 o2 hrx hto hlen o3 o4 hok
 generalize ps[i].right=right at *
 generalize right[k]=y at *
 obtain ⟨yb,yn⟩:=y
 simp only at q0 q1 hnn hn
 subst hn
 obtain ⟨m,rfl⟩:∃ m:Nat,yn=(m:Int):=⟨yn.toNat,by omega⟩
 clear hnn hi
 go_enter Tryz.func62,Tryz.ntmps62
 go_wp2_with fail
 generalize hw0:(w.alloc (.cells #[.int .i64 t,.int .i64 n,.int .i64 s,.slice (some ⟨b,off,none⟩) len c] 24)).alloc (.cells #[.int .i64 i,.int .i64 k] 121)=w0 at *
 have HW:=Lib.hid hw0;clear hw0
 have g3:w0.cell? ⟨w.heap.size,3,none⟩=some (.slice (some ⟨b,off,none⟩) len c):=HK0.out.cell 3
 have s0:w0.cell? ⟨w.heap.size + 1,0,none⟩=some (.int .i64 (i:Int)):=HS0.out.cell 0
 have s1:w0.cell? ⟨w.heap.size + 1,1,none⟩=some (.int .i64 (k:Int)):=HS0.out.cell 1
 have i0:(0:Int)≤(i:Int):=by omega
 have i1:(i:Int) < (len:Int):=by omega
 have i2:(0:Int)≤(k:Int):=by omega
 have i3:(k:Int) < (right.length:Int):=by omega
 go_quiet (fail)
 go_wp2_with fail
 go_ret
 exact ⟨by simp,by first | exact HB0.out.drewN _ | exact HB0.out.drew | exact HB0.out⟩
end Go.Proofs.YtdfhhbncmdpoeaaGreat
namespace Go.Proofs.YtdfhhbncmdpoeaaGreat
open Go.RowKit
namespace Lf
section
variable {ps:List Gr.Pr} {nl:Nat→Bool} {b:Nat} {tbl:Wt} {r a:Nat} {x:Stp}
theorem hit_frm (h:frm ps x≠a):hit ps b tbl r a x=false:=by unfold hit;rw [decide_eq_false h,Bool.false_and]
theorem hit_one (h:frm ps x=a) (hr:r=1):hit ps b tbl r a x=decide (to ps x=b):=by unfold hit;rw [decide_eq_true h,Bool.true_and,if_pos hr]
theorem hit_more (h:frm ps x=a) (hr:r≠1):hit ps b tbl r a x=decide ((tbl.getD (to ps x) []).length + 1=r):=by unfold hit;rw [decide_eq_true h,Bool.true_and,if_neg hr]
theorem mk_one (hr:r=1):mk ps tbl r x=[x]:=by unfold mk;rw [if_pos hr]
theorem mk_more (hr:r≠1):mk ps tbl r x=x :: tbl.getD (to ps x) []:=by unfold mk;rw [if_neg hr]
theorem all_at {i:Nat} (hi:i < (all ps nl).length):∃ (h1:(all ps nl)[i].1 < ps.length) (h2:(all ps nl)[i].2 < ps[(all ps nl)[i].1].right.length),ps[(all ps nl)[i].1].right[(all ps nl)[i].2].non=true∧frm ps (all ps nl)[i]=ps[(all ps nl)[i].1].left.toNat:=by
 obtain ⟨p,s,h1,h2,h3,_,h5,_⟩:=step_some (mem_all.1 (List.getElem_mem hi))
 obtain ⟨h6,h7⟩:=List.getElem?_eq_some_iff.1 h1
 subst h7
 obtain ⟨h8,h9⟩:=List.getElem?_eq_some_iff.1 h2
 subst h9
 exact ⟨h6,h8,h3,h5⟩
end
end Lf
structure WRel (w0:World) (gg:Nat) (G:Array Value) (N:Nat) (Aa:Option Addr) (al:List Lf.Stp) (gl cl:Nat) (tbl:Lf.Wt) (w:World):Prop where
 bg:Bk w gg 24 G
 best:TabT w w0.heap.size 121 75 stCells gl N cl tbl
 all:RdT w 121 Aa (stRow al)
 b:Bl w0 w
structure WRel2 (w0:World) (gg:Nat) (G:Array Value) (N:Nat) (Aa:Option Addr) (al:List Lf.Stp) (gl cl:Nat) (tbl:Lf.Wt) (gn cn:Nat) (nx:Lf.Wt) (w:World):Prop where
 one:WRel w0 gg G N Aa al gl cl tbl w
 nxt:TabT w w0.heap.size 121 75 stCells gn N cn nx
 ne:gl≠gn
section
variable {w0 w w2:World} {gg:Nat} {G:Array Value} {N:Nat} {Aa:Option Addr} {al:List Lf.Stp} {gl cl:Nat} {tbl tbl':Lf.Wt} {gn cn:Nat} {nx nx':Lf.Wt}
theorem WRel.bl_ (h:WRel w0 gg G N Aa al gl cl tbl w) (hb:Bl w w2):WRel w0 gg G N Aa al gl cl tbl w2:=⟨h.bg.bl hb,h.best.bl hb,h.all.keep (.of_bl hb),h.b.trans hb⟩
theorem WRel2.bl_ (h:WRel2 w0 gg G N Aa al gl cl tbl gn cn nx w) (hb:Bl w w2):WRel2 w0 gg G N Aa al gl cl tbl gn cn nx w2:=⟨h.one.bl_ hb,h.nxt.bl hb,h.ne⟩
theorem WRel2.alloc (h:WRel2 w0 gg G N Aa al gl cl tbl gn cn nx w) (o:Obj):WRel2 w0 gg G N Aa al gl cl tbl gn cn nx (w.alloc o):=h.bl_ ((Bl.refl w).alloc o)
theorem WRel2.is (h:WRel2 w0 gg G N Aa al gl cl tbl gn cn nx w) (e:nx'=nx):WRel2 w0 gg G N Aa al gl cl tbl gn cn nx' w:=by subst e;exact h
theorem WRel2.put (h:WRel2 w0 gg G N Aa al gl cl tbl gn cn nx w) {m:Nat} {A:Option Addr} {k d:Nat} {r:List Lf.Stp} (hk:k=r.length) (hd:k≤d) (hr:RdT w 121 A (stRow r)) :
  WRel2 w0 gg G N Aa al gl cl tbl gn cn (nx.set m r) (w.setCell ⟨gn,m,none⟩ (.slice A k d)):=by
 have hg:=h.nxt.glt
 have hfr:Fr (fun k=>k=gn) w (w.setCell ⟨gn,m,none⟩ (.slice A k d)):=(Fr.refl _ w).own _ _
 obtain ⟨cs,h1,h2,h3⟩:=id h.nxt
 refine ⟨⟨h.one.bg.fr hfr (fun e=>h.nxt.row_bk h.one.bg (by decide) e),h.one.best.other h.nxt h.ne (by decide) m _,h.one.all.keep (KeepT.put h1 (by decide) _),h.one.b.fr hfr fun k hk e=>by omega⟩,h.nxt.put (by decide) hk hd hr,h.ne⟩
theorem WRel2.next (h:WRel2 w0 gg G N Aa al gl cl tbl gn cn nx w):WRel w0 gg G N Aa al gn cn nx w:=⟨h.one.bg,h.nxt,h.one.all,h.one.b⟩
theorem WRel.copy (h:WRel w0 gg G N Aa al gl cl tbl w) {cs:List Value} (hc:RowsT w 121 stCells cs tbl)
  (ho:w2.ownsRow w0.heap.size 75 1 (.slice (some ⟨gn,0,none⟩) (0 + N) cn) (0 + N) ([] ++ cs))
  (hg:(w.alloc (.cells #[] 75)).grownBy w2 (Value.slice (some ⟨w.heap.size,0,none⟩) 0 0).ownBlock)
  (hv:(Value.slice (some ⟨w.heap.size,0,none⟩) 0 0).ownBlock=some gn∨gn=(w.alloc (.cells #[] 75)).heap.size) :
  WRel2 w0 gg G N Aa al gl cl tbl gn cn tbl w2:=by
 rw [Nat.zero_add,List.nil_append] at ho
 have hbl:Bl w w2:=((Bl.refl w).alloc _).grown hg fun k hk=>by
  have:w.heap.size=k:=by simpa [Value.ownBlock] using hk
  omega
 have hgl:=h.best.glt.2
 have hne:gl≠gn:=by
  rcases hv with e | e
  ·have:w.heap.size=gn:=by simpa [Value.ownBlock] using e
   omega
  ·have:gn=w.heap.size + 1:=by simpa using e
   omega
 exact ⟨h.bl_ hbl,⟨cs,ho,hc.keep (.of_bl hbl),h.best.len⟩,hne⟩
end
theorem stl_info:(Tryz.prog.info? 75).map (fun i=>(i.zero,i.size,i.bytes))=some (some (.slice none 0 0),1,24):=by kernel_rfl
theorem lway_any (t n s:Int) (A:Option Addr) (len c:Nat) (ps:List Gr.Pr) (m:Nat) (w:World) (B:Nat) (hlen:len=ps.length) (hr:Prs w B A ps) (hB:B≤w.heap.size) (hok:okB ⟨t,n,s,ps⟩=true) (hm:m < n.toNat) :
  Calls Tryz.prog 33 #[.agg #[.int .i64 t,.int .i64 n,.int .i64 s,.slice A len c],.int .i64 m] w fun e w'=>
   ∃ A' len' c',e=.returned (.slice A' len' c')∧len'=(Lf.told ps (Fi.nulls ⟨t,n,s,ps⟩) n.toNat m).length∧RdT w' 121 A' (stRow (Lf.told ps (Fi.nulls ⟨t,n,s,ps⟩) n.toNat m))∧Bl w w':=by
 obtain ⟨i0,hi,hz0,hz1,hz2⟩:=info_parts st_info
 obtain ⟨i1,hj,hy0,hy1,hy2⟩:=info_parts stl_info
 have HL:=Lib.hid hlen;clear hlen
 have HP:Hid (∀ w',Bl w w'→Prs w' w'.heap.size A ps):=fun _ hb=>(hr.bl hB hb).more (Nat.le_trans hB hb.size)
 clear hr hB
 have HOK:=Lib.hid hok
 obtain ⟨n1,n2,n3⟩:=ok_nons hok
 have hlx60:len≤60:=by have:=HL.out;omega
 obtain ⟨N,rfl⟩:∃ N:Nat,n=(N:Int):=⟨n.toNat,by omega⟩
 rw [Int.toNat_natCast] at hm ⊢
 have HOk:Hid (Gr.Ok ⟨t,(N:Int),s,ps⟩):=(okB_iff _).1 hok
 have HB0:Hid (Bl w (w.alloc (.cells #[.int .i64 t,.int .i64 (N:Int),.int .i64 s,.slice A len c] 24))):=(Bl.refl w).alloc _
 have HG0:Hid (Bk (w.alloc (.cells #[.int .i64 t,.int .i64 (N:Int),.int .i64 s,.slice A len c] 24)) w.heap.size 24 #[.int .i64 t,.int .i64 (N:Int),.int .i64 s,.slice A len c]):=Bk.new w _ _
 clear hok
 go_enter Tryz.func33,Tryz.ntmps33
 go_wp2_with fail
 refine (rright_any t N s A len c ps _ _ HL.out (by omega) (HP.out _ HB0.out) (Nat.le_refl _)).mono ?_
 rintro e w1 ⟨rfl,hb1⟩
 have HB1:=Lib.hid (HB0.out.trans hb1)
 have HG1:=Lib.hid (HG0.out.bl hb1)
 rw [HOK.out]
 clear hb1 HB0 HG0
 have g0:w1.cell? ⟨w.heap.size,0,none⟩=some (.int .i64 t):=HG1.out.cell 0
 have g1:w1.cell? ⟨w.heap.size,1,none⟩=some (.int .i64 (N:Int)):=HG1.out.cell 1
 have g2:w1.cell? ⟨w.heap.size,2,none⟩=some (.int .i64 s):=HG1.out.cell 2
 have g3:w1.cell? ⟨w.heap.size,3,none⟩=some (.slice A len c):=HG1.out.cell 3
 have glt:w.heap.size < w1.heap.size:=HG1.out.lt
 go_wp2_with fail
 refine (lall_any t N s A len c ps _ _ HL.out (HP.out _ HB1.out) (Nat.le_refl _) HOK.out).mono ?_
 rintro e w2 ⟨Aa,la,ca,rfl,hla,hoa,hb2⟩
 have HB2:=Lib.hid (HB1.out.trans hb2)
 have HG2:=Lib.hid (HG1.out.bl hb2)
 have HA2:=Lib.hid (RdT.of_own hoa)
 have HLa:=Lib.hid hla
 have hla480:la≤480:=by
  rw [hla,Lf.all_is]
  have:=Lf.stTo_len (ps:=ps) (nl:=Fi.nulls ⟨t,(N:Int),s,ps⟩) (fun p hp=>by
   obtain ⟨j,hj,rfl⟩:=List.mem_iff_getElem.1 hp
   exact (ok_syms HOK.out hj).2.1) ps.length (Nat.le_refl _)
  have:=HL.out
  omega
 clear hla hoa hb2 g0 g1 g2 g3 glt HB1 HG1
 have g1:w2.cell? ⟨w.heap.size,1,none⟩=some (.int .i64 (N:Int)):=HG2.out.cell 1
 have glt:w.heap.size < w2.heap.size:=HG2.out.lt
 go_wp2_with (refine wpList_make_full _ rfl (.tmp 28) (.tmp 28) 119 rfl w.heap.size 75 i1 (.slice none 0 0) 1 Tryz.underlying119 hj hy0 hy1 .i64 .i64 (N:Int) (N:Int) N rfl rfl rfl rfl (by rw [hy2];omega) (by simp only [maxLen];omega) (by omega) ?_;intro w3 hown3 hg3;have HK:Hid (WRel w w.heap.size #[.int .i64 t,.int .i64 (N:Int),.int .i64 s,.slice A len c] N Aa (Lf.all ps (Fi.nulls ⟨t,(N:Int),s,ps⟩)) w2.heap.size N (Lf.bw ps (Fi.nulls ⟨t,(N:Int),s,ps⟩) N m 0) w3):=⟨HG2.out.grown hg3 (by simp),TabT.made hown3,HA2.out.keep (KeepT.of_bl ((Bl.refl w2).grown hg3 (by simp))),HB2.out.grown hg3 (by simp)⟩;clear hown3 hg3)
 clear g1 glt HB2 HG2 HA2
 rw [HLa.out]
 have HAl8:Hid ((Lf.all ps (Fi.nulls ⟨t,(N:Int),s,ps⟩)).length≤480):=by rw [← HLa.out];exact hla480
 have HAt:Hid (∀ i (hi:i < (Lf.all ps (Fi.nulls ⟨t,(N:Int),s,ps⟩)).length),_):=fun i hi=>Lf.all_at (ps:=ps) (nl:=Fi.nulls ⟨t,(N:Int),s,ps⟩) hi
 have HNum:Hid (∀ i (hi:i < (Lf.all ps (Fi.nulls ⟨t,(N:Int),s,ps⟩)).length),Lf.to ps (Lf.all ps (Fi.nulls ⟨t,(N:Int),s,ps⟩))[i] < N):=fun i hi=>(Lf.step_nums HOk.out (Lf.mem_all.1 (List.getElem_mem hi))).2
 clear hla480
 go_loopw [6,7] (fun v i wr=>∃ k r gl cl:Nat,k≤N∧r≤N + 1∧v=.slice (some ⟨gl,0,none⟩) N cl∧i=.int .i64 r∧Hid (r=k + 1)∧Hid (WRel w w.heap.size #[.int .i64 t,.int .i64 (N:Int),.int .i64 s,.slice A len c] N Aa (Lf.all ps (Fi.nulls ⟨t,(N:Int),s,ps⟩)) gl cl (Lf.bw ps (Fi.nulls ⟨t,(N:Int),s,ps⟩) N m k) wr)) (fun _ i _=>N + 1 - (intOf i).toNat)
 case atStart=>exact ⟨0,1,_,_,Nat.zero_le _,by omega,rfl,rfl,rfl,HK.out⟩
 case round=>
  obtain ⟨k,r,gl,cl,hk,hrn,rfl,rfl,HRk,HKk⟩:=hrel
  have g1:wr.cell? ⟨w.heap.size,1,none⟩=some (.int .i64 (N:Int)):=HKk.out.bg.cell 1
  have glt:w.heap.size < wr.heap.size:=HKk.out.bg.lt
  by_cases hrl:r≤N
  ·have HRd:Hid (Lf.tblAt ps (Fi.nulls ⟨t,(N:Int),s,ps⟩) m (Lf.bw ps (Fi.nulls ⟨t,(N:Int),s,ps⟩) N m k) r N 0=Lf.bw ps (Fi.nulls ⟨t,(N:Int),s,ps⟩) N m (k + 1)):=by rw [HRk.out];exact (Lf.bw_succ ..).symm
   have HLe:Hid (∀ a,((Lf.bw ps (Fi.nulls ⟨t,(N:Int),s,ps⟩) N m k).getD a []).length≤24):=fun a=>by
    have:=Lf.bw_le ps (Fi.nulls ⟨t,(N:Int),s,ps⟩) N m k a
    omega
   have HCl:Hid ((Lf.bw ps (Fi.nulls ⟨t,(N:Int),s,ps⟩) N m k).length=N):=Lf.bw_length ..
   generalize hcur:Lf.bw ps (Fi.nulls ⟨t,(N:Int),s,ps⟩) N m k=cur at *
   have HCur:=Lib.hid hcur;clear hcur
   generalize hal:Lf.all ps (Fi.nulls ⟨t,(N:Int),s,ps⟩)=al at *
   have HAll:=Lib.hid hal;clear hal
   obtain ⟨cs,hcs1,hcs2,_⟩:=id HKk.out.best
   have HCs:=Lib.hid hcs2
   have HOa:=Lib.hid (hcs1.alloc (.cells #[] 75))
   clear hcs1 hcs2
   have own0:Hid ((wr.alloc (.cells #[] 75)).ownsRow w.heap.size 75 1 (.slice (some ⟨wr.heap.size,0,none⟩) 0 0) 0 []):=World.ownsRow_lit (base:=w.heap.size) (e:=75) (size:=1) wr #[] 0 (by omega) (by simp [maxLen]) rfl
   have HCsl:Hid (cs.length=N):=by rw [HCs.out.1];exact HCl.out
   go_wp2_with (at_builtin;go_loud (refine wpList_append_lies _ rfl (.tmp 36) (.tmp 37) 119 rfl w.heap.size 75 i1 (.slice none 0 0) 1 24 Tryz.underlying119 hj hy0 hy1 hy2 rfl (by decide) _ _ _ rfl own0.out ⟨gl,0,none⟩ N cl cs rfl (by rw [HCsl.out,Nat.mul_one]) (HOa.out.cells rfl) (rowsT_one HCs.out) (by omega) (by simp only [maxLen];omega) (by omega) (by simp;omega) _ rfl ?_;intro gn cn w4 hown4 hg4 hv4 _;have HR:=Lib.hid (HKk.out.copy HCs.out hown4 hg4 hv4);clear hown4 hg4 hv4;rw [Nat.zero_add]))
   clear g1 glt own0 HOa HCs HCsl
   have HSt:=Lib.hid (HR.out.is (Lf.tblAt_zero ps (Fi.nulls ⟨t,(N:Int),s,ps⟩) m cur r));clear HR
   go_loopw [9] (fun i wr2=>∃ a:Nat,a≤N∧i=.int .i64 a∧Hid (WRel2 w w.heap.size #[.int .i64 t,.int .i64 (N:Int),.int .i64 s,.slice A len c] N Aa al gl cl cur gn cn (Lf.tblAt ps (Fi.nulls ⟨t,(N:Int),s,ps⟩) m cur r a 0) wr2)) (fun i _=>N - (intOf i).toNat)
   case atStart=>exact ⟨0,Nat.zero_le _,rfl,HSt.out⟩
   case round=>
    obtain ⟨a,ha,rfl,HRa⟩:=hrel
    have g1:wr.cell? ⟨w.heap.size,1,none⟩=some (.int .i64 (N:Int)):=HRa.out.one.bg.cell 1
    have glt:w.heap.size < wr.heap.size:=HRa.out.one.bg.lt
    by_cases haN:a < N
    ·go_wp2_with fail
     clear g1 glt
     go_loopw [10] (fun i wr3=>∃ j:Nat,j≤al.length∧i=.int .i64 j∧Hid (WRel2 w w.heap.size #[.int .i64 t,.int .i64 (N:Int),.int .i64 s,.slice A len c] N Aa al gl cl cur gn cn (Lf.tblAt ps (Fi.nulls ⟨t,(N:Int),s,ps⟩) m cur r a j) wr3)) (fun i _=>al.length - (intOf i).toNat)
     case atStart=>exact ⟨0,Nat.zero_le _,rfl,HRa.out⟩
     case round=>
      obtain ⟨j,hjl,rfl,HRj⟩:=hrel
      have hal480:al.length≤480:=HAl8.out
      have haCl:a < cur.length:=Nat.lt_of_lt_of_eq haN HCl.out.symm
      have HBr:=Lib.hid HRj.out.one.b
      have glt:w.heap.size < wr.heap.size:=HRj.out.one.bg.lt
      obtain ⟨An,dn,kn,_,_⟩:=HRj.out.nxt.read haN
      have gnl:=HRj.out.nxt.glt.2
      have ha0:(0:Int)≤(a:Int):=by omega
      have ha1:(a:Int) < (N:Int):=by omega
      by_cases hlt:j < al.length
      ·by_cases hz:((Lf.tblAt ps (Fi.nulls ⟨t,(N:Int),s,ps⟩) m cur r a j).getD a [])=[]
       ·have HZ:=Lib.hid hz
        rw [hz] at kn
        have hjAll:j < (Lf.all ps (Fi.nulls ⟨t,(N:Int),s,ps⟩)).length:=by rw [HAll.out];exact hlt
        obtain ⟨hx1,hx2,hx3,hx4⟩:=HAt.out j hlt
        have hto:=HNum.out j hlt
        have HPut:=Lib.hid (fun h=>Lf.tblAt_put ps (Fi.nulls ⟨t,(N:Int),s,ps⟩) m cur r a haCl hjAll hz h)
        have HSkip:=Lib.hid (fun h=>Lf.tblAt_skip ps (Fi.nulls ⟨t,(N:Int),s,ps⟩) m cur r a haCl hjAll hz h)
        have hxe:(Lf.all ps (Fi.nulls ⟨t,(N:Int),s,ps⟩))[j]=al[j]:=by simp only [HAll.out]
        rw [hxe] at HPut HSkip
        obtain ⟨ba,oa,hAa,hba,hx5,hx6⟩:=HRj.out.one.all.rd.stp hlt
        clear hz hxe hjAll
        generalize al[j]=x at *
        have HFr:=Lib.hid (fun h=>Lf.hit_frm (ps:=ps) (b:=m) (tbl:=cur) (r:=r) (a:=a) (x:=x) h)
        have HOne:=Lib.hid (fun h1 h2=>Lf.hit_one (ps:=ps) (b:=m) (tbl:=cur) (r:=r) (a:=a) (x:=x) h1 h2)
        have HMore:=Lib.hid (fun h1 h2=>Lf.hit_more (ps:=ps) (b:=m) (tbl:=cur) (r:=r) (a:=a) (x:=x) h1 h2)
        have HM1:=Lib.hid (fun h=>Lf.mk_one (ps:=ps) (tbl:=cur) (r:=r) (x:=x) h)
        have HM2:=Lib.hid (fun h=>Lf.mk_more (ps:=ps) (tbl:=cur) (r:=r) (x:=x) h)
        obtain ⟨p,d⟩:=x
        simp only at hx1 hx2 hx3 hx4 hto hx5 hx6
        subst hAa
        have HTo:=fun (wx:World) (hb:Bl w wx)=>lto_any t (N:Int) s A len c ps p d wx wx.heap.size HL.out (HP.out _ hb) (Nat.le_refl _) HOK.out hx1 hx2 hx3
        obtain ⟨b,off,Ax,cx,hAe,hbB,hrx,hc0,hc1⟩:=(HP.out _ HBr.out).at_ hx1
        obtain ⟨⟨o1,o2⟩,o3,o4⟩:=ok_syms HOK.out hx1
        have hpl:p < len:=by have:=HL.out;omega
        have hle:ps[p].left=((Lf.frm ps (p,d):Nat):Int):=by rw [hx4];omega
        rw [hle] at hc0
        have hp0:(0:Int)≤(p:Int):=by omega
        have hp1:(p:Int) < (len:Int):=by omega
        have hT:=Lib.hid HTo
        clear hrx hc1 hx1 hx2 hx3 hx4 o1 o2 o3 o4 hle HTo
        generalize hfx:Lf.frm ps (p,d)=fx at *
        generalize htx:Lf.to ps (p,d)=tx at *
        subst hAe
        have g3:wr.cell? ⟨w.heap.size,3,none⟩=some (.slice (some ⟨b,off,none⟩) len c):=HRj.out.one.bg.cell 3
        have g0:wr.cell? ⟨w.heap.size,0,none⟩=some (.int .i64 t):=HRj.out.one.bg.cell 0
        have g1:wr.cell? ⟨w.heap.size,1,none⟩=some (.int .i64 (N:Int)):=HRj.out.one.bg.cell 1
        have g2:wr.cell? ⟨w.heap.size,2,none⟩=some (.int .i64 s):=HRj.out.one.bg.cell 2
        have HRx:=Lib.hid (HRj.out.alloc (.cells #[.int .i64 (p:Int),.int .i64 (d:Int)] 121))
        have HXx:=Lib.hid (Bk.new wr 121 #[.int .i64 (p:Int),.int .i64 (d:Int)])
        by_cases hfa:fx=a
        ·subst hfa
         by_cases hr1:r=1
         ·have HH:=Lib.hid (HOne.out rfl hr1)
          have HMk:=Lib.hid (HM1.out hr1)
          have hq1:(((r:Nat):Int) == 1)=true:=by simp;omega
          have hq3:decide ((1:Int) < (r:Int))=false:=decide_eq_false (by omega)
          clear hr1
          go_wp2_with fail
          refine (hT.out _ (HBr.out.alloc _)).mono ?_
          rintro e v1 ⟨rfl,hb1⟩
          have HR6:=Lib.hid (HRx.out.bl_ hb1)
          have HX6:=Lib.hid (HXx.out.bl hb1)
          clear hb1 g0 g1 g2 g3 kn hx5 hx6 hc0 glt gnl hba
          have x0:v1.cell? ⟨wr.heap.size,0,none⟩=some (.int .i64 (p:Int)):=HX6.out.cell 0
          have x1:v1.cell? ⟨wr.heap.size,1,none⟩=some (.int .i64 (d:Int)):=HX6.out.cell 1
          have xlt:wr.heap.size < v1.heap.size:=HX6.out.lt
          obtain ⟨An6,dn6,kn6,_,_⟩:=HR6.out.nxt.read haN
          have gnl6:=HR6.out.nxt.glt.2
          have kf6:=HR6.out.nxt.free fx
          by_cases htm:tx=m
          ·have HX:Hid (WRel2 w w.heap.size #[.int .i64 t,.int .i64 (N:Int),.int .i64 s,.slice (some ⟨b,off,none⟩) len c] N (some ⟨ba,oa,none⟩) al gl cl cur gn cn (Lf.tblAt ps (Fi.nulls ⟨t,(N:Int),s,ps⟩) m cur r fx (j + 1)) ((v1.setCell ⟨gn,fx,none⟩ (.slice (some ⟨v1.heap.size,0,none⟩) 1 1)).alloc (.cells #[.int .i64 (p:Int),.int .i64 (d:Int)] 121))):=by
            rw [← World.setCell_alloc_past _ _ _ _ gnl6]
            rw [HPut.out (by rw [HH.out];exact decide_eq_true htm),HMk.out]
            exact (HR6.out.alloc _).put (r:=[(p,d)]) rfl (Nat.le_refl _) (RdT.of_own (World.ownsRow_lit (base:=v1.heap.size) (e:=121) (size:=2) v1 #[.int .i64 (p:Int),.int .i64 (d:Int)] 1 (Nat.le_refl _) (by simp [maxLen]) rfl))
           subst htm
           go_wp2_with fail
           go_roundw
           case rel=>exact ⟨j + 1,by omega,by go_num,HX.out⟩
           case measure=>simp [intOf];omega
          ·have HX:=Lib.hid (HR6.out.is (HSkip.out (by rw [HH.out];exact decide_eq_false htm)))
           have hq:(((tx:Nat):Int) == (m:Int))=false:=by simp;omega
           clear htm
           go_wp2_with fail
           go_roundw
           case rel=>exact ⟨j + 1,by omega,by go_num,HX.out⟩
           case measure=>simp [intOf];omega
         ·have hr2:1 < r:=by have:=HRk.out;omega
          have HH:=Lib.hid (HMore.out rfl hr1)
          have HMk:=Lib.hid (HM2.out hr1)
          have hq1:(((r:Nat):Int) == 1)=false:=by simp;omega
          go_wp2_with fail
          refine (hT.out _ (HBr.out.alloc _)).mono ?_
          rintro e v1 ⟨rfl,hb1⟩
          have HR6:=Lib.hid (HRx.out.bl_ hb1)
          have HX6:=Lib.hid (HXx.out.bl hb1)
          clear hb1 g0 g1 g2 g3 kn hx5 hx6 hc0 glt gnl hba
          obtain ⟨Ab,db,kb,_,hrb⟩:=HR6.out.one.best.read hto
          have HRb:=Lib.hid hrb
          have gbl:=HR6.out.one.best.glt.2
          have hbl24:=HLe.out tx
          have tx0:(0:Int)≤(tx:Int):=by omega
          have tx1:(tx:Int) < (N:Int):=by omega
          clear hrb
          generalize hlb:(cur.getD tx []).length=lb at *
          have HLb:=Lib.hid hlb;clear hlb
          by_cases hlr:lb + 1=r
          ·have HPt:=Lib.hid (HPut.out (by rw [HH.out];exact decide_eq_true hlr))
           have hq2:(((lb:Nat):Int) == (r:Int) - 1)=true:=by simp;omega
           have gnl6:=HR6.out.nxt.glt.2
           have HS:Hid (∀ w1 w2,Bl v1 w1→Fr (fun k=>k=gn) w1 w2→w2.cell? ⟨w.heap.size,0,none⟩=some (.int .i64 t)∧w2.cell? ⟨w.heap.size,1,none⟩=some (.int .i64 (N:Int))∧w2.cell? ⟨w.heap.size,2,none⟩=some (.int .i64 s)∧w2.cell? ⟨w.heap.size,3,none⟩=some (.slice (some ⟨b,off,none⟩) len c)∧w2.cell? ⟨wr.heap.size,0,none⟩=some (.int .i64 (p:Int))∧w2.cell? ⟨wr.heap.size,1,none⟩=some (.int .i64 (d:Int))∧w2.cell? ⟨gl,tx,none⟩=some (.slice Ab lb db)):=fun w1 w2 hb hf=>by
            have b1:=(HR6.out.one.bg.bl hb).fr hf (HR6.out.nxt.row_bk HR6.out.one.bg (by decide))
            have b2:=(HX6.out.bl hb).fr hf (HR6.out.nxt.row_bk HX6.out (by decide))
            exact ⟨b1.cell 0,b1.cell 1,b1.cell 2,b1.cell 3,b2.cell 0,b2.cell 1,(hf.cell (p:=⟨gl,tx,none⟩) (Nat.lt_of_lt_of_le gbl hb.size) HR6.out.ne).trans ((Below.cell hb (p:=⟨gl,tx,none⟩) gbl).trans kb)⟩
           obtain ⟨An6,dn6,kn6,_,_⟩:=HR6.out.nxt.read haN
           have HN:Hid (∀ w1,Bl v1 w1→w1.cell? ⟨gn,fx,none⟩=some (.slice An6 ((Lf.tblAt ps (Fi.nulls ⟨t,(N:Int),s,ps⟩) m cur r fx j).getD fx []).length dn6)∧w1.frozen? ⟨gn,fx,none⟩=false):=fun w1 hb=>
            ⟨(Below.cell hb (p:=⟨gn,fx,none⟩) gnl6).trans kn6,(HR6.out.bl_ hb).nxt.free fx⟩
           have HBc:Hid (Bl v1 v1.drew):=(Bl.refl v1).drew
           clear kn6
           go_wp2_with fail
           have tk1:True:=trivial
           go_region_held3 (fun w'=>w'.cell? ⟨w.heap.size,0,none⟩=some (.int .i64 t)∧w'.cell? ⟨w.heap.size,1,none⟩=some (.int .i64 (N:Int))∧w'.cell? ⟨w.heap.size,2,none⟩=some (.int .i64 s)∧w'.cell? ⟨w.heap.size,3,none⟩=some (.slice (some ⟨b,off,none⟩) len c)∧w'.cell? ⟨wr.heap.size,0,none⟩=some (.int .i64 (p:Int))∧w'.cell? ⟨wr.heap.size,1,none⟩=some (.int .i64 (d:Int))∧w'.cell? ⟨gl,tx,none⟩=some (.slice Ab lb db)) (first | exact HS.out _ _ HBc.out (Fr.refl _ _) | exact HS.out _ _ (HBc.out.alloc _) (Fr.refl _ _) | exact HS.out _ _ HBc.out ((Fr.refl _ _).own _ _)) (first
            | (go_at_call 62;have _t:=tk1;((with_reducible refine (hT.out _ (HR6.out.one.b.alloc _).drew).mono ?_);rintro e v2 ⟨rfl,hb2⟩;have HLit:=Lib.hid (own_bl (World.ownsRow_lit (base:=v1.heap.size) (e:=121) (size:=2) v1 #[.int .i64 (p:Int),.int .i64 (d:Int)] 1 (Nat.le_refl _) (by simp [maxLen]) rfl) (Bl.undrew hb2));have HBx:Hid (Bl v1 v2):=((Bl.refl v1).alloc _).trans (Bl.undrew hb2);clear HBc;have HBc:=Lib.hid HBx.out;clear tk1 hb2))
            | (go_at_call 62;have _t:=tk1;((with_reducible refine (hT.out _ HR6.out.one.b.drew).mono ?_);rintro e v2 ⟨rfl,hb2⟩;have HBx:Hid (Bl v1 v2):=Bl.undrew hb2;clear HBc;have HBc:=Lib.hid HBx.out;have HLit:=Lib.hid (World.ownsRow_lit (base:=v1.heap.size) (e:=121) (size:=2) v2 #[.int .i64 (p:Int),.int .i64 (d:Int)] 1 HBc.out.size (by simp [maxLen]) rfl);clear tk1 hb2))
            | (refine step_append_rdN rfl (.tmp 103) (.tmp 109) 75 rfl v1.heap.size 121 i0 (.agg #[.int .i64 0,.int .i64 0]) 2 16 Tryz.underlying75 hi hz0 hz1 hz2 rfl (by decide) (.slice (some ⟨v1.heap.size,0,none⟩) 1 1) 1 [.int .i64 (p:Int),.int .i64 (d:Int)] rfl HLit.out _ Ab lb db (stRow (cur.getD tx [])) rfl (HRb.out.keep (.of_bl (by first | exact HBc.out.alloc _ | exact HBc.out))).rd ((stRow_len _).trans (by rw [HLb.out])) (stRow_one _) (by simp only [maxLen];omega) (by omega) (by first | exact (HBc.out.alloc _).size | exact HBc.out.size) ?_;intro v3 x2 hown2 hg2;obtain ⟨A2,d2,hv2,hd2⟩:=own_form hown2;subst hv2;have HO2:=Lib.hid hown2;have HD2:=Lib.hid hd2;have HBx:Hid (Bl v1 x2):=(by first | exact (HBc.out.alloc _).grown hg2 (fun k hk=>(HLit.out.lt k hk).1) | exact HBc.out.grown hg2 (fun k hk=>(HLit.out.lt k hk).1));clear HBc;have HBc:=Lib.hid HBx.out;obtain ⟨kc1,kc2⟩:=HN.out _ HBc.out;have gnl7:gn < x2.heap.size:=Nat.lt_of_lt_of_le gnl6 HBc.out.size;clear hown2 hg2 hd2)
            | (refine step_append_rdN rfl (.tmp 103) (.tmp 109) 75 rfl v1.heap.size 121 i0 (.agg #[.int .i64 0,.int .i64 0]) 2 16 Tryz.underlying75 hi hz0 hz1 hz2 rfl (by decide) (.slice (some ⟨v2.heap.size,0,none⟩) 1 1) 1 [.int .i64 (p:Int),.int .i64 (d:Int)] rfl HLit.out _ Ab lb db (stRow (cur.getD tx [])) rfl (HRb.out.keep (.of_bl (by first | exact HBc.out.alloc _ | exact HBc.out))).rd ((stRow_len _).trans (by rw [HLb.out])) (stRow_one _) (by simp only [maxLen];omega) (by omega) (by first | exact (HBc.out.alloc _).size | exact HBc.out.size) ?_;intro v3 x2 hown2 hg2;obtain ⟨A2,d2,hv2,hd2⟩:=own_form hown2;subst hv2;have HO2:=Lib.hid hown2;have HD2:=Lib.hid hd2;have HBx:Hid (Bl v1 x2):=(by first | exact (HBc.out.alloc _).grown hg2 (fun k hk=>(HLit.out.lt k hk).1) | exact HBc.out.grown hg2 (fun k hk=>(HLit.out.lt k hk).1));clear HBc;have HBc:=Lib.hid HBx.out;obtain ⟨kc1,kc2⟩:=HN.out _ HBc.out;have gnl7:gn < x2.heap.size:=Nat.lt_of_lt_of_le gnl6 HBc.out.size;clear hown2 hg2 hd2)
            | fail)
           all_goals
            have HX:=Lib.hid ((HR6.out.bl_ HBc.out).put (m:=fx) (A:=A2) (k:=1 + lb) (d:=d2) (r:=(p,d) :: cur.getD tx []) (by rw [List.length_cons,HLb.out,Nat.add_comm]) HD2.out (RdT.of_own HO2.out))
            go_wp2_with fail
            go_roundw
            case rel=>exact ⟨j + 1,by omega,by go_num,by rw [HPt.out,HMk.out];exact HX.out⟩
            case measure=>simp [intOf];omega
          ·have HX:=Lib.hid (HR6.out.is (HSkip.out (by rw [HH.out];exact decide_eq_false hlr)))
           have hq2:(((lb:Nat):Int) == (r:Int) - 1)=false:=by simp;omega
           clear hlr
           go_wp2_with fail
           go_roundw
           case rel=>exact ⟨j + 1,by omega,by go_num,HX.out⟩
           case measure=>simp [intOf];omega
        ·have HX:=Lib.hid (HRx.out.is (HSkip.out (HFr.out hfa)))
         have hq:(((fx:Nat):Int) == (a:Int))=false:=by simp;omega
         clear hfa
         go_wp2_with fail
         go_roundw
         case rel=>exact ⟨j + 1,by omega,by go_num,HX.out⟩
         case measure=>simp [intOf];omega
       ·have HX:=Lib.hid (HRj.out.is (Lf.tblAt_stop ps (Fi.nulls ⟨t,(N:Int),s,ps⟩) m cur r a haCl (by rw [HAll.out];exact hjl) hz).symm)
        have hz2:((Lf.tblAt ps (Fi.nulls ⟨t,(N:Int),s,ps⟩) m cur r a j).getD a []).length≠0:=fun e=>hz (List.eq_nil_of_length_eq_zero e)
        clear hz
        generalize ((Lf.tblAt ps (Fi.nulls ⟨t,(N:Int),s,ps⟩) m cur r a j).getD a []).length=ln at kn hz2
        have hq:(((ln:Nat):Int) == 0)=false:=by simp;omega
        clear hz2
        go_wp2_with fail
        go_roundw
        case rel=>exact ⟨a + 1,by omega,by go_num,HX.out⟩
        case measure=>simp [intOf];omega
      ·have HX:=Lib.hid (HRj.out.is (nx':=Lf.tblAt ps (Fi.nulls ⟨t,(N:Int),s,ps⟩) m cur r (a + 1) 0) (by rw [Lf.tblAt_turn,HAll.out,show j=al.length by omega]))
       clear kn
       go_wp2_with fail
       go_roundw
       case rel=>exact ⟨a + 1,by omega,by go_num,HX.out⟩
       case measure=>simp [intOf];omega
    ·have HX:Hid (WRel w w.heap.size #[.int .i64 t,.int .i64 (N:Int),.int .i64 s,.slice A len c] N Aa al gn cn (Lf.bw ps (Fi.nulls ⟨t,(N:Int),s,ps⟩) N m (k + 1)) wr):=(HRa.out.is (by rw [← HRd.out,show a=N by omega])).next
     go_wp2_with fail
     go_roundw
     case rel=>exact ⟨k + 1,r + 1,gn,cn,by have:=HRk.out;omega,by omega,rfl,by go_num,by rw [HRk.out];rfl,HX.out⟩
     case measure=>simp [intOf];omega
  ·have hkN:k=N:=by have:=HRk.out;omega
   subst hkN
   obtain ⟨Ar,dr,kr,_,hrr⟩:=HKk.out.best.read hm
   have HRr:=Lib.hid hrr
   have hglb:=HKk.out.best.glt.2
   have hm0:(0:Int)≤(m:Int):=by omega
   have hm1:(m:Int) < (k:Int):=by omega
   clear hrr
   go_wp2_with fail
   go_ret
   exact ⟨_,_,_,rfl,rfl,HRr.out,HKk.out.b⟩
end Go.Proofs.YtdfhhbncmdpoeaaGreat
namespace Go.Proofs.YtdfhhbncmdpoeaaGreat
open Go.RowKit
def syHas (n:Int) (l:List Gr.Sy):Bool:=l.any fun s=>s.non && decide (s.n=n)
theorem syHas_stands (p:Gr.Pr) (n:Nat):syHas (n:Int) p.right=Rc.stands p n:=rfl
end Go.Proofs.YtdfhhbncmdpoeaaGreat
namespace Go.Proofs.YtdfhhbncmdpoeaaGreat
open Go.RowKit
theorem syHas_one {n:Int} {l:List Gr.Sy} {k:Nat} (hk:k < l.length) (h:(l[k].non && decide (l[k].n=n))=true):syHas n l=true:=by
 unfold syHas
 rw [List.any_eq_true]
 exact ⟨_,List.getElem_mem hk,h⟩
theorem syHas_none {n:Int} {l:List Gr.Sy} (h:∀ x ∈ l,(x.non && decide (x.n=n))=false):syHas n l=false:=by
 rw [Bool.eq_false_iff]
 intro e
 unfold syHas at e
 rw [List.any_eq_true] at e
 obtain ⟨x,hx,e⟩:=e
 rw [h x hx] at e;cases e
theorem stands_any (left n:Int) (A:Option Addr) (len c:Nat) (right:List Gr.Sy) (w:World) (B:Nat)
  (hlen:len=right.length) (hmax:len≤1000000000) (hr:Rd w B A (syRow right)) (hB:B≤w.heap.size) :
  Calls Tryz.prog 60 #[.agg #[.int .i64 left,.slice A len c],.int .i64 n] w fun e w'=>e=.returned (.bool (syHas n right))∧Bl w w':=by
 have HL:=Lib.hid hlen;clear hlen
 have HA:=Lib.hid hr;clear hr
 have HB0:Hid (Bl w (w.alloc (.cells #[.int .i64 left,.slice A len c] 42))):=(Bl.refl w).alloc _
 have HK0:=Lib.hid (Bk.new w 42 #[.int .i64 left,.slice A len c])
 go_enter Tryz.func60,Tryz.ntmps60
 go_wp2_with fail
 generalize hw0:w.alloc (.cells #[.int .i64 left,.slice A len c] 42)=w0 at HB0 HK0 ⊢
 have HW0:=Lib.hid hw0;clear hw0
 have HR0:=Lib.hid (HA.out.bl hB HB0.out)
 go_loop [5] (fun i=>∃ k:Nat,k≤len∧i=.int .i64 k∧Hid (∀ x ∈ right.take k,(x.non && decide (x.n=n))=false)) (fun i=>len - (intOf i).toNat)
 case atStart=>exact ⟨0,Nat.zero_le _,rfl,by simp [Hid]⟩
 case round=>
  obtain ⟨k,hk,rfl,HT⟩:=hrel
  have kk0:w0.cell? ⟨w.heap.size,1,none⟩=some (.slice A len c):=HK0.out.cell 1
  have klt:w.heap.size < w0.heap.size:=HK0.out.lt
  by_cases hlt:k < len
  ·have hj:k < right.length:=by have:=HL.out;omega
   obtain ⟨b,off,rfl,hbB,q0,q1⟩:=HR0.out.sym hj
   have HOne:=Lib.hid (fun h=>syHas_one (n:=n) hj h)
   have HGood:=Lib.hid (all_snoc hj HT.out)
   generalize right[k]=y at q0 q1 HOne HGood
   obtain ⟨yb,yn⟩:=y
   simp only at q0 q1 HOne HGood
   clear hj
   cases yb with
   | false=>
    have HY:=Lib.hid (HGood.out rfl)
    go_wp2_with fail
    go_round
    case rel=>exact ⟨k + 1,by omega,by go_num,HY.out⟩
    case measure=>simp [intOf];omega
   | true=>
    by_cases he:yn=n
    ·subst he
     have HX:=Lib.hid (HOne.out (by simp))
     go_wp2_with fail
     go_ret
     exact ⟨by rw [HX.out];rfl,HB0.out⟩
    ·have hq:(yn == n)=false:=by simpa using he
     have HY:=Lib.hid (HGood.out (by simp [he]))
     clear he
     go_wp2_with fail
     go_round
     case rel=>exact ⟨k + 1,by omega,by go_num,HY.out⟩
     case measure=>simp [intOf];omega
  ·have HX:Hid (syHas n right=false):=syHas_none (by
    have h:=HT.out
    rw [List.take_of_length_le (by have:=HL.out;omega)] at h
    exact h)
   go_wp2_with fail
   go_ret
   exact ⟨by rw [HX.out];rfl,HB0.out⟩
structure ELRel (t n s:Int) (A:Option Addr) (len c N cl gl gg:Nat) (w0:World) (cur:Rk.Fs) (w:World):Prop where
 bg:Bk w gg 24 #[.int .i64 t,.int .i64 n,.int .i64 s,.slice A len c]
 own:w.ownsRow w0.heap.size 73 2 (.slice (some ⟨gl,0,none⟩) N cl) N (fcRow (fz cur))
 len_:cur.length=N
 b:Bl w0 w
section
variable {t n s:Int} {A:Option Addr} {len c N cl gl gg:Nat} {w0:World} {cur cur':Rk.Fs} {w w':World}
theorem ELRel.bl_ (h:ELRel t n s A len c N cl gl gg w0 cur w) (hb:Bl w w'):ELRel t n s A len c N cl gl gg w0 cur w':=⟨h.bg.bl hb,own_bl h.own hb,h.len_,h.b.trans hb⟩
theorem ELRel.is (h:ELRel t n s A len c N cl gl gg w0 cur w) (e:cur'=cur):ELRel t n s A len c N cl gl gg w0 cur' w:=by subst e;exact h
theorem ELRel.rd (h:ELRel t n s A len c N cl gl gg w0 cur w):Rd w w.heap.size (some ⟨gl,0,none⟩) (fcRow (fz cur)):=own_rd h.own
theorem ELRel.rank (h:ELRel t n s A len c N cl gl gg w0 cur w) {m:Nat} (hm:m < N):w.cell? ⟨gl,m * 2,none⟩=some (.int .i64 (Rk.rk cur m:Int)):=by
 have hl:m < (fz cur).length:=by rw [fz_len,h.len_];exact hm
 have e:=(fcRow_at (fz cur) m hl).1
 rw [fz_rank] at e
 exact (h.own.cellAt _ (by omega)).trans e
theorem ELRel.free (h:ELRel t n s A len c N cl gl gg w0 cur w) (j:Nat):w.frozen? ⟨gl,j,none⟩=false:=h.own.frozenAt j
theorem ELRel.isSome (h:ELRel t n s A len c N cl gl gg w0 cur w) {j:Nat} (hj:j < N * 2):∃ u,w.cell? ⟨gl,j,none⟩=some u:=by
 have hl:j < (fcRow (fz cur)).length:=by rw [fcRow_len,fz_len,h.len_];exact hj
 exact ⟨_,(h.own.cellAt j hj).trans (List.getElem?_eq_getElem hl)⟩
theorem ELRel.glt (h:ELRel t n s A len c N cl gl gg w0 cur w):gl < w.heap.size:=(h.own.lt gl rfl).2
theorem ELRel.put (h:ELRel t n s A len c N cl gl gg w0 cur w) {m r i:Nat} :
  ELRel t n s A len c N cl gl gg w0 (cur.set m (r,i)) ((w.setCell ⟨gl,m * 2,none⟩ (.int .i64 r)).setCell ⟨gl,m * 2 + 1,none⟩ (.int .i64 i)):=by
 have hfr:Fr (fun k=>k=gl) w ((w.setCell ⟨gl,m * 2,none⟩ (.int .i64 r)).setCell ⟨gl,m * 2 + 1,none⟩ (.int .i64 i)):=((Fr.refl _ w).own _ _).own _ _
 have h1:=(h.own.stored (m * 2) (.int .i64 r)).1
 have h2:=(h1.stored (m * 2 + 1) (.int .i64 i)).1
 have hlow:=(h.own.lt gl rfl).1
 refine ⟨h.bg.fr hfr (fun e=>h.bg.row h.own (by decide) (by rw [e];rfl)),?_,by rw [List.length_set];exact h.len_,h.b.fr hfr fun k hk e=>by omega⟩
 rw [fz_set,fcRow_set]
 exact h2
theorem ELRel.base {st:Nat} (ps:List Gr.Pr) (h:ELRel t n s A len c N cl gl gg w0 (Rk.zeros N) w) (hs:st < N):ELRel t n s A len c N cl gl gg w0 (Rc.rounds' ps N st 0) (w.setCell ⟨gl,st * 2,none⟩ (.int .i64 1)):=by
 have hfr:Fr (fun k=>k=gl) w (w.setCell ⟨gl,st * 2,none⟩ (.int .i64 1)):=(Fr.refl _ w).own _ _
 have h1:=(h.own.stored (st * 2) (.int .i64 1)).1
 have hlow:=(h.own.lt gl rfl).1
 refine ⟨h.bg.fr hfr (fun e=>h.bg.row h.own (by decide) (by rw [e];rfl)),?_,Rc.rounds'_length _ _,h.b.fr hfr fun k hk e=>by omega⟩
 show World.ownsRow _ _ _ _ _ _ (fcRow (fz (Rc.base N st)))
 rw [fz_base hs]
 exact h1
end
def Look (ps:List Gr.Pr) (cur:Rk.Fs) (r m j:Nat) (fs:Rk.Fs):Prop:=
 (fs=Rk.placed (Rc.pick ps) cur r m∧∀ j',j' < j→¬ Rc.hit ps cur r m j')∨(fs=Rk.placed (Rc.pick ps) cur r (m + 1)∧Rk.rk fs m≠0)
section
variable {ps:List Gr.Pr} {cur fs:Rk.Fs} {r m j:Nat}
theorem Look.start:Look ps cur r m 0 (Rk.placed (Rc.pick ps) cur r m):=.inl ⟨rfl,fun j' h=>absurd h (by omega)⟩
theorem rk_placed_at (ps:List Gr.Pr) (cur:Rk.Fs) (r m:Nat):Rk.rk (Rk.placed (Rc.pick ps) cur r m) m=Rk.rk cur m:=by
 unfold Rk.rk
 rw [Rk.placed_at _ _ _ (Nat.le_refl m)]
theorem Look.told (h:Look ps cur r m j fs) (h0:Rk.rk fs m≠0):fs=Rk.placed (Rc.pick ps) cur r (m + 1):=by
 rcases h with ⟨rfl,_⟩ | ⟨rfl,_⟩
 ·rw [rk_placed_at] at h0
  exact (Rk.placed_keep _ _ _ (.inl h0)).symm
 ·rfl
theorem Look.all (h:Look ps cur r m ps.length fs):fs=Rk.placed (Rc.pick ps) cur r (m + 1):=by
 rcases h with ⟨rfl,h⟩ | ⟨rfl,_⟩
 ·exact (Rk.placed_keep _ _ _ (.inr (Rc.pick_not h))).symm
 ·rfl
theorem Look.skip (h:Look ps cur r m j fs) (hn:Rk.rk fs m=0) (hj:j < ps.length) (hr:2≤r) (hx:syHas (m:Int) ps[j].right=false∨Rk.rk fs ps[j].left.toNat + 1≠r):Look ps cur r m (j + 1) fs:=by
 rcases h with ⟨rfl,h⟩ | ⟨_,h⟩
 ·refine .inl ⟨rfl,Rc.hits_succ h ?_⟩
  rintro ⟨p,hp,h1,h2⟩
  rw [List.getElem?_eq_getElem hj] at hp
  injection hp with hp
  subst hp
  rw [← syHas_stands] at h1
  rcases hx with hx | hx
  ·rw [hx] at h1;cases h1
  ·exact hx ((Rk.placed_ahead _ _ _ hr).2 h2)
 ·exact absurd hn h
theorem Look.put (h:Look ps cur r m j fs) (hn:Rk.rk fs m=0) (hj:j < ps.length) (hr:2≤r) (hm:m < cur.length) (h1:syHas (m:Int) ps[j].right=true) (h2:Rk.rk fs ps[j].left.toNat + 1=r) (j':Nat):Look ps cur r m j' (fs.set m (r,j)):=by
 rcases h with ⟨rfl,h⟩ | ⟨_,h⟩
 ·rw [rk_placed_at] at hn
  have hp:Rc.pick ps cur r m=some j:=Rc.pick_is ⟨ps[j],List.getElem?_eq_getElem hj,by rw [← syHas_stands];exact h1,(Rk.placed_ahead _ _ _ hr).1 h2⟩ h
  refine .inr ⟨(Rk.placed_put _ _ _ hn hp hm).symm,?_⟩
  unfold Rk.rk
  rw [List.getD_eq_getElem?_getD,List.getElem?_set,if_pos rfl,if_pos (by rw [Rk.placed_length];exact hm)]
  show r≠0
  omega
 ·exact absurd hn h
end
theorem rreach_any (t n s:Int) (A:Option Addr) (len c:Nat) (ps:List Gr.Pr) (w:World) (B:Nat) (hlen:len=ps.length) (hmax:len≤9223372036854775807) (hr:Prs w B A ps) (hB:B≤w.heap.size) :
  Calls Tryz.prog 32 #[.agg #[.int .i64 t,.int .i64 n,.int .i64 s,.slice A len c]] w (FPost (reachOf ⟨t,n,s,ps⟩) w):=by
 obtain ⟨i0,hi,hz0,hz1,hz2⟩:=info_parts fact_info
 have HL:=Lib.hid hlen;clear hlen
 have HA:=Lib.hid hr;clear hr
 have HBx:Hid (Bl w (w.alloc (.cells #[.int .i64 t,.int .i64 n,.int .i64 s,.slice A len c] 24))):=(Bl.refl w).alloc _
 have HGx:Hid (Bk (w.alloc (.cells #[.int .i64 t,.int .i64 n,.int .i64 s,.slice A len c] 24)) w.heap.size 24 #[.int .i64 t,.int .i64 n,.int .i64 s,.slice A len c]):=Bk.new w _ _
 go_enter Tryz.func32,Tryz.ntmps32
 go_wp2_with fail
 refine (rright_any t n s A len c ps _ B HL.out hmax (HA.out.bl hB HBx.out) (Nat.le_trans hB HBx.out.size)).mono ?_
 rintro e w1 ⟨rfl,hb1⟩
 have HB1:=Lib.hid (HBx.out.trans hb1)
 have HG1:=Lib.hid (HGx.out.bl hb1)
 clear hb1
 cases hok:okB ⟨t,n,s,ps⟩ with
 | false=>
  have HNo:=Lib.hid (reachOf_no hok)
  clear hok
  go_wp2_with fail
  go_ret
  exact ⟨none,0,0,rfl,by rw [HNo.out];rfl,by rw [HNo.out];exact Rd.nil,HB1.out⟩
 | true=>
  obtain ⟨n1,n2,n3⟩:=ok_nons hok
  obtain ⟨s1,s2⟩:=ok_start hok
  have hl60:len≤60:=by have:=HL.out;omega
  obtain ⟨N,rfl⟩:∃ N:Nat,n=(N:Int):=⟨n.toNat,by omega⟩
  obtain ⟨st,rfl⟩:∃ st:Nat,s=(st:Int):=⟨s.toNat,by omega⟩
  have hst:st < N:=by omega
  have HYes:=Lib.hid (reachOf_ok hok)
  have HOK:=Lib.hid hok
  clear hok
  have g1:w1.cell? ⟨w.heap.size,1,none⟩=some (.int .i64 (N:Int)):=HG1.out.cell 1
  have glt:w.heap.size < w1.heap.size:=HG1.out.lt
  go_wp2_with (
   refine wpList_make_full _ rfl (.tmp 11) (.tmp 11) 70 rfl w.heap.size 73 i0 (.agg #[.int .i64 0,.int .i64 0]) 2 Tryz.underlying70 hi hz0 hz1 .i64 .i64 (N:Int) (N:Int) N rfl rfl rfl rfl (by rw [hz2];omega) (by simp only [maxLen];omega) (by omega) ?_
   intro w2 hown2 hg2
   have HK:Hid (ELRel t N st A len c N N w1.heap.size w.heap.size w (Rk.zeros N) w2):=⟨HG1.out.grown hg2 (by simp),by rw [fz_zeros];exact hown2,by unfold Rk.zeros;rw [List.length_replicate],HB1.out.grown hg2 (by simp)⟩
   clear hown2 hg2 g1 glt
   have k2:w2.cell? ⟨w.heap.size,2,none⟩=some (.int .i64 (st:Int)):=HK.out.bg.cell 2
   have klt1:w.heap.size < w2.heap.size:=HK.out.bg.lt
   have klt2:w1.heap.size < w2.heap.size:=HK.out.glt
   have kf:=HK.out.free (st * 2)
   obtain ⟨u0,ku⟩:=HK.out.isSome (j:=st * 2) (by omega)
   have HKb:=Lib.hid (HK.out.base ps hst))
  clear k2 klt1 klt2 kf ku HK
  go_loopw [4] (fun i wr=>∃ k r:Nat,k + 1≤N∧r≤N + 1∧i=.int .i64 r∧Hid (r=k + 2)∧Hid (ELRel t N st A len c N N w1.heap.size w.heap.size w (Rc.rounds' ps N st k) wr)) (fun i _=>N + 1 - (intOf i).toNat)
  case atStart=>exact ⟨0,2,by omega,by omega,rfl,rfl,HKb.out⟩
  case round=>
   obtain ⟨k,r,hk,hrn,rfl,HRk,HKk⟩:=hrel
   have g1:wr.cell? ⟨w.heap.size,1,none⟩=some (.int .i64 (N:Int)):=HKk.out.bg.cell 1
   have glt:w.heap.size < wr.heap.size:=HKk.out.bg.lt
   by_cases hrl:r≤N
   ·have HRd:Hid (Rk.round (Rc.pick ps) (Rc.rounds' ps N st k) r=Rc.rounds' ps N st (k + 1)):=by rw [HRk.out];exact (Rc.rounds'_succ ..).symm
    have hr2:2≤r:=by have:=HRk.out;omega
    have hk2:k + 1 + 1≤N:=by have:=HRk.out;omega
    generalize hcur:Rc.rounds' ps N st k=cur at *
    have HCl:=Lib.hid HKk.out.len_
    have HP0:=Lib.hid (HKk.out.is (Rk.placed_zero (Rc.pick ps) cur r))
    clear hcur
    go_wp2_with fail
    clear g1 glt
    go_loopw [5] (fun i wr2=>∃ m:Nat,m≤N∧i=.int .i64 m∧Hid (ELRel t N st A len c N N w1.heap.size w.heap.size w (Rk.placed (Rc.pick ps) cur r m) wr2)) (fun i _=>N - (intOf i).toNat)
    case atStart=>exact ⟨0,Nat.zero_le _,rfl,HP0.out⟩
    case round=>
     obtain ⟨m,hm,rfl,HRm⟩:=hrel
     have g1:wr.cell? ⟨w.heap.size,1,none⟩=some (.int .i64 (N:Int)):=HRm.out.bg.cell 1
     have glt:w.heap.size < wr.heap.size:=HRm.out.bg.lt
     by_cases hmN:m < N
     ·go_wp2_with fail
      clear g1 glt
      go_loopw [6] (fun i wr3=>∃ (j:Nat) (fs:Rk.Fs),j≤len∧i=.int .i64 j∧Hid (Look ps cur r m j fs)∧Hid (ELRel t N st A len c N N w1.heap.size w.heap.size w fs wr3)) (fun i _=>len - (intOf i).toNat)
      case atStart=>exact ⟨0,_,Nat.zero_le _,rfl,Look.start,HRm.out⟩
      case round=>
       obtain ⟨j,fs,hj,rfl,HK,HRj⟩:=hrel
       have g3:wr.cell? ⟨w.heap.size,3,none⟩=some (.slice A len c):=HRj.out.bg.cell 3
       have glt:w.heap.size < wr.heap.size:=HRj.out.bg.lt
       have kr:=HRj.out.rank hmN
       have glt1:=HRj.out.glt
       by_cases hjl:j < len
       ·by_cases hz:Rk.rk fs m=0
        ·rw [hz] at kr
         have hj':j < ps.length:=by have:=HL.out;omega
         have hb0:=HRj.out.b
         have hBr:B≤wr.heap.size:=Nat.le_trans hB hb0.size
         obtain ⟨b,off,Ax,cx,rfl,hbB,hrx,hc0,hc1⟩:=(HA.out.bl hB hb0).at_ hj'
         obtain ⟨⟨o1,o2⟩,o3,o4⟩:=ok_syms HOK.out hj'
         obtain ⟨q,hqe,hql⟩:∃ q:Nat,ps[j].left=(q:Int)∧q < N:=⟨ps[j].left.toNat,by omega,by omega⟩
         have hqe2:ps[j].left.toNat=q:=by omega
         have HSkip:=Lib.hid (fun h=>HK.out.skip hz hj' hr2 h)
         have HPut:=Lib.hid (fun h1 h2=>HK.out.put hz hj' hr2 (by have:=HCl.out;omega) h1 h2 (j + 1))
         rw [hqe2] at HSkip HPut
         have HRX:=Lib.hid hrx
         have hpl:ps[j].right.length≤8:=o3
         have hbw:b < wr.heap.size:=by omega
         rw [hqe] at hc0
         clear hrx o1 o2 o3 o4 hb0 hqe hqe2 hz
         generalize ps[j].right=right at *
         have g3:wr.cell? ⟨w.heap.size,3,none⟩=some (.slice (some ⟨b,off,none⟩) len c):=HRj.out.bg.cell 3
         have HC0:Hid (∀ W:World,Bl wr W→W.cell? ⟨b,off + j * 2,none⟩=some (.int .i64 (q:Int))):=fun W hb=>(Below.cell hb (p:=⟨b,off + j * 2,none⟩) hbw).trans hc0
         clear hj'
         go_wp2_with fail
         refine (stands_any (q:Int) (m:Int) Ax right.length cx right wr wr.heap.size rfl (by omega) (HRX.out.more hBr) (Nat.le_refl _)).mono ?_
         rintro e w4 ⟨rfl,hb4⟩
         have HR4:=Lib.hid (HRj.out.bl_ hb4)
         have hc0:=HC0.out w4 hb4
         have hbw:b < w4.heap.size:=Nat.lt_of_lt_of_le hbw hb4.size
         clear hb4 g3 glt kr glt1 hc1
         cases hs:syHas (m:Int) right with
         | false=>
          have HX:=Lib.hid (HSkip.out (.inl hs))
          clear hs
          go_wp2_with fail
          go_roundw
          case rel=>exact ⟨j + 1,fs,by omega,by go_num,HX.out,HR4.out⟩
          case measure=>simp [intOf];omega
         | true=>
          have g3:w4.cell? ⟨w.heap.size,3,none⟩=some (.slice (some ⟨b,off,none⟩) len c):=HR4.out.bg.cell 3
          have glt:w.heap.size < w4.heap.size:=HR4.out.bg.lt
          have kr:=HR4.out.rank hql
          have glt1:=HR4.out.glt
          by_cases hq:Rk.rk fs q + 1=r
          ·have hqi:(((Rk.rk fs q:Nat):Int) == (r:Int) - 1)=true:=by simp;omega
           have HX:=Lib.hid (HPut.out hs hq)
           have HR5:=Lib.hid (HR4.out.put (m:=m) (r:=r) (i:=j))
           have kf0:=HR4.out.free (m * 2)
           have kf1:=HR4.out.free (m * 2 + 1)
           obtain ⟨u0,ku0⟩:=HR4.out.isSome (j:=m * 2) (by omega)
           obtain ⟨u1,ku1⟩:=HR4.out.isSome (j:=m * 2 + 1) (by omega)
           clear hs hq
           generalize Rk.rk fs q=xq at kr hqi
           go_wp2_with fail
           go_roundw
           case rel=>exact ⟨j + 1,_,by omega,by go_num,HX.out,HR5.out⟩
           case measure=>simp [intOf];omega
          ·have hqi:(((Rk.rk fs q:Nat):Int) == (r:Int) - 1)=false:=by simp;omega
           have HX:=Lib.hid (HSkip.out (.inr hq))
           clear hs hq
           generalize Rk.rk fs q=xq at kr hqi
           go_wp2_with fail
           go_roundw
           case rel=>exact ⟨j + 1,fs,by omega,by go_num,HX.out,HR4.out⟩
           case measure=>simp [intOf];omega
        ·have hq:(((Rk.rk fs m:Nat):Int) == 0)=false:=by simp;omega
         have HX:=Lib.hid (HRj.out.is (HK.out.told hz).symm)
         clear hz
         generalize Rk.rk fs m=x at kr hq
         go_wp2_with fail
         go_roundw
         case rel=>exact ⟨m + 1,by omega,by go_num,HX.out⟩
         case measure=>simp [intOf];omega
       ·have HX:=Lib.hid (HRj.out.is (Look.all (by have h:=HK.out;rwa [show j=ps.length by have:=HL.out;omega] at h)).symm)
        go_wp2_with fail
        go_roundw
        case rel=>exact ⟨m + 1,by omega,by go_num,HX.out⟩
        case measure=>simp [intOf];omega
     ·have HX:=Lib.hid (HRm.out.is ((Rk.placed_end (Rc.pick ps) cur r (show cur.length≤m by have:=HCl.out;omega)).trans HRd.out).symm)
      go_wp2_with fail
      go_roundw
      case rel=>exact ⟨k + 1,r + 1,by omega,by omega,by go_num,by rw [HRk.out];rfl,HX.out⟩
      case measure=>simp [intOf];omega
   ·have hkN:k + 1=N:=by have:=HRk.out;omega
    have HX:Hid (Rc.rounds' ps N st k=Rc.reach ps N st):=by
     show _=Rc.rounds' ps N st (N - 1)
     rw [show N - 1=k by omega]
    go_wp2_with fail
    go_ret
    refine ⟨_,N,N,rfl,?_,?_,HKk.out.b⟩
    ·rw [HYes.out,fz_len,Rc.reach_length];simp
    ·rw [HYes.out]
     have h:=HKk.out.rd
     rw [HX.out] at h
     simpa using h
end Go.Proofs.YtdfhhbncmdpoeaaGreat
namespace Go.Proofs.YtdfhhbncmdpoeaaGreat
open Go.RowKit
theorem rcheck_any (t n s:Int) (A:Option Addr) (len c:Nat) (ps:List Gr.Pr) (w:World) (B:Nat) (hlen:len=ps.length) (hmax:len≤9223372036854775807) (hr:Prs w B A ps) (hB:B≤w.heap.size) :
  Calls Tryz.prog 15 #[.agg #[.int .i64 t,.int .i64 n,.int .i64 s,.slice A len c]] w fun e w'=>
   e=.returned (.tuple #[.int .i64 (chkOf ⟨t,n,s,ps⟩).1,.int .i64 (chkOf ⟨t,n,s,ps⟩).2])∧Bl w w':=by
 have HL:=Lib.hid hlen;clear hlen
 have HP:Hid (∀ w',Bl w w'→Prs w' w'.heap.size A ps):=fun _ hb=>(hr.bl hB hb).more (Nat.le_trans hB hb.size)
 clear hr hB
 have HB0:Hid (Bl w (w.alloc (.cells #[.int .i64 t,.int .i64 n,.int .i64 s,.slice A len c] 24))):=(Bl.refl w).alloc _
 have HK0:=Lib.hid (Bk.new w 24 #[.int .i64 t,.int .i64 n,.int .i64 s,.slice A len c])
 go_enter Tryz.func15,Tryz.ntmps15
 go_wp2_with fail
 refine (rright_any t n s A len c ps _ _ HL.out hmax (HP.out _ HB0.out) (Nat.le_refl _)).mono ?_
 rintro e w1 ⟨rfl,hb1⟩
 have HB1:=Lib.hid (HB0.out.trans hb1)
 have HK1:=Lib.hid (HK0.out.bl hb1)
 clear hb1 HB0 HK0
 cases hok:okB ⟨t,n,s,ps⟩ with
 | false=>
  have HE:=Lib.hid (chkOf_no hok)
  go_wp2_with fail
  go_ret2
  exact ⟨by rw [HE.out];rfl,HB1.out⟩
 | true=>
 obtain ⟨n1,n2,n3⟩:=ok_nons hok
 obtain ⟨N,rfl⟩:∃ N:Nat,n=(N:Int):=⟨n.toNat,by omega⟩
 have HE:=Lib.hid (chkOf_ok hok)
 have HOK:=Lib.hid hok
 have HYes:Hid (factsOf true ⟨t,(N:Int),s,ps⟩=fz (Rk.ranks true ps N)):=factsOf_ok (terms:=true) hok
 have HRe:=Lib.hid (reachOf_ok hok)
 have HRl:Hid ((Rk.ranks true ps N).length=N):=Rk.ranks_length true ps N
 have HEl:Hid ((reachOf ⟨t,(N:Int),s,ps⟩).length=N):=reachOf_len hok
 have hlx60:len≤60:=by have:=HL.out;omega
 clear hok
 have k0:w1.cell? ⟨w.heap.size,0,none⟩=some (.int .i64 t):=HK1.out.cell 0
 have k1:w1.cell? ⟨w.heap.size,1,none⟩=some (.int .i64 (N:Int)):=HK1.out.cell 1
 have k2:w1.cell? ⟨w.heap.size,2,none⟩=some (.int .i64 s):=HK1.out.cell 2
 have k3:w1.cell? ⟨w.heap.size,3,none⟩=some (.slice A len c):=HK1.out.cell 3
 go_wp2_with fail
 refine (rranks_any t N s A len c ps true _ _ HL.out hmax (HP.out _ HB1.out) (Nat.le_refl _)).mono ?_
 intro e w2 h
 obtain ⟨Af,cf,he,hof,hbf⟩:=h.lit (k:=N) HYes.out (by rw [fz_len];exact HRl.out)
 subst he
 have HB2:=Lib.hid (HB1.out.trans hbf)
 have HK2:=Lib.hid (HK1.out.bl hbf)
 have HF2:=Lib.hid hof
 clear h hof hbf k0 k1 k2 k3 HB1 HK1
 go_wp2_with fail
 go_loop [5] (fun i=>∃ j:Nat,j≤N∧i=.int .i64 j∧Hid (∀ q,q < j→Sd.deadB ⟨t,(N:Int),s,ps⟩ q=false)) (fun i=>N - (intOf i).toNat)
 case atStart=>exact ⟨0,Nat.zero_le _,rfl,fun q hq=>absurd hq (by omega)⟩
 case round=>
  obtain ⟨j,hj,rfl,HT⟩:=hrel
  have k1:w2.cell? ⟨w.heap.size,1,none⟩=some (.int .i64 (N:Int)):=HK2.out.cell 1
  have klt:w.heap.size < w2.heap.size:=HK2.out.lt
  by_cases hlt:j < N
  ·have hjl:j < (fz (Rk.ranks true ps N)).length:=by rw [fz_len];exact Nat.lt_of_lt_of_eq hlt HRl.out.symm
   obtain ⟨bf,of,rfl,hbf,f0,f1⟩:=HF2.out.fact hjl
   clear f1
   rw [fz_rank] at f0
   have HD:Hid (Sd.deadB ⟨t,(N:Int),s,ps⟩ j=decide (Rk.rk (Rk.ranks true ps N) j=0)):=rfl
   clear hjl
   by_cases hz:Rk.rk (Rk.ranks true ps N) j=0
   ·have HX:=Lib.hid (Sd.fault_dead (g:=⟨t,(N:Int),s,ps⟩) (Sd.least_at (show j < ((N:Int)).toNat from hlt) (by rw [HD.out];exact decide_eq_true hz) HT.out))
    rw [hz] at f0
    clear hz
    go_wp2_with fail
    go_ret2
    exact ⟨by rw [HE.out,HX.out];rfl,HB2.out⟩
   ·have HX:=Lib.hid (Sd.below_snoc HT.out (by rw [HD.out];exact decide_eq_false hz))
    have hq:(((Rk.rk (Rk.ranks true ps N) j:Nat):Int) == 0)=false:=by simp;omega
    clear hz HD
    generalize Rk.rk (Rk.ranks true ps N) j=x at f0 hq
    go_wp2_with fail
    go_round
    case rel=>exact ⟨j + 1,by omega,by go_num,HX.out⟩
    case measure=>simp [intOf];omega
  ·have HN1:=Lib.hid (Sd.least_none.2 (fun q (hq:q < ((N:Int)).toNat)=>HT.out q (by have:q < N:=hq;omega)))
   clear HT
   have k0:w2.cell? ⟨w.heap.size,0,none⟩=some (.int .i64 t):=HK2.out.cell 0
   have k2:w2.cell? ⟨w.heap.size,2,none⟩=some (.int .i64 s):=HK2.out.cell 2
   have k3:w2.cell? ⟨w.heap.size,3,none⟩=some (.slice A len c):=HK2.out.cell 3
   go_wp2_with fail
   refine (rreach_any t N s A len c ps _ _ HL.out hmax (HP.out _ HB2.out) (Nat.le_refl _)).mono ?_
   intro e w3 h
   obtain ⟨Ag,cg,he,hog,hbg⟩:=h.lit (k:=N) HRe.out (by rw [← HRe.out];exact HEl.out)
   subst he
   have HB3:=Lib.hid (HB2.out.trans hbg)
   have HK3:=Lib.hid (HK2.out.bl hbg)
   have HF3:=Lib.hid hog
   clear h hog hbg k0 k1 k2 k3 klt HB2 HK2
   go_wp2_with fail
   go_loop [6] (fun i=>∃ j:Nat,j≤N∧i=.int .i64 j∧Hid (∀ q,q < j→Sd.aloneB ⟨t,(N:Int),s,ps⟩ q=false)) (fun i=>N - (intOf i).toNat)
   case atStart=>exact ⟨0,Nat.zero_le _,rfl,fun q hq=>absurd hq (by omega)⟩
   case round=>
    obtain ⟨j,hj,rfl,HT⟩:=hrel
    have k1:w3.cell? ⟨w.heap.size,1,none⟩=some (.int .i64 (N:Int)):=HK3.out.cell 1
    have klt:w.heap.size < w3.heap.size:=HK3.out.lt
    by_cases hlt:j < N
    ·have hjl:j < (fz (Rc.reach ps ((N:Int)).toNat s.toNat)).length:=by have h:=HEl.out;rw [HRe.out] at h;exact Nat.lt_of_lt_of_eq hlt h.symm
     obtain ⟨bf,of,rfl,hbf,f0,f1⟩:=HF3.out.fact hjl
     clear f1
     rw [fz_rank] at f0
     have HD:Hid (Sd.aloneB ⟨t,(N:Int),s,ps⟩ j=decide (Rk.rk (Rc.reach ps ((N:Int)).toNat s.toNat) j=0)):=rfl
     clear hjl
     generalize Rk.rk (Rc.reach ps ((N:Int)).toNat s.toNat) j=x at f0 HD
     by_cases hz:x=0
     ·have HX:=Lib.hid (Sd.fault_alone (g:=⟨t,(N:Int),s,ps⟩) HN1.out (Sd.least_at (show j < ((N:Int)).toNat from hlt) (by rw [HD.out];exact decide_eq_true hz) HT.out))
      subst hz
      go_wp2_with fail
      go_ret2
      exact ⟨by rw [HE.out,HX.out];rfl,HB3.out⟩
     ·have HX:=Lib.hid (Sd.below_snoc HT.out (by rw [HD.out];exact decide_eq_false hz))
      have hq:(((x:Nat):Int) == 0)=false:=by simp;omega
      clear hz HD
      go_wp2_with fail
      go_round
      case rel=>exact ⟨j + 1,by omega,by go_num,HX.out⟩
      case measure=>simp [intOf];omega
    ·have HN2:=Lib.hid (Sd.least_none.2 (fun q (hq:q < ((N:Int)).toNat)=>HT.out q (by have:q < N:=hq;omega)))
     clear HT
     go_wp2_with fail
     go_loopw [7] (fun i wr=>∃ j:Nat,j≤N∧i=.int .i64 j∧Hid (∀ q,q < j→Sd.leftB ⟨t,(N:Int),s,ps⟩ q=false)∧Hid (Bl w3 wr)) (fun i _=>N - (intOf i).toNat)
     case atStart=>exact ⟨0,Nat.zero_le _,rfl,fun q hq=>absurd hq (by omega),Bl.refl _⟩
     case round=>
      obtain ⟨j,hj,rfl,HT,HBr⟩:=hrel
      have HK4:=Lib.hid (HK3.out.bl HBr.out)
      have k0:wr.cell? ⟨w.heap.size,0,none⟩=some (.int .i64 t):=HK4.out.cell 0
      have k1:wr.cell? ⟨w.heap.size,1,none⟩=some (.int .i64 (N:Int)):=HK4.out.cell 1
      have k2:wr.cell? ⟨w.heap.size,2,none⟩=some (.int .i64 s):=HK4.out.cell 2
      have k3:wr.cell? ⟨w.heap.size,3,none⟩=some (.slice A len c):=HK4.out.cell 3
      have klt:w.heap.size < wr.heap.size:=HK4.out.lt
      by_cases hlt:j < N
      ·go_wp2_with fail
       refine (lway_any t N s A len c ps j _ _ HL.out (HP.out _ (HB3.out.trans HBr.out)) (Nat.le_refl _) HOK.out hlt).mono ?_
       rintro e w4 ⟨A4,l4,c4,rfl,hl4,_,hb4⟩
       have HB4:=Lib.hid (HBr.out.trans hb4)
       have HD:Hid (Sd.leftB ⟨t,(N:Int),s,ps⟩ j=decide (0 < l4)):=by rw [hl4];rfl
       clear hl4 hb4 k0 k1 k2 k3 klt
       by_cases hz:0 < l4
       ·have HX:=Lib.hid (Sd.fault_left (g:=⟨t,(N:Int),s,ps⟩) HN1.out HN2.out (Sd.least_at (show j < ((N:Int)).toNat from hlt) (by rw [HD.out];exact decide_eq_true hz) HT.out))
        go_wp2_with fail
        go_ret2
        exact ⟨by rw [HE.out,HX.out];rfl,HB3.out.trans HB4.out⟩
       ·have HX:=Lib.hid (Sd.below_snoc HT.out (by rw [HD.out];exact decide_eq_false hz))
        go_wp2_with fail
        go_roundw
        case rel=>exact ⟨j + 1,by omega,by go_num,HX.out,HB4.out⟩
        case measure=>simp [intOf];omega
      ·have HN3:=Lib.hid (Sd.least_none.2 (fun q (hq:q < ((N:Int)).toNat)=>HT.out q (by have:q < N:=hq;omega)))
       have HX:=Lib.hid (Sd.fault_none (g:=⟨t,(N:Int),s,ps⟩) HN1.out HN2.out HN3.out)
       go_wp2_with fail
       go_ret2
       exact ⟨by rw [HE.out,HX.out];rfl,HB3.out.trans HBr.out⟩
end Go.Proofs.YtdfhhbncmdpoeaaGreat
