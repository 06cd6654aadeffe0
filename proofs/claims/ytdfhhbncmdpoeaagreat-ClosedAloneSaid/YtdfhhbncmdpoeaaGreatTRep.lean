/- The reference's Replay: a derivation is played. -/
import Derived.Test.YtdfhhbncmdpoeaaGreatPlainS
import Derived.Test.YtdfhhbncmdpoeaaGreatBaseS
import Derived.Test.YtdfhhbncmdpoeaaGreatTreeA
import Derived.Test.YtdfhhbncmdpoeaaGreatRRankS
import Derived.Test.YtdfhhbncmdpoeaaGreatFactS
import Derived.BigQuiet
import Derived.RegionTactic
import Derived.Deep.QuietTactic
import Derived.Deep.RegionHeld3
set_option maxRecDepth 100000
set_option maxHeartbeats 8000000
namespace Go.Proofs.YtdfhhbncmdpoeaaGreat
open Go.RowKit
structure TRun (w0:World) (gg:Nat) (G:Array Value) (u:List Int) (v:Value) (A:Option Addr) (row:List Gr.Sy) (w:World):Prop where
 own:w.ownsRow w0.heap.size 3 1 v u.length (ins u)
 row:RdT w 39 A (syRow row)
 bg:Bk w gg 24 G
 b:Bl w0 w
section
variable {w0 w w2:World} {gg:Nat} {G:Array Value} {u u':List Int} {v v2:Value} {A A':Option Addr} {row row':List Gr.Sy} {o:Obj}
theorem TRun.bl_ (h:TRun w0 gg G u v A row w) (hb:Bl w w2):TRun w0 gg G u v A row w2:=⟨own_bl h.own hb,h.row.keep (.of_bl hb),h.bg.bl hb,h.b.trans hb⟩
theorem TRun.turn (h:TRun w0 gg G u v A row w) (hr:RdT w 39 A' (syRow row')):TRun w0 gg G u v A' row' w:=⟨h.own,hr,h.bg,h.b⟩
theorem TRun.more {x:Int} (h:TRun w0 gg G u v A row w) (ho:w2.ownsRow w0.heap.size 3 1 v2 (u.length + 1) (ins u ++ [.int .i64 x])) (hg:(w.alloc o).grownBy w2 v.ownBlock):TRun w0 gg G (u ++ [x]) v2 A row w2:=
 ⟨by rw [List.length_append,ins_append];exact ho,h.row.keep (((KeepT.refl _ w).alloc o).trans (.grown (h.own.alloc o) hg (by decide))),(h.bg.alloc o).grown hg fun e=>h.bg.row h.own (by decide) e.symm,(h.b.alloc o).grown hg fun k hk=>(h.own.lt k hk).1⟩
end
def TWPost (x:List Int × Nat) (w:World) (e:Ending) (w':World):Prop:=
 ∃ A len c,e=.returned (.tuple #[.slice A len c,.int .i64 x.2])∧len=x.1.length∧w'.ownsRow w.heap.size 3 1 (.slice A len c) len (ins x.1)∧Bl w w'
theorem TWPost.no {c:Nat} {x:List Int × Nat} {w w':World} (hx:x=([],c)) (hb:Bl w w'):TWPost x w (.returned (.tuple #[.slice none 0 0,.int .i64 c])) w':=by
 subst hx
 exact ⟨none,0,0,rfl,rfl,World.ownsRow_nil _ _ _ _,hb⟩
theorem rd_on2 {w1:World} {A:Option Addr} {xs:List Value} (h:Rd w1 w1.heap.size A xs) {W:World} (hb:Bl w1 W):Rd W W.heap.size A xs:=(h.bl (Nat.le_refl _) hb).more hb.size
def slen:Value→Nat
 | .slice _ n _=>n
 | _=>0
theorem treplay_any (t n s:Int) (A:Option Addr) (len c:Nat) (ps:List Gr.Pr) (Al:Option Addr) (ll cl:Nat) (l:List Int) (w:World) (B:Nat) (hlen:len=ps.length) (hmax:len≤9223372036854775807) (hr:Prs w B A ps) (hB:B≤w.heap.size)
  (hll:ll=l.length) (hml:ll≤9223372036854775806) (hrl:Rd w B Al (ins l)) :
  Calls Tryz.prog 10 #[.agg #[.int .i64 t,.int .i64 n,.int .i64 s,.slice A len c],.slice Al ll cl] w (TWPost (Dv.replayOf (okB ⟨t,n,s,ps⟩) ⟨t,n,s,ps⟩ l) w):=by
 obtain ⟨i0,hi,hz0,hz1,hz2⟩:=info_parts tp_sym
 obtain ⟨i1,hj,hy0,hy1,hy2⟩:=info_parts tp_int
 have HL:=Lib.hid hlen;clear hlen
 have HLL:=Lib.hid hll;clear hll
 have HP:Hid (∀ w',Bl w w'→Prs w' w'.heap.size A ps):=fun _ hb=>(hr.bl hB hb).more (Nat.le_trans hB hb.size)
 have HF:Hid (∀ w',Bl w w'→Rd w' w'.heap.size Al (ins l)):=fun _ hb=>(hrl.bl hB hb).more (Nat.le_trans hB hb.size)
 clear hr hB hrl
 have HB0:Hid (Bl w (w.alloc (.cells #[.int .i64 t,.int .i64 n,.int .i64 s,.slice A len c] 24))):=(Bl.refl w).alloc _
 have HG0:Hid (Bk (w.alloc (.cells #[.int .i64 t,.int .i64 n,.int .i64 s,.slice A len c] 24)) w.heap.size 24 #[.int .i64 t,.int .i64 n,.int .i64 s,.slice A len c]):=Bk.new w _ _
 go_enter Tryz.func10,Tryz.ntmps10
 go_wp2_with fail
 refine (rright_any t n s A len c ps _ _ HL.out hmax (HP.out _ HB0.out) (Nat.le_refl _)).mono ?_
 rintro e w1 ⟨rfl,hb1⟩
 have HB1:=Lib.hid (HB0.out.trans hb1)
 have HG1:=Lib.hid (HG0.out.bl hb1)
 clear hb1 HB0 HG0
 cases hok:okB ⟨t,n,s,ps⟩ with
 | false=>
  have HX:Hid (Dv.replayOf (okB ⟨t,n,s,ps⟩) ⟨t,n,s,ps⟩ l=([],1)):=by rw [hok];exact Dv.replay_arg ⟨t,n,s,ps⟩ l
  go_wp2_with fail
  go_ret2
  exact TWPost.no HX.out HB1.out
 | true=>
 by_cases hbig:2000 < ll
 ·have HX:Hid (Dv.replayOf (okB ⟨t,n,s,ps⟩) ⟨t,n,s,ps⟩ l=([],5)):=by rw [hok];exact Dv.replay_big (g:=⟨t,n,s,ps⟩) (l:=l) (by have:=HLL.out;omega)
  clear hok
  go_wp2_with fail
  go_ret2
  exact TWPost.no HX.out HB1.out
 have HR:Hid (Dv.replayOf (okB ⟨t,n,s,ps⟩) ⟨t,n,s,ps⟩ l=Dv.play ps l [⟨true,s⟩]):=by rw [hok];exact Dv.replay_play (g:=⟨t,n,s,ps⟩) (l:=l) (by have:=HLL.out;omega)
 obtain ⟨n1,n2,n3⟩:=ok_nons hok
 have HOK:=Lib.hid hok
 have hlx60:len≤60:=by have:=HL.out;omega
 clear hok
 have g2:w1.cell? ⟨w.heap.size,2,none⟩=some (.int .i64 s):=HG1.out.cell 2
 have glt:w.heap.size < w1.heap.size:=HG1.out.lt
 have hws:w.heap.size≤w1.heap.size:=HB1.out.size
 have HRu:Hid (TRun w w.heap.size #[.int .i64 t,.int .i64 n,.int .i64 s,.slice A len c] [] (.slice (some ⟨w1.heap.size,0,none⟩) 0 0) (some ⟨w1.heap.size + 1,0,none⟩) [⟨true,s⟩] ((w1.alloc (.cells #[] 3)).alloc (.cells #[.bool true,.int .i64 s] 39))):=by
  refine ⟨(World.ownsRow_lit (base:=w.heap.size) (e:=3) (size:=1) w1 #[] 0 hws (by simp [maxLen]) rfl).alloc _,?_,(HG1.out.alloc _).alloc _,(HB1.out.alloc _).alloc _⟩
  have h:=RdT.of_own (World.ownsRow_lit (base:=w.heap.size) (e:=39) (size:=2) (w1.alloc (.cells #[] 3)) #[.bool true,.int .i64 s] 1 (by simp;omega) (by simp [maxLen]) rfl)
  rw [show (w1.alloc (.cells #[] 3)).heap.size=w1.heap.size + 1 by simp] at h
  exact h
 go_wp2_with fail
 clear g2 glt
 go_loopw [6,7,8] (fun vw vr i wr=>∃ (k:Nat) (u:List Int) (Aw:Option Addr) (lw cw:Nat) (Ar:Option Addr) (row:List Gr.Sy) (lr cr:Nat),k≤ll + 1∧i=.int .i64 k∧vw=.slice Aw lw cw∧vr=.slice Ar lr cr∧Hid (lw=u.length)∧Hid (lr=row.length)∧lr≤cr∧lw + lr≤1 + 8 * k∧lw≤cw∧
  Hid (Dv.pre u (Dv.play ps (l.drop k) row)=Dv.play ps l [⟨true,s⟩])∧Hid (k=ll + 1→∀ x r,row=x :: r→x.non=true)∧Hid (TRun w w.heap.size #[.int .i64 t,.int .i64 n,.int .i64 s,.slice A len c] u (.slice Aw lw cw) Ar row wr)) (fun _ _ i _=>ll + 1 - (intOf i).toNat)
 case atStart=>exact ⟨0,[],_,0,0,_,[⟨true,s⟩],1,1,Nat.zero_le _,rfl,rfl,rfl,rfl,rfl,Nat.le_refl _,by omega,Nat.le_refl _,Dv.pre_nil (Dv.play_code _ _),fun h=>by omega,HRu.out⟩
 case round=>
  obtain ⟨k,u,Aw,lw,cw,Ar,row,lr,cr,hk,rfl,rfl,rfl,HLw,HLr,hlr,hsum,hcw,HT,HEnd,HRun⟩:=hrel
  have hll2000:ll≤2000:=by omega
  by_cases hkl:k≤ll
  ·go_wp2_with fail
   go_loopw [6,7] (fun vw vr wr2=>∃ (u:List Int) (Aw:Option Addr) (lw cw:Nat) (Ar:Option Addr) (row:List Gr.Sy) (lr cr:Nat),vw=.slice Aw lw cw∧vr=.slice Ar lr cr∧Hid (lw=u.length)∧Hid (lr=row.length)∧lr≤cr∧lw + lr≤1 + 8 * k∧lw≤cw∧
    Hid (Dv.pre u (Dv.play ps (l.drop k) row)=Dv.play ps l [⟨true,s⟩])∧Hid (TRun w w.heap.size #[.int .i64 t,.int .i64 n,.int .i64 s,.slice A len c] u (.slice Aw lw cw) Ar row wr2)) (fun _ vr _=>slen vr)
   case atStart=>exact ⟨u,Aw,lw,cw,Ar,row,lr,cr,rfl,rfl,HLw.out,HLr.out,hlr,hsum,hcw,HT.out,HRun.out⟩
   case round=>
    clear HT HEnd HRun HLw HLr hlr hsum hcw
    obtain ⟨u,Aw,lw,cw,Ar,row,lr,cr,rfl,rfl,HLw,HLr,hlr,hsum,hcw,HT,HRun⟩:=hrel
    have HBr:=Lib.hid HRun.out.b
    have glt:w.heap.size < wr.heap.size:=HRun.out.bg.lt
    have g3:wr.cell? ⟨w.heap.size,3,none⟩=some (.slice A len c):=HRun.out.bg.cell 3
    have HDr:Hid (∀ (h:k < l.length),l.drop k=l[k] :: l.drop (k + 1)):=fun h=>List.drop_eq_getElem_cons h
    cases row with
    | nil=>
     have hl0:lr=0:=HLr.out
     subst hl0
     by_cases hke:k=ll
     ·have HT2:Hid (Dv.pre u (Dv.play ps (l.drop (k + 1)) [])=Dv.play ps l [⟨true,s⟩]):=by
       have h:=HT.out
       rw [List.drop_eq_nil_of_le (by have:=HLL.out;omega)] at h ⊢
       exact h
      have hq:((k:Int) == (ll:Int))=true:=by simp;omega
      clear hke
      go_wp2_with fail
      go_roundw
      case rel=>exact ⟨k + 1,u,Aw,lw,cw,Ar,[],0,cr,by omega,by go_num,rfl,rfl,HLw.out,rfl,hlr,by omega,hcw,HT2.out,(fun _ x r h=>by cases h),HRun.out⟩
      case measure=>simp [intOf];omega
     ·have hkl':k < l.length:=by have:=HLL.out;omega
      have HX:Hid (Dv.replayOf (okB ⟨t,n,s,ps⟩) ⟨t,n,s,ps⟩ l=([],2)):=by
       have h:=HT.out
       rw [HDr.out hkl',Dv.play_empty,Dv.pre_bad _ _ (by decide)] at h
       rw [HR.out,← h];exact rfl
      have hq:((k:Int) == (ll:Int))=false:=by simp;omega
      clear hke hkl'
      go_wp2_with fail
      go_quiet (fail)
      go_wp2_with fail
      go_ret2
      exact TWPost.no HX.out (by first | exact HBr.out.drewN _ | exact HBr.out.drew | exact HBr.out)
    | cons x r=>
     have HL1:Hid (lr=r.length + 1):=HLr.out
     obtain ⟨bs,os,rfl,hbs,q0,q1⟩:=HRun.out.row.rd.sym (i:=0) (by simp)
     simp only [Nat.zero_mul,Nat.add_zero,List.getElem_cons_zero] at q0 q1
     have hlp:0 < lr:=by have:=HL1.out;omega
     obtain ⟨xb,xn⟩:=x
     simp only at q0 q1
     cases xb with
     | true=>
      by_cases hke:k=ll
      ·have HT2:Hid (Dv.pre u (Dv.play ps (l.drop (k + 1)) (⟨true,xn⟩ :: r))=Dv.play ps l [⟨true,s⟩]):=by
        have h:=HT.out
        rw [List.drop_eq_nil_of_le (by have:=HLL.out;omega)] at h ⊢
        exact h
       have hq:((k:Int) == (ll:Int))=true:=by simp;omega
       clear hke
       go_wp2_with fail
       go_roundw
       case rel=>exact ⟨k + 1,u,Aw,lw,cw,_,⟨true,xn⟩ :: r,lr,cr,by omega,by go_num,rfl,rfl,HLw.out,HLr.out,hlr,by omega,hcw,HT2.out,(fun _ x r h=>by injection h with h _;subst h;rfl),HRun.out⟩
       case measure=>simp [intOf];omega
      ·have hkl':k < l.length:=by have:=HLL.out;omega
       have hkl2:k < ll:=by omega
       have HT3:Hid (Dv.pre u (Dv.play ps (l[k] :: l.drop (k + 1)) (⟨true,xn⟩ :: r))=Dv.play ps l [⟨true,s⟩]):=by
        have h:=HT.out
        rw [HDr.out hkl'] at h
        exact h
       obtain ⟨bl,ol,rfl,hbl,y0⟩:=(HF.out _ HBr.out).int hkl'
       have hq:((k:Int) == (ll:Int))=false:=by simp;omega
       have i0:(0:Int)≤(k:Int):=by omega
       have i1:(k:Int) < (ll:Int):=by omega
       have hq0:((lr:Int) == 0)=false:=by simp;omega
       have i2:(0:Int) < (lr:Int):=by omega
       generalize l[k]=y at y0 HT3
       clear hke hkl' HDr HT
       by_cases hy0:y < 0
       ·have HX:Hid (Dv.replayOf (okB ⟨t,n,s,ps⟩) ⟨t,n,s,ps⟩ l=([],2)):=by
         have h:=HT3.out
         rw [Dv.play_bad rfl (fun h=>by omega),Dv.pre_bad _ _ (by decide)] at h
         rw [HR.out,← h];exact rfl
        have hd:decide (y < 0)=true:=decide_eq_true hy0
        go_wp2_with fail
        go_quiet (fail)
        go_wp2_with fail
        go_ret2
        exact TWPost.no HX.out (by first | exact HBr.out.drewN _ | exact HBr.out.drew | exact HBr.out)
       ·have hd:decide (y < 0)=false:=decide_eq_false hy0
        by_cases hy1:(len:Int)≤y
        ·have HX:Hid (Dv.replayOf (okB ⟨t,n,s,ps⟩) ⟨t,n,s,ps⟩ l=([],2)):=by
          have h:=HT3.out
          rw [Dv.play_bad rfl (fun h=>by
           obtain ⟨_,p,hp,_⟩:=h
           obtain ⟨hp,_⟩:=List.getElem?_eq_some_iff.1 hp
           have:=HL.out;omega),Dv.pre_bad _ _ (by decide)] at h
          rw [HR.out,← h];exact rfl
         have hd2:decide ((len:Int)≤y)=true:=decide_eq_true hy1
         go_wp2_with fail
         go_quiet (fail)
         go_wp2_with fail
         go_ret2
         exact TWPost.no HX.out (by first | exact HBr.out.drewN _ | exact HBr.out.drew | exact HBr.out)
        ·obtain ⟨q,rfl⟩:∃ q:Nat,y=(q:Int):=⟨y.toNat,by omega⟩
         have hql:q < len:=by omega
         have hqp:q < ps.length:=by have:=HL.out;omega
         obtain ⟨b,off,Ax,cx,rfl,hbB,hrx,hc0,hc1⟩:=(HP.out _ HBr.out).at_ hqp
         obtain ⟨⟨o1,o2⟩,o3,o4⟩:=ok_syms HOK.out hqp
         have HBad:=Lib.hid (fun h=>Dv.play_bad (ps:=ps) (s:=⟨true,xn⟩) (row:=r) (i:=(q:Int)) (l:=l.drop (k + 1)) rfl h)
         have HStep:=Lib.hid (fun (h:ps[q].left=xn)=>Dv.play_step (ps:=ps) (s:=⟨true,xn⟩) (row:=r) (l:=l.drop (k + 1)) rfl (k:=q) (p:=ps[q]) (List.getElem?_eq_getElem hqp) h)
         have HGe:Hid (ps[q]?=some ps[q]):=List.getElem?_eq_getElem hqp
         have hd2:decide ((len:Int)≤(q:Int))=false:=decide_eq_false hy1
         have j0:(0:Int)≤(q:Int):=by omega
         have j1:(q:Int) < (len:Int):=by omega
         have h8:ps[q].right.length≤8:=o3
         have HRx:=Lib.hid hrx
         clear o1 o2 o3 o4 hrx hy0 hy1
         generalize ps[q]=pq at *
         clear hqp
         obtain ⟨pl,pr⟩:=pq
         simp only at hc0 hc1 h8
         by_cases hle:pl=xn
         ·have HT4:Hid (Dv.pre u (Dv.play ps (l.drop (k + 1)) (pr ++ r))=Dv.play ps l [⟨true,s⟩]):=by
           have h:=HT3.out
           rw [HStep.out hle] at h
           exact h
          subst hle
          clear HBad HStep HT3
          go_wp2_with fail
          go_quiet (fail)
          go_wp2_with fail
          have HRd:=Lib.hid (HRun.out.bl_ ((Bl.refl wr).drewN nq))
          have g3d:(wr.drewN nq).cell? ⟨w.heap.size,3,none⟩=some (.slice (some ⟨b,off,none⟩) len c):=g3
          have y0d:(wr.drewN nq).cell? ⟨bl,ol + k,none⟩=some (.int .i64 (q:Int)):=y0
          have hcd:(wr.drewN nq).cell? ⟨b,off + q * 2 + 1,none⟩=some (.slice Ax pr.length cx):=hc1
          have HRy:Hid (Rd (wr.drewN nq) (wr.drewN nq).heap.size Ax (syRow pr)):=HRx.out
          generalize wr.drewN nq=wd at HRd g3d y0d hcd HRy ⊢
          have HS:Hid (∀ w1,Bl wd w1→w1.cell? ⟨w.heap.size,3,none⟩=some (.slice (some ⟨b,off,none⟩) len c)∧w1.cell? ⟨bl,ol + k,none⟩=some (.int .i64 (q:Int))∧w1.cell? ⟨b,off + q * 2 + 1,none⟩=some (.slice Ax pr.length cx)):=fun w1 hb=>
           ⟨(Below.cell hb (World.block_lt_of_cell? _ _ g3d)).trans g3d,(Below.cell hb (World.block_lt_of_cell? _ _ y0d)).trans y0d,(Below.cell hb (World.block_lt_of_cell? _ _ hcd)).trans hcd⟩
          have HLit:Hid ((wd.alloc (.cells #[] 39)).ownsRow wd.heap.size 39 2 (.slice (some ⟨wd.heap.size,0,none⟩) 0 0) 0 []):=World.ownsRow_lit (base:=wd.heap.size) (e:=39) (size:=2) wd #[] 0 (Nat.le_refl _) (by simp [maxLen]) rfl
          have hct:RdT wd 39 (if cr=1 then (some ⟨bs,os,none⟩:Option Addr) else (some (⟨bs,os,none⟩:Addr)).map (·.add (1 * 2))) (syRow r):=HRd.out.row.sy_cut (k:=1) (cap:=cr) (by show r.length + 1≤cr;rw [← HL1.out];exact hlr)
          have hsl:=fun (wx:World)=>run_slice_tail (P:=Tryz.prog) (t:=40) (e:=39) (size:=2) Tryz.underlying40 tp_size (some ⟨bs,os,none⟩) lr cr 1 1 rfl hlp wx
          generalize (if cr=1 then (some ⟨bs,os,none⟩:Option Addr) else (some (⟨bs,os,none⟩:Addr)).map (·.add (1 * 2)))=Ay at hct hsl
          have HCut:=Lib.hid hct
          clear hct
          have HBc:Hid (Bl wd wd.drew):=(Bl.refl wd).drew
          have hlr16:lr≤20000:=by omega
          go_region_held3 (fun w'=>w'.cell? ⟨w.heap.size,3,none⟩=some (.slice (some ⟨b,off,none⟩) len c)∧w'.cell? ⟨bl,ol + k,none⟩=some (.int .i64 (q:Int))∧w'.cell? ⟨b,off + q * 2 + 1,none⟩=some (.slice Ax pr.length cx)) (first | exact HS.out _ HBc.out | exact HS.out _ ((Bl.refl wd).alloc _) | exact HS.out _ ((Bl.refl wd).alloc _).drew) (first
           | (refine step_append_rdN rfl (.tmp 85) (.tmp 94) 40 rfl wd.heap.size 39 _ (.agg #[.bool false,.int .i64 0]) 2 16 Tryz.underlying40 hi hz0 hz1 hz2 rfl (by decide) (.slice (some ⟨wd.heap.size,0,none⟩) 0 0) 0 [] rfl HLit.out _ Ax pr.length cx (syRow pr) rfl (rd_on2 HRy.out (by first | exact ((Bl.refl wd).alloc _) | exact ((Bl.refl wd).alloc _).drew)) (syRow_len _) (syRow_one _) (by simp only [maxLen];omega) (by omega) (by simp) ?_;intro v2 x2 hown2 hg2;rw [Nat.zero_add,List.nil_append] at hown2;obtain ⟨A2,d2,hv2,hd2⟩:=own_form hown2;subst hv2;have HO2:=Lib.hid hown2;have HBx:Hid (Bl wd x2):=(by first | exact ((Bl.refl wd).alloc _).grown hg2 (fun k hk=>(HLit.out.lt k hk).1) | exact (((Bl.refl wd).alloc _).drew).grown hg2 (fun k hk=>(HLit.out.lt k hk).1));clear HBc;have HBc:=Lib.hid HBx.out;clear HBx hown2 hg2 hd2)
           | (refine step_append_rdN rfl (.tmp 95) (.tmp 97) 40 rfl wd.heap.size 39 _ (.agg #[.bool false,.int .i64 0]) 2 16 Tryz.underlying40 hi hz0 hz1 hz2 rfl (by decide) (.slice A2 pr.length d2) pr.length (syRow pr) rfl HO2.out _ Ay (lr - 1) (cr - 1) (syRow r) rfl (HCut.out.keep (.of_bl HBc.out)).rd ((syRow_len _).trans (by rw [HL1.out];rfl)) (syRow_one _) (by simp only [maxLen];omega) (by omega) HBc.out.size ?_;intro v3 x3 hown3 hg3;obtain ⟨A3,d3,hv3,hd3⟩:=own_form hown3;subst hv3;have HO3:=Lib.hid hown3;have HD3:=Lib.hid hd3;have HBx:Hid (Bl wd x3):=HBc.out.grown hg3 (fun k hk=>(HO2.out.lt k hk).1);clear HBc;have HBc:=Lib.hid HBx.out;clear HBx hown3 hg3 hd3)
           | fail)
          go_wp2_with fail
          go_roundw
          case rel=>exact ⟨k + 1,u,Aw,lw,cw,A3,pr ++ r,pr.length + (lr - 1),d3,by omega,by go_num,rfl,rfl,HLw.out,by have:=HL1.out;rw [List.length_append];show pr.length + (lr - 1)=pr.length + r.length;omega,HD3.out,by omega,hcw,HT4.out,(fun h=>by omega),(HRd.out.bl_ HBc.out).turn (by rw [syRow_append];exact RdT.of_own HO3.out)⟩
          case measure=>simp [intOf];omega
         ·have HX:Hid (Dv.replayOf (okB ⟨t,n,s,ps⟩) ⟨t,n,s,ps⟩ l=([],2)):=by
           have h:=HT3.out
           rw [HBad.out (fun h=>by
            obtain ⟨_,p,hp,hl⟩:=h
            rw [Int.toNat_natCast,HGe.out] at hp
            injection hp with hp
            subst hp
            exact hle hl),Dv.pre_bad _ _ (by decide)] at h
           rw [HR.out,← h];exact rfl
          have hq5:(pl == xn)=false:=by simpa using hle
          have hq6:(pl != xn)=true:=by simpa using hle
          have hq7:decide (pl=xn)=false:=decide_eq_false hle
          go_wp2_with fail
          go_quiet (fail)
          go_wp2_with fail
          go_ret2
          exact TWPost.no HX.out (by first | exact HBr.out.drewN _ | exact HBr.out.drew | exact HBr.out)
     | false=>
      have HT2:Hid (Dv.pre (u ++ [xn]) (Dv.play ps (l.drop k) r)=Dv.play ps l [⟨true,s⟩]):=by
       have h:=HT.out
       rw [Dv.play_tok rfl,Dv.pre_pre] at h
       exact h
      have HOw:=Lib.hid HRun.out.own
      have HMore:=Lib.hid (fun (w2:World) (v2:Value) (o:Obj) ho hg=>HRun.out.more (w2:=w2) (v2:=v2) (o:=o) (x:=xn) ho hg)
      have hws2:w.heap.size≤wr.heap.size:=HBr.out.size
      rw [← HLw.out] at HOw HMore
      go_wp2_with (at_builtin;refine wpList_append_own _ rfl (.tmp 36) (.tmp 41) 25 rfl w.heap.size 3 i1 (.int .i64 0) 1 8 Tryz.underlying25 hj hy0 hy1 hy2 rfl (by decide) _ _ _ rfl (HOw.out.alloc _) ⟨wr.heap.size,0,none⟩ 1 1 [.int .i64 xn] rfl rfl (one_new _ _ _) (by simp [Value.oneCell']) (by simp only [maxLen];omega) (by omega) (by simp;omega) ?_;intro v2 w2 hown2 hg2 _;obtain ⟨A2,d2,hv2,hd2⟩:=own_form hown2;subst hv2;have HY:=Lib.hid (HMore.out _ _ _ hown2 hg2);clear hown2 hg2)
      go_roundw
      case rel=>exact ⟨u ++ [xn],A2,lw + 1,d2,_,r,lr - 1,cr - 1,rfl,rfl,by rw [List.length_append,HLw.out];rfl,by have:=HL1.out;show lr - 1=r.length;omega,by omega,by omega,hd2,HT2.out,HY.out.turn (HY.out.row.sy_cut (k:=1) (cap:=cr) (by show r.length + 1≤cr;rw [← HL1.out];exact hlr))⟩
      case measure=>simp [slen];omega
  ·have hkE:k=ll + 1:=by omega
   have HDn:Hid (l.drop k=[]):=List.drop_eq_nil_of_le (by have:=HLL.out;omega)
   have HHd:=Lib.hid (HEnd.out hkE)
   clear HEnd
   cases row with
   | nil=>
    have hl0:lr=0:=HLr.out
    subst hl0
    have HX:Hid (Dv.replayOf (okB ⟨t,n,s,ps⟩) ⟨t,n,s,ps⟩ l=(u,0)):=by
     have h:=HT.out
     rw [HDn.out,Dv.play_end,Dv.pre_ok,List.append_nil] at h
     rw [HR.out,← h];exact rfl
    clear hkE
    go_wp2_with fail
    go_ret2
    exact ⟨Aw,lw,cw,by rw [HX.out];rfl,by rw [HX.out];exact HLw.out,by rw [HX.out];have h:=HRun.out.own;rw [← HLw.out] at h;exact h,HRun.out.b⟩
   | cons x r=>
    have hl1:0 < lr:=by have:lr=r.length + 1:=HLr.out;omega
    have HX:Hid (Dv.replayOf (okB ⟨t,n,s,ps⟩) ⟨t,n,s,ps⟩ l=([],3)):=by
     have h:=HT.out
     rw [HDn.out,Dv.play_short (HHd.out x r rfl),Dv.pre_bad _ _ (by decide)] at h
     rw [HR.out,← h];exact rfl
    clear hkE
    go_wp2_with fail
    go_ret2
    exact TWPost.no HX.out HRun.out.b
end Go.Proofs.YtdfhhbncmdpoeaaGreat
