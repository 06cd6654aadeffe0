/- tree.derive: a derivation's word and nodes. -/
import Derived.Test.YtdfhhbncmdpoeaaGreatTreeA
import Derived.Test.YtdfhhbncmdpoeaaGreatGRS
import Derived.Test.YtdfhhbncmdpoeaaGreatFactS
import Derived.Test.YtdfhhbncmdpoeaaGreatTRep
import Derived.OwnWalk
set_option maxRecDepth 100000
set_option maxHeartbeats 4000000
namespace Go.Proofs.YtdfhhbncmdpoeaaGreat
open Go.RowKit
theorem tp_node:(Tryz.prog.info? 61).map (fun i=>(i.zero,i.size,i.bytes))=some (some (.agg #[.int .i64 0,.slice none 0 0]),2,32):=by kernel_rfl
def NRd (w:World) (B:Nat) (A:Option Addr) (nd:List (Int × List Int)):Prop:=
 ∀ i,i < nd.length→∃ b off Ax c,A=some ⟨b,off,none⟩∧b < B∧w.cell? ⟨b,off + i * 2,none⟩=some (.int .i64 (nd.getD i (0,[])).1)∧w.cell? ⟨b,off + i * 2 + 1,none⟩=some (.slice Ax (nd.getD i (0,[])).2.length c)∧Rd w B Ax (ins (nd.getD i (0,[])).2)
def DPost (x:List Int × Nat) (ps:List Gr.Pr) (s:Int) (l:List Int) (w:World) (e:Ending) (w':World):Prop:=
 ∃ A len c An ln cn nd,e=.returned (.tuple #[.slice A len c,.slice An ln cn,.int .i64 x.2])∧len=x.1.length∧w'.ownsRow w.heap.size 3 1 (.slice A len c) len (ins x.1)∧ln=nd.length∧NRd w' w'.heap.size An nd∧(x.2≠0→nd=[])∧(x.2=0→Dv.NodesOf ps s l nd)∧ln≤2000∧Bl w w'
theorem NRd.nil {w:World} {B:Nat} {A:Option Addr}:NRd w B A []:=fun i hi=>absurd hi (by simp)
theorem DPost.no {c:Nat} {x:List Int × Nat} {ps:List Gr.Pr} {s:Int} {l:List Int} {w w':World} (hx:x=([],c)) (hc:c≠0) (hb:Bl w w'):DPost x ps s l w (.returned (.tuple #[.slice none 0 0,.slice none 0 0,.int .i64 c])) w':=by
 subst hx
 exact ⟨none,0,0,none,0,0,[],rfl,rfl,World.ownsRow_nil _ _ _ _,rfl,.nil,fun _=>rfl,fun h=>absurd h hc,Nat.zero_le _,hb⟩
theorem getD_nils (n i:Nat):(List.replicate n ([]:List Int)).getD i []=[]:=by
 rw [List.getD_eq_getElem?_getD,List.getElem?_replicate]
 split <;> rfl
theorem DRel.start {lo dd n0 sb nb N:Nat} {s:Int} {vl:Value} {w:World} (hb:Bk w dd 143 #[.slice none 0 0,vl])
  (ho:w.ownsRow lo 147 2 vl 1 [.pointer (some ⟨n0,0,none⟩),.slice (some ⟨sb,0,none⟩) 1 1]) (h0:Bk w n0 61 #[.int .i64 0,.slice none 0 0]) (hs:Bk w sb 39 #[.bool true,.int .i64 s])
  (hm:w.ownsRow lo 61 2 (.slice (some ⟨nb,0,none⟩) N N) N (madeCells (Value.cells (.agg #[.int .i64 0,.slice none 0 0])) (N * 2)).toList) (hne:n0≠nb) (h1:lo≤dd) (h2:lo≤n0) :
  DRel lo dd n0 nb N [] [(0,[⟨true,s⟩])] (List.replicate (N + 1) []) [] (fun _=>.slice none 0 0) vl [.pointer (some ⟨n0,0,none⟩),.slice (some ⟨sb,0,none⟩) 1 1] w:=by
 have hr:RdT w 39 (some ⟨sb,0,none⟩) (syRow [⟨true,s⟩]):=fun _=>⟨sb,0,_,_,rfl,hs,fun j u hu=>by
  rw [Nat.zero_add,hs.cell j,← Array.getElem?_toList]
  exact hu⟩
 have hrow:∀ i,(([]:List Int) :: List.replicate (N + 1) []).getD i []=[]:=fun i=>getD_nils (N + 2) i
 refine ⟨hb,ho,SK.cons (cs:=[]) (n:=0) (r:=[⟨true,s⟩]) SK.nil (Nat.le_refl _) (.inr hr),Dv.Ids.cons (Nat.succ_pos _) Dv.Ids.nil,by simp,⟨fun i _=>by rw [hrow];exact World.ownsRow_nil _ _ _ _,fun _ _ _ _ _ _ h=>by cases h⟩,?_,h1,h2,(hm.lt nb rfl).1⟩
 rcases hm.2 with ⟨hv,_⟩ | ⟨g,cap,cur,hv,_,hg,_,_,hsz,ht⟩
 ·cases hv
 ·cases hv
  have ht2:cur.toList=(madeCells (Value.cells (.agg #[.int .i64 0,.slice none 0 0])) (N * 2)).toList:=by rw [← ht,List.take_of_length_le (by rw [Array.length_toList,hsz];exact Nat.le_refl _)]
  refine ⟨_,cur,h0,hg,hne,rfl,hsz,rfl,fun n hn=>?_,Nat.zero_le _,fun i hi=>absurd hi (by simp)⟩
  rw [← Array.getElem?_toList,ht2]
  have hj:n * 2 + 1 < N * 2:=by omega
  have hm2:(n * 2 + 1) % 2=1:=by omega
  simp [madeCells,hj]
  show (Value.agg #[.int .i64 0,.slice none 0 0]).cells[(n * 2 + 1) % 2]! = _
  rw [hm2]
  rfl
theorem derive_any (t n s:Int) (A:Option Addr) (len c:Nat) (ps:List Gr.Pr) (Al:Option Addr) (ll cl:Nat) (l:List Int) (w:World) (B:Nat) (hlen:len=ps.length) (hmax:len≤9223372036854775807) (hr:PrsC w B A ps) (hB:B≤w.heap.size)
  (hll:ll=l.length) (hml:ll≤9223372036854775806) (hrl:Rd w B Al (ins l)) :
  Calls Tryz.prog 42 #[.agg #[.int .i64 t,.int .i64 n,.int .i64 s,.slice A len c],.slice Al ll cl] w (DPost (Dv.replayOf (okB ⟨t,n,s,ps⟩) ⟨t,n,s,ps⟩ l) ps s l w):=by
 obtain ⟨i0,hi,hz0,hz1,hz2⟩:=info_parts tp_node
 have HL:=Lib.hid hlen;clear hlen
 have HLL:=Lib.hid hll;clear hll
 have HP:Hid (∀ w',Bl w w'→PrsC w' w.heap.size A ps):=fun _ hb=>(hr.bl hB hb).more hB
 have HF:Hid (∀ w',Bl w w'→Rd w' w.heap.size Al (ins l)):=fun _ hb=>(hrl.bl hB hb).more hB
 clear hr hB hrl
 have HB0:Hid (Bl w (w.alloc (.cells #[.int .i64 t,.int .i64 n,.int .i64 s,.slice A len c] 24))):=(Bl.refl w).alloc _
 have HG0:Hid (Bk (w.alloc (.cells #[.int .i64 t,.int .i64 n,.int .i64 s,.slice A len c] 24)) w.heap.size 24 #[.int .i64 t,.int .i64 n,.int .i64 s,.slice A len c]):=Bk.new w _ _
 go_enter Tryz.func42,Tryz.ntmps42
 go_wp2_with fail
 refine (right_any t n s A len c ps _ w.heap.size HL.out hmax (HP.out _ HB0.out).prs HB0.out.size).mono ?_
 rintro e w1 ⟨rfl,hb1⟩
 have HB1:=Lib.hid (HB0.out.trans hb1)
 have HG1:=Lib.hid (HG0.out.bl hb1)
 clear hb1 HB0 HG0
 cases hok:okB ⟨t,n,s,ps⟩ with
 | false=>
  have HX:Hid (Dv.replayOf (okB ⟨t,n,s,ps⟩) ⟨t,n,s,ps⟩ l=([],1)):=by rw [hok];exact Dv.replay_arg ⟨t,n,s,ps⟩ l
  go_wp2_with fail
  go_ret3
  exact DPost.no HX.out (by decide) HB1.out
 | true=>
 by_cases hbig:2000 < ll
 ·have HX:Hid (Dv.replayOf (okB ⟨t,n,s,ps⟩) ⟨t,n,s,ps⟩ l=([],5)):=by rw [hok];exact Dv.replay_big (g:=⟨t,n,s,ps⟩) (l:=l) (by have:=HLL.out;omega)
  clear hok
  go_wp2_with fail
  go_ret3
  exact DPost.no HX.out (by decide) HB1.out
 have HR:Hid (Dv.replayOf (okB ⟨t,n,s,ps⟩) ⟨t,n,s,ps⟩ l=Dv.play ps l [⟨true,s⟩]):=by rw [hok];exact Dv.replay_play (g:=⟨t,n,s,ps⟩) (l:=l) (by have:=HLL.out;omega)
 obtain ⟨n1,n2,n3⟩:=ok_nons hok
 have HOK:=Lib.hid hok
 have hlx60:len≤60:=by have:=HL.out;omega
 have hll2:ll≤2000:=by omega
 clear hok
 have g2:w1.cell? ⟨w.heap.size,2,none⟩=some (.int .i64 s):=HG1.out.cell 2
 have glt:w.heap.size < w1.heap.size:=HG1.out.lt
 have HDd:Hid (Bk (((w1.alloc (.cells #[.slice none 0 0,.slice none 0 0] 143)).alloc (.cells #[.int .i64 0,.slice none 0 0] 61)).alloc (.cells #[.bool true,.int .i64 s] 39)) w1.heap.size 143 #[.slice none 0 0,.slice none 0 0]):=((Bk.new w1 _ _).alloc _).alloc _
 have HN0:Hid (Bk (((w1.alloc (.cells #[.slice none 0 0,.slice none 0 0] 143)).alloc (.cells #[.int .i64 0,.slice none 0 0] 61)).alloc (.cells #[.bool true,.int .i64 s] 39)) (w1.heap.size + 1) 61 #[.int .i64 0,.slice none 0 0]):=by
  have h:=(Bk.new (w1.alloc (.cells #[.slice none 0 0,.slice none 0 0] 143)) 61 #[.int .i64 0,.slice none 0 0]).alloc (.cells #[.bool true,.int .i64 s] 39)
  rw [show (w1.alloc (.cells #[.slice none 0 0,.slice none 0 0] 143)).heap.size=w1.heap.size + 1 by simp] at h
  exact h
 have HSb:Hid (Bk (((w1.alloc (.cells #[.slice none 0 0,.slice none 0 0] 143)).alloc (.cells #[.int .i64 0,.slice none 0 0] 61)).alloc (.cells #[.bool true,.int .i64 s] 39)) (w1.heap.size + 1 + 1) 39 #[.bool true,.int .i64 s]):=by
  have h:=Bk.new ((w1.alloc (.cells #[.slice none 0 0,.slice none 0 0] 143)).alloc (.cells #[.int .i64 0,.slice none 0 0] 61)) 39 #[.bool true,.int .i64 s]
  rw [show ((w1.alloc (.cells #[.slice none 0 0,.slice none 0 0] 143)).alloc (.cells #[.int .i64 0,.slice none 0 0] 61)).heap.size=w1.heap.size + 1 + 1 by simp] at h
  exact h
 have HB3:Hid (Bl w1 (((w1.alloc (.cells #[.slice none 0 0,.slice none 0 0] 143)).alloc (.cells #[.int .i64 0,.slice none 0 0] 61)).alloc (.cells #[.bool true,.int .i64 s] 39))):=(((Bl.refl w1).alloc _).alloc _).alloc _
 go_wp2_with fail
 generalize ((w1.alloc (.cells #[.slice none 0 0,.slice none 0 0] 143)).alloc (.cells #[.int .i64 0,.slice none 0 0] 61)).alloc (.cells #[.bool true,.int .i64 s] 39)=w3 at *
 refine (push_any w1.heap.size w1.heap.size 0 (.slice none 0 0) (.slice none 0 0) (some ⟨w1.heap.size + 1,0,none⟩) (some ⟨w1.heap.size + 1 + 1,0,none⟩) 1 1 [] w3 HDd.out (World.ownsRow_nil _ _ _ _) (by omega) HB3.out.size).mono ?_
 rintro e w4 ⟨rfl,vl4,hb4,ho4,hf4⟩
 have HF4:Hid (Fr (fun k=>k=w1.heap.size) w3 w4):=hf4.mono fun k _ hk=>by
  rcases hk with hk | hk
  ·exact hk
  ·cases hk
 have HD4:=Lib.hid hb4
 have HO4:Hid (w4.ownsRow w1.heap.size 147 2 vl4 1 [.pointer (some ⟨w1.heap.size + 1,0,none⟩),.slice (some ⟨w1.heap.size + 1 + 1,0,none⟩) 1 1]):=ho4
 have HN4:=Lib.hid (HN0.out.fr HF4.out (by omega))
 have HS4:=Lib.hid (HSb.out.fr HF4.out (by omega))
 have HW4:Hid (Below w1.heap.size w1 w4):=Below.trans HB3.out (below_fr (lo:=w1.heap.size) HF4.out (fun k hk=>by omega) HB3.out.size)
 clear hb4 ho4 hf4 HDd HN0 HSb HB3 HF4 g2
 have hlo4:w1.heap.size≤w4.heap.size:=HW4.out.size
 go_wp2_with (refine wpList_make_full _ rfl (.tmp 30) (.tmp 30) 56 rfl w1.heap.size 61 i0 (.agg #[.int .i64 0,.slice none 0 0]) 2 Tryz.underlying56 hi hz0 hz1 .i64 .i64 (ll:Int) (ll:Int) ll rfl rfl rfl rfl (by rw [hz2];omega) (by simp only [maxLen];omega) hlo4 ?_;intro w5 hown5 hg5;have HR5:Hid (∃ f vl cs,DRel w1.heap.size w1.heap.size (w1.heap.size + 1) w4.heap.size ll [] [(0,[⟨true,s⟩])] (List.replicate (ll + 1) []) [] f vl cs w5):=⟨_,_,_,DRel.start (HD4.out.grown hg5 (by simp)) (own_bl HO4.out ((Bl.refl w4).grown hg5 (by simp))) (HN4.out.grown hg5 (by simp)) (HS4.out.grown hg5 (by simp)) hown5 (by have:=HN4.out.lt;omega) (Nat.le_refl _) (by omega)⟩;have HW5:Hid (Below w1.heap.size w1 w5):=below_bl HW4.out hlo4 ((Bl.refl w4).grown hg5 (by simp));clear hown5 hg5 HD4 HO4 HN4 HS4 HW4)
 generalize hL:w1.heap.size=L at *
 generalize w4.heap.size=nb at *
 have HErr:Hid (∀ c,c≠0→Dv.Mc ps l [] [(0,[⟨true,s⟩])] [[]] ([],[],c)→Dv.replayOf (okB ⟨t,n,s,ps⟩) ⟨t,n,s,ps⟩ l=([],c)):=fun c hc hM=>by
  rw [HR.out,← Dv.pre_nil (x:=Dv.play ps l [⟨true,s⟩]) (Dv.play_code _ _)]
  exact hM.play.symm
 go_loopw [34] (fun i wr=>∃ (k:Nat) (u:List Int) (S:List (Nat × List Gr.Sy)) (ats:List (List Int)),k≤ll∧i=.int .i64 k∧Hid (ats.length=k + 1∧Dv.Ids S (k + 1))∧Hid (∃ f vl cs,DRel L L (L + 1) nb ll u S (ats ++ List.replicate (ll - k) []) (l.take k) f vl cs wr)∧Hid (Dv.Bd (2 + 9 * k) u S (ats ++ List.replicate (ll - k) []))∧
  Hid (∀ res,Dv.Mc ps (l.drop k) u S ats res→Dv.Mc ps l [] [(0,[⟨true,s⟩])] [[]] res)∧Hid (Below L w1 wr)) (fun i _=>ll - (intOf i).toNat)
 case atStart=>
  refine ⟨0,[],[(0,[⟨true,s⟩])],[[]],Nat.zero_le _,rfl,⟨rfl,Dv.Ids.cons (by omega) Dv.Ids.nil⟩,HR5.out,⟨Nat.le_refl 2,fun m=>?_⟩,fun _ h=>h,HW5.out⟩
  rw [show [[]] ++ List.replicate (ll - 0) ([]:List Int)=List.replicate (ll + 1) [] from rfl,getD_nils]
  exact Nat.le_refl 2
 case round=>
  obtain ⟨k,u,S,ats,hk,rfl,HI,HD,HBd,HM,HW⟩:=hrel
  have HBw:Hid (Bl w wr):=Below.trans HB1.out (Below.mono HW.out (by omega))
  have HG:Hid (Bk wr w.heap.size 24 #[.int .i64 t,.int .i64 n,.int .i64 s,.slice A len c]):=(HW.out.block _ glt).trans HG1.out
  by_cases hlt:k < ll
  ·have hkl:k < l.length:=by have:=HLL.out;omega
   obtain ⟨bl,ol,rfl,hbl,y0⟩:=(HF.out _ HBw.out).int hkl
   have HDrop:Hid (l.drop k=l[k] :: l.drop (k + 1)):=List.drop_eq_getElem_cons hkl
   have HTake:Hid (l.take (k + 1)=l.take k ++ [l[k]]):=List.take_succ_eq_append_getElem hkl
   have HTl:Hid ((l.take k).length=k):=by show _=_;rw [List.length_take];omega
   generalize l[k]=pd at *
   clear hkl
   have i0:(0:Int)≤(k:Int):=by omega
   have i1:(k:Int) < (ll:Int):=by omega
   go_wp2_with fail
   refine (next_any L L (L + 1) nb ll (2 + 9 * k) u S _ (l.take k) wr HD.out HBd.out (by omega)).mono ?_
   rintro e w6 ⟨x,u',S',as',hNx,rfl,hD6,hB6,hW6⟩
   obtain ⟨ats',rfl,hal,hNy⟩:=hNx.pad rfl (by rw [HI.out.1];exact HI.out.2)
   have HNy:=Lib.hid hNy
   have HD6:=Lib.hid hD6
   have HB6:=Lib.hid hB6
   have HW6:Hid (Below L w1 w6):=HW.out.trans hW6
   have HBw6:Hid (Bl w w6):=Below.trans HB1.out (Below.mono HW6.out (by omega))
   have HG6:Hid (Bk w6 w.heap.size 24 #[.int .i64 t,.int .i64 n,.int .i64 s,.slice A len c]):=(HW6.out.block _ glt).trans HG1.out
   have HAl:Hid (ats'.length=k + 1):=hal.trans HI.out.1
   have HIs:Hid (Dv.Ids S' (k + 1)):=hNy.ids HI.out.2
   clear hNx hNy hD6 hB6 hW6 hal y0 HD HBd HW HG HBw
   cases x with
   | none=>
    have HX:=Lib.hid (HErr.out 2 (by decide) (HM.out _ (by rw [HDrop.out];exact .empty HNy.out)))
    simp only [Option.isSome_none,Option.getD_none]
    go_wp2_with fail
    go_ret3
    exact DPost.no HX.out (by decide) HBw6.out
   | some y=>
    have g0:=HG6.out.cell 0
    have g1:=HG6.out.cell 1
    have g2:=HG6.out.cell 2
    have g3:=HG6.out.cell 3
    simp only [Option.isSome_some,Option.getD_some]
    go_wp2_with fail
    refine (isof_any t n s A len c ps pd y w6 w.heap.size HL.out (HP.out _ HBw6.out).prs).mono ?_
    rintro e w7 ⟨rfl,hb7⟩
    have HB7:=Lib.hid hb7;clear hb7 g0 g1 g2 g3
    have HBw7:Hid (Bl w w7):=HBw6.out.trans HB7.out
    cases hof:isOfB ps pd y with
    | false=>
     have HX:=Lib.hid (HErr.out 2 (by decide) (HM.out _ (by rw [HDrop.out];exact .bad HNy.out (of_decide_eq_false hof))))
     clear hof
     go_wp2_with fail
     go_ret3
     exact DPost.no HX.out (by decide) HBw7.out
    | true=>
     obtain ⟨hp0,p,hp1,hp2⟩:=of_decide_eq_true hof
     obtain ⟨q,rfl⟩:∃ q:Nat,pd=(q:Int):=⟨pd.toNat,by omega⟩
     rw [Int.toNat_natCast] at hp1
     have hqp:q < ps.length:=Ch.lt_of_get hp1
     have hql:q < len:=by have:=HL.out;omega
     obtain ⟨f,vl,cs,hd7⟩:=HD6.out
     have HD7:=Lib.hid (hd7.bl HB7.out)
     have HW7:Hid (Below L w1 w7):=below_bl HW6.out hd7.lt.2.2.2 HB7.out
     clear hof hd7
     have HM2:Hid (∀ res,Dv.Mc ps (l.drop (k + 1)) u' ((ats'.length,p.right) :: S') (ats' ++ [[]]) res→Dv.Mc ps l [] [(0,[⟨true,s⟩])] [[]] res):=fun res h=>HM.out res (by rw [HDrop.out];exact .step HNy.out hp1 hp2 h)
     obtain ⟨b,off,Ax,cx,rfl,hbB,hrx,hc0,hc1,hcx,hcm⟩:=(HP.out _ HBw7.out).at_ hqp
     obtain ⟨_,o3,_⟩:=ok_syms HOK.out hqp
     have e0:ps[q]=p:=by rw [List.getElem?_eq_getElem hqp] at hp1;injection hp1
     rw [e0] at hrx hc1 hcx o3
     clear hc0 hp0 hp1 hp2 e0
     have HRx:=Lib.hid hrx;clear hrx
     obtain ⟨⟨uq,p1⟩,p2,p3⟩:=HD7.out.nd.prodCell (i:=k) hlt
     have hD8:=HD7.out.prod (i:=k) hlt HTl.out (q:Int)
     rw [← HTake.out] at hD8
     have HD8:=Lib.hid hD8.1
     have HW8:Hid (Below L w1 (w7.setCell ⟨nb,k * 2,none⟩ (.int .i64 (q:Int)))):=HW7.out.trans hD8.2
     have HBw8:Hid (Bl w (w7.setCell ⟨nb,k * 2,none⟩ (.int .i64 (q:Int)))):=Below.trans HB1.out (Below.mono HW8.out (by omega))
     have HR8:=Lib.hid (HRx.out.below (Below.setCell (Below.refl w.heap.size w7) (Nat.le_trans (Nat.le_of_lt glt) HD7.out.los.2.2) (.int .i64 (q:Int)) (p:=⟨nb,k * 2,none⟩)))
     have k3:(w7.setCell ⟨nb,k * 2,none⟩ (.int .i64 (q:Int))).cell? ⟨w.heap.size,3,none⟩=some (.slice (some ⟨b,off,none⟩) len c):=(show Bk _ w.heap.size 24 #[.int .i64 t,.int .i64 n,.int .i64 s,.slice (some ⟨b,off,none⟩) len c] from (HW8.out.block _ glt).trans HG1.out).cell 3
     have k4:(w7.setCell ⟨nb,k * 2,none⟩ (.int .i64 (q:Int))).cell? ⟨b,off + q * 2 + 1,none⟩=some (.slice Ax p.right.length cx):=by
      obtain ⟨b2,off2,Ax2,cx2,e2,_,_,_,h2,_⟩:=(HP.out _ HBw8.out).at_ hqp
      cases e2
      rw [Below.cell (Below.setCell (Below.refl w.heap.size w7) (Nat.le_trans (Nat.le_of_lt glt) HD7.out.los.2.2) (.int .i64 (q:Int)) (p:=⟨nb,k * 2,none⟩)) (p:=⟨b,off + q * 2 + 1,none⟩) hbB]
      exact hc1
     clear hD8
     have j0:(0:Int)≤(q:Int):=by omega
     have j1:(q:Int) < (len:Int):=by omega
     go_wp2_with fail
     clear p1 p2 p3 hc1
     generalize w7.setCell ⟨nb,k * 2,none⟩ (.int .i64 (q:Int))=w8 at *
     have HD9:=Lib.hid (HD8.out.bl (Bl.refl _).drew)
     have HW9:=Lib.hid (below_bl HW8.out HD8.out.lt.2.2.2 (Bl.refl _).drew)
     have HR9:Hid (Rd w8.drew w.heap.size Ax (syRow p.right)):=HR8.out
     go_still_tail 11,(by kernel_rfl)
     change wpList _ _ _ _ _ w8.drew
     clear k3 k4 HD8 HW8 HR8
     generalize w8.drew=w9 at *
     go_wp2_with fail
     refine (push_any L L S'.length (f 0) vl (some ⟨nb,k * 2,none⟩) Ax p.right.length cx cs w9 HD9.out.bd HD9.out.st (by have h1:=Dv.todo_len S';have h2:=HB6.out.1;omega) HD9.out.lt.2.2.2).mono ?_
     rintro e wA ⟨rfl,vlA,hbA,hoA,hfA⟩
     have HDA:=Lib.hid (HD9.out.more (n:=k + 1) (by omega) hcx (.inl (HR9.out.more (by omega))) hbA hoA hfA)
     have HWA:=Lib.hid (HW9.out.trans (below_fr hfA (fun j hj=>by
      rcases hj with hj | hj
      ·exact hj ▸ HD9.out.los.1
      ·exact (HD9.out.st.lt j hj).1) HD9.out.lt.2.2.2))
     clear hbA hoA hfA
     have eP:ats' ++ List.replicate (ll - k) []=(ats' ++ [[]]) ++ List.replicate (ll - (k + 1)) ([]:List Int):=by
      rw [show ll - k=(ll - (k + 1)) + 1 by omega,List.replicate_succ,List.append_assoc]
      rfl
     go_wp2_with fail
     go_roundw
     case rel=>
      refine ⟨k + 1,u',(k + 1,p.right) :: S',ats' ++ [[]],by omega,by go_num,⟨by rw [List.length_append,HAl.out];rfl,Dv.Ids.cons (by omega) (HIs.out.more (by omega))⟩,⟨_,_,_,by rw [← eP];exact HDA.out⟩,by rw [← eP];exact HB6.out.push (by omega),fun res h=>HM2.out res (by rw [HAl.out];exact h),HWA.out⟩
     case measure=>simp [intOf];omega
  ·have hke:k=ll:=by omega
   subst hke
   have HDn:Hid (l.drop k=[]):=List.drop_eq_nil_of_le (by have:=HLL.out;omega)
   have HTk:Hid (l.take k=l):=List.take_of_length_le (by have:=HLL.out;omega)
   go_wp2_with fail
   refine (next_any L L (L + 1) nb k (2 + 9 * k) u S _ (l.take k) wr HD.out HBd.out (by omega)).mono ?_
   rintro e w6 ⟨x,u',S',as',hNx,rfl,hD6,hB6,hW6⟩
   obtain ⟨ats',rfl,hal,hNy⟩:=hNx.pad rfl (by rw [HI.out.1];exact HI.out.2)
   have HNy:=Lib.hid hNy
   have HD6:=Lib.hid hD6
   have HW6:Hid (Below L w1 w6):=HW.out.trans hW6
   have HBw6:Hid (Bl w w6):=Below.trans HB1.out (Below.mono HW6.out (by omega))
   have HAl:Hid (ats'.length=k + 1):=hal.trans HI.out.1
   clear hNx hNy hD6 hB6 hW6 hal HD HBd HW HG HBw
   cases x with
   | some y=>
    have HX:=Lib.hid (HErr.out 3 (by decide) (HM.out _ (by rw [HDn.out];exact .short HNy.out)))
    simp only [Option.isSome_some,Option.getD_some]
    go_wp2_with fail
    go_ret3
    exact DPost.no HX.out (by decide) HBw6.out
   | none=>
    have HMc:=Lib.hid (HM.out (u',ats',0) (by rw [HDn.out];exact .fin HNy.out))
    obtain ⟨f,vl,cs,hd⟩:=HD6.out
    obtain ⟨Aw,cw,hw0,hw1⟩:∃ A c,f 0=.slice A u'.length c∧u'.length≤c:=own_form (hd.fam.own 0 (by rw [List.length_cons];omega))
    have q1:w6.cell? ⟨L,0,none⟩=some (.slice Aw u'.length cw):=(hd.bd.cell 0).trans (by rw [hw0];rfl)
    have HDr:=Lib.hid hd;clear hd HD6
    simp only [Option.isSome_none,Option.getD_none]
    go_wp2_with fail
    go_ret3
    have hX:Dv.replayOf (okB ⟨t,n,s,ps⟩) ⟨t,n,s,ps⟩ l=(u',0):=by
     rw [HR.out,← Dv.pre_nil (x:=Dv.play ps l [⟨true,s⟩]) (Dv.play_code _ _)]
     exact HMc.out.play.symm
    rw [Nat.sub_self,List.replicate_zero,List.append_nil] at HDr
    obtain ⟨a0,at',rfl⟩:∃ a b,ats'=a :: b:=by
     cases ats' with
     | nil=>have:=HAl.out;simp at this
     | cons a b=>exact ⟨a,b,rfl⟩
    have hatl:at'.length=k:=by have:=HAl.out;simpa using this
    have hll:l.length=k:=HLL.out.symm
    have hzl:(l.zip at').length=k:=by rw [List.length_zip,hatl,hll,Nat.min_self]
    rw [hX]
    refine ⟨Aw,u'.length,cw,some ⟨nb,0,none⟩,k,k,l.zip at',rfl,rfl,?_,hzl.symm,fun i hi=>?_,fun h=>absurd rfl h,fun _=>HMc.out.nodes,by omega,HBw6.out⟩
    ·have h:=HDr.out.fam.own 0 (by rw [List.length_cons];omega)
     rw [hw0] at h
     exact own_base h fun j hj=>Nat.le_trans (by omega) (h.lt j hj).1
    ·rw [hzl] at hi
     have hgi:(l.zip at').getD i (0,[])=(l.getD i 0,at'.getD i []):=by
      rw [List.getD_eq_getElem?_getD,List.getElem?_eq_getElem (by omega),Option.getD_some,List.getElem_zip,List.getD_eq_getElem?_getD,List.getD_eq_getElem?_getD,List.getElem?_eq_getElem (by omega),List.getElem?_eq_getElem (by omega)]
      rfl
     rw [hgi]
     obtain ⟨c0,cN,_,hN,_,_,_,_,h2,_,h4⟩:=HDr.out.nd
     have hf:=HDr.out.fam.own (i + 2) (by simp only [List.length_cons];omega)
     obtain ⟨Ai,ci,hi0,hi1⟩:=own_form hf
     have h5:=h2 i (by omega)
     rw [hi0] at h5 hf
     have h6:=h4 i (by rw [HTk.out];omega)
     rw [HTk.out] at h6
     refine ⟨nb,0,Ai,ci,rfl,hN.lt,?_,?_,Rd.own hf⟩
     ·rw [Nat.zero_add,hN.cell];exact h6
     ·rw [Nat.zero_add,hN.cell];exact h5
end Go.Proofs.YtdfhhbncmdpoeaaGreat
namespace Go.Proofs.YtdfhhbncmdpoeaaGreat
open Go.RowKit
structure Nh where
 prod:Int
 row:List Int
 at_:Option Addr
 cap:Nat
def Nh.nd (h:Nh):Int × List Int:=(h.prod,h.row)
def nhRow:List Nh→List Value:=row2 (fun h=>.int .i64 h.prod) (fun h=>.slice h.at_ h.row.length h.cap)
theorem nhRow_len (l:List Nh):(nhRow l).length=l.length * 2:=row2_len l
def NRh (w:World) (B:Nat) (A:Option Addr) (hs:List Nh):Prop:=Rd w B A (nhRow hs)∧∀ h ∈ hs,Rd w B h.at_ (ins h.row)
section
variable {w w':World} {B B':Nat} {A:Option Addr} {hs:List Nh} {nd:List (Int × List Int)}
theorem NRh.bl (h:NRh w B A hs) (hB:B≤w.heap.size) (hb:Bl w w'):NRh w' B A hs:=⟨h.1.bl hB hb,fun x hx=>(h.2 x hx).bl hB hb⟩
theorem NRh.rd (h:NRh w B A hs):NRd w B A (hs.map Nh.nd):=fun i hi=>by
 rw [List.length_map] at hi
 obtain ⟨b,off,e,hb,c0,c1⟩:=Rd.two h.1 hi
 have e2:(hs.map Nh.nd).getD i (0,[])=hs[i].nd:=by rw [List.getD_eq_getElem?_getD,List.getElem?_map,List.getElem?_eq_getElem hi];rfl
 rw [e2]
 exact ⟨b,off,_,_,e,hb,c0,c1,h.2 _ (List.getElem_mem hi)⟩
theorem NRd.rows (h:NRd w B A nd):∃ hs:List Nh,hs.map Nh.nd=nd∧NRh w B A hs:=by
 have key:∀ i:Fin nd.length,∃ x:Nh,x.nd=nd.getD i (0,[])∧(∃ b off,A=some ⟨b,off,none⟩∧b < B∧w.cell? ⟨b,off + i * 2,none⟩=some (.int .i64 x.prod)∧w.cell? ⟨b,off + i * 2 + 1,none⟩=some (.slice x.at_ x.row.length x.cap))∧Rd w B x.at_ (ins x.row):=fun i=>by
  obtain ⟨b,off,Ax,c,e,hb,c0,c1,hr⟩:=h i i.2
  exact ⟨⟨_,_,Ax,c⟩,rfl,⟨b,off,e,hb,c0,c1⟩,hr⟩
 obtain ⟨X,hX⟩:=Classical.skolem.1 key
 refine ⟨List.ofFn X,List.ext_getElem (by simp) fun i h1 h2=>?_,?_,fun x hx=>?_⟩
 ·rw [List.getElem_map,List.getElem_ofFn,(hX ⟨i,h2⟩).1,List.getD_eq_getElem?_getD,List.getElem?_eq_getElem h2]
  rfl
 ·intro hn
  rw [nhRow_len,List.length_ofFn] at hn
  obtain ⟨b,off,e,hb,_,_⟩:=(hX ⟨0,by omega⟩).2.1
  refine ⟨b,off,e,hb,fun j u hu=>?_⟩
  have hj:j < nd.length * 2:=by
   rcases Nat.lt_or_ge j (nd.length * 2) with hl | hl
   ·exact hl
   ·rw [List.getElem?_eq_none (by rw [nhRow_len,List.length_ofFn];exact hl)] at hu;cases hu
  have hi:j / 2 < nd.length:=by omega
  obtain ⟨b',off',e',_,c0,c1⟩:=(hX ⟨j / 2,hi⟩).2.1
  rw [e] at e'
  injection e' with e'
  injection e' with e1 e2
  subst e1 e2
  have h2:=row2_at (f:=fun h:Nh=>Value.int .i64 h.prod) (g:=fun h=>.slice h.at_ h.row.length h.cap) (List.ofFn X) (j / 2) (by rw [List.length_ofFn];exact hi)
  rw [List.getElem_ofFn] at h2
  rcases Nat.mod_two_eq_zero_or_one j with hm | hm
  ·have ej:j / 2 * 2=j:=by omega
   have hu2:=h2.1
   rw [ej] at hu2
   rw [show nhRow (List.ofFn X)=row2 _ _ (List.ofFn X) from rfl,hu2] at hu
   rw [← hu]
   have:=c0
   rw [show (⟨j / 2,hi⟩:Fin nd.length).val=j / 2 from rfl,ej] at this
   exact this
  ·have ej:j / 2 * 2 + 1=j:=by omega
   have hu2:=h2.2
   rw [ej] at hu2
   rw [show nhRow (List.ofFn X)=row2 _ _ (List.ofFn X) from rfl,hu2] at hu
   rw [← hu]
   have:=c1
   rw [show (⟨j / 2,hi⟩:Fin nd.length).val=j / 2 from rfl,Nat.add_assoc,ej] at this
   exact this
 ·obtain ⟨i,rfl⟩:=(List.mem_ofFn (f:=X)).1 hx
  exact (hX i).2.2
end
def NPost (nd:List (Int × List Int)) (c:Nat) (w:World) (e:Ending) (w':World):Prop:=
 ∃ A n k,e=.returned (.tuple #[.slice A n k,.int .i64 c])∧n=nd.length∧NRd w' w'.heap.size A nd∧Bl w w'
end Go.Proofs.YtdfhhbncmdpoeaaGreat
namespace Go.Proofs.YtdfhhbncmdpoeaaGreat
open Go.RowKit
section
variable (t n s:Int) (A:Option Addr) (len c:Nat) (ps:List Gr.Pr) (Al:Option Addr) (ll cl:Nat) (l:List Int) (w:World) (B:Nat) (hlen:len=ps.length) (hmax:len≤9223372036854775807) (hr:PrsC w B A ps) (hB:B≤w.heap.size)
  (hll:ll=l.length) (hml:ll≤9223372036854775806) (hrl:Rd w B Al (ins l))
include hlen hmax hr hB hll hml hrl
theorem replay_any:Calls Tryz.prog 19 #[.agg #[.int .i64 t,.int .i64 n,.int .i64 s,.slice A len c],.slice Al ll cl] w (TWPost (Dv.replayOf (okB ⟨t,n,s,ps⟩) ⟨t,n,s,ps⟩ l) w):=by
 have hb0:Bl w (w.alloc (.cells #[.int .i64 t,.int .i64 n,.int .i64 s,.slice A len c] 24)):=(Bl.refl w).alloc _
 have HC:=Lib.hid (derive_any t n s A len c ps Al ll cl l _ B hlen hmax (hr.bl hB hb0) (Nat.le_trans hB hb0.size) hll hml (hrl.bl hB hb0))
 have HB0:=Lib.hid hb0
 clear hlen hmax hr hB hll hml hrl hb0
 go_enter Tryz.func19,Tryz.ntmps19
 go_wp2_with fail
 refine HC.out.mono ?_
 rintro e w1 ⟨A1,n1,c1,A2,n2,c2,nd,rfl,h1,h2,h3,h4,h5,h6,h7,h8⟩
 have HB1:=Lib.hid (HB0.out.trans h8)
 have H1:=Lib.hid h1
 have H2:=Lib.hid (own_base (b':=w.heap.size) h2 fun k hk=>Nat.le_trans HB0.out.size (h2.lt k hk).1)
 clear h1 h2 h3 h4 h5 h6 h7 h8
 go_wp2_with fail
 go_ret2
 exact ⟨A1,n1,c1,rfl,H1.out,H2.out,HB1.out⟩
theorem nodes_any:Calls Tryz.prog 23 #[.agg #[.int .i64 t,.int .i64 n,.int .i64 s,.slice A len c],.slice Al ll cl] w (fun e w'=>∃ nd,((Dv.replayOf (okB ⟨t,n,s,ps⟩) ⟨t,n,s,ps⟩ l).2≠0→nd=[])∧((Dv.replayOf (okB ⟨t,n,s,ps⟩) ⟨t,n,s,ps⟩ l).2=0→Dv.NodesOf ps s l nd)∧nd.length≤2000∧
  NPost nd (Dv.replayOf (okB ⟨t,n,s,ps⟩) ⟨t,n,s,ps⟩ l).2 w e w'):=by
 have hb0:Bl w (w.alloc (.cells #[.int .i64 t,.int .i64 n,.int .i64 s,.slice A len c] 24)):=(Bl.refl w).alloc _
 have HC:=Lib.hid (derive_any t n s A len c ps Al ll cl l _ B hlen hmax (hr.bl hB hb0) (Nat.le_trans hB hb0.size) hll hml (hrl.bl hB hb0))
 have HB0:=Lib.hid hb0
 clear hlen hmax hr hB hll hml hrl hb0
 generalize Dv.replayOf (okB ⟨t,n,s,ps⟩) ⟨t,n,s,ps⟩ l=x at *
 go_enter Tryz.func23,Tryz.ntmps23
 go_wp2_with fail
 refine HC.out.mono ?_
 rintro e w1 ⟨A1,n1,c1,A2,n2,c2,nd,rfl,h1,h2,h3,h4,h5,h6,h7,h8⟩
 have HB1:=Lib.hid (HB0.out.trans h8)
 have H3:=Lib.hid h3
 have H4:=Lib.hid h4
 have H5:=Lib.hid h5
 have H6:=Lib.hid h6
 clear h1 h2 h3 h4 h5 h6 h8
 go_wp2_with fail
 go_ret2
 exact ⟨nd,H5.out,H6.out,H3.out ▸ h7,A2,n2,c2,rfl,H3.out,H4.out,HB1.out⟩
end
end Go.Proofs.YtdfhhbncmdpoeaaGreat
