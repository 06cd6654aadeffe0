/- closed.Closed: are sets closed? -/
import Derived.Test.YtdfhhbncmdpoeaaGreatClAll
import Derived.Deep.RegionWith
set_option maxRecDepth 100000
set_option maxHeartbeats 4000000
namespace Go.Proofs.YtdfhhbncmdpoeaaGreat
open Go.RowKit
def ClosedP (g:Gr.Gm) (xs:List Int) (L:List (List Ix)):Prop:=keepB g xs.length L=true∧AllIn g xs (L.length - 1) (putS (doneS L L.length 0))
theorem keepB_ok {g:Gr.Gm} {m:Nat} {L:List (List Ix)} (h:keepB g m L=true):Gr.Ok g∧0 < L.length∧L.length≤m + 1∧∀ a l,L[a]?=some l→∀ x ∈ l,standB g.prods a x=true:=by
 unfold keepB at h
 rw [Bool.and_eq_true,Bool.and_eq_true,decide_eq_true_eq] at h
 exact ⟨(okB_iff g).1 h.1.1,h.1.2.1,h.1.2.2,standsB_iff.1 h.2⟩
theorem kept_all {g:Gr.Gm} {m:Nat} {L:List (List Ix)} (h:keepB g m L=true) {s:St4}:s ∈ putS (doneS L L.length 0)↔∃ l,L[s.1]?=some l∧s.2.ix ∈ l:=by
 rw [mem_putS,mem_done]
 constructor
 ·rintro ⟨l,hl,x,hx,e⟩
  obtain ⟨y,rfl,_,_⟩:=standB_iff.1 ((keepB_ok h).2.2.2 _ l hl x hx)
  rw [ix_im] at e
  exact ⟨l,hl,by rw [← e];exact hx⟩
 ·rintro ⟨l,hl,hx⟩
  exact ⟨l,hl,s.2.ix,hx,ix_im _⟩
theorem kept_fine {g:Gr.Gm} {m:Nat} {L:List (List Ix)} (h:keepB g m L=true) {s:St4} (hs:s ∈ putS (doneS L L.length 0)):s.1≤L.length - 1∧imIn g s.2∧s.2.frm≤s.1:=by
 obtain ⟨l,hl,hx⟩:=(kept_all h).1 hs
 obtain ⟨y,e,⟨p,hp,hd⟩,hf⟩:=standB_iff.1 ((keepB_ok h).2.2.2 _ l hl _ hx)
 have e2:s.2=y:=by have:=congrArg Ix.im e;rwa [ix_im,ix_im] at this
 rw [e2]
 exact ⟨by have:=Ch.lt_of_get hl;omega,⟨p,hp,hd⟩,hf⟩
theorem kept_env {G:Kg} {ps:List Gr.Pr} {L:List (List Ix)} {w w':World} {B:Nat} {xs:List Int} {K:Kw} {V:Int × Nat→Value} {base:Nat} (hk:keepB ⟨G.t,G.n,G.s,ps⟩ xs.length L=true) (hL:L.length≤100) (hM:∀ l ∈ L,l.length≤2000) (hlen:G.len=ps.length) (hr:Prs w B G.A ps) (hB:B≤w.heap.size) (hrw:Rd w B G.Aw (ins xs))
  (h:KeptR { G with lw:=L.length - 1 } ⟨G.t,G.n,G.s,ps⟩ base K V (putS (doneS L L.length 0)) w') (hb:Bl w w'):ClE { G with lw:=L.length - 1 } ps base K V (putS (doneS L L.length 0)) B xs w' where
 k:=h
 len:=hlen
 ok:=(keepB_ok hk).1
 prs:=hr.bl hB hb
 rw_:=hrw.bl hB hb
 lw:=by have:=(keepB_ok hk).2.2.1;show L.length - 1≤xs.length;omega
 hB:=Nat.le_trans hB hb.size
 atl:=fun s hs=>(kept_fine hk hs).1
 fine:=fun s hs=>⟨by have:=(kept_fine hk hs).1;omega,(kept_fine hk hs).2⟩
 few:=by
  have h1:=putS_len (doneS L L.length 0)
  have h2:=doneS_len hM L.length 0
  have h3:L.length * 2000≤100 * 2000:=Nat.mul_le_mul_right _ hL
  omega
theorem keepP_yes {G:Kg} {g:Gr.Gm} {m:Nat} {L:List (List Ix)} {w w':World} {e:Ending} (hk:keepB g m L=true) (h:KeepP G g m L w e w'):∃ K V,e=.returned (.tuple #[.pointer (some ⟨K.p,0,none⟩),.bool true])∧KeptR { G with lw:=L.length - 1 } g w.heap.size K V (putS (doneS L L.length 0)) w'∧Bl w w':=by
 rcases h with ⟨_,h⟩ | ⟨h,_⟩
 ·exact h
 ·rw [hk] at h;cases h
theorem keepP_no {G:Kg} {g:Gr.Gm} {m:Nat} {L:List (List Ix)} {w w':World} {e:Ending} (hk:keepB g m L=false) (h:KeepP G g m L w e w'):e=.returned (.tuple #[.pointer none,.bool false])∧Bl w w':=by
 rcases h with ⟨h,_⟩ | ⟨_,h⟩
 ·rw [hk] at h;cases h
 ·exact h
theorem closed_any (t n s:Int) (A:Option Addr) (len c:Nat) (ps:List Gr.Pr) (Aw:Option Addr) (lw cw:Nat) (xs:List Int) (As:Option Addr) (ls cs:Nat) (L:List (List Ix)) (w:World) (B:Nat) (hlen:len=ps.length) (hmax:len≤9223372036854775807) (hr:Prs w B A ps) (hlw:lw=xs.length) (hcw:lw≤cw) (hrw:Rd w B Aw (ins xs)) (hls:ls=L.length) (hL:L.length≤100) (hM:∀ l ∈ L,l.length≤2000) (hs:SetsX w B As L) (hB:B≤w.heap.size) :
  Calls Tryz.prog 13 #[.agg #[.int .i64 t,.int .i64 n,.int .i64 s,.slice A len c],.slice Aw lw cw,.slice As ls cs] w fun e w'=>∃ b:Bool,e=.returned (.bool b)∧(b=true↔ClosedP ⟨t,n,s,ps⟩ xs L)∧Bl w w':=by
 have HB0:Hid (Bl w (w.alloc (.cells #[.int .i64 t,.int .i64 n,.int .i64 s,.slice A len c] 24))):=(Bl.refl w).alloc _
 have HK0:=Lib.hid (Bk.new w 24 #[.int .i64 t,.int .i64 n,.int .i64 s,.slice A len c])
 have HKp:Hid (Calls Tryz.prog 21 #[.agg #[.int .i64 t,.int .i64 n,.int .i64 s,.slice A len c],.slice Aw lw cw,.slice As ls cs] (w.alloc (.cells #[.int .i64 t,.int .i64 n,.int .i64 s,.slice A len c] 24)) (KeepP ⟨t,n,s,A,len,c,Aw,lw,cw⟩ ⟨t,n,s,ps⟩ lw L (w.alloc (.cells #[.int .i64 t,.int .i64 n,.int .i64 s,.slice A len c] 24)))):=(keep_any ⟨t,n,s,A,len,c,Aw,lw,cw⟩ ps As ls cs L _ B hlen hmax (hr.bl hB HB0.out) hcw hls hL hM (hs.bl hB HB0.out) (Nat.le_trans hB HB0.out.size))
 have HPr:=Lib.hid (hr.bl hB HB0.out)
 have HRw:=Lib.hid (hrw.bl hB HB0.out)
 have HBs:=Lib.hid (Nat.le_trans hB HB0.out.size)
 have HLn:=Lib.hid hlen
 subst hlw
 clear hr hrw hs hlen hls
 go_enter Tryz.func13,Tryz.ntmps13
 have k0:=HK0.out.cell 0
 have k1:=HK0.out.cell 1
 have k2:=HK0.out.cell 2
 have k3:=HK0.out.cell 3
 cases hk:keepB ⟨t,n,s,ps⟩ xs.length L with
 | false=>
  have HQ:Hid (¬ ClosedP ⟨t,n,s,ps⟩ xs L):=fun h=>by rw [h.1] at hk;cases hk
  go_wp2_with (go_at_call 21;(with_reducible refine HKp.out.mono ?_);rintro e w2 hp;obtain ⟨rfl,hb2⟩:=keepP_no hk hp;have HB2:=Lib.hid (HB0.out.trans hb2);clear hb2)
  go_ret
  exact ⟨false,rfl,⟨fun h=>(by cases h),fun h=>(HQ.out h).elim⟩,HB2.out⟩
 | true=>
  have HKb:=Lib.hid hk
  clear hk
  go_wp2_with (first
   | (go_at_call 21;(with_reducible refine HKp.out.mono ?_);rintro e w2 hp;obtain ⟨K,V,rfl,hk2,hb2⟩:=keepP_yes HKb.out hp;have HE:=Lib.hid (kept_env HKb.out hL hM HLn.out HPr.out HBs.out HRw.out hk2 hb2);have HB2:=Lib.hid (HB0.out.trans hb2);have HCl:Hid (Calls Tryz.prog 22 #[.pointer (some ⟨K.p,0,none⟩)] w2 fun e w'=>∃ b:Bool,e=.returned (.bool b)∧(b=true↔AllIn ⟨t,n,s,ps⟩ xs (L.length - 1) (putS (doneS L L.length 0)))∧Bl w2 w'):=(kclosed_any _ _ _ _ _ _ _ _ _ HE.out);clear hk2 hb2)
   | (go_at_call 22;(with_reducible refine HCl.out.mono ?_);rintro e w3 ⟨b,rfl,hiff,hb3⟩;have HI:=Lib.hid hiff;have HB3:=Lib.hid (HB2.out.trans hb3);clear hiff hb3))
  go_ret
  exact ⟨b,rfl,⟨fun h=>⟨HKb.out,HI.out.1 h⟩,fun h=>HI.out.2 h.2⟩,HB3.out⟩
end Go.Proofs.YtdfhhbncmdpoeaaGreat
namespace Go.Proofs.YtdfhhbncmdpoeaaGreat
open Go.RowKit
def AnotherP (g:Gr.Gm) (P:List St4) (i f e:Nat):Prop:=∃ p j q,g.prods[i]?=some p∧g.prods[j]?=some q∧q.left=p.left∧j≠i∧(e,(⟨j,q.right.length,f⟩:Ch.Im)) ∈ P
theorem ofK_left {ps:List Gr.Pr} {non:Int} {k j:Nat} (h:j ∈ ofK ps non k) (hj:j < ps.length):(ps[j]'hj).left=non:=by
 unfold ofK at h
 rw [List.mem_filter] at h
 have h2:=h.2
 rw [List.getElem?_eq_getElem hj] at h2
 exact of_decide_eq_true h2
theorem ofK_mem {ps:List Gr.Pr} {j:Nat} (hj:j < ps.length) {non:Int} (h:(ps[j]'hj).left=non):j ∈ ofK ps non ps.length:=by
 unfold ofK
 rw [List.mem_filter,List.mem_range]
 refine ⟨hj,?_⟩
 rw [List.getElem?_eq_getElem hj]
 exact decide_eq_true h
theorem another_any (G:Kg) (ps:List Gr.Pr) (base:Nat) (K:Kw) (V:Int × Nat→Value) (P:List St4) (B:Nat) (xs:List Int) (i:Nat) (r0:Nat) (rw_:List Nat) (Ar:Option Addr) (nr cr B2:Nat) (w:World) (h:ClE G ps base K V P B xs w)
  (hi:i < ps.length) (hnr:nr=rw_.length + 1) (hrd:Rd w B2 Ar (ins (ns (r0 :: rw_)))) (hB2:B2≤w.heap.size) (hsm:∀ x ∈ r0 :: rw_,x≤1000) (hnl:rw_.length≤1000) :
  Calls Tryz.prog 50 #[.pointer (some ⟨K.p,0,none⟩),.agg #[.int .i64 (i:Int),.slice Ar nr cr]] w fun e w'=>∃ b:Bool,e=.returned (.bool b)∧(b=true↔AnotherP ⟨G.t,G.n,G.s,ps⟩ P i r0 ((r0 :: rw_).getD rw_.length 0))∧Bl w w':=by
 have HB1:Hid (Bl w (w.alloc (.cells #[.int .i64 (i:Int),.slice Ar nr cr] 61))):=(Bl.refl w).alloc _
 have HX1:=Lib.hid (Bk.new w 61 #[.int .i64 (i:Int),.slice Ar nr cr])
 have HE1:=Lib.hid (h.bl HB1.out)
 have hrd1:=hrd.bl hB2 HB1.out
 obtain ⟨br,orr,eAr,hbr,c0⟩:=hrd1.int (j:=0) (by rw [ns_len];simp)
 obtain ⟨br2,orr2,eAr2,hbr2,c1⟩:=hrd1.int (j:=rw_.length) (by rw [ns_len];simp)
 rw [eAr] at eAr2
 injection eAr2 with eAr2
 injection eAr2 with e1 e2 _
 subst e1 e2
 have hce:(ns (r0 :: rw_))[rw_.length]'(by rw [ns_len];simp)=(((r0 :: rw_).getD rw_.length 0:Nat):Int):=by
  unfold ns
  rw [List.getElem_map,List.getD_eq_getElem?_getD,List.getElem?_eq_getElem (by simp)];rfl
 rw [hce] at c1
 have hto:(r0 :: rw_).getD rw_.length 0≤1000:=by
  rw [List.getD_eq_getElem?_getD,List.getElem?_eq_getElem (by simp)]
  exact hsm _ (List.getElem_mem _)
 have hr0:r0≤1000:=hsm _ (by simp)
 generalize (r0 :: rw_).getD rw_.length 0=r1 at *
 have c0:(w.alloc (.cells #[.int .i64 (i:Int),.slice Ar nr cr] 61)).cell? ⟨br,orr + 0,none⟩=some (.int .i64 (r0:Int)):=c0
 subst eAr
 have i0:(0:Int) < (nr:Int):=by omega
 have i1:(0:Int)≤(nr:Int) - 1:=by omega
 have i2:(nr:Int) - 1 < (nr:Int):=by omega
 have hwr:IntKind.i64.wrap ((nr:Int) - 1)=(nr:Int) - 1:=by rw [IntKind.wrap_i64];omega
 have hwr2:wrap64 ((nr:Int) - 1)=(nr:Int) - 1:=by unfold wrap64;omega
 have hix:rw_.length=nr - 1:=by omega
 rw [hix] at c1
 clear hix
 clear hce hrd hrd1 hsm h hnr
 go_enter Tryz.func50,Tryz.ntmps50
 go_upto_region 1 with fail
 generalize w.alloc (.cells #[.int .i64 (i:Int),.slice (some ⟨br,orr,none⟩) nr cr] 61)=w1 at *
 have x0:w1.cell? ⟨w.heap.size,0,none⟩=some (.int .i64 (i:Int)):=HX1.out.cell 0
 have x1:w1.cell? ⟨w.heap.size,1,none⟩=some (.slice (some ⟨br,orr,none⟩) nr cr):=HX1.out.cell 1
 have xl:=HX1.out.lt
 have hbl:br < w1.heap.size:=Nat.lt_of_lt_of_le hbr (Nat.le_trans hB2 HB1.out.size)
 rw [Nat.add_zero] at c0
 go_region
 go_upto_region 2 with fail
 have HE1d:=Lib.hid HE1.out
 obtain ⟨bp,op,Ax,cx,eA,hbp,_,hl0,_⟩:=HE1.out.prs.at_ hi
 generalize hlf:(ps[i]'hi).left=lf at *
 have k0:w1.cell? ⟨K.p,0,none⟩=some (.int .i64 G.t):=HE1.out.k.kb.cell 0
 have k1:w1.cell? ⟨K.p,1,none⟩=some (.int .i64 G.n):=HE1.out.k.kb.cell 1
 have k2:w1.cell? ⟨K.p,2,none⟩=some (.int .i64 G.s):=HE1.out.k.kb.cell 2
 have k3:w1.cell? ⟨K.p,3,none⟩=some (.slice (some ⟨bp,op,none⟩) G.len G.c):=by rw [← eA];exact HE1.out.k.kb.cell 3
 have kl:=HE1.out.k.kb.lt
 have hpl:bp < w1.heap.size:=Nat.lt_of_lt_of_le hbp HE1.out.hB
 have j0:(0:Int)≤(i:Int):=by omega
 have j1:(i:Int) < (G.len:Int):=by have:=HE1.out.len;omega
 have HO:=Lib.hid (fun (wx:World) (hb:Bl w1 wx)=>of_any G.t G.n G.s lf (some ⟨bp,op,none⟩) G.len G.c ps wx B HE1.out.len (by have:=HE1.out.len;have:=HE1.out.h60;omega) (by rw [← eA];exact HE1.out.prs.bl HE1.out.hB hb) (Nat.le_trans HE1.out.hB hb.size))
 have HBd:Hid (Bl w1 w1.drew.drew):=(Bl.refl w1).drew.drew
 have HS:Hid (∀ wx,Bl w1 wx→wx.cell? ⟨K.p,0,none⟩=some (.int .i64 G.t)∧wx.cell? ⟨K.p,1,none⟩=some (.int .i64 G.n)∧wx.cell? ⟨K.p,2,none⟩=some (.int .i64 G.s)∧wx.cell? ⟨K.p,3,none⟩=some (.slice (some ⟨bp,op,none⟩) G.len G.c)∧wx.cell? ⟨w.heap.size,0,none⟩=some (.int .i64 (i:Int))∧wx.cell? ⟨bp,op + i * 2,none⟩=some (.int .i64 lf)∧K.p < wx.heap.size∧w.heap.size < wx.heap.size∧bp < wx.heap.size):=fun wx hb=>
  ⟨(HE1d.out.k.kb.bl hb).cell 0,(HE1d.out.k.kb.bl hb).cell 1,(HE1d.out.k.kb.bl hb).cell 2,by rw [← eA];exact (HE1d.out.k.kb.bl hb).cell 3,(HX1.out.bl hb).cell 0,(World.cell?_of_block (hb.block _ hpl)).trans hl0,Nat.lt_of_lt_of_le kl hb.size,Nat.lt_of_lt_of_le xl hb.size,Nat.lt_of_lt_of_le hpl hb.size⟩
 have tk1:True:=trivial
 go_region_held3 (fun wx=>wx.cell? ⟨K.p,0,none⟩=some (.int .i64 G.t)∧wx.cell? ⟨K.p,1,none⟩=some (.int .i64 G.n)∧wx.cell? ⟨K.p,2,none⟩=some (.int .i64 G.s)∧wx.cell? ⟨K.p,3,none⟩=some (.slice (some ⟨bp,op,none⟩) G.len G.c)∧wx.cell? ⟨w.heap.size,0,none⟩=some (.int .i64 (i:Int))∧wx.cell? ⟨bp,op + i * 2,none⟩=some (.int .i64 lf)∧K.p < wx.heap.size∧w.heap.size < wx.heap.size∧bp < wx.heap.size)
  (first | exact HS.out _ HBd.out | exact HS.out _ HB2.out)
  (first | (go_at_call 77;have _t:=tk1;refine (HO.out _ HBd.out).mono ?_;rintro e w2 ⟨A2,c2,rfl,hc2,ho2,hb2⟩;have HO2:=Lib.hid ho2;have HB2:Hid (Bl w1 w2):=HBd.out.trans hb2;clear ho2 hb2 tk1) | fail)
 rw [ns_len] at *
 have hm60:(ofK ps lf ps.length).length≤ps.length:=ofK_len _ _ _
 have hrd2:=Rd.own HO2.out
 generalize hm:(ofK ps lf ps.length).length=m at *
 have HM:=Lib.hid hm
 have HRd:=Lib.hid hrd2
 have HLf:=Lib.hid hlf
 have h60:=HE1.out.h60
 clear k0 k1 k2 k3 kl hl0 HO HO2 HS x0 x1 c0 c1 hm hrd2 hlf
 go_wp2_with fail
 go_loopw [38] (fun iv wr=>∃ k:Nat,k≤m∧iv=.int .i64 k∧Hid (Bl w2 wr)∧∀ j ∈ (ofK ps lf ps.length).take k,∀ (hj:j < ps.length),j≠i→(r1,(⟨j,(ps[j]'hj).right.length,r0⟩:Ch.Im)) ∉ P) (fun iv _=>m - (intOf iv).toNat)
 case atStart=>exact ⟨0,Nat.zero_le _,rfl,Bl.refl _,fun j hj=>by simp at hj⟩
 case round=>
  obtain ⟨k,hk,rfl,HBr,hno⟩:=hrel
  have HNo:=Lib.hid hno
  clear hno
  by_cases hlt:k < m
  ·have hL2:k < (ofK ps lf ps.length).length:=by have:=HM.out;omega
   have hjl:(ofK ps lf ps.length)[k] < ps.length:=ofK_lt (List.getElem_mem hL2)
   have hjf:(ps[(ofK ps lf ps.length)[k]]'hjl).left=lf:=ofK_left (List.getElem_mem hL2) hjl
   have HTk:Hid ((ofK ps lf ps.length).take (k + 1)=(ofK ps lf ps.length).take k ++ [(ofK ps lf ps.length)[k]]):=take_snoc hL2
   obtain ⟨bo,oo,eA2,hbo,c0⟩:=(HRd.out.bl (Nat.le_refl _) HBr.out).int (j:=k) (by rw [ns_len];exact hL2)
   have hnk:(ns (ofK ps lf ps.length))[k]'(by rw [ns_len];exact hL2)=(((ofK ps lf ps.length)[k]:Nat):Int):=by unfold ns;rw [List.getElem_map]
   rw [hnk] at c0
   subst eA2
   generalize (ofK ps lf ps.length)[k]=j at *
   clear hnk
   have hbl:bo < wr.heap.size:=Nat.lt_of_lt_of_le hbo HBr.out.size
   have q0:(0:Int)≤(k:Int):=by omega
   have q1:(k:Int) < (m:Int):=by omega
   have HB3:Hid (Bl w1 wr):=HB2.out.trans HBr.out
   have HE3:=Lib.hid (HE1d.out.bl HB3.out)
   obtain ⟨bp2,op2,Ax2,cx2,eA3,hbp2,_,_,hr1⟩:=HE3.out.prs.at_ hjl
   rw [eA] at eA3
   injection eA3 with eA3
   injection eA3 with e1 e2 _
   subst e1 e2
   have k3:wr.cell? ⟨K.p,3,none⟩=some (.slice (some ⟨bp,op,none⟩) G.len G.c):=by rw [← eA];exact HE3.out.k.kb.cell 3
   have kl:=HE3.out.k.kb.lt
   have hpl3:bp < wr.heap.size:=Nat.lt_of_lt_of_le hpl HB3.out.size
   have p0:(0:Int)≤(j:Int):=by omega
   have p1:(j:Int) < (G.len:Int):=by have:=HE3.out.len;omega
   have HStk:Hid (stOk (r1,(⟨j,(ps[j]'hjl).right.length,r0⟩:Ch.Im))):=⟨by show r1 < 1000000;omega,by show j < 1000000;omega,by have:=(HE3.out.ok.2.2.2.2.2.2.2 ps[j] (List.getElem_mem hjl)).2.2.1;show (ps[j]'hjl).right.length < 1000000;omega,by show r0 < 1000000;omega⟩
   have HPj:Hid ((⟨G.t,G.n,G.s,ps⟩:Gr.Gm).prods[j]?=some (ps[j]'hjl)):=List.getElem?_eq_getElem hjl
   have HNj:Hid ((r1,(⟨j,(ps[j]'hjl).right.length,r0⟩:Ch.Im)) ∉ P∨j=i→∀ j2 ∈ (ofK ps lf ps.length).take (k + 1),∀ (hj:j2 < ps.length),j2≠i→(r1,(⟨j2,(ps[j2]'hj).right.length,r0⟩:Ch.Im)) ∉ P):=fun h j2 hj2 hj hne=>by
    rw [HTk.out] at hj2
    rcases List.mem_append.mp hj2 with h1 | h1
    ·exact HNo.out j2 h1 hj hne
    ·rw [List.mem_singleton] at h1
     subst h1
     rcases h with h | h
     ·exact h
     ·exact absurd h hne
   generalize hrl:(ps[j]'hjl).right.length=rl at *
   have HX4:=Lib.hid ((HX1.out.bl HB3.out).alloc (.cells #[.int .i64 (j:Int),.int .i64 (rl:Int),.int .i64 (r0:Int)] 44))
   have HI4:=Lib.hid (Bk.new wr 44 #[.int .i64 (j:Int),.int .i64 (rl:Int),.int .i64 (r0:Int)])
   have HE4:=Lib.hid (HE3.out.bl ((Bl.refl wr).alloc (.cells #[.int .i64 (j:Int),.int .i64 (rl:Int),.int .i64 (r0:Int)] 44)))
   have HB4:Hid (Bl w2 (wr.alloc (.cells #[.int .i64 (j:Int),.int .i64 (rl:Int),.int .i64 (r0:Int)] 44))):=HBr.out.alloc _
   go_upto_region 6 with fail
   generalize wr.alloc (.cells #[.int .i64 (j:Int),.int .i64 (rl:Int),.int .i64 (r0:Int)] 44)=w4 at *
   have a0:w4.cell? ⟨wr.heap.size,0,none⟩=some (.int .i64 (j:Int)):=HI4.out.cell 0
   have a1:w4.cell? ⟨wr.heap.size,1,none⟩=some (.int .i64 (rl:Int)):=HI4.out.cell 1
   have a2:w4.cell? ⟨wr.heap.size,2,none⟩=some (.int .i64 (r0:Int)):=HI4.out.cell 2
   have al:=HI4.out.lt
   have x0:w4.cell? ⟨w.heap.size,0,none⟩=some (.int .i64 (i:Int)):=HX4.out.cell 0
   have xl4:=HX4.out.lt
   have k5:w4.cell? ⟨K.p,5,none⟩=some (.map (some K.h)):=HE4.out.k.kb.cell 5
   have kl4:=HE4.out.k.kb.lt
   by_cases hji:j=i
   ·have d1:((j:Int) == (i:Int))=true:=by rw [hji];simp
    clear hr1 k3 c0
    go_quiet (fail)
    go_wp2_with fail
    go_roundw
    case rel=>exact ⟨k + 1,by omega,by go_num,HB4.out.drewN _,HNj.out (.inr hji)⟩
    case measure=>simp [intOf];omega
   ·have d1:((j:Int) == (i:Int))=false:=by rw [beq_eq_false_iff_ne];omega
    have d2:((j:Int) != (i:Int))=true:=by rw [bne_iff_ne];omega
    have d3:decide ((j:Int)=(i:Int))=false:=decide_eq_false (by omega)
    have d4:(j == i)=false:=by rw [beq_eq_false_iff_ne];exact hji
    have d5:(j != i)=true:=by rw [bne_iff_ne];exact hji
    have d6:decide (j=i)=false:=decide_eq_false hji
    clear hr1 k3 c0
    by_cases hm9:(r1,(⟨j,rl,r0⟩:Ch.Im)) ∈ P
    ·have hlk:∀ nq,(Instr.lookup 88 (.map (some K.h)) (.agg #[.int .i64 (r1:Int),.int .i64 (j:Int),.int .i64 (rl:Int),.int .i64 (r0:Int)]) false).run Tryz.prog (w4.drewN nq)=.ok (.bool true) (w4.drewN nq):=fun nq=>(HE4.out.k.has.of_block (w':=w4.drewN nq) rfl).look_yes st_law Tryz.underlying88 HStk.out hm9 (key_st HStk.out)
     go_quiet (fail)
     go_wp2_with fail
     go_ret
     exact .inr ⟨rfl,⟨ps[i]'hi,j,_,List.getElem?_eq_getElem hi,HPj.out,by rw [hjf,HLf.out],hji,by rw [hrl];exact hm9⟩,HB1.out.trans (HB2.out.trans (HB4.out.drewN _))⟩
    ·have hlk:∀ nq,(Instr.lookup 88 (.map (some K.h)) (.agg #[.int .i64 (r1:Int),.int .i64 (j:Int),.int .i64 (rl:Int),.int .i64 (r0:Int)]) false).run Tryz.prog (w4.drewN nq)=.ok (.bool false) (w4.drewN nq):=fun nq=>(HE4.out.k.has.of_block (w':=w4.drewN nq) rfl).look_no st_law Tryz.underlying88 HStk.out hm9 (key_st HStk.out)
     go_quiet (fail)
     go_wp2_with fail
     go_roundw
     case rel=>exact ⟨k + 1,by omega,by go_num,HB4.out.drewN _,HNj.out (.inl hm9)⟩
     case measure=>simp [intOf];omega
  ·have hke:k=m:=by omega
   subst hke
   go_wp2_with fail
   go_ret
   refine ⟨false,rfl,⟨fun h=>(by cases h),?_⟩,HB1.out.trans (HB2.out.trans HBr.out)⟩
   rintro ⟨p,j,q,hp,hq,hl,hne,hin⟩
   have hj:j < ps.length:=Ch.lt_of_get hq
   have hqe:ps[j]'hj=q:=by have h:ps[j]?=some q:=hq;rw [List.getElem?_eq_getElem hj] at h;injection h
   have hpe:ps[i]'hi=p:=by have h:ps[i]?=some p:=hp;rw [List.getElem?_eq_getElem hi] at h;injection h
   have hml:=ofK_mem hj (non:=lf) (by rw [hqe,hl,← hpe,HLf.out])
   have:=HNo.out j (by rw [List.take_of_length_le (by have:=HM.out;omega)];exact hml) hj hne
   rw [hqe] at this
   exact (this hin).elim
end Go.Proofs.YtdfhhbncmdpoeaaGreat
