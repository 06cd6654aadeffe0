/- kept.read: what stands behind the word's tokens, in whatever order a map tells it. -/
import Derived.Test.YtdfhhbncmdpoeaaGreatClBgn
set_option maxRecDepth 100000
set_option maxHeartbeats 8000000
namespace Go.Proofs.YtdfhhbncmdpoeaaGreat
open Go.RowKit
open Go.Maps (Keyed)
attribute [local go_sem] Oper.semAt_some
theorem rnd_bool {J Jx:List SX→World→Prop} {pre:List SX} {x:SX} {W1 W2:World} {e:Ending} (h:RndP J Jx pre x W1 e W2):∃ b:Bool,e=.returned (.bool b)∧((b=true∧J (pre ++ [x]) W2∧KpC W1 W2)∨(b=false∧Jx (pre ++ [x]) W2)):=by
 rcases h with ⟨rfl,h1,h2⟩ | ⟨rfl,h1⟩
 ·exact ⟨true,rfl,.inl ⟨rfl,h1,h2⟩⟩
 ·exact ⟨false,rfl,.inr ⟨rfl,h1⟩⟩
def stepS (t:St4) (a:Nat):St4:=(a,⟨t.2.prod,t.2.dot + 1,t.2.frm⟩)
theorem stepOk_of {G:Kg} {ps:List Gr.Pr} {base:Nat} {K:Kw} {V:Int × Nat→Value} {P:List St4} {B:Nat} {xs:List Int} {w:World} (h:ClE G ps base K V P B xs w) {t:St4} (ht:t ∈ P) {b:Nat} (hb:b≤1001):stOk (stepS t b):=by
 obtain ⟨h1,⟨p,hp,hd⟩,h3⟩:=h.fine t ht
 have h4:t.2.prod < ps.length:=Ch.lt_of_get hp
 have:=h.h60
 have h5:=(h.ok.2.2.2.2.2.2.2 p (List.mem_of_getElem? hp)).2.2.1
 exact ⟨by show b < 1000000;omega,by show t.2.prod < 1000000;omega,by show t.2.dot + 1 < 1000000;omega,by show t.2.frm < 1000000;omega⟩
theorem read_in (G:Kg) (ps:List Gr.Pr) (base:Nat) (K:Kw) (V:Int × Nat→Value) (P:List St4) (B:Nat) (xs:List Int) (w:World) (h:ClE G ps base K V P B xs w) :
  ∃ N,SeqM 47 (.pointer (some ⟨K.p,0,none⟩)) (ReqR ⟨G.t,G.n,G.s,ps⟩ P xs G.lw) N w:=by
 obtain ⟨D,nn,hown,hnn,hkeys⟩:=h.k.has
 refine ⟨Maps.size D,?_⟩
 intro l J Jx W hW hJ hY h0
 have hE:=h.bl hW
 have hownW:W.ownsMap Tryz.prog 96 (plainElem Tryz.prog 4) K.h nn D:=by
  obtain ⟨es,clock,hb,r⟩:=hown
  exact ⟨es,clock,(hW.block _ (heap_lt hb)).trans hb,r⟩
 have k5:W.cell? ⟨K.p,5,none⟩=some (.map (some K.h)):=hE.k.kb.cell 5
 have kl:=hE.k.kb.lt
 have HE:=Lib.hid hE
 have HKy:=Lib.hid hkeys
 clear hE hown h hkeys hW hnn
 refine callsIn_of_wp Tryz.func47 rfl trivial ?_ rfl
 simp only [Tryz.ntmps47,List.size_toArray,List.length_cons,List.length_nil,Nat.reduceAdd,Nat.reduceSub,Array.replicate_succ,Array.replicate_zero,List.push_toArray,List.append_toArray,List.nil_append,List.cons_append]
 gi_wp2_with (first
  | (gi_at_range;refine wpListIn_range_own _ rfl _ 88 rfl 96 4 st_law Tryz.underlying88 (plainElem Tryz.prog 4) K.h _ D rfl hownW ?_;intro W1 hrg1 hg1 hs1)
  | gi_in)
 go_frame
 have HK1:Hid (KpC W W1):=(KpC.refl W).grown hg1 (fun k e=>by cases e)
 have HJ1:Hid (J [] W1):=hJ _ _ _ _ h0 hg1 (fun r e=>by cases e)
 gi_loopw [12] (fun _ wr=>∃ (left:Lit→Bool) (cnt:Nat) (ys:List SX),wr.ranges Tryz.prog 96 (plainElem Tryz.prog 4) K.h W.heap.size nn D left cnt∧(∀ z,left z=true→Maps.has D z=true)∧J ys wr∧KpC W wr∧(∀ y ∈ ys,ReqR ⟨G.t,G.n,G.s,ps⟩ P xs G.lw y.1)∧
  (∀ t ∈ P,left (stKey t)=false→∀ y,Ch.symAt ⟨G.t,G.n,G.s,ps⟩ t.2=some y→y.non=false→t.1 < G.lw→xs[t.1]?=some y.n→∃ z ∈ ys,z.1=stepS t (t.1 + 1))∧ys.length + cnt≤Maps.size D) (fun _ wr=>wr.rangeLeft K.h W.heap.size)
 case atStart=>
  exact ⟨_,_,[],hrg1,fun _ h=>h,HJ1.out,HK1.out,fun y hy=>by simp at hy,fun t ht h1=>by rw [HKy.out.mem (HE.out.stOk ht) ht] at h1;(cases h1),by simp⟩
 case round=>
  obtain ⟨left,cnt,ys,hrg,hsub,hJs,hkp,hreq,hall,hlen⟩:=hrel
  gi_wp2_with (first
   | (gi_at_next;refine wpListIn_next_of rfl _ rfl 96 st_law (plainElem Tryz.prog 4) stv stKey stOk (fun x hx=>key_st hx) K.h W.heap.size nn D left cnt (fun z hz=>by obtain ⟨x,_,h1,h2⟩:=HKy.out.has z (hsub z hz);exact ⟨x,h1,h2⟩) rfl hrg ?_ ?_)
   | gi_in)
  ·intro hl0
   gi_wp2
   go_end0
   refine ⟨⟨_,rfl⟩,.inl ⟨ys,fun s hs=>?_,hreq,hJs⟩⟩
   obtain ⟨t,ht,y,h1,h2,h3,h4,rfl⟩:=hs
   exact hall t ht (hl0 _) y h1 h2 h3 h4
  ·intro a y v W2 cnt2 hx hlx hrg2 hlt hg2 hen
   have hP:(a,y) ∈ P:=by
    obtain ⟨x,h1,h2,h3⟩:=HKy.out.has _ (hsub _ hlx)
    rw [stKey_inj hx h2 h3]
    exact h1
   have HX:=Lib.hid hx
   have hJ2:J ys W2:=hJ _ _ _ _ hJs hg2 (fun r e=>by cases e;exact ⟨Nat.le_refl _,hrg.iter_walk⟩)
   have hkp2:KpC W W2:=kpc_step hkp hg2 (Nat.le_refl _)
   have hen2:(Instr.entry (.pointer (some ⟨W.heap.size,0,none⟩))).run Tryz.prog W2=.ok (.tuple #[.agg #[.int .i64 (a:Int),.int .i64 (y.prod:Int),.int .i64 (y.dot:Int),.int .i64 (y.frm:Int)],v]) W2:=hen
   clear hen
   have HB3:Hid (Bl W2 (W2.alloc (.cells #[.int .i64 (a:Int),.int .i64 (y.prod:Int),.int .i64 (y.dot:Int),.int .i64 (y.frm:Int)] 96))):=(Bl.refl W2).alloc _
   have HX3:=Lib.hid (Bk.new W2 96 #[.int .i64 (a:Int),.int .i64 (y.prod:Int),.int .i64 (y.dot:Int),.int .i64 (y.frm:Int)])
   have HE3:=Lib.hid ((HE.out.kpc hkp2).bl HB3.out)
   have y0:=HX3.out.cell 0
   have y1:=HX3.out.cell 1
   have y2:=HX3.out.cell 2
   have y3:=HX3.out.cell 3
   have yl:=HX3.out.lt
   have hfin:=HE.out.fine _ hP
   have hatl:=HE.out.atl _ hP
   have HNx:=Lib.hid (knext_at G K ps G.t G.n G.s y _ B HE3.out.k.kb HE3.out.len HE3.out.prs HE3.out.hB hfin.2.1)
   -- what is left of the range,whatever comes of this one
   have HNo:Hid (∀ (W9:World),KpC W2 W9→(∀ y':Gr.Sy,Ch.symAt ⟨G.t,G.n,G.s,ps⟩ y=some y'→y'.non=false→a < G.lw→xs[a]?=some y'.n→False)→J ys W9→
     (∃ (left:Lit→Bool) (cnt:Nat) (ys:List SX),W9.ranges Tryz.prog 96 (plainElem Tryz.prog 4) K.h W.heap.size nn D left cnt∧(∀ z,left z=true→Maps.has D z=true)∧J ys W9∧KpC W W9∧(∀ y ∈ ys,ReqR ⟨G.t,G.n,G.s,ps⟩ P xs G.lw y.1)∧
      (∀ t ∈ P,left (stKey t)=false→∀ y,Ch.symAt ⟨G.t,G.n,G.s,ps⟩ t.2=some y→y.non=false→t.1 < G.lw→xs[t.1]?=some y.n→∃ z ∈ ys,z.1=stepS t (t.1 + 1))∧ys.length + cnt≤Maps.size D)∧W9.rangeLeft K.h W.heap.size < wr.rangeLeft K.h W.heap.size):=by
    intro W9 hk9 hno hJ9
    have hr9:=hrg2.of_walks hk9.walks
    refine ⟨⟨_,cnt2,ys,hr9,fun z hz=>hsub z (by rw [Bool.and_eq_true] at hz;exact hz.1),hJ9,hkp2.trans hk9,hreq,fun t ht hl y' h1 h2 h3 h4=>?_,by omega⟩,?_⟩
    ·by_cases e:t=(a,y)
     ·subst e
      exact (hno y' h1 h2 h3 h4).elim
     ·rw [Maps.sameKey_ne (fun e2=>e (stKey_inj (HE.out.stOk ht) hx e2)),Bool.not_false,Bool.and_true] at hl
      exact hall t ht hl y' h1 h2 h3 h4
    ·rw [hr9.left_eq,hrg.left_eq];exact hlt
   have HJb:Hid (∀ W9,Bl W2 W9→J ys W9):=fun W9 hb=>hJ _ _ _ _ hJ2 (bl_grown hb) (fun r e=>by cases e)
   cases hsy:Ch.symAt ⟨G.t,G.n,G.s,ps⟩ y with
   | none=>
    have hn:nxt ⟨G.t,G.n,G.s,ps⟩ y=⟨false,0⟩:=by unfold nxt;rw [hsy];rfl
    rw [hsy,hn] at HNx
    gi_wp2_with (refine ⟨trivial,(by first | rfl | (intro h;cases h)),?_⟩;refine (callsIn_wide.2 HNx.out).mono ?_;rintro e W4 ⟨rfl,hb4⟩;have HB4:=Lib.hid (HB3.out.trans hb4);have HX4:=Lib.hid (HX3.out.bl hb4);clear hb4)
    have HB5:Hid (Bl W2 (W4.alloc (.cells #[.bool false,.int .i64 0] 39))):=HB4.out.alloc _
    have HS5:=Lib.hid (Bk.new W4 39 #[.bool false,.int .i64 0])
    have HX5:=Lib.hid (HX4.out.alloc (.cells #[.bool false,.int .i64 0] 39))
    generalize W4.alloc (.cells #[.bool false,.int .i64 0] 39)=W5 at *
    clear HB4 HX4
    have HE5:=Lib.hid ((HE.out.kpc hkp2).bl HB5.out)
    have z0:W5.cell? ⟨W4.heap.size,0,none⟩=some (.bool false):=HS5.out.cell 0
    have z1:W5.cell? ⟨W4.heap.size,1,none⟩=some (.int .i64 0):=HS5.out.cell 1
    have zl:=HS5.out.lt
    have a0:W5.cell? ⟨W2.heap.size,0,none⟩=some (.int .i64 (a:Int)):=HX5.out.cell 0
    have al:=HX5.out.lt
    have k4:W5.cell? ⟨K.p,4,none⟩=some (.slice G.Aw G.lw G.cw):=HE5.out.k.kb.cell 4
    have kl5:=HE5.out.k.kb.lt
    refine wpIn_wide.2 ?_
    go_quiet (fail)
    gi_wp2
    exact HNo.out _ (KpC.of_bl (HB5.out.drewN _)) (fun y' h1=>by rw [hsy] at h1;cases h1) (HJb.out _ (HB5.out.drewN _))
   | some z=>
    have hn:nxt ⟨G.t,G.n,G.s,ps⟩ y=z:=by unfold nxt;rw [hsy];rfl
    rw [hsy,hn] at HNx
    clear hn
    obtain ⟨zb,zn⟩:=z
    cases zb with
    | true=>
     gi_wp2_with (refine ⟨trivial,(by first | rfl | (intro h;cases h)),?_⟩;refine (callsIn_wide.2 HNx.out).mono ?_;rintro e W4 ⟨rfl,hb4⟩;have HB4:=Lib.hid (HB3.out.trans hb4);have HX4:=Lib.hid (HX3.out.bl hb4);clear hb4)
     have HB5:Hid (Bl W2 (W4.alloc (.cells #[.bool true,.int .i64 zn] 39))):=HB4.out.alloc _
     have HS5:=Lib.hid (Bk.new W4 39 #[.bool true,.int .i64 zn])
     have HX5:=Lib.hid (HX4.out.alloc (.cells #[.bool true,.int .i64 zn] 39))
     generalize W4.alloc (.cells #[.bool true,.int .i64 zn] 39)=W5 at *
     clear HB4 HX4
     have HE5:=Lib.hid ((HE.out.kpc hkp2).bl HB5.out)
     have z0:W5.cell? ⟨W4.heap.size,0,none⟩=some (.bool true):=HS5.out.cell 0
     have z1:W5.cell? ⟨W4.heap.size,1,none⟩=some (.int .i64 zn):=HS5.out.cell 1
     have zl:=HS5.out.lt
     have a0:W5.cell? ⟨W2.heap.size,0,none⟩=some (.int .i64 (a:Int)):=HX5.out.cell 0
     have al:=HX5.out.lt
     have k4:W5.cell? ⟨K.p,4,none⟩=some (.slice G.Aw G.lw G.cw):=HE5.out.k.kb.cell 4
     have kl5:=HE5.out.k.kb.lt
     refine wpIn_wide.2 ?_
     go_quiet (fail)
     gi_wp2
     exact HNo.out _ (KpC.of_bl (HB5.out.drewN _)) (fun y' h1 h2=>by rw [hsy] at h1;injection h1 with h1;subst h1;cases h2) (HJb.out _ (HB5.out.drewN _))
    | false=>
     gi_wp2_with (refine ⟨trivial,(by first | rfl | (intro h;cases h)),?_⟩;refine (callsIn_wide.2 HNx.out).mono ?_;rintro e W4 ⟨rfl,hb4⟩;have HB4:=Lib.hid (HB3.out.trans hb4);have HX4:=Lib.hid (HX3.out.bl hb4);clear hb4)
     have HB5:Hid (Bl W2 (W4.alloc (.cells #[.bool false,.int .i64 zn] 39))):=HB4.out.alloc _
     have HS5:=Lib.hid (Bk.new W4 39 #[.bool false,.int .i64 zn])
     have HX5:=Lib.hid (HX4.out.alloc (.cells #[.bool false,.int .i64 zn] 39))
     generalize W4.alloc (.cells #[.bool false,.int .i64 zn] 39)=W5 at *
     clear HB4 HX4
     have HE5:=Lib.hid ((HE.out.kpc hkp2).bl HB5.out)
     have z0:W5.cell? ⟨W4.heap.size,0,none⟩=some (.bool false):=HS5.out.cell 0
     have z1:W5.cell? ⟨W4.heap.size,1,none⟩=some (.int .i64 zn):=HS5.out.cell 1
     have zl:=HS5.out.lt
     have a0:W5.cell? ⟨W2.heap.size,0,none⟩=some (.int .i64 (a:Int)):=HX5.out.cell 0
     have al:=HX5.out.lt
     have k4:W5.cell? ⟨K.p,4,none⟩=some (.slice G.Aw G.lw G.cw):=HE5.out.k.kb.cell 4
     have kl5:=HE5.out.k.kb.lt
     by_cases hal:a=G.lw
     ·have d1:((a:Int) == (G.lw:Int))=true:=by rw [hal];simp
      refine wpIn_wide.2 ?_
      go_quiet (fail)
      gi_wp2
      exact HNo.out _ (KpC.of_bl (HB5.out.drewN _)) (fun y' _ _ h3=>by omega) (HJb.out _ (HB5.out.drewN _))
     ·have hal2:a < G.lw:=by omega
      have d1:((a:Int) == (G.lw:Int))=false:=by rw [beq_eq_false_iff_ne];omega
      have hax:a < xs.length:=Nat.lt_of_lt_of_le hal2 HE5.out.lw
      obtain ⟨bw,ow,eA,hbw,cw⟩:=HE5.out.rw_.int hax
      rw [eA] at k4
      have hbl:bw < W5.heap.size:=Nat.lt_of_lt_of_le hbw HE5.out.hB
      have i0:(0:Int)≤(a:Int):=by omega
      have i1:(a:Int) < (G.lw:Int):=by omega
      have HXa:Hid (xs[a]?=some xs[a]):=List.getElem?_eq_getElem hax
      generalize xs[a]=xa at *
      by_cases hxz:xa=zn
      ·subst hxz
       refine wpIn_wide.2 ?_
       go_quiet (fail)
       gi_wp2
       have hmx:Tryz.prog.follows .mixedOrders=true:=by kernel_rfl
       have hdo:y.dot < 1000000:=HX.out.2.2.1
       have hya:((a:Int) + 1)=((a + 1:Nat):Int):=by omega
       have a1:W5.cell? ⟨W2.heap.size,1,none⟩=some (.int .i64 (y.prod:Int)):=HX5.out.cell 1
       have a2:W5.cell? ⟨W2.heap.size,2,none⟩=some (.int .i64 (y.dot:Int)):=HX5.out.cell 2
       have a3:W5.cell? ⟨W2.heap.size,3,none⟩=some (.int .i64 (y.frm:Int)):=HX5.out.cell 3
       have hsto:stOk (stepS (a,y) (a + 1)):=stepOk_of HE.out hP (by have:a≤1000:=hfin.1;omega)
       have HYd:Hid (∀ W7,Bl W2 W7→YieldAt Fence.wide (0 - 1) Tryz.prog l #[.agg #[.int .i64 ((a:Int) + 1),.int .i64 (y.prod:Int),.int .i64 ((y.dot:Int) + 1),.int .i64 (y.frm:Int)]] W7 (RndP J Jx ys ⟨stepS (a,y) (a + 1),hsto⟩ W7)):=fun W7 hb=>by
        have h:=yieldAny (m':=0 - 1) (hY ys ⟨stepS (a,y) (a + 1),hsto⟩ W7 (HJb.out W7 hb) (by omega))
        rw [hya,show ((y.dot:Int) + 1)=((y.dot + 1:Nat):Int) by omega]
        exact h
       have HBh:=Lib.hid (fun (wx:World)=>cbehind_any y.prod y.dot y.frm wx hdo)
       have hwr:IntKind.i64.wrap ((a:Int) + 1)=(a:Int) + 1:=by have:a≤1000:=hfin.1;rw [IntKind.wrap_i64];omega
       have HReq:=Lib.hid hreq
       have HRt:Hid (ReqR ⟨G.t,G.n,G.s,ps⟩ P xs G.lw (stepS (a,y) (a + 1))):=⟨(a,y),hP,⟨false,xa⟩,hsy,rfl,hal2,HXa.out,rfl⟩
       have HGo:Hid (∀ (W9:World),KpC W2 W9→∀ q:SX,q.1=stepS (a,y) (a + 1)→J (ys ++ [q]) W9→
        (∃ (left:Lit→Bool) (cnt:Nat) (ys:List SX),W9.ranges Tryz.prog 96 (plainElem Tryz.prog 4) K.h W.heap.size nn D left cnt∧(∀ z,left z=true→Maps.has D z=true)∧J ys W9∧KpC W W9∧(∀ y ∈ ys,ReqR ⟨G.t,G.n,G.s,ps⟩ P xs G.lw y.1)∧
         (∀ t ∈ P,left (stKey t)=false→∀ y,Ch.symAt ⟨G.t,G.n,G.s,ps⟩ t.2=some y→y.non=false→t.1 < G.lw→xs[t.1]?=some y.n→∃ z ∈ ys,z.1=stepS t (t.1 + 1))∧ys.length + cnt≤Maps.size D)∧W9.rangeLeft K.h W.heap.size < wr.rangeLeft K.h W.heap.size):=by
        intro W9 hk9 q hq hJ9
        have hr9:=hrg2.of_walks hk9.walks
        refine ⟨⟨_,cnt2,ys ++ [q],hr9,fun z hz=>hsub z (by rw [Bool.and_eq_true] at hz;exact hz.1),hJ9,hkp2.trans hk9,fun z hz=>?_,fun t ht hl y' h1 h2 h3 h4=>?_,by rw [List.length_append,List.length_singleton];omega⟩,?_⟩
        ·rcases List.mem_append.mp hz with h | h
         ·exact hreq z h
         ·rw [List.mem_singleton] at h;subst h;rw [hq];exact HRt.out
        ·by_cases e:t=(a,y)
         ·subst e
          exact ⟨q,by simp,hq⟩
         ·rw [Maps.sameKey_ne (fun e2=>e (stKey_inj (HE.out.stOk ht) hx e2)),Bool.not_false,Bool.and_true] at hl
          obtain ⟨z,h5,h6⟩:=hall t ht hl y' h1 h2 h3 h4
          exact ⟨z,List.mem_append.mpr (.inl h5),h6⟩
        ·rw [hr9.left_eq,hrg.left_eq];exact hlt
       clear hya hsub hall hreq hen2 HNx
       gi_region_with (first
        | (refine ⟨trivial,(by first | rfl | (intro h;cases h)),?_⟩;refine (callsIn_wide.2 (HBh.out _)).mono ?_;rintro e W7 ⟨rfl,hb7⟩;have HB7:Hid (Bl W2 W7):=HB5.out.trans hb7.undrewN;have b0:W7.cell? ⟨W2.heap.size,0,none⟩=some (.int .i64 (a:Int)):=(HX5.out.bl hb7.undrewN).cell 0;have bl:=(HX5.out.bl hb7.undrewN).lt;obtain ⟨fn,tmps,assign,body,hy,hR⟩:=HYd.out W7 HB7.out;clear hb7)
        | (refine ⟨(by first | rfl | (intro h;cases h)),hR.mono ?_⟩;rintro e W8 hp;obtain ⟨bb,rfl,hq⟩:=rnd_bool hp;have HQ8:=Lib.hid hq;clear hp hq))
       all_goals
        simp only [Act.put,List.getElem_toArray,List.getElem_cons_succ,List.getElem_cons_zero,List.setIfInBounds_toArray,List.set_cons_succ,List.set_cons_zero]
        gi_wp2
        ·rename_i hb
         rcases HQ8.out with ⟨rfl,_⟩ | ⟨rfl,h3⟩
         ·exact absurd hb (by decide)
         ·refine bodyPost_ret (results_none rfl _ _ _) rfl ⟨⟨_,rfl⟩,.inr ⟨_,fun q hq=>?_,h3⟩⟩
          rcases List.mem_append.mp hq with h | h
          ·exact HReq.out q h
          ·rw [List.mem_singleton] at h;subst h;exact HRt.out
        ·rename_i hb
         rcases HQ8.out with ⟨rfl,h3,h4⟩ | ⟨rfl,_⟩
         ·have hend:=HGo.out _ (KpC.trans (.of_bl HB7.out) h4) _ rfl h3
          exact hend
         ·exact absurd hb (by decide)
      ·have d2:(xa == zn)=false:=by rw [beq_eq_false_iff_ne];exact hxz
       refine wpIn_wide.2 ?_
       go_quiet (fail)
       gi_wp2
       exact HNo.out _ (KpC.of_bl (HB5.out.drewN _)) (fun y' h1 _ _ h4=>by rw [hsy] at h1;injection h1 with h1;subst h1;rw [HXa.out] at h4;injection h4 with h4;exact hxz h4) (HJb.out _ (HB5.out.drewN _))
end Go.Proofs.YtdfhhbncmdpoeaaGreat
