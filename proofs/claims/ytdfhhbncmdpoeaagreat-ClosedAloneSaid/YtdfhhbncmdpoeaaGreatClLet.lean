/- kept.letOn: what stands behind nonterminals that ended, in whatever order a map tells them. -/
import Derived.Test.YtdfhhbncmdpoeaaGreatClRead
set_option maxRecDepth 100000
set_option maxHeartbeats 8000000
namespace Go.Proofs.YtdfhhbncmdpoeaaGreat
open Go.RowKit
open Go.Maps (Keyed)
attribute [local go_sem] Oper.semAt_some
def onS (b:Nat) (y:Ch.Im):St4:=(b,⟨y.prod,y.dot + 1,y.frm⟩)
theorem letOn_in (G:Kg) (ps:List Gr.Pr) (base:Nat) (K:Kw) (V:Int × Nat→Value) (P:List St4) (B:Nat) (xs:List Int) (w:World) (h:ClE G ps base K V P B xs w) :
  ∃ N,SeqM 48 (.pointer (some ⟨K.p,0,none⟩)) (ReqL ⟨G.t,G.n,G.s,ps⟩ P) N w:=by
 obtain ⟨D,nn,hown,hnn,hkeys⟩:=h.k.ends
 refine ⟨Maps.size D * P.length,?_⟩
 intro l J Jx W hW hJ hY h0
 have hE:=h.bl hW
 have hownW:W.ownsMap Tryz.prog 152 (plainElem Tryz.prog 4) K.e nn D:=by
  obtain ⟨es,clock,hb,r⟩:=hown
  exact ⟨es,clock,(hW.block _ (heap_lt hb)).trans hb,r⟩
 have k7:W.cell? ⟨K.p,7,none⟩=some (.map (some K.e)):=hE.k.kb.cell 7
 have kl:=hE.k.kb.lt
 have HE:=Lib.hid hE
 have HKy:=Lib.hid hkeys
 have hndo:∀ e ∈ Ch.endL ⟨G.t,G.n,G.s,ps⟩ P,ndOk e∧e.2.2≤1000:=fun e he=>by
  obtain ⟨s,hs,h1⟩:=Ch.mem_endL.1 he
  obtain ⟨h2,⟨p,hp,_⟩,h3⟩:=hE.fine s hs
  unfold Ch.endOf at h1
  rw [hp] at h1
  have h1:(if s.2.dot=p.right.length then some (p.left,s.2.frm,s.1) else none)=some e:=h1
  split at h1
  ·injection h1 with h1
   subst h1
   have hpo:=hE.ok.2.2.2.2.2.2.2 p (List.mem_of_getElem? hp)
   have h24:G.n≤24:=hE.ok.2.2.2.1
   have h5:p.left < G.n:=hpo.2.1
   exact ⟨⟨hpo.1,by show p.left < 1000000;omega,by show s.2.frm < 1000000;omega,by show s.1 < 1000000;omega⟩,h2⟩
  ·cases h1
 have HNd:=Lib.hid hndo
 clear hE hown h hkeys hW hnn hndo
 refine callsIn_of_wp Tryz.func48 rfl trivial ?_ rfl
 simp only [Tryz.ntmps48,List.size_toArray,List.length_cons,List.length_nil,Nat.reduceAdd,Nat.reduceSub,Array.replicate_succ,Array.replicate_zero,List.push_toArray,List.append_toArray,List.nil_append,List.cons_append]
 gi_wp2_with (first
  | (gi_at_range;refine wpListIn_range_own _ rfl _ 90 rfl 152 4 nd_law Tryz.underlying90 (plainElem Tryz.prog 4) K.e _ D rfl hownW ?_;intro W1 hrg1 hg1 hs1)
  | gi_in)
 go_frame
 have HK1:Hid (KpC W W1):=(KpC.refl W).grown hg1 (fun k e=>by cases e)
 have HJ1:Hid (J [] W1):=hJ _ _ _ _ h0 hg1 (fun r e=>by cases e)
 gi_loopw [12] (fun _ wr=>∃ (left:Lit→Bool) (cnt:Nat) (ys:List SX),wr.ranges Tryz.prog 152 (plainElem Tryz.prog 4) K.e W.heap.size nn D left cnt∧(∀ z,left z=true→Maps.has D z=true)∧J ys wr∧KpC W wr∧(∀ y ∈ ys,ReqL ⟨G.t,G.n,G.s,ps⟩ P y.1)∧
  (∀ e ∈ Ch.endL ⟨G.t,G.n,G.s,ps⟩ P,left (ndKey e)=false→∀ y ∈ Ch.waitL ⟨G.t,G.n,G.s,ps⟩ P (e.1,e.2.1),∃ z ∈ ys,z.1=onS e.2.2 y)∧ys.length + cnt * P.length≤Maps.size D * P.length) (fun _ wr=>wr.rangeLeft K.e W.heap.size)
 case atStart=>
  exact ⟨_,_,[],hrg1,fun _ h=>h,HJ1.out,HK1.out,fun y hy=>by simp at hy,fun e he h1=>by rw [HKy.out.mem (HNd.out e he).1 he] at h1;(cases h1),by simp⟩
 case round=>
  obtain ⟨left,cnt,ys,hrg,hsub,hJs,hkp,hreq,hall,hlen⟩:=hrel
  gi_wp2_with (first
   | (gi_at_next;refine wpListIn_next_of rfl _ rfl 152 nd_law (plainElem Tryz.prog 4) ndv ndKey ndOk (fun x hx=>key_nd hx) K.e W.heap.size nn D left cnt (fun z hz=>by obtain ⟨x,_,h1,h2⟩:=HKy.out.has z (hsub z hz);exact ⟨x,h1,h2⟩) rfl hrg ?_ ?_)
   | gi_in)
  ·intro hl0
   gi_wp2
   go_end0
   refine ⟨⟨_,rfl⟩,.inl ⟨ys,fun s hs=>?_,hreq,hJs⟩⟩
   obtain ⟨e,he,y,hy,rfl⟩:=hs
   exact hall e he (hl0 _) y hy
  ·intro e1 e2 e3 v W2 cnt2 hx hlx hrg2 hlt hg2 hen
   have hP:(e1,e2,e3) ∈ Ch.endL ⟨G.t,G.n,G.s,ps⟩ P:=by
    obtain ⟨x,h1,h2,h3⟩:=HKy.out.has _ (hsub _ hlx)
    rw [ndKey_inj hx h2 h3]
    exact h1
   have HX:=Lib.hid hx
   have hJ2:J ys W2:=hJ _ _ _ _ hJs hg2 (fun r e=>by cases e;exact ⟨Nat.le_refl _,hrg.iter_walk⟩)
   have hkp2:KpC W W2:=kpc_step hkp hg2 (Nat.le_refl _)
   have hen2:(Instr.entry (.pointer (some ⟨W.heap.size,0,none⟩))).run Tryz.prog W2=.ok (.tuple #[.agg #[.int .i64 e1,.int .i64 (e2:Int),.int .i64 (e3:Int)],v]) W2:=hen
   clear hen
   have HB3:Hid (Bl W2 (W2.alloc (.cells #[.int .i64 e1,.int .i64 (e2:Int),.int .i64 (e3:Int)] 152))):=(Bl.refl W2).alloc _
   have HX3:=Lib.hid (Bk.new W2 152 #[.int .i64 e1,.int .i64 (e2:Int),.int .i64 (e3:Int)])
   have HE3:=Lib.hid ((HE.out.kpc hkp2).bl HB3.out)
   have HJ3:Hid (J ys (W2.alloc (.cells #[.int .i64 e1,.int .i64 (e2:Int),.int .i64 (e3:Int)] 152))):=hJ _ _ _ none hJ2 (bl_grown HB3.out) (fun r e=>by cases e)
   have HRg3:Hid ((W2.alloc (.cells #[.int .i64 e1,.int .i64 (e2:Int),.int .i64 (e3:Int)] 152)).ranges Tryz.prog 152 (plainElem Tryz.prog 4) K.e W.heap.size nn D (fun z=>left z && !z.sameKey (ndKey (e1,e2,e3))) cnt2):=hrg2.alloc _
   have HKp3:=Lib.hid (hkp2.bl HB3.out)
   gi_wp2
   clear hen2
   generalize W2.alloc (.cells #[.int .i64 e1,.int .i64 (e2:Int),.int .i64 (e3:Int)] 152)=W3 at *
   have y0:W3.cell? ⟨W2.heap.size,0,none⟩=some (.int .i64 e1):=HX3.out.cell 0
   have y1:W3.cell? ⟨W2.heap.size,1,none⟩=some (.int .i64 (e2:Int)):=HX3.out.cell 1
   have yl:=HX3.out.lt
   have k6:W3.cell? ⟨K.p,6,none⟩=some (.map (some K.q)):=HE3.out.k.kb.cell 6
   have kl3:=HE3.out.k.kb.lt
   have hwt:wtOk (e1,e2):=⟨hx.1,hx.2.1,hx.2.2.1⟩
   have hlk0:=(HE3.out.k.waits.of_block (w':=W3.drew) rfl).look (t:=89) (e:=45) (Keyed.of_law wt_law) Tryz.underlying89 (wt_zero _) hwt (key_wt hwt)
   obtain ⟨Av,cv,hv,hcv⟩:=own_form (HE3.out.k.rows (e1,e2))
   have hlk:(Instr.lookup 89 (.map (some K.q)) (.agg #[.int .i64 e1,.int .i64 (e2:Int)]) false).run Tryz.prog W3.drew=.ok (.slice Av (Ch.waitL ⟨G.t,G.n,G.s,ps⟩ P (e1,e2)).length cv) W3.drew:=by rw [← hv];exact hlk0
   have HRw:Hid (Rd W3 W3.heap.size Av (imRow (Ch.waitL ⟨G.t,G.n,G.s,ps⟩ P (e1,e2)))):=by
    have h:=HE3.out.k.rows (e1,e2)
    rw [hv] at h
    exact rd_ownN h
   clear hlk0 hv
   refine wpIn_wide.2 ?_
   go_region
   gi_wp2
   generalize hL:Ch.waitL ⟨G.t,G.n,G.s,ps⟩ P (e1,e2)=L at *
   have HLm:=Lib.hid hL
   have hP3:P.length≤300000:=HE.out.few
   have hLP:L.length≤P.length:=by rw [← hL];exact Ch.waitL_len _ _ _
   clear hL
   have hN1:ys.length + (cnt2 * P.length + P.length)≤Maps.size D * P.length:=by
    have:=Nat.mul_le_mul_right P.length (show cnt2 + 1≤cnt by omega)
    rw [Nat.succ_mul] at this
    omega
   have hLy:∀ y ∈ L,ReqL ⟨G.t,G.n,G.s,ps⟩ P (onS e3 y)∧stOk (onS e3 y)∧y.dot < 1000000:=fun y hy=>by
    rw [← HLm.out] at hy
    refine ⟨⟨(e1,e2,e3),hP,y,hy,rfl⟩,?_⟩
    obtain ⟨t,ht,_,h2⟩:=Ch.mem_waitL.1 hy
    subst h2
    have h3:e3≤1000:=(HNd.out _ hP).2
    exact ⟨stepOk_of (b:=e3) HE.out ht (by omega),(HE.out.stOk ht).2.2.1⟩
   have HLy:=Lib.hid hLy
   clear hLy
   have hmx:Tryz.prog.follows .mixedOrders=true:=by kernel_rfl
   have HMe:=Lib.hid hrg.left_eq
   gi_loopw [27] (fun i wx=>∃ (k:Nat) (zs:List SX),k≤L.length∧i=.int .i64 k∧zs.length=k∧zs.map (·.1)=(L.take k).map (onS e3)∧J (ys ++ zs) wx∧KpC W3 wx) (fun i _=>L.length - (intOf i).toNat)
   case atStart=>exact ⟨0,[],Nat.zero_le _,rfl,rfl,rfl,by rw [List.append_nil];exact hJ _ _ _ none HJ3.out (bl_grown (Bl.refl W3).drew) (fun r e=>by cases e),(KpC.refl W3).drew⟩
   case round=>
    obtain ⟨k,zs,hk,rfl,hzl,hzs,hJz,hkz⟩:=hrel
    by_cases hlt2:k < L.length
    ·obtain ⟨bi,oi,rfl,hbi,c0,c1,c2⟩:=(HRw.out.kpc hkz).item hlt2
     have hbil:bi < wr.heap.size:=Nat.lt_of_lt_of_le hbi hkz.1
     have i0:(0:Int)≤(k:Int):=by omega
     have i1:(k:Int) < (L.length:Int):=by omega
     obtain ⟨hrq,hsto,hdo⟩:=HLy.out _ (List.getElem_mem hlt2)
     have HTk:Hid (L.take (k + 1)=L.take k ++ [L[k]]):=take_snoc hlt2
     have HRq:=Lib.hid hrq
     clear hrq
     generalize L[k]=y at *
     have HB5:Hid (Bl wr (wr.alloc (.cells #[.int .i64 (y.prod:Int),.int .i64 (y.dot:Int),.int .i64 (y.frm:Int)] 44))):=(Bl.refl wr).alloc _
     have HX5:=Lib.hid (Bk.new wr 44 #[.int .i64 (y.prod:Int),.int .i64 (y.dot:Int),.int .i64 (y.frm:Int)])
     have HXe5:=Lib.hid ((HX3.out.kpc hkz).bl HB5.out)
     gi_wp2
     generalize wr.alloc (.cells #[.int .i64 (y.prod:Int),.int .i64 (y.dot:Int),.int .i64 (y.frm:Int)] 44)=W5 at *
     have a0:W5.cell? ⟨wr.heap.size,0,none⟩=some (.int .i64 (y.prod:Int)):=HX5.out.cell 0
     have a1:W5.cell? ⟨wr.heap.size,1,none⟩=some (.int .i64 (y.dot:Int)):=HX5.out.cell 1
     have a2:W5.cell? ⟨wr.heap.size,2,none⟩=some (.int .i64 (y.frm:Int)):=HX5.out.cell 2
     have al:=HX5.out.lt
     have b2:W5.cell? ⟨W2.heap.size,2,none⟩=some (.int .i64 (e3:Int)):=HXe5.out.cell 2
     have bl:=HXe5.out.lt
     have HYd:Hid (∀ W7,Bl W5 W7→YieldAt Fence.wide (0 - 1) Tryz.prog l #[.agg #[.int .i64 (e3:Int),.int .i64 (y.prod:Int),.int .i64 ((y.dot:Int) + 1),.int .i64 (y.frm:Int)]] W7 (RndP J Jx (ys ++ zs) ⟨onS e3 y,hsto⟩ W7)):=fun W7 hb=>by
      have h:=yieldAny (m':=0 - 1) (hY (ys ++ zs) ⟨onS e3 y,hsto⟩ W7 (hJ _ _ _ none hJz (bl_grown (HB5.out.trans hb)) (fun r e=>by cases e)) (by rw [List.length_append];omega))
      rw [show ((y.dot:Int) + 1)=((y.dot + 1:Nat):Int) by omega]
      exact h
     have HBh:=Lib.hid (fun (wx:World)=>cbehind_any y.prod y.dot y.frm wx hdo)
     have HReq:=Lib.hid hreq
     have HAll:=Lib.hid hall
     have HSub:=Lib.hid hsub
     have HZs:=Lib.hid hzs
     have HLt:=Lib.hid hlt2
     have HZl:=Lib.hid hzl
     clear hreq hall hsub hzs hlk
     gi_region_with (first
      | (refine ⟨trivial,(by first | rfl | (intro h;cases h)),?_⟩;refine (callsIn_wide.2 (HBh.out _)).mono ?_;rintro e W7 ⟨rfl,hb7⟩;have HB7:Hid (Bl W5 W7):=hb7.undrew;have d2:W7.cell? ⟨W2.heap.size,2,none⟩=some (.int .i64 (e3:Int)):=(HXe5.out.bl hb7.undrew).cell 2;have dl:=(HXe5.out.bl hb7.undrew).lt;obtain ⟨fn,tmps,assign,body,hy,hR⟩:=HYd.out W7 HB7.out;clear hb7)
      | (refine ⟨(by first | rfl | (intro h;cases h)),hR.mono ?_⟩;rintro e W8 hp;obtain ⟨bb,rfl,hq⟩:=rnd_bool hp;have HQ8:=Lib.hid hq;clear hp hq))
     all_goals
      simp only [Act.put,List.getElem_toArray,List.getElem_cons_succ,List.getElem_cons_zero,List.setIfInBounds_toArray,List.set_cons_succ,List.set_cons_zero]
      gi_wp2
      ·rename_i hb
       rcases HQ8.out with ⟨rfl,_⟩ | ⟨rfl,h3⟩
       ·exact absurd hb (by decide)
       ·refine bodyPost_ret (results_none rfl _ _ _) rfl ⟨⟨_,rfl⟩,.inr ⟨_,fun q hq=>?_,h3⟩⟩
        rw [List.append_assoc] at hq
        rcases List.mem_append.mp hq with h | h
        ·exact HReq.out q h
        ·rcases List.mem_append.mp h with h | h
         ·have:q.1 ∈ zs.map (·.1):=List.mem_map.2 ⟨q,h,rfl⟩
          rw [HZs.out] at this
          obtain ⟨y2,h5,h6⟩:=List.mem_map.1 this
          rw [← h6]
          exact (HLy.out y2 (List.mem_of_mem_take h5)).1
         ·rw [List.mem_singleton] at h;subst h;exact HRq.out
      ·rename_i hb
       rcases HQ8.out with ⟨rfl,h3,h4⟩ | ⟨rfl,_⟩
       ·go_roundw
        case rel=>exact ⟨k + 1,zs ++ [⟨onS e3 y,hsto⟩],HLt.out,by go_num,by rw [List.length_append,HZl.out];rfl,by rw [List.map_append,HZs.out,HTk.out,List.map_append];rfl,by rw [← List.append_assoc];exact h3,hkz.trans (KpC.trans (.of_bl (HB5.out.trans HB7.out)) h4)⟩
        case measure=>have:=HLt.out;simp [intOf];omega
       ·exact absurd hb (by decide)
    ·have hke:k=L.length:=by omega
     subst hke
     have hr9:=HRg3.out.of_walks hkz.walks
     gi_wp2
     rw [List.take_length] at hzs
     refine ⟨⟨_,cnt2,ys ++ zs,hr9,fun z hz=>hsub z (by rw [Bool.and_eq_true] at hz;exact hz.1),hJz,HKp3.out.trans hkz,fun q hq=>?_,fun e he hl y hy=>?_,by rw [List.length_append];omega⟩,?_⟩
     ·rcases List.mem_append.mp hq with h | h
      ·exact hreq q h
      ·have:q.1 ∈ zs.map (·.1):=List.mem_map.2 ⟨q,h,rfl⟩
       rw [hzs] at this
       obtain ⟨y2,h5,h6⟩:=List.mem_map.1 this
       rw [← h6]
       exact (HLy.out y2 h5).1
     ·by_cases e0:e=(e1,e2,e3)
      ·subst e0
       have hy:y ∈ Ch.waitL ⟨G.t,G.n,G.s,ps⟩ P (e1,e2):=hy
       rw [HLm.out] at hy
       have:onS e3 y ∈ zs.map (·.1):=by rw [hzs];exact List.mem_map.2 ⟨y,hy,rfl⟩
       obtain ⟨q,h5,h6⟩:=List.mem_map.1 this
       exact ⟨q,List.mem_append.mpr (.inr h5),h6⟩
      ·rw [Maps.sameKey_ne (fun e4=>e0 (ndKey_inj (HNd.out e he).1 hx e4)),Bool.not_false,Bool.and_true] at hl
       obtain ⟨q,h5,h6⟩:=hall e he hl y hy
       exact ⟨q,List.mem_append.mpr (.inl h5),h6⟩
     ·rw [hr9.left_eq,HMe.out];exact hlt
end Go.Proofs.YtdfhhbncmdpoeaaGreat
