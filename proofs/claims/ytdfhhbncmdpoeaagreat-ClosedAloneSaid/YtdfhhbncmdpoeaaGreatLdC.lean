/- lead.By: a derivation, by a word's rows. -/
import Derived.Test.YtdfhhbncmdpoeaaGreatLdB
import Derived.Test.YtdfhhbncmdpoeaaGreatRankS
import Derived.Test.YtdfhhbncmdpoeaaGreatOwnA
set_option maxRecDepth 100000
set_option maxHeartbeats 8000000
namespace Go.Proofs.YtdfhhbncmdpoeaaGreat
open Go.RowKit
def factP (g:Gr.Gm) (n:Nat):Nat:=((Rk.ranks true g.prods g.nons.toNat).getD n (0,0)).2
theorem factP_fits {g:Gr.Gm} (hg:Gr.Ok g) (hv:Wi.Lives g):Ld.Fits g (factP g):=fun n hn=>by
 have h1:Rk.rk (Rk.ranks true g.prods g.nons.toNat) n≠0:=(Rk.some_iff hg n).mpr (hv (n:Int) (by omega) hn)
 obtain ⟨p,h2,h3,_⟩:=Rk.shown true g.prods g.nons.toNat n h1
 exact ⟨p,h2,h3⟩
theorem factsOf_prod {g:Gr.Gm} (hg:Gr.Ok g) (n:Nat):((factsOf true g).getD n ⟨0,0⟩).prod.toNat=factP g n:=by
 rw [factsOf_ok ((okB_iff g).2 hg)]
 unfold fz factP
 rw [List.getD_eq_getElem?_getD,List.getElem?_map,List.getD_eq_getElem?_getD]
 cases (Rk.ranks true g.prods g.nons.toNat)[n]? <;> simp
theorem factsOf_pos (g:Gr.Gm):∀ x ∈ factsOf true g,0≤x.prod:=fun x hx=>by
 unfold factsOf at hx
 split at hx
 ·unfold fz at hx
  obtain ⟨y,_,rfl⟩:=List.mem_map.1 hx
  exact Int.natCast_nonneg _
 ·cases hx
noncomputable def leadOf (g:Gr.Gm) (u:List Int) (K:Nat):List Int × Nat:=
 if Ld.mayB K g u [⟨true,g.start⟩] 0=true then (match Ld.lead K g (factP g) u 2000 0 [⟨true,g.start⟩] with | none=>([],5) | some l=>(ns l,0)) else ([],11)
def LPost (x:List Int × Nat) (w:World) (e:Ending) (w':World):Prop:=
 ∃ A c,e=.returned (.tuple #[.slice A x.1.length c,.int .i64 (x.2:Int)])∧x.1.length≤c∧Rd w' w'.heap.size A (ins x.1)∧Bl w w'
theorem lead_congr {g:Gr.Gm} {f f':Nat→Nat} {u:List Int} {K:Nat} (h:∀ n,f n=f' n):∀ k a l,Ld.lead K g f u k a l=Ld.lead K g f' u k a l:=by
 have e:f=f':=funext h
 subst e
 exact fun _ _ _=>rfl
theorem DvR.grownI {E:LdE} {a:Nat} {l:List Gr.Sy} {vl v:Value} {w w1 w2:World} {base n:Nat} {xs:List Value} (h:DvR E a l vl w) (hb:Bl w w1) (ho:w1.ownsRow base 3 1 v n xs) (hlo:E.lo≤base) (hg:w1.grownBy w2 v.ownBlock):DvR E a l vl w2:=by
 have h1:=h.bl hb
 refine ⟨h1.bd.grown hg (fun e=>h1.bd.row ho (by decide) e.symm),h1.st.kept hg ?_,?_⟩
 ·cases hv:vl.ownBlock with
  | none=>exact .inl rfl
  | some k=>exact .inr fun e=>own_apart' h1.st ho (by decide) k hv e.symm
 ·exact h1.env.fr1 ((Fr.refl _ w1).grown hg fun k hk _=>.inr (Nat.le_trans hlo (ho.lt k hk).1))
theorem put10 {w:World} {b:Nat} {t:TypeId} {a0 a1 a2 a3 a4 a5 a6 a7 a8 a9:Value} (h:Bk w b t #[a0,a1,a2,a3,a4,a5,a6,a7,a8,a9]) (u0 u1 u2 u3 u4 u5 u6 u7 u8 u9:Value):Bk ((((((((((w.setCell ⟨b,0,none⟩ u0).setCell ⟨b,1,none⟩ u1).setCell ⟨b,2,none⟩ u2).setCell ⟨b,3,none⟩ u3).setCell ⟨b,4,none⟩ u4).setCell ⟨b,5,none⟩ u5).setCell ⟨b,6,none⟩ u6).setCell ⟨b,7,none⟩ u7).setCell ⟨b,8,none⟩ u8).setCell ⟨b,9,none⟩ u9) b t #[u0,u1,u2,u3,u4,u5,u6,u7,u8,u9]:=by
 replace h:=h.put 0 u0
 simp only [List.setIfInBounds_toArray,List.set_cons_zero] at h
 replace h:=h.put 1 u1
 simp only [List.setIfInBounds_toArray,List.set_cons_zero,List.set_cons_succ] at h
 replace h:=h.put 2 u2
 simp only [List.setIfInBounds_toArray,List.set_cons_zero,List.set_cons_succ] at h
 replace h:=h.put 3 u3
 simp only [List.setIfInBounds_toArray,List.set_cons_zero,List.set_cons_succ] at h
 replace h:=h.put 4 u4
 simp only [List.setIfInBounds_toArray,List.set_cons_zero,List.set_cons_succ] at h
 replace h:=h.put 5 u5
 simp only [List.setIfInBounds_toArray,List.set_cons_zero,List.set_cons_succ] at h
 replace h:=h.put 6 u6
 simp only [List.setIfInBounds_toArray,List.set_cons_zero,List.set_cons_succ] at h
 replace h:=h.put 7 u7
 simp only [List.setIfInBounds_toArray,List.set_cons_zero,List.set_cons_succ] at h
 replace h:=h.put 8 u8
 simp only [List.setIfInBounds_toArray,List.set_cons_zero,List.set_cons_succ] at h
 replace h:=h.put 9 u9
 simp only [List.setIfInBounds_toArray,List.set_cons_zero,List.set_cons_succ] at h
 exact h
theorem facts_env {W:World} {base lf cf dd:Nat} {Af:Option Addr} {fs:List Fc} {cs:Array Value} (ho:W.ownsRow base 73 2 (.slice Af lf cf) lf (fcRow fs)) (hlf:lf=fs.length) (hd:Bk W dd 80 cs):RdP W (fun b=>b≠dd∧b < W.heap.size) Af (fcRow fs):=by
 intro h0
 have hl0:0 < lf:=by rw [fcRow_len] at h0;omega
 obtain ⟨g,cl,hv,hlo,hlt⟩:=World.ownsRow.form ho hl0
 injection hv with hv1 _ _
 subst hv1
 refine ⟨g,0,rfl,⟨fun e=>?_,hlt⟩,fun j v hj=>?_⟩
 ·exact hd.row ho (by decide) (by rw [← e];rfl)
 ·have hjl:j < (fcRow fs).length:=(List.getElem?_eq_some_iff.1 hj).1
  rw [fcRow_len] at hjl
  rw [Nat.zero_add,ho.cellAt j (by omega)]
  exact hj
theorem lby_any (t n s:Int) (A:Option Addr) (len c:Nat) (ps:List Gr.Pr) (Aw:Option Addr) (lw cw:Nat) (u:List Int) (K:Nat) (Ar:Option Addr) (cr:Nat) (w:World) (B:Nat) (hlen:len=ps.length) (hmax:len≤9223372036854775807) (hr:Prs w B A ps) (hlw:lw=u.length) (hrw:Rd w B Aw (ins u)) (hB:B≤w.heap.size)
  (hfit:fitB ⟨t,n,s,ps⟩ u=true) (hrr:Rd w B Ar (nus (25 * (lw + 1)) (allN ⟨t,n,s,ps⟩ u))) (hK:K≤2) :
  Calls Tryz.prog 17 #[.agg #[.int .i64 t,.int .i64 n,.int .i64 s,.slice A len c],.slice Aw lw cw,.int .i64 (K:Int),.slice Ar (lw + 1) cr] w (LPost (leadOf ⟨t,n,s,ps⟩ u K) w):=by
 obtain ⟨hok,hv,h24⟩:=fit_good hfit
 have HOk:=Lib.hid hok
 have HV:=Lib.hid hv
 have HLw:=Lib.hid hlw
 have HLn:=Lib.hid hlen
 have HB0:Hid (Bl w (w.alloc (.cells #[.int .i64 t,.int .i64 n,.int .i64 s,.slice A len c] 24))):=(Bl.refl w).alloc _
 have HG0:=Lib.hid (Bk.new w 24 #[.int .i64 t,.int .i64 n,.int .i64 s,.slice A len c])
 have HRt:=Lib.hid (right_any t n s A len c ps (w.alloc (.cells #[.int .i64 t,.int .i64 n,.int .i64 s,.slice A len c] 24)) B hlen hmax (hr.bl hB HB0.out) (Nat.le_trans hB HB0.out.size))
 rw [show okB ⟨t,n,s,ps⟩=true from (okB_iff _).2 hok] at HRt
 have HPr:Hid (∀ wx,Bl w wx→Prs wx B A ps):=fun wx hb=>hr.bl hB hb
 have HWd:Hid (∀ wx,Bl w wx→Rd wx B Aw (ins u)):=fun wx hb=>hrw.bl hB hb
 have HRr:Hid (∀ wx,Bl w wx→Rd wx B Ar (nus (25 * (lw + 1)) (allN ⟨t,n,s,ps⟩ u))):=fun wx hb=>hrr.bl hB hb
 have HPd:Hid (∀ wx,Bl w wx→Calls Tryz.prog 36 #[.agg #[.int .i64 t,.int .i64 n,.int .i64 s,.slice A len c]] wx (FNew (factsOf true ⟨t,n,s,ps⟩) wx)):=fun wx hb=>productive_new t n s A len c ps wx B HLn.out hmax (HPr.out wx hb) (Nat.le_trans hB hb.size)
 have hk0:¬ ((K:Int) < 0):=by omega
 have hk2:¬ ((2:Int) < (K:Int)):=by omega
 have hlw24:lw≤24:=by omega
 have HBd:=Lib.hid hB
 clear hr hrw hrr hlen hlw hfit hok hv h24 hB
 go_enter Tryz.func17,Tryz.ntmps17
 go_wp2_with fail
 refine HRt.out.mono ?_
 rintro e w1 ⟨rfl,hb1⟩
 have HB1:=Lib.hid (HB0.out.trans hb1)
 have HG1:=Lib.hid (HG0.out.bl hb1)
 obtain ⟨gb,hgb⟩:∃ gb,gb=w.heap.size:=⟨_,rfl⟩
 rw [← hgb] at HG1
 have HGb:=Lib.hid hgb
 have gl:=HG1.out.lt
 have HSg:Hid (∀ wx,Bl w1 wx→wx.cell? ⟨gb,0,none⟩=some (.int .i64 t)∧wx.cell? ⟨gb,1,none⟩=some (.int .i64 n)∧wx.cell? ⟨gb,2,none⟩=some (.int .i64 s)∧wx.cell? ⟨gb,3,none⟩=some (.slice A len c)):=fun wx hb=>⟨(HG1.out.bl hb).cell 0,(HG1.out.bl hb).cell 1,(HG1.out.bl hb).cell 2,(HG1.out.bl hb).cell 3⟩
 have HBc:=Lib.hid (Bl.refl w1)
 have tk1:True:=trivial
 clear hb1 HRt HB0 HG0
 go_wp2_with fail
 try rw [← hgb]
 clear hgb
 refine Code.wp_mono (Q:=fun e a' W=>e=.normal∧∃ (dd lf cf:Nat) (Af:Option Addr) (u15 u16 u17 u18 u19 u20 u21 u22 u23 u24 u25 u26 u27 u28 u29 u30 u31 u32 u33 u34 u35 u36 u37 u38 u39 u40:Value),w1.heap.size≤dd∧lf=(factsOf true ⟨t,n,s,ps⟩).length∧Hid (Bl w1 W)∧Hid (Bk W dd 80 #[.int .i64 t,.int .i64 n,.int .i64 s,.slice A len c,.slice Aw lw cw,.int .i64 (K:Int),.slice Ar (lw + 1) cr,.slice Af lf cf,.int .i64 0,.slice none 0 0])∧Hid (W.ownsRow w1.heap.size 73 2 (.slice Af lf cf) lf (fcRow (factsOf true ⟨t,n,s,ps⟩)))∧
  a' = { tmps:=List.toArray (.agg #[.int .i64 t,.int .i64 n,.int .i64 s,.slice A len c] :: .slice Aw lw cw :: .int .i64 (K:Int) :: .slice Ar (lw + 1) cr :: .pointer (some ⟨gb,0,none⟩) :: undef :: undef :: undef :: .slice none 0 0 :: .int .i64 0 :: .pointer (some ⟨dd,0,none⟩) :: undef :: undef :: undef :: undef :: u15 :: u16 :: u17 :: u18 :: u19 :: u20 :: u21 :: u22 :: u23 :: u24 :: u25 :: u26 :: u27 :: u28 :: u29 :: u30 :: u31 :: u32 :: u33 :: u34 :: u35 :: u36 :: u37 :: u38 :: u39 :: u40 :: undef :: undef :: undef :: undef :: undef :: undef :: undef :: undef :: undef :: undef :: undef :: undef :: undef :: undef :: undef :: undef :: undef :: undef :: undef :: undef :: undef :: undef :: undef :: undef :: undef :: undef :: undef :: []),defers:=[] }) ?aft ?reg
 case reg=>
  go_region_held3 (fun w'=>w'.cell? ⟨gb,0,none⟩=some (.int .i64 t)∧w'.cell? ⟨gb,1,none⟩=some (.int .i64 n)∧w'.cell? ⟨gb,2,none⟩=some (.int .i64 s)∧w'.cell? ⟨gb,3,none⟩=some (.slice A len c)) (first | with_reducible exact HSg.out _ HBc.out | with_reducible exact HSg.out _ HBc.out.drew | with_reducible exact HSg.out _ (HBc.out.alloc _) | with_reducible exact HSg.out _ (HBc.out.alloc _).drew | exact HSg.out _ (HBc.out.fr (((((((((((Fr.refl (fun k=>k=w1.heap.size) _).own _ _).own _ _).own _ _).own _ _).own _ _).own _ _).own _ _).own _ _).own _ _).own _ _) (fun k hk e=>by omega))) (first
   | (go_at_call 36;have _t:=tk1;((with_reducible refine (HPd.out _ (HB1.out.trans HBc.out.drew)).mono ?_);rintro e v1 ⟨Af,lf,cf,rfl,hlf,hof,hbf⟩;have HBc:=Lib.hid (HBc.out.drew.trans hbf);have HFo:=Lib.hid hof;have HLf:=Lib.hid hlf;clear hbf hof hlf;clear tk1))
   | (go_at_call 36;have _t:=tk1;((with_reducible refine (HPd.out _ (HB1.out.trans (HBc.out.alloc _).drew)).mono ?_);rintro e v1 ⟨Af,lf,cf,rfl,hlf,hof,hbf⟩;have HXb:=Lib.hid ((Bk.new w1 80 #[.int .i64 0,.int .i64 0,.int .i64 0,.slice none 0 0,.slice none 0 0,.int .i64 0,.slice none 0 0,.slice none 0 0,.int .i64 0,.slice none 0 0]).drew.bl hbf);have xc0:=HXb.out.cell 0;have xf0:=HXb.out.free 0;have xc1:=HXb.out.cell 1;have xf1:=HXb.out.free 1;have xc2:=HXb.out.cell 2;have xf2:=HXb.out.free 2;have xc3:=HXb.out.cell 3;have xf3:=HXb.out.free 3;have xc4:=HXb.out.cell 4;have xf4:=HXb.out.free 4;have xc5:=HXb.out.cell 5;have xf5:=HXb.out.free 5;have xc6:=HXb.out.cell 6;have xf6:=HXb.out.free 6;have xc7:=HXb.out.cell 7;have xf7:=HXb.out.free 7;have xc8:=HXb.out.cell 8;have xf8:=HXb.out.free 8;have xc9:=HXb.out.cell 9;have xf9:=HXb.out.free 9;have xl:=HXb.out.lt;have HBc:=Lib.hid ((HBc.out.alloc _).drew.trans hbf);have HFo:=Lib.hid hof;have HLf:=Lib.hid hlf;clear hbf hof hlf;clear tk1)))
  ·exact ⟨rfl,v1.heap.size,lf,cf,Af,_,_,_,_,_,_,_,_,_,_,_,_,_,_,_,_,_,_,_,_,_,_,_,_,_,_,HBc.out.size,HLf.out,HBc.out.alloc _,Bk.new _ _ _,HFo.out.alloc _,rfl⟩
  ·exact ⟨rfl,w1.heap.size,lf,cf,Af,_,_,_,_,_,_,_,_,_,_,_,_,_,_,_,_,_,_,_,_,_,_,_,_,_,_,Nat.le_refl _,HLf.out,HBc.out.fr (((((((((((Fr.refl (fun k=>k=w1.heap.size) v1).own _ _).own _ _).own _ _).own _ _).own _ _).own _ _).own _ _).own _ _).own _ _).own _ _) (fun k hk e=>by omega),put10 HXb.out _ _ _ _ _ _ _ _ _ _,own_fr (own_base HFo.out (fun k hk=>Nat.le_trans (by simp) (HFo.out.lt k hk).1)) (((((((((((Fr.refl (fun k=>k=w1.heap.size) v1).own _ _).own _ _).own _ _).own _ _).own _ _).own _ _).own _ _).own _ _).own _ _).own _ _) (fun k hk e=>by subst e;exact HXb.out.row HFo.out (by decide) hk),rfl⟩
 case aft=>
  rintro e a' w2 ⟨rfl,dd,lf,cf,Af,u15,u16,u17,u18,u19,u20,u21,u22,u23,u24,u25,u26,u27,u28,u29,u30,u31,u32,u33,u34,u35,u36,u37,u38,u39,u40,hdd,hlf,HB2,HDd,HFo,rfl⟩
  have hdl:=HDd.out.lt
  have hww1:w.heap.size≤w1.heap.size:=HB1.out.size
  have HBw:Hid (Bl w w2):=HB1.out.trans HB2.out
  obtain ⟨E,hE⟩:∃ E:LdE,E=⟨t,n,s,A,len,c,ps,Aw,lw,cw,u,K,Ar,cr,Af,lf,cf,factsOf true ⟨t,n,s,ps⟩,dd,w2.heap.size,B⟩:=⟨_,rfl⟩
  have HOkE:Hid (LdOk E):=by
   rw [hE]
   refine ⟨HLn.out,HLw.out,hlw24,HOk.out,HV.out,?_,hlf,?_,factsOf_pos _,hK⟩
   ·intro m hm
    obtain ⟨p,h1,h2⟩:=factP_fits HOk.out HV.out m hm
    exact ⟨p,by rw [← h1];exact congrArg (fun k=>ps[k]?) (factsOf_prod HOk.out m),h2⟩
   ·show (lf:Int)=n
    have h1:=factsOf_len (terms:=true) ((okB_iff _).2 HOk.out)
    have h2:=HOk.out.2.2.1
    simp only at h1 h2
    rw [hlf,h1]
    omega
  have HFz:Hid (∀ k,E.f k=factP ⟨t,n,s,ps⟩ k):=fun k=>by
   rw [hE]
   exact factsOf_prod HOk.out k
  have HDv:Hid (DvR E 0 [] (.slice none 0 0) w2):=by
   rw [hE]
   refine ⟨HDd.out,World.ownsRow_nil _ _ _ _,⟨HPr.out _ HBw.out,HWd.out _ HBw.out,HRr.out _ HBw.out,facts_env HFo.out hlf HDd.out,Nat.le_trans HBd.out (Nat.le_trans hww1 hdd),hdl,Nat.le_refl _⟩⟩
  have HG2:=Lib.hid (HG1.out.bl HB2.out)
  have g2:w2.cell? ⟨gb,2,none⟩=some (.int .i64 s):=HG2.out.cell 2
  have gl2:=HG2.out.lt
  have HEdd:Hid (E.dd=dd∧E.lo=w2.heap.size∧E.K=K∧E.u=u∧E.g=⟨t,n,s,ps⟩∧E.lw=lw∧E.n=n∧E.ps=ps):=by rw [hE];exact ⟨rfl,rfl,rfl,rfl,rfl,rfl,rfl,rfl⟩
  have hst:Gr.okSy E.g ⟨true,s⟩:=by
   rw [HEdd.out.2.2.2.2.1]
   have h1:=HOk.out.2.2.2.2.1
   have h2:=HOk.out.2.2.2.2.2.1
   exact ⟨h1,fun _=>h2,fun e=>by cases e⟩
  have HRow0:Hid (Ld.RowG E.g [⟨true,s⟩]):=fun x hx=>by rw [List.mem_singleton] at hx;subst hx;exact hst
  have HPut:Hid (∀ (wx:World) (sb:Nat),Bl w2 wx→sb=w2.heap.size→Bk wx sb 39 #[.bool true,.int .i64 s]→Calls Tryz.prog 37 #[.pointer (some ⟨dd,0,none⟩),.slice (some ⟨sb,0,none⟩) 1 1] wx fun e w'=>e=.returned (.bool (Ld.mayB K ⟨t,n,s,ps⟩ u [⟨true,s⟩] 0))∧(∃ vl',DvR E 0 (if Ld.mayB K ⟨t,n,s,ps⟩ u [⟨true,s⟩] 0=true then [⟨true,s⟩] else []) vl' w')∧FrD E wx w'):=fun wx sb hb hsb hbk=>by
   obtain ⟨e1,e2,e3,e4,e5,_⟩:=HEdd.out
   have h:=ldput_any E HOkE.out 0 [] (.slice none 0 0) (some ⟨sb,0,none⟩) 1 1 [⟨true,s⟩] wx (HDv.out.bl hb) (Nat.zero_le _) HRow0.out (fun x hx=>by cases hx) rfl (fun _=>⟨sb,0,rfl,⟨by rw [e1];omega,hbk.lt,.inr ⟨_,_,_,hbk,by decide⟩⟩,fun j v hj=>by
    rw [Nat.zero_add,hbk.cell j,← Array.getElem?_toList];exact hj⟩) (by simp) (by simp)
   rw [e1,e3,e4,e5,List.append_nil] at h
   exact h
  clear hE hlf HDd HFo HPd HRr HWd HPr hst
  generalize hmb:Ld.mayB K ⟨t,n,s,ps⟩ u [⟨true,s⟩] 0=mb at *
  have HMb:=Lib.hid hmb
  clear hmb
  have HBn:Hid (Bl w2 (w2.alloc (.cells #[.bool true,.int .i64 s] 39))):=(Bl.refl w2).alloc _
  have HPt:=Lib.hid (HPut.out (w2.alloc (.cells #[.bool true,.int .i64 s] 39)) w2.heap.size HBn.out rfl (Bk.new w2 _ _))
  cases mb with
  | false=>
   have HAns:Hid (leadOf ⟨t,n,s,ps⟩ u K=([],11)):=by
    unfold Hid leadOf
    show (if Ld.mayB K ⟨t,n,s,ps⟩ u [⟨true,s⟩] 0=true then _ else _)=_
    rw [HMb.out]
    exact if_neg (by decide)
   go_wp2_with fail
   (with_reducible refine HPt.out.mono ?_)
   rintro e w3 ⟨rfl,_,hf3⟩
   have HB3:Hid (Bl w w3):=(HBw.out.trans HBn.out).fr hf3.1 (fun k hk e=>by have:=HEdd.out.1;have:=HEdd.out.2.1;omega)
   clear hf3
   go_wp2_with fail
   go_ret2
   rw [HAns.out]
   exact ⟨none,0,rfl,Nat.le_refl _,Rd.nil,HB3.out⟩
  | true=>
   go_wp2_with fail
   (with_reducible refine HPt.out.mono ?_)
   rintro e w3 ⟨rfl,⟨vl3,hd3⟩,hf3⟩
   have hd3:DvR E 0 [⟨true,s⟩] vl3 w3:=by simpa using hd3
   have HD3:=Lib.hid hd3
   have HB3:Hid (Bl w w3):=(HBw.out.trans HBn.out).fr hf3.1 (fun k hk e=>by have:=HEdd.out.1;have:=HEdd.out.2.1;omega)
   clear hd3 hf3
   have HAns:Hid (leadOf ⟨t,n,s,ps⟩ u K=(match Ld.lead E.K E.g E.f E.u 2000 0 [⟨true,s⟩] with | none=>([],5) | some l=>(ns l,0))):=by
    unfold Hid leadOf
    show (if Ld.mayB K ⟨t,n,s,ps⟩ u [⟨true,s⟩] 0=true then _ else _)=_
    rw [HMb.out,if_pos rfl]
    obtain ⟨_,_,e3,e4,e5,_⟩:=HEdd.out
    rw [e3,e4,e5,lead_congr HFz.out]
   have HM0:Hid (Ld.May E.K E.g E.u [⟨true,s⟩] 0):=by
    obtain ⟨_,_,e3,e4,e5,_⟩:=HEdd.out
    have h1:=HMb.out
    unfold Hid
    rw [e3,e4,e5]
    exact Ld.mayB_iff.1 h1
   obtain ⟨i0,hi,hz0,hz1,hz2⟩:=info_parts of_int_info
   clear HMb HFz HPut HPt HDv HB2 HBn HG2 HV HB1 HSg HG1 HBc HBw
   go_wp2_with fail
   go_loopg [11] 2000 (fun q v wr=>∃ (dn:List Nat) (a1:Nat) (l:List Gr.Sy),dn.length + q=2000∧a1≤E.lw∧l.length≤1 + 8 * dn.length∧Hid (Ld.RowG E.g l)∧Hid (Ld.May E.K E.g E.u l a1)∧Hid (∃ vl',DvR E a1 l vl' wr)∧Hid (Bl w wr)∧Hid (wr.ownsRow E.lo 3 1 v dn.length (ins (ns dn)))∧Hid ((Ld.lead E.K E.g E.f E.u q a1 l).map (dn ++ ·)=Ld.lead E.K E.g E.f E.u 2000 0 [⟨true,s⟩]))
   case atStart=>exact ⟨[],0,[⟨true,s⟩],rfl,Nat.zero_le _,by simp,HRow0.out,HM0.out,⟨_,HD3.out⟩,HB3.out,World.ownsRow_nil _ _ _ _,by unfold Hid;simp⟩
   case round=>
    obtain ⟨dn,a1,l,hq,ha1,hll,HRw,HMy,HDr,HBr,HOw,HLd⟩:=hrel
    obtain ⟨vl1,hd1⟩:=HDr.out
    have HNx:=Lib.hid (ldnext_any E HOkE.out a1 l vl1 wr hd1 ha1 (by omega))
    obtain ⟨Ao,co,hv,hco⟩:=own_form HOw.out
    subst hv
    have hlw:=HOkE.out.lw
    have HE2:=Lib.hid (show E.dd=dd∧E.lo=w2.heap.size∧w.heap.size≤dd∧dd < w2.heap.size from ⟨HEdd.out.1,HEdd.out.2.1,Nat.le_trans hww1 hdd,hdl⟩)
    obtain ⟨⟨a2,x⟩,hx⟩:∃ z,Ld.nextOf E.u.length a1 l=z:=⟨_,rfl⟩
    rw [hx] at HNx
    cases x with
    | none=>
     have HNx:Hid (Calls Tryz.prog 38 #[.pointer (some ⟨E.dd,0,none⟩)] wr fun e w'=>e=.returned (.tuple #[.int .i64 0,.bool false])∧(∃ vl',DvR E a2 [] vl' w')∧FrD E wr w'):=HNx.out
     rw [HEdd.out.1] at HNx
     have HFin:Hid (leadOf ⟨t,n,s,ps⟩ u K=(ns dn,0)):=by
      unfold Hid
      rw [HAns.out,← HLd.out,Ld.lead_end hx]
      simp
     clear hd1 HDr hx HLd HMy HRw HAns
     go_wp2_with fail
     (with_reducible refine HNx.out.mono ?_)
     rintro e w4 ⟨rfl,_,hf4⟩
     have HB4:Hid (Bl w w4):=HBr.out.fr hf4.1 (fun k hk e=>by have:=HE2.out;omega)
     have HO4:=Lib.hid (own_keepT HOw.out hf4.2)
     clear hf4
     go_wp2_with fail
     go_ret2
     rw [HFin.out]
     refine ⟨Ao,co,by show _=Ending.returned (.tuple #[.slice Ao (ns dn).length co,.int .i64 ((0:Nat):Int)]);rw [ns_len];rfl,by rw [ns_len];exact hco,Rd.own HO4.out,HB4.out⟩
    | some y=>
     obtain ⟨s1,r⟩:=y
     obtain ⟨hs1,pre,hpre⟩:=Ld.nextOf_is hx
     obtain ⟨ha2,hm2⟩:=Ld.next_may (by omega) HMy.out hx
     have HRb:=Lib.hid (HRw.out.behind hpre)
     have hs1n:=(HRb.out s1 (List.mem_cons_self ..)).1
     have hs1m:=(HRb.out s1 (List.mem_cons_self ..)).2.1 hs1
     obtain ⟨m,hm⟩:∃ m:Nat,s1.n=(m:Int):=⟨s1.n.toNat,(Int.toNat_of_nonneg hs1n).symm⟩
     have hrl:r.length + 1≤l.length:=by rw [hpre,List.length_append,List.length_cons];omega
     have HNx:Hid (Calls Tryz.prog 38 #[.pointer (some ⟨E.dd,0,none⟩)] wr fun e w'=>e=.returned (.tuple #[.int .i64 (m:Int),.bool true])∧(∃ vl',DvR E a2 r vl' w')∧FrD E wr w'):=by
      unfold Hid
      rw [← hm]
      exact HNx.out
     rw [HEdd.out.1] at HNx
     by_cases hbig:dn.length=2000
     ·have hq0:gk=0:=by omega
      have HFin:Hid (leadOf ⟨t,n,s,ps⟩ u K=([],5)):=by
       unfold Hid
       rw [HAns.out,← HLd.out,hq0,Ld.lead_big hx]
       rfl
      clear hd1 HDr hx HLd HMy HRw HAns HRb hpre hm2
      go_wp2_with fail
      (with_reducible refine HNx.out.mono ?_)
      rintro e w4 ⟨rfl,_,hf4⟩
      have HB4:Hid (Bl w w4):=HBr.out.fr hf4.1 (fun k hk e=>by have:=HE2.out;omega)
      clear hf4
      go_wp2_with fail
      go_ret2
      rw [HFin.out]
      exact ⟨none,0,rfl,Nat.le_refl _,Rd.nil,HB4.out⟩
     ·obtain ⟨q',hq'⟩:∃ q',gk=q' + 1:=⟨gk - 1,by omega⟩
      obtain ⟨i,hpi⟩:=Ld.pick_is HOkE.out.ok HOkE.out.lives HOkE.out.fits hs1 HRb.out hm2
      obtain ⟨⟨p,hp1,hp2⟩,hm3⟩:=Ld.pick_some hpi
      have HLd2:Hid ((Ld.lead E.K E.g E.f E.u q' a2 (Ld.rig E.g.prods i ++ r)).map ((dn ++ [i]) ++ ·)=Ld.lead E.K E.g E.f E.u 2000 0 [⟨true,s⟩]):=by
       unfold Hid
       rw [← HLd.out,hq',Ld.lead_step hx hpi,Option.map_map]
       congr 1
       funext z
       simp
      have HR3:=Lib.hid (HRb.out.turn HOkE.out.ok hp1)
      have hri:(Ld.rig E.g.prods i).length≤8:=by
       rw [Ld.rig_at hp1]
       exact (HOkE.out.ok.2.2.2.2.2.2.2 p (List.mem_of_getElem? hp1)).2.2.1
      rw [hm] at hpi hs1m
      have HM3:=Lib.hid hm3
      have HCh:=Lib.hid (fun vl2 wx hd=>cho_any E HOkE.out a2 m i r vl2 wx hd hs1m (by omega) (fun x hx=>HRb.out x (List.mem_cons_of_mem _ hx)) (by omega) hpi)
      have hl3:(Ld.rig E.g.prods i ++ r).length≤1 + 8 * (dn.length + 1):=by rw [List.length_append];omega
      rw [HEdd.out.1] at HCh
      clear hd1 HDr hx HLd HMy HRw HAns HRb hpre hm2 hpi hm3 hp1 hp2 hs1n hs1m
      go_wp2_with fail
      (with_reducible refine HNx.out.mono ?_)
      rintro e w4 ⟨rfl,⟨vl4,hd4⟩,hf4⟩
      have HB4:Hid (Bl w w4):=HBr.out.fr hf4.1 (fun k hk e=>by have:=HE2.out;omega)
      have HO4:=Lib.hid (own_keepT HOw.out hf4.2)
      have HC4:=Lib.hid (HCh.out _ _ hd4)
      clear hf4 hd4 HCh HNx
      go_wp2_with fail
      (with_reducible refine HC4.out.mono ?_)
      rintro e w5 ⟨rfl,⟨vl5,hd5⟩,hf5⟩
      have HB5:Hid (Bl w w5):=HB4.out.fr hf5.1 (fun k hk e=>by have:=HE2.out;omega)
      have HO5:=Lib.hid (own_keepT HO4.out hf5.2)
      have HD5:=Lib.hid hd5
      have hlo5:=hd5.env.hlo
      clear hf5 hd5 HC4
      go_wp2_with (at_builtin;refine wpList_append_own _ rfl (.tmp 64) (.tmp 66) 25 rfl E.lo 3 i0 (.int .i64 0) 1 8 Tryz.underlying25 hi hz0 hz1 hz2 rfl (by decide) _ _ _ rfl (HO5.out.alloc _) ⟨w5.heap.size,0,none⟩ 1 1 [.int .i64 (i:Int)] rfl rfl (one_new w5 (.int .i64 (i:Int)) 3) (by simp [Value.oneCell']) (by simp only [maxLen];omega) (by omega) (by simp;omega) ?_;intro v' w6 hown' hgrow _;have HX:=Lib.hid hown';have HGw:=Lib.hid hgrow;clear hown' hgrow)
      go_roundg q'
      case rel=>exact ⟨dn ++ [i],a2,_,by rw [List.length_append,List.length_singleton];omega,by omega,by rw [show (dn ++ [i]).length=dn.length + 1 by rw [List.length_append,List.length_singleton]];exact hl3,HR3.out,HM3.out,⟨_,HD5.out.grownI ((Bl.refl _).alloc _) (HO5.out.alloc _) (Nat.le_refl _) HGw.out⟩,(HB5.out.alloc _).grown HGw.out (fun j hj=>by have h1:=((HO5.out.alloc (.cells #[.int .i64 (i:Int)] 3)).lt j hj).1;have:=HE2.out;omega),by rw [ns_append,ins_append,List.length_append];exact HX.out,HLd2.out⟩
      case measure=>omega
end Go.Proofs.YtdfhhbncmdpoeaaGreat
namespace Go.Proofs.YtdfhhbncmdpoeaaGreat
open Go.RowKit
theorem lby_arg (gv:Value) (hgv:∃ (t n s:Int) (A:Option Addr) (len c:Nat),gv=.agg #[.int .i64 t,.int .i64 n,.int .i64 s,.slice A len c]) (Aw:Option Addr) (lw cw:Nat) (k:Int) (Ar:Option Addr) (lr cr:Nat) (w:World) (hl:lw≤1000000000) (h:k < 0∨2 < k∨lr≠lw + 1) :
  Calls Tryz.prog 17 #[gv,.slice Aw lw cw,.int .i64 k,.slice Ar lr cr] w (LPost ([],1) w):=by
 obtain ⟨t,n,s,A,len,c,rfl⟩:=hgv
 have HB0:Hid (Bl w (w.alloc (.cells #[.int .i64 t,.int .i64 n,.int .i64 s,.slice A len c] 24))):=(Bl.refl w).alloc _
 have e1:IntKind.i64.wrap ((lw:Int) + 1)=(lw:Int) + 1:=by simp [IntKind.wrap,IntKind.bits,IntKind.signed];omega
 by_cases h0:k < 0
 ·clear h
  go_enter Tryz.func17,Tryz.ntmps17
  go_wp2_with fail
  go_ret2
  exact ⟨none,0,rfl,Nat.le_refl _,Rd.nil,HB0.out⟩
 ·by_cases h2:2 < k
  ·clear h
   go_enter Tryz.func17,Tryz.ntmps17
   go_wp2_with fail
   go_ret2
   exact ⟨none,0,rfl,Nat.le_refl _,Rd.nil,HB0.out⟩
  ·have h3:lr≠lw + 1:=by omega
   have h4:((lr:Int) == (lw:Int) + 1)=false:=by rw [beq_eq_false_iff_ne];omega
   have h5:((lr:Int) != (lw:Int) + 1)=true:=by rw [bne,h4];rfl
   have h6:¬ ((lr:Int)=(lw:Int) + 1):=by omega
   clear h
   go_enter Tryz.func17,Tryz.ntmps17
   go_wp2_with fail
   go_ret2
   exact ⟨none,0,rfl,Nat.le_refl _,Rd.nil,HB0.out⟩
noncomputable def leadsOf (g:Gr.Gm) (u:List Int) (k:Int):List Int × Nat:=if 0≤k∧k≤2∧fitB g u=true then leadOf g u k.toNat else ([],1)
theorem leadsOf_yes {g:Gr.Gm} {u:List Int} {k:Nat} (hk:k≤2) (h:fitB g u=true):leadsOf g u (k:Int)=leadOf g u k:=by
 unfold leadsOf
 rw [if_pos ⟨by omega,by omega,h⟩,Int.toNat_natCast]
theorem leadsOf_no {g:Gr.Gm} {u:List Int} {k:Int} (h:k < 0∨2 < k∨fitB g u=false):leadsOf g u k=([],1):=by
 unfold leadsOf
 rw [if_neg]
 rintro ⟨h1,h2,h3⟩
 rcases h with h | h | h
 ·omega
 ·omega
 ·rw [h3] at h;cases h
theorem lead_any (t n s:Int) (A:Option Addr) (len c:Nat) (ps:List Gr.Pr) (Aw:Option Addr) (lw cw:Nat) (u:List Int) (k:Int) (w:World) (B:Nat) (hlen:len=ps.length) (hmax:len≤9223372036854775807) (hr:PrsC w B A ps) (hlw:lw=u.length) (hmw:lw≤1000000) (hcw:lw≤cw) (hrw:Rd w B Aw (ins u)) (hB:B≤w.heap.size) :
  Calls Tryz.prog 8 #[.agg #[.int .i64 t,.int .i64 n,.int .i64 s,.slice A len c],.slice Aw lw cw,.int .i64 k] w (LPost (leadsOf ⟨t,n,s,ps⟩ u k) w):=by
 have HB0:Hid (Bl w (w.alloc (.cells #[.int .i64 t,.int .i64 n,.int .i64 s,.slice A len c] 24))):=(Bl.refl w).alloc _
 have HK0:=Lib.hid (Bk.new w 24 #[.int .i64 t,.int .i64 n,.int .i64 s,.slice A len c])
 have HRws:=Lib.hid (fun (wx:World) (hb:Bl w wx)=>sprows_any t n s A len c ps Aw lw cw u wx B hlen hmax (hr.bl hB hb) hlw (by omega) hcw (hrw.bl hB hb) (Nat.le_trans hB hb.size))
 have HCall:Hid (∀ (wx:World) (e:Ending) (wy:World),Bl w wx→RowsPost ⟨t,n,s,ps⟩ u wx e wy→∃ (Ar:Option Addr) (lr cr:Nat),e=.returned (.slice Ar lr cr)∧Bl w wy∧Calls Tryz.prog 17 #[.agg #[.int .i64 t,.int .i64 n,.int .i64 s,.slice A len c],.slice Aw lw cw,.int .i64 k,.slice Ar lr cr] wy (LPost (leadsOf ⟨t,n,s,ps⟩ u k) wy)):=by
  rintro wx e wy hb ⟨h1,h2,h3⟩
  have hby:=hb.trans h3
  cases hf:fitB ⟨t,n,s,ps⟩ u with
  | false=>
   refine ⟨none,0,0,h2 hf,hby,?_⟩
   rw [leadsOf_no (.inr (.inr hf))]
   exact (lby_arg _ ⟨t,n,s,A,len,c,rfl⟩ Aw lw cw k none 0 0 wy (by omega) (.inr (.inr (by omega))))
  | true=>
   obtain ⟨b,he,hbx,hn⟩:=h1 hf
   refine ⟨some ⟨b,0,none⟩,u.length + 1,u.length + 1,he,hby,?_⟩
   by_cases hk:0≤k∧k≤2
   ·obtain ⟨K,rfl⟩:∃ K:Nat,k=(K:Int):=⟨k.toNat,(Int.toNat_of_nonneg hk.1).symm⟩
    rw [leadsOf_yes (by omega) hf,← hlw]
    have hsz:B≤wy.heap.size:=Nat.le_trans hB hby.size
    refine (lby_any t n s A len c ps Aw lw cw u K (some ⟨b,0,none⟩) (lw + 1) wy wy.heap.size hlen hmax ((hr.bl hB hby).prs.more hsz) hlw ((hrw.bl hB hby).more hsz) (Nat.le_refl _) hf ?_ (by omega))
    rw [hlw]
    exact hn.rd
   ·rw [leadsOf_no (by omega)]
    exact (lby_arg _ ⟨t,n,s,A,len,c,rfl⟩ Aw lw cw k _ _ _ wy (by omega) (by omega))
 have HS:Hid (∀ wx,Bl (w.alloc (.cells #[.int .i64 t,.int .i64 n,.int .i64 s,.slice A len c] 24)) wx→wx.cell? ⟨w.heap.size,0,none⟩=some (.int .i64 t)∧wx.cell? ⟨w.heap.size,1,none⟩=some (.int .i64 n)∧wx.cell? ⟨w.heap.size,2,none⟩=some (.int .i64 s)∧wx.cell? ⟨w.heap.size,3,none⟩=some (.slice A len c)):=fun wx hb=>⟨(HK0.out.bl hb).cell 0,(HK0.out.bl hb).cell 1,(HK0.out.bl hb).cell 2,(HK0.out.bl hb).cell 3⟩
 obtain ⟨w1,hw1⟩:∃ w1,w1=w.alloc (.cells #[.int .i64 t,.int .i64 n,.int .i64 s,.slice A len c] 24):=⟨_,rfl⟩
 rw [← hw1] at HS HB0
 have HBc:=Lib.hid (Bl.refl w1)
 have tk1:True:=trivial
 have tk2:True:=trivial
 clear hlen hlw hr hrw HK0
 go_enter Tryz.func8,Tryz.ntmps8
 go_wp2_with fail
 try rw [← hw1]
 clear hw1
 go_region_held3 (fun w'=>w'.cell? ⟨w.heap.size,0,none⟩=some (.int .i64 t)∧w'.cell? ⟨w.heap.size,1,none⟩=some (.int .i64 n)∧w'.cell? ⟨w.heap.size,2,none⟩=some (.int .i64 s)∧w'.cell? ⟨w.heap.size,3,none⟩=some (.slice A len c)) (first | with_reducible exact HS.out _ HBc.out | exact HS.out _ HBc.out.drew) (first
  | (go_at_call 18;have _t:=tk1;((with_reducible refine (HRws.out _ (HB0.out.trans HBc.out.drew)).mono ?_);intro e v1 hp1;obtain ⟨Ar,lr,cr,rfl,hb1,hcall⟩:=HCall.out _ _ _ (HB0.out.trans HBc.out.drew) hp1;have HCl:=Lib.hid hcall;have HBc:=Lib.hid (HBc.out.drew.trans hp1.2.2);have HBv:=Lib.hid hb1;clear hp1 hb1 hcall;clear tk1))
  | (go_at_call 17;have _t:=tk2;((with_reducible refine HCl.out.mono ?_);rintro e v2 ⟨A2,c2,rfl,h1,h2,h3⟩;have HFin:=Lib.hid (And.intro h1 h2);have HBc:=Lib.hid (HBc.out.trans h3);have HBv:=Lib.hid (HBv.out.trans h3);clear h1 h2 h3;clear tk2)))
 go_wp2_with fail
 go_ret2
 exact ⟨A2,c2,rfl,HFin.out.1,HFin.out.2,HBv.out⟩
end Go.Proofs.YtdfhhbncmdpoeaaGreat
