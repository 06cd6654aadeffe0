/- The least and the greatest: no derivation stands ahead of the one, or behind the other. -/
import Derived.Test.YtdfhhbncmdpoeaaGreatLdC
import Derived.Test.YtdfhhbncmdpoeaaGreatPlainS
import Derived.Test.YtdfhhbncmdpoeaaGreatClRPl
import Derived.Test.YtdfhhbncmdpoeaaGreatChE
namespace Go.Proofs.YtdfhhbncmdpoeaaGreat
open Go.RowKit
theorem leadOf_cases (g:Gr.Gm) (u:List Int) (K:Nat):(leadOf g u K=([],11)∧Ld.mayB K g u [⟨true,g.start⟩] 0=false)∨(Ld.mayB K g u [⟨true,g.start⟩] 0=true∧(leadOf g u K=([],5)∨∃ m,leadOf g u K=(ns m,0)∧Ld.lead K g (factP g) u 2000 0 [⟨true,g.start⟩]=some m)):=by
 unfold leadOf
 cases h:Ld.mayB K g u [⟨true,g.start⟩] 0 with
 | false=>exact .inl ⟨if_neg (by decide),rfl⟩
 | true=>
  refine .inr ⟨rfl,?_⟩
  rw [if_pos rfl]
  cases h2:Ld.lead K g (factP g) u 2000 0 [⟨true,g.start⟩] with
  | none=>exact .inl rfl
  | some m=>exact .inr ⟨m,rfl,rfl⟩
theorem start_row {g:Gr.Gm} (hg:Gr.Ok g):Ld.RowG g [⟨true,g.start⟩]:=fun x hx=>by
 rw [List.mem_singleton] at hx
 subst hx
 exact ⟨hg.2.2.2.2.1,fun _=>hg.2.2.2.2.2.1,fun e=>by cases e⟩
end Go.Proofs.YtdfhhbncmdpoeaaGreat
namespace Go.Proofs.YtdfhhbncmdpoeaaGreat
open Go.RowKit
theorem leadOf_len (g:Gr.Gm) (u:List Int) (K:Nat):(leadOf g u K).1.length≤2000:=by
 unfold leadOf
 split
 ·split
  ·exact Nat.zero_le _
  ·rename_i h
   exact Nat.le_trans (Nat.le_of_eq (ns_len _)) (Ld.lead_len h)
 ·exact Nat.zero_le _
end Go.Proofs.YtdfhhbncmdpoeaaGreat
namespace Go.Proofs.YtdfhhbncmdpoeaaGreat
open Go.RowKit
open Cf (Cm)
def ixs (M:List (List Ch.Im)):List (List Ix):=M.map fun l=>l.map Ch.Im.ix
theorem ixs_len (M:List (List Ch.Im)):(ixs M).length=M.length:=List.length_map _
theorem rowI_ixs (M:List (List Ch.Im)) (a:Nat):rowI (ixs M) a=M.getD a []:=by
 unfold rowI ixs
 rw [List.getD_eq_getElem?_getD,List.getElem?_map,List.getD_eq_getElem?_getD]
 cases M[a]? with
 | none=>rfl
 | some l=>
  show (l.map Ch.Im.ix).map Ix.im=l
  rw [List.map_map]
  have h:l.map (Ix.im ∘ Ch.Im.ix)=l.map id:=List.map_congr_left fun x _=>ix_im x
  rw [h,List.map_id]
theorem setsX_of {w:World} {A:Option Addr} {M:List (List Ch.Im)} (h:SetsR w A M):SetsX w w.heap.size A (ixs M):=by
 obtain ⟨vs,h1,h2,h3⟩:=h
 refine ⟨vs,h1,by rw [ixs_len];exact h2,fun i l hl=>?_⟩
 unfold ixs at hl
 rw [List.getElem?_map] at hl
 cases hm:M[i]? with
 | none=>rw [hm] at hl;cases hl
 | some m=>
  rw [hm] at hl
  injection hl with hl
  subst hl
  obtain ⟨Ai,ci,h4,_,h5⟩:=h3 i m hm
  refine ⟨Ai,ci,?_,?_⟩
  ·rw [List.length_map];exact h4
  ·rw [← imRow_ix];exact h5
section
variable {g:Gr.Gm} {xs:List Int} {M:List (List Ch.Im)} {l:List Int}
theorem own_row (hI:Ch.IsSets g xs M) {a:Nat} (ha:a≤xs.length) (y:Ch.Im):y ∈ rowI (ixs M) a↔Ch.It g xs a y:=by
 rw [rowI_ixs,List.getD_eq_getElem?_getD]
 have hlt:a < M.length:=by rw [hI.1];omega
 rw [List.getElem?_eq_getElem hlt]
 exact (hI.2 a _ (List.getElem?_eq_getElem hlt)).2 y
theorem own_row_it (hI:Ch.IsSets g xs M) {a:Nat} (y:Ch.Im) (h:y ∈ rowI (ixs M) a):Ch.It g xs a y:=by
 rcases Nat.lt_or_ge xs.length a with h1 | h1
 ·rw [rowI_ixs,List.getD_eq_getElem?_getD,List.getElem?_eq_none (by rw [hI.1];omega)] at h
  cases h
 ·exact (own_row hI h1 y).1 h
theorem own_keep (hok:okB g=true) (hI:Ch.IsSets g xs M):keepB g xs.length (ixs M)=true:=by
 unfold keepB
 rw [hok,Bool.true_and,Bool.and_eq_true,decide_eq_true_eq,ixs_len,hI.1]
 refine ⟨by omega,standsB_iff.2 fun a l hl x hx=>?_⟩
 unfold ixs at hl
 rw [List.getElem?_map] at hl
 cases hm:M[a]? with
 | none=>rw [hm] at hl;cases hl
 | some m=>
  rw [hm] at hl
  injection hl with hl
  subst hl
  obtain ⟨y,hy,rfl⟩:=List.mem_map.1 hx
  obtain ⟨h1,_,p,h3,h4,_⟩:=(((hI.2 a m hm).2 y).1 hy).means
  exact standB_iff.2 ⟨y,rfl,⟨p,h3,h4⟩,h1⟩
theorem own_closed (hok:okB g=true) (hI:Ch.IsSets g xs M):ClosedP g xs (ixs M):=by
 refine ⟨own_keep hok hI,(rall_iff (own_keep hok hI)).1 ⟨fun y hy=>?_,fun a ha y hy z hz hp=>?_⟩⟩
 ·obtain ⟨j,p,rfl,h1,h2⟩:=Ch.mem_begs.1 hy
  exact (own_row hI (Nat.zero_le _) _).2 (.start h1 h2)
 ·have h1:=Ch.outI_sound (fun b y h=>own_row_it hI y h) (own_row_it hI y hy) z hz
  rw [ixs_len,hI.1] at hp
  exact (own_row hI (by omega) _).2 h1
theorem only_alone (hok:okB g=true) (hI:Ch.IsSets g xs M) (hr:Dv.replayOf (okB g) g l=(xs,0)) (hone:∀ m:List Nat,Dv.Dr g.prods m [⟨true,g.start⟩] xs→Dv.ints m=l):AloneP g xs (ixs M) l:=by
 have hc:=own_closed hok hI
 refine ⟨by rw [ixs_len,hI.1],hr,hc,fun nd hnd=>?_⟩
 obtain ⟨m,nds,pl,hl,hd⟩:=nds_of hr
 rw [hnd m xs _ nds pl hl hd]
 have hpart:Cf.part xs 0 xs.length=xs:=by simp [Cf.part]
 have hlo:=Al.one_lone (Nat.le_refl _) hd (fun m' hm'=>by
  rw [hpart] at hm'
  have h1:=hone m' hm'
  rw [hl] at h1
  exact ns_inj h1)
 have hP:∀ (a:Nat) (y:Ch.Im),(a,y) ∈ putS (doneS (ixs M) (ixs M).length 0)→Ch.It g xs a y:=fun a y h=>own_row_it hI y ((mem_row hc.1).1 h).2
 rintro ⟨i,row,hx,hO⟩
 obtain ⟨x,hxm,e⟩:=List.mem_map.1 hx
 injection e with e1 e2
 have e1:x.prod=i:=Int.ofNat.inj e1
 have e2:x.at_ ++ [x.stop]=row:=ns_inj e2
 subst e1 e2
 obtain ⟨p,pre,lx,post,nsx,hp,_,h3,_⟩:=hd.within x hxm
 obtain ⟨ha,hb⟩:=hlo x hxm p hp
 unfold OtherP at hO
 rw [al_first h3,al_last] at hO
 rcases hO with ⟨p2,j,q,g1,g2,g3,g4,g5⟩ | ⟨p2,dot,s,fd,fe,g1,g2,g3,g4,g5,k,g6,g7,g8,g9,g10⟩
 ·have e3:p2=p:=Option.some.inj (g1.symm.trans hp)
  subst e3
  exact g4 (ha ⟨j,q.right.length,x.frm⟩ q (hP _ _ g5) g2 rfl g3 rfl)
 ·have e3:p2=p:=Option.some.inj (g1.symm.trans hp)
  subst e3
  obtain ⟨y,q,h4,h5,h6,h7,h8⟩:=endL_iff.1 g10
  have h9:=hb dot s fe k g2 g5 g6 g7 (by rw [Nat.zero_add];exact hP _ _ g9) (.inr ⟨g3,y,q,hP _ _ h4,h5,h6,h7.symm,h8.symm⟩)
  rw [g4] at h9
  exact g8 (Option.some.inj h9).symm
end
section
variable {g:Gr.Gm} {u:List Int}
theorem lead_told (hf:fitB g u=true) {K:Nat} (hK:K≠2) (h:(leadOf g u K).2=0):Dv.replayOf (okB g) g (leadOf g u K).1=(u,0):=by
 obtain ⟨hok,hv,_⟩:=fit_good hf
 rcases leadOf_cases g u K with ⟨e,_⟩ | ⟨hm,e | ⟨a,e,l0⟩⟩
 ·rw [e] at h;cases h
 ·rw [e] at h;cases h
 rw [e]
 obtain ⟨v,hd,h2,h3⟩:=Ld.lead_dr hok hv (factP_fits hok hv) (Nat.zero_le _) (start_row hok) (Ld.mayB_iff.1 hm) l0
 rw [List.drop_zero] at h2 h3
 have h4:=h3 hK
 subst h4
 have hlen:=Ld.lead_len l0
 show Dv.replayOf (okB g) g (Dv.ints a)=_
 rw [(okB_iff g).2 hok,Dv.replay_play (by unfold Dv.ints;rw [List.length_map];exact hlen)]
 exact Dv.play_dr.2 ⟨a,rfl,hd⟩
theorem leads_only (hf:fitB g u=true) (h0:(leadOf g u 0).2=0) (h1:(leadOf g u 1).2=0) (he:(leadOf g u 0).1=(leadOf g u 1).1):∀ m:List Nat,Dv.Dr g.prods m [⟨true,g.start⟩] u→Dv.ints m=(leadOf g u 0).1:=by
 obtain ⟨hok,hv,_⟩:=fit_good hf
 have hfit:=factP_fits hok hv
 have hrow:=start_row hok
 rcases leadOf_cases g u 0 with ⟨e,_⟩ | ⟨m0,e | ⟨a,e0,l0⟩⟩
 ·rw [e] at h0;cases h0
 ·rw [e] at h0;cases h0
 rcases leadOf_cases g u 1 with ⟨e,_⟩ | ⟨m1,e | ⟨b,e1,l1⟩⟩
 ·rw [e] at h1;cases h1
 ·rw [e] at h1;cases h1
 rw [e0,e1] at he
 rw [e0]
 have he:ns a=ns b:=he
 intro m hm
 have k1:Dv.less (Dv.ints m) (ns a)=false:=Ld.lead_least hok hv hfit (Nat.zero_le _) hrow (Ld.mayB_iff.1 m0) l0 (by rw [List.drop_zero];exact hm)
 have k2:Dv.less (ns b) (Dv.ints m)=false:=Ld.lead_greatest hok hv hfit (Nat.zero_le _) hrow (Ld.mayB_iff.1 m1) l1 (by rw [List.drop_zero];exact hm)
 rw [← he] at k2
 show Dv.ints m=ns a
 apply Classical.byContradiction
 intro hne
 have:=Dv.less_total _ _ (fun e=>hne e.symm) k2
 rw [k1] at this
 cases this
theorem alone_same {M:List (List Ch.Im)} (hf:fitB g u=true) (hI:Ch.IsSets g u M) (h0:(leadOf g u 0).2=0) (h1:(leadOf g u 1).2=0):AloneP g u (ixs M) (leadOf g u 0).1↔(leadOf g u 0).1=(leadOf g u 1).1:=by
 constructor
 ·intro h
  exact (alone_only h (lead_told hf (by decide) h1)).symm
 ·intro h
  exact only_alone ((okB_iff g).2 (fit_good hf).1) hI (lead_told hf (by decide) h0) (leads_only hf h0 h1 h)
end
theorem few_by {P:Nat} {l:List Ch.Im} (hn:l.Nodup) {a:Nat} (h:∀ x ∈ l,x.prod < P∧x.dot≤8∧x.frm≤a):l.length≤P * (9 * (a + 1)):=by
 let cd:Ch.Im→Nat:=fun x=>x.prod * (9 * (a + 1)) + (x.dot * (a + 1) + x.frm)
 have lt:∀ z:Ch.Im,z.dot≤8→z.frm≤a→z.dot * (a + 1) + z.frm < 9 * (a + 1):=fun z h1 h2=>by
  have:z.dot * (a + 1)≤8 * (a + 1):=Nat.mul_le_mul_right _ h1
  omega
 have dm:∀ m q r:Nat,r < m→(q * m + r) / m=q∧(q * m + r) % m=r:=fun m q r hr=>by
  have hm:0 < m:=by omega
  exact ⟨by rw [Nat.add_comm,Nat.add_mul_div_right _ _ hm,Nat.div_eq_of_lt hr,Nat.zero_add],by rw [Nat.add_comm,Nat.add_mul_mod_self_right,Nat.mod_eq_of_lt hr]⟩
 have hc:(l.map cd).Nodup:=by
  rw [List.nodup_iff_pairwise_ne,List.pairwise_map]
  refine List.Pairwise.imp_of_mem ?_ hn
  intro x y hx hy hne he
  obtain ⟨x1,x2,x3⟩:=h x hx
  obtain ⟨y1,y2,y3⟩:=h y hy
  apply hne
  have he:x.prod * (9 * (a + 1)) + (x.dot * (a + 1) + x.frm)=y.prod * (9 * (a + 1)) + (y.dot * (a + 1) + y.frm):=he
  have ex:=dm (9 * (a + 1)) x.prod _ (lt x x2 x3)
  have ey:=dm (9 * (a + 1)) y.prod _ (lt y y2 y3)
  rw [he] at ex
  have e1:x.prod=y.prod:=ex.1.symm.trans ey.1
  have e2:x.dot * (a + 1) + x.frm=y.dot * (a + 1) + y.frm:=ex.2.symm.trans ey.2
  have fx:=dm (a + 1) x.dot x.frm (by omega)
  have fy:=dm (a + 1) y.dot y.frm (by omega)
  rw [e2] at fx
  have e3:x.dot=y.dot:=fx.1.symm.trans fy.1
  have e4:x.frm=y.frm:=fx.2.symm.trans fy.2
  obtain ⟨a1,a2,a3⟩:=x
  obtain ⟨b1,b2,b3⟩:=y
  simp only at e1 e3 e4
  rw [e1,e3,e4]
 have:=Kn.nodup_le (K:=l.map cd) (K':=List.range (P * (9 * (a + 1)))) hc (fun c hc=>by
  obtain ⟨x,hx,rfl⟩:=List.mem_map.1 hc
  obtain ⟨x1,x2,x3⟩:=h x hx
  rw [List.mem_range]
  show x.prod * (9 * (a + 1)) + (x.dot * (a + 1) + x.frm) < _
  have h1:=lt x x2 x3
  have h2:(x.prod + 1) * (9 * (a + 1))≤P * (9 * (a + 1)):=Nat.mul_le_mul_right _ x1
  rw [Nat.succ_mul] at h2
  omega)
 rwa [List.length_map,List.length_range] at this
theorem ixs_few {g:Gr.Gm} {u:List Int} {M:List (List Ch.Im)} (hg:Gr.Ok g) (hI:Ch.IsSets g u M) (h20:g.prods.length≤20) (h8:u.length≤8):∀ l ∈ ixs M,l.length≤2000:=by
 intro l hl
 obtain ⟨m,hm,rfl⟩:=List.mem_map.1 hl
 rw [List.length_map]
 obtain ⟨a,ha,e⟩:=List.getElem_of_mem hm
 have hs:=hI.2 a m (by rw [List.getElem?_eq_getElem ha,e])
 have ha8:a≤8:=by rw [hI.1] at ha;omega
 have h:=few_by (P:=20) hs.1.nodup (a:=a) (fun x hx=>by
  have h1:=((hs.2 x).1 hx)
  obtain ⟨_,h3,h4⟩:=h1.small hg
  obtain ⟨_,_,p,hp,_⟩:=h1.means
  have:=Ch.lt_of_get hp
  exact ⟨by omega,h3,h4⟩)
 have:20 * (9 * (a + 1))≤20 * (9 * 9):=Nat.mul_le_mul_left _ (Nat.mul_le_mul_left _ (by omega))
 omega
end Go.Proofs.YtdfhhbncmdpoeaaGreat
