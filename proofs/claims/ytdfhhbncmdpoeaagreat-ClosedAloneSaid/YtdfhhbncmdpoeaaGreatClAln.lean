/- slices.ContainsFunc of nodes with kept.otherwise. -/
import Derived.Test.YtdfhhbncmdpoeaaGreatClOth
import Derived.Test.YtdfhhbncmdpoeaaGreatTreeB
import Derived.Test.YtdfhhbncmdpoeaaGreatGRS
set_option maxRecDepth 100000
set_option maxHeartbeats 4000000
namespace Go.Proofs.YtdfhhbncmdpoeaaGreat
open Go.RowKit
def NdsOk (ps:List Gr.Pr) (nd:List (Int × List Int)):Prop:=∀ x ∈ nd,∃ (i:Nat) (row:List Nat),x=((i:Int),ns row)∧NodeOk ps i row
def OthersP (g:Gr.Gm) (P:List St4) (nd:List (Int × List Int)):Prop:=∃ (i:Nat) (row:List Nat),((i:Int),ns row) ∈ nd∧OtherP g P i row
theorem others_at {g:Gr.Gm} {P:List St4} {nd:List (Int × List Int)} {j i:Nat} {row:List Nat} (hj:j < nd.length) (e:nd[j]'hj=((i:Int),ns row)) (h1:¬ OthersP g P (nd.take j)):(OtherP g P i row→OthersP g P nd)∧(¬ OtherP g P i row→¬ OthersP g P (nd.take (j + 1))):=by
 refine ⟨fun h=>⟨i,row,by rw [← e];exact List.getElem_mem hj,h⟩,fun h=>?_⟩
 rintro ⟨i2,row2,h2,h3⟩
 rw [take_snoc hj,List.mem_append,List.mem_singleton,e] at h2
 rcases h2 with h2 | h2
 ·exact h1 ⟨i2,row2,h2,h3⟩
 ·injection h2 with h4 h5
  rw [Int.ofNat.inj h4,ns_inj h5] at h3
  exact h h3
theorem indexo_any (G:Kg) (ps:List Gr.Pr) (base:Nat) (K:Kw) (V:Int × Nat→Value) (P:List St4) (B:Nat) (xs:List Int) (An:Option Addr) (ln cn:Nat) (nd:List (Int × List Int)) (B2:Nat) (w:World) (h:ClE G ps base K V P B xs w)
  (hn:NdsOk ps nd) (hln:ln=nd.length) (hmax:ln≤2000) (hrd:NRd w B2 An nd) (hB2:B2≤w.heap.size) :
  Calls Tryz.prog 49 #[.slice An ln cn,.func (.func 25) #[.pointer (some ⟨K.p,0,none⟩)] #[]] w fun e w'=>∃ r:Int,e=.returned (.int .i64 r)∧(0≤r↔OthersP ⟨G.t,G.n,G.s,ps⟩ P nd)∧Bl w w':=by
 have HL:=Lib.hid hln
 have HE:=Lib.hid h
 have HN:=Lib.hid hn
 obtain ⟨hs,ehs,hrh⟩:=hrd.rows
 have HR:=Lib.hid (fun (wx:World) (hb:Bl w wx)=>(hrh.bl hB2 hb).rd)
 have HEh:=Lib.hid ehs
 clear h hln hn hrd hrh ehs
 go_enter Tryz.func49,Tryz.ntmps49
 go_wp2_with fail
 go_loopw [8] (fun i wr=>∃ k:Nat,k≤ln∧i=.int .i64 k∧Hid (¬ OthersP ⟨G.t,G.n,G.s,ps⟩ P (nd.take k))∧Hid (Bl w wr)) (fun i _=>ln - (intOf i).toNat)
 case atStart=>exact ⟨0,Nat.zero_le _,rfl,(fun ⟨i,row,h1,_⟩=>by simp at h1),Bl.refl w⟩
 case round=>
  obtain ⟨k,hk,rfl,HT,HB⟩:=hrel
  by_cases hlt:k < ln
  ·have hj:k < nd.length:=by have:=HL.out;omega
   obtain ⟨i,row,e,hok⟩:=HN.out _ (List.getElem_mem hj)
   have HStep:=Lib.hid (others_at hj e HT.out)
   have hj2:k < (hs.map Nh.nd).length:=by rw [HEh.out];exact hj
   obtain ⟨b,off,Ar,cr,rfl,hbB,q0,q1,hrr⟩:=HR.out _ HB.out k hj2
   have e2:(hs.map Nh.nd).getD k (0,[])=((i:Int),ns row):=by rw [HEh.out,List.getD_eq_getElem?_getD,List.getElem?_eq_getElem hj];exact e
   rw [e2] at q0 q1 hrr
   simp only at q0 q1 hrr
   have HC:=Lib.hid (otherwise_any G ps base K V P B xs i row Ar (ns row).length cr B2 wr (HE.out.bl HB.out) hok (ns_len row) hrr (Nat.le_trans hB2 HB.out.size))
   generalize (ns row).length=nr at *
   have hbl:b < wr.heap.size:=Nat.lt_of_lt_of_le hbB (Nat.le_trans hB2 HB.out.size)
   have j0:(0:Int)≤(k:Int):=by omega
   have j1:(k:Int) < (ln:Int):=by omega
   clear hrr hok e e2 hj hj2
   go_wp2_with fail
   refine HC.out.mono ?_
   rintro e w1 ⟨b1,rfl,hiff,hb1⟩
   have HB1:=Lib.hid (HB.out.trans hb1);clear hb1 HC
   cases b1 with
   | true=>
    have HX:=Lib.hid (HStep.out.1 (hiff.1 rfl))
    clear hiff
    go_wp2_with fail
    go_ret
    exact ⟨_,rfl,⟨fun _=>HX.out,fun _=>by omega⟩,HB1.out⟩
   | false=>
    have HX:=Lib.hid (HStep.out.2 (fun h=>by have:=hiff.2 h;cases this))
    clear hiff
    go_wp2_with fail
    go_roundw
    case rel=>exact ⟨k + 1,by omega,by go_num,HX.out,HB1.out⟩
    case measure=>simp [intOf];omega
  ·go_wp2_with fail
   go_ret
   refine ⟨-1,rfl,⟨fun h=>absurd h (by decide),fun h=>?_⟩,HB.out⟩
   have h9:=HT.out
   rw [List.take_of_length_le (by have:=HL.out;omega)] at h9
   exact (h9 h).elim
theorem others_any (G:Kg) (ps:List Gr.Pr) (base:Nat) (K:Kw) (V:Int × Nat→Value) (P:List St4) (B:Nat) (xs:List Int) (An:Option Addr) (ln cn:Nat) (nd:List (Int × List Int)) (B2:Nat) (w:World) (h:ClE G ps base K V P B xs w)
  (hn:NdsOk ps nd) (hln:ln=nd.length) (hmax:ln≤2000) (hrd:NRd w B2 An nd) (hB2:B2≤w.heap.size) :
  Calls Tryz.prog 24 #[.slice An ln cn,.func (.func 25) #[.pointer (some ⟨K.p,0,none⟩)] #[]] w fun e w'=>∃ b:Bool,e=.returned (.bool b)∧(b=true↔OthersP ⟨G.t,G.n,G.s,ps⟩ P nd)∧Bl w w':=by
 have HC:=Lib.hid (indexo_any G ps base K V P B xs An ln cn nd B2 w h hn hln hmax hrd hB2)
 clear h hn hln hrd
 go_enter Tryz.func24,Tryz.ntmps24
 go_wp2_with fail
 refine HC.out.mono ?_
 rintro e w1 ⟨r,rfl,hf,hb1⟩
 have HB1:=Lib.hid hb1
 have HD:=Lib.hid hf
 clear hb1 hf
 go_wp2_with fail
 go_ret
 exact ⟨_,rfl,by rw [← HD.out];exact decide_eq_true_iff,HB1.out⟩
end Go.Proofs.YtdfhhbncmdpoeaaGreat
namespace Go.Proofs.YtdfhhbncmdpoeaaGreat
open Go.RowKit
theorem iequal_any (A A':Option Addr) (len len' cap cap':Nat) (l r:List Int) (w:World) (B:Nat) (hl:len=l.length) (hl':len'=r.length) (hmax':len'≤9223372036854775807)
  (hr:Rd w B A (ins l)) (hr':Rd w B A' (ins r)) :
  Calls Tryz.prog 20 #[.slice A len cap,.slice A' len' cap'] w (Quiet (.bool (decide (l=r))) w):=by
 have HL:=Lib.hid hl;clear hl
 have HL':=Lib.hid hl';clear hl'
 have HR:=Lib.hid hr;clear hr
 have HR':=Lib.hid hr';clear hr'
 by_cases hne:len=len'
 ·have hmax:len≤9223372036854775807:=by omega
  have hq:((len:Int) != (len':Int))=false:=by simp;omega
  have HN:=Lib.hid hne;clear hne
  go_enter Tryz.func20,Tryz.ntmps20
  go_wp2
  go_loopw [13] (fun i wr=>∃ (k q:Nat),k≤len∧i=.int .i64 k∧wr=w.drewN q∧Hid (l.take k=r.take k)) (fun i _=>len - (intOf i).toNat)
  case atStart=>exact ⟨0,0,by omega,rfl,rfl,by simp [Hid]⟩
  case round=>
   obtain ⟨k,q,hk,rfl,rfl,HT⟩:=hrel
   by_cases hlt:k < len
   ·have hj:k < l.length:=by have:=HL.out;omega
    have hj':k < r.length:=by have:=HL'.out;have:=HN.out;omega
    obtain ⟨b,off,rfl,_,hcell⟩:=HR.out.int hj
    obtain ⟨b',off',rfl,_,hcell'⟩:=HR'.out.int hj'
    have hlt':k < len':=by have:=HN.out;omega
    have HS:=Lib.hid (itake_succ_eq hj hj' HT.out)
    have HD:=Lib.hid (fun (h:l=r)=>(by subst h;rfl:l[k]=r[k]))
    generalize l[k]=c at hcell HS HD
    generalize r[k]=c' at hcell' HS HD
    clear hj hj'
    by_cases hcc:c=c'
    ·have hq2:(c != c')=false:=by simp [hcc]
     have HC:=Lib.hid hcc;clear hcc
     go_wp2
     go_quiet (fail)
     go_wp2
     go_roundw
     case rel=>exact ⟨k + 1,_,by omega,by go_num,rfl,HS.out HC.out⟩
     case measure=>simp [intOf];omega
    ·have hq2:(c != c')=true:=by simpa using hcc
     have hf:decide (l=r)=false:=by simp;intro h;exact hcc (HD.out h)
     have HF:=Lib.hid hf;clear hf
     go_wp2
     go_quiet (fail)
     go_wp2
     go_ret
     exact ⟨by rw [HF.out];rfl,_,World.drewN_drewN _ _ _⟩
   ·go_wp2
    go_ret
    have e:l=r:=by
     have h1:=HT.out;have h2:=HL.out;have h3:=HL'.out;have h4:=HN.out
     rw [List.take_of_length_le (by omega),List.take_of_length_le (by omega)] at h1
     exact h1
    exact ⟨by rw [decide_eq_true e];rfl,_,rfl⟩
 ·have hq:((len:Int) != (len':Int))=true:=by simp;omega
  have hf:decide (l=r)=false:=by simp;rintro rfl;have:=HL.out;have:=HL'.out;omega
  have HF:=Lib.hid hf;clear hf
  go_enter Tryz.func20,Tryz.ntmps20
  go_wp2
  go_ret
  exact ⟨by rw [HF.out];rfl,0,rfl⟩
end Go.Proofs.YtdfhhbncmdpoeaaGreat
namespace Go.Proofs.YtdfhhbncmdpoeaaGreat
open Go.RowKit
def AloneP (g:Gr.Gm) (xs:List Int) (L:List (List Ix)) (l:List Int):Prop:=
 L.length=xs.length + 1∧Dv.replayOf (okB g) g l=(xs,0)∧ClosedP g xs L∧∀ nd,Dv.NodesOf g.prods g.start l nd→¬ OthersP g (putS (doneS L L.length 0)) nd
theorem nds_of {g:Gr.Gm} {l xs:List Int} (h:Dv.replayOf (okB g) g l=(xs,0)):∃ (m:List Nat) (nds:List Al.No) (pl:List Nat),l=Dv.ints m∧Al.Nd g.prods xs m [⟨true,g.start⟩] 0 xs.length nds pl:=by
 have h0:(Dv.replayOf (okB g) g l).2=0:=by rw [h]
 obtain ⟨hk,hl,_⟩:=Dv.replay_ok h0
 rw [hk,Dv.replay_play hl] at h
 exact Dv.nodes_of h
theorem nodes_one {ps:List Gr.Pr} {s:Int} {l xs:List Int} {m:List Nat} {nds:List Al.No} {pl:List Nat} (hl:l=Dv.ints m) (hd:Al.Nd ps xs m [⟨true,s⟩] 0 xs.length nds pl) {a b:List (Int × List Int)} (h1:Dv.NodesOf ps s l a) (h2:Dv.NodesOf ps s l b):a=b:=by
 rw [h1 m xs _ nds pl hl hd,h2 m xs _ nds pl hl hd]
theorem nds_ok {ps:List Gr.Pr} {s:Int} {l xs:List Int} {m:List Nat} {nds:List Al.No} {pl:List Nat} (hl:l=Dv.ints m) (hd:Al.Nd ps xs m [⟨true,s⟩] 0 xs.length nds pl) (hx:xs.length≤1000) {nd:List (Int × List Int)} (h:Dv.NodesOf ps s l nd):NdsOk ps nd:=by
 rw [h m xs _ nds pl hl hd]
 intro x hx2
 obtain ⟨y,hy,rfl⟩:=List.mem_map.1 hx2
 obtain ⟨p,pre,lx,post,nsx,hp,_,hn,_⟩:=hd.within y hy
 refine ⟨y.prod,y.at_ ++ [y.stop],rfl,Ch.lt_of_get hp,?_,fun e he=>?_⟩
 ·rw [List.length_append,hn.places.1,List.length_singleton]
  rw [List.getElem?_eq_getElem (Ch.lt_of_get hp)] at hp
  injection hp with hp
  rw [hp]
 ·have:=hd.bound_no (Nat.le_refl _) y hy e he
  omega
theorem alone_any (t n s:Int) (A:Option Addr) (len c:Nat) (ps:List Gr.Pr) (Aw:Option Addr) (lw cw:Nat) (xs:List Int) (As:Option Addr) (ls cs:Nat) (L:List (List Ix)) (Al:Option Addr) (ll cl:Nat) (l:List Int) (w:World) (B:Nat) (hlen:len=ps.length) (hmax:len≤9223372036854775807) (hr:PrsC w B A ps) (hlw:lw=xs.length) (hcw:lw≤cw) (hrw:Rd w B Aw (ins xs)) (hls:ls=L.length) (hL:L.length≤100) (hM:∀ l ∈ L,l.length≤2000) (hs:SetsX w B As L)
  (hll:ll=l.length) (hml:ll≤9223372036854775806) (hrl:Rd w B Al (ins l)) (hB:B≤w.heap.size) (hmw:lw≤9223372036854775806) :
  Calls Tryz.prog 9 #[.agg #[.int .i64 t,.int .i64 n,.int .i64 s,.slice A len c],.slice Aw lw cw,.slice As ls cs,.slice Al ll cl] w fun e w'=>∃ b:Bool,e=.returned (.bool b)∧(b=true↔AloneP ⟨t,n,s,ps⟩ xs L l)∧Bl w w':=by
 have HB0:Hid (Bl w (w.alloc (.cells #[.int .i64 t,.int .i64 n,.int .i64 s,.slice A len c] 24))):=(Bl.refl w).alloc _
 have HK0:=Lib.hid (Bk.new w 24 #[.int .i64 t,.int .i64 n,.int .i64 s,.slice A len c])
 have HRp:=Lib.hid (fun (wx:World) (hb:Bl w wx)=>replay_any t n s A len c ps Al ll cl l wx B hlen hmax (hr.bl hB hb) (Nat.le_trans hB hb.size) hll hml (hrl.bl hB hb))
 have HNd:=Lib.hid (fun (wx:World) (hb:Bl w wx)=>nodes_any t n s A len c ps Al ll cl l wx B hlen hmax (hr.bl hB hb) (Nat.le_trans hB hb.size) hll hml (hrl.bl hB hb))
 have HKp:Hid (∀ wx,Bl w wx→Calls Tryz.prog 21 #[.agg #[.int .i64 t,.int .i64 n,.int .i64 s,.slice A len c],.slice Aw lw cw,.slice As ls cs] wx (KeepP ⟨t,n,s,A,len,c,Aw,lw,cw⟩ ⟨t,n,s,ps⟩ lw L wx)):=fun wx hb=>(keep_any ⟨t,n,s,A,len,c,Aw,lw,cw⟩ ps As ls cs L _ B hlen hmax (hr.prs.bl hB hb) hcw hls hL hM (hs.bl hB hb) (Nat.le_trans hB hb.size))
 have HPr:=Lib.hid (fun (wx:World) (hb:Bl w wx)=>hr.prs.bl hB hb)
 have HRw:=Lib.hid (fun (wx:World) (hb:Bl w wx)=>hrw.bl hB hb)
 have HBs:=Lib.hid hB
 have HLn:=Lib.hid hlen
 have HLs:=Lib.hid hls
 have HLw:=Lib.hid hlw
 clear hr hrw hs hlen hls hlw hll hml hrl hB
 by_cases hlq:ls=lw + 1
 ·have q1:((ls:Int) != (lw:Int) + 1)=false:=by rw [bne_eq_false_iff_eq];omega
  have HLq:=Lib.hid hlq
  clear hlq
  have HAs:Hid (∀ l ∈ L,l.length≤2000):=hM
  go_enter Tryz.func9,Tryz.ntmps9
  go_upto_region 4 with (go_at_call 19;(with_reducible refine (HRp.out _ HB0.out).mono ?_);rintro e w1 ⟨A1,n1,c1,rfl,hn1,hrd1,hb1⟩;have HN1:=Lib.hid hn1;have HR1:=Lib.hid (Rd.own hrd1);have HB1:=Lib.hid (HB0.out.trans hb1);have HK1:=Lib.hid (HK0.out.bl hb1);clear hn1 hrd1 hb1)
  obtain ⟨x,hx⟩:∃ x,x=Dv.replayOf (okB ⟨t,n,s,ps⟩) ⟨t,n,s,ps⟩ l:=⟨_,rfl⟩
  have HX:=Lib.hid hx
  rw [← hx] at HN1 HR1 HNd ⊢
  clear hx HRp
  obtain ⟨v,x⟩:=x
  simp only at HN1 HR1 HNd
  rcases Nat.eq_zero_or_pos x with hx0 | hx0
  ·subst hx0
   have HEq:=Lib.hid (iequal_any A1 Aw n1 lw c1 cw v xs w1 w1.heap.size HN1.out HLw.out (by omega) HR1.out ((HRw.out _ HB1.out).more (Nat.le_trans HBs.out HB1.out.size)))
   by_cases hv:v=xs
   ·rw [decide_eq_true hv] at HEq
    have HV:=Lib.hid hv
    clear hv
    go_upto_region 6 with (go_at_call 20;(with_reducible refine HEq.out.mono ?_);rintro e w2 ⟨rfl,q2,rfl⟩;have HB2:=Lib.hid (HB1.out.trans ((Bl.refl w1).drewN q2));have HK2:=Lib.hid (HK1.out.drewN q2))
    clear HEq
    generalize w1.drewN q2=w2 at *
    have HPr2:=Lib.hid (HPr.out _ HB2.out)
    have HRw2:=Lib.hid (HRw.out _ HB2.out)
    have hb9:B≤w2.heap.size:=Nat.le_trans HBs.out HB2.out.size
    have HBs2:=Lib.hid hb9
    clear hb9
    have k0:w2.cell? ⟨w.heap.size,0,none⟩=some (.int .i64 t):=HK2.out.cell 0
    have k1:w2.cell? ⟨w.heap.size,1,none⟩=some (.int .i64 n):=HK2.out.cell 1
    have k2:w2.cell? ⟨w.heap.size,2,none⟩=some (.int .i64 s):=HK2.out.cell 2
    have k3:w2.cell? ⟨w.heap.size,3,none⟩=some (.slice A len c):=HK2.out.cell 3
    have kl:=HK2.out.lt
    cases hk:keepB ⟨t,n,s,ps⟩ lw L with
    | false=>
     have HQ:Hid (¬ AloneP ⟨t,n,s,ps⟩ xs L l):=fun h=>by rw [HLw.out,h.2.2.1.1] at hk;cases hk
     go_wp2_with (go_at_call 21;(with_reducible refine (HKp.out _ HB2.out).mono ?_);rintro e w3 hp;obtain ⟨rfl,hb2⟩:=keepP_no hk hp;have HB3:=Lib.hid (HB2.out.trans hb2);clear hb2)
     go_ret
     exact ⟨false,rfl,⟨fun h=>(by cases h),fun h=>(HQ.out h).elim⟩,HB3.out⟩
    | true=>
     have HKb:=Lib.hid hk
     clear hk
     go_upto_region 9 with (first
      | (go_at_call 21;(with_reducible refine (HKp.out _ HB2.out).mono ?_);rintro e w3 hp;obtain ⟨K,V,rfl,hk2,hb2⟩:=keepP_yes HKb.out hp;have HE:=Lib.hid (kept_env (G:=⟨t,n,s,A,len,c,Aw,lw,cw⟩) (xs:=xs) (by rw [← HLw.out];exact HKb.out) hL hM HLn.out HPr2.out HBs2.out HRw2.out hk2 hb2);have HB3:=Lib.hid (HB2.out.trans hb2);have HK3:=Lib.hid (HK2.out.bl hb2);have HCl:Hid (Calls Tryz.prog 22 #[.pointer (some ⟨K.p,0,none⟩)] w3 fun e w'=>∃ b:Bool,e=.returned (.bool b)∧(b=true↔AllIn ⟨t,n,s,ps⟩ xs (L.length - 1) (putS (doneS L L.length 0)))∧Bl w3 w'):=(kclosed_any _ _ _ _ _ _ _ _ _ HE.out);clear hk2 hb2 k0 k1 k2 k3 kl)
      | (go_at_call 22;(with_reducible refine HCl.out.mono ?_);rintro e w4 ⟨b,rfl,hiff,hb3⟩;have HI:=Lib.hid hiff;have HB4:=Lib.hid (HB3.out.trans hb3);have HK4:=Lib.hid (HK3.out.bl hb3);have HE4:=Lib.hid (HE.out.bl hb3);clear hiff hb3))
     ·go_ret
      refine ⟨false,rfl,⟨fun h=>(by cases h),fun h=>?_⟩,HB4.out⟩
      have h1:=HI.out.2 h.2.2.1.2
      simp_all
     ·have hb4:b=true:=by cases b <;> simp_all
      subst hb4
      obtain ⟨m,nds,pl,hl,hd⟩:=nds_of (HX.out.symm.trans (by rw [HV.out]))
      have HNo:=Lib.hid (fun nd h=>nds_ok (nd:=nd) hl hd (by have h1:=HLs.out;have h2:=HLq.out;have h3:=HLw.out;omega) h)
      have HOne:=Lib.hid (fun (a b:List (Int × List Int)) h1 h2=>nodes_one (a:=a) (b:=b) hl hd h1 h2)
      clear hl hd
      have k0:w4.cell? ⟨w.heap.size,0,none⟩=some (.int .i64 t):=HK4.out.cell 0
      have k1:w4.cell? ⟨w.heap.size,1,none⟩=some (.int .i64 n):=HK4.out.cell 1
      have k2:w4.cell? ⟨w.heap.size,2,none⟩=some (.int .i64 s):=HK4.out.cell 2
      have k3:w4.cell? ⟨w.heap.size,3,none⟩=some (.slice A len c):=HK4.out.cell 3
      have kl:=HK4.out.lt
      go_upto_region 10 with (go_at_call 23;(with_reducible refine (HNd.out _ HB4.out).mono ?_);rintro e w5 ⟨nd,_,hnd,hn2,A5,n5,c5,rfl,hn5,hrd5,hb5⟩;have HOf:=Lib.hid (hnd (by trivial));have HB5:=Lib.hid (HB4.out.trans hb5);have HE5:=Lib.hid (HE4.out.bl hb5);have HOt:=Lib.hid (others_any _ _ _ _ _ _ _ _ A5 n5 c5 nd _ w5 HE5.out (HNo.out nd HOf.out) hn5 (by omega) hrd5 (Nat.le_refl _));clear hnd hn2 hn5 hrd5 hb5 k0 k1 k2 k3 kl)
      go_wp2_with (go_at_call 24;(with_reducible refine HOt.out.mono ?_);rintro e w6 ⟨b6,rfl,hiff,hb6⟩;have HI6:=Lib.hid hiff;have HB6:=Lib.hid (HB5.out.trans hb6);clear hiff hb6)
      go_ret
      refine ⟨!b6,rfl,⟨fun h=>⟨?_,HX.out.symm.trans (by rw [HV.out]),⟨?_,HI.out.1 (by trivial)⟩,fun nd2 h2 h3=>?_⟩,fun h=>?_⟩,HB6.out⟩
      ·have h1:=HLs.out;have h2:=HLq.out;have h3:=HLw.out;omega
      ·rw [← HLw.out];exact HKb.out
      ·rw [HOne.out nd2 nd h2 HOf.out] at h3
       have:=HI6.out.2 h3
       simp_all
      ·cases b6 with
       | false=>rfl
       | true=>exact (h.2.2.2 nd HOf.out (HI6.out.1 rfl)).elim
   ·rw [decide_eq_false hv] at HEq
    have HV:=Lib.hid hv
    clear hv
    go_wp2_with (go_at_call 20;(with_reducible refine HEq.out.mono ?_);rintro e w2 ⟨rfl,q2,rfl⟩;have HB2:=Lib.hid (HB1.out.trans ((Bl.refl _).drewN q2)))
    go_ret
    refine ⟨false,rfl,⟨fun h=>(by cases h),fun h=>(HV.out ?_).elim⟩,HB2.out⟩
    have h1:=HX.out.trans h.2.1
    injection h1
  ·have q2:((x:Int) != 0)=true:=by rw [bne_iff_ne];omega
   go_wp2_with fail
   go_ret
   refine ⟨false,rfl,⟨fun h=>(by cases h),fun h=>absurd hx0 ?_⟩,HB1.out⟩
   have h1:=HX.out.trans h.2.1
   injection h1 with _ h2
   omega
 ·have q1:((ls:Int) != (lw:Int) + 1)=true:=by rw [bne_iff_ne];omega
  have HLq:=Lib.hid hlq
  clear hlq
  go_enter Tryz.func9,Tryz.ntmps9
  go_wp2_with fail
  go_ret
  refine ⟨false,rfl,⟨fun h=>(by cases h),fun h=>(HLq.out ?_).elim⟩,HB0.out⟩
  have h1:=h.1
  have h2:=HLs.out
  have h3:=HLw.out
  omega
end Go.Proofs.YtdfhhbncmdpoeaaGreat
