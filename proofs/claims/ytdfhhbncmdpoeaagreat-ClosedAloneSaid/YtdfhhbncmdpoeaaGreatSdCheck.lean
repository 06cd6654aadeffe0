/- sound.Check: whether a grammar is sound, and of which nonterminal it isn't. -/
import Derived.Test.YtdfhhbncmdpoeaaGreatFaultS
import Derived.Test.YtdfhhbncmdpoeaaGreatLIs
import Derived.BigQuiet
import Derived.Laws.EntriesVeiled
set_option maxRecDepth 100000
set_option maxHeartbeats 4000000
namespace Go.Proofs.YtdfhhbncmdpoeaaGreat
open Go.RowKit
theorem kind_has {g:Gr.Gm} {N gf g1 g2 g3:Nat} {w0 w:World} (hN:N≤24)
  (hf:Bk w gf 106 #[.int .i64 8,.func (.func 80) #[] #[.pointer (some ⟨g1,0,none⟩)],.int .i64 9,.func (.func 81) #[] #[.pointer (some ⟨g2,0,none⟩)],.int .i64 10,.func (.func 82) #[] #[.pointer (some ⟨g3,0,none⟩)]])
  (hv:FltVars g N g1 g2 g3 w0 w) (he:g.nons.toNat=N) {k:Nat} (hk:k < 3) :
  ∃ fx gx:Nat,(fx=80∨fx=81∨fx=82)∧w.cell? ⟨gf,k * 2,none⟩=some (.int .i64 ((8 + k:Nat):Int))∧w.cell? ⟨gf,k * 2 + 1,none⟩=some (.func (.func fx) #[] #[.pointer (some ⟨gx,0,none⟩)])∧
   ∀ w' j,Bl w w'→j < N→Calls Tryz.prog fx #[.int .i64 j,.pointer (some ⟨gx,0,none⟩)] w' fun e w''=>e=.returned (.bool (Sd.kind g k j))∧Bl w' w'':=by
 obtain ⟨⟨A1,c1,b1,r1⟩,⟨A2,c2,b2,r2⟩,⟨z,b3,hz⟩,b⟩:=hv
 match k,hk with
 | 0,_=>exact ⟨_,g1,.inl rfl,hf.cell 0,hf.cell 1,fun w' j hb hj=>by
   have h:=dead_any _ A1 N c1 g1 j w' (b1.bl hb) (rd_on r1 hb) (Rk.ranks_length true g.prods N) hj
   unfold Sd.kind Sd.deadB
   rw [if_pos rfl,he]
   exact h⟩
 | 1,_=>exact ⟨_,g2,.inr (.inl rfl),hf.cell 2,hf.cell 3,fun w' j hb hj=>by
   have h:=sdalone_any _ A2 N c2 g2 j w' (b2.bl hb) (rd_on r2 hb) (Rc.reach_length g.prods) hj
   unfold Sd.kind Sd.aloneB
   rw [if_neg (by decide),if_pos rfl,he]
   exact h⟩
 | 2,_=>exact ⟨_,g3,.inr (.inr rfl),hf.cell 4,hf.cell 5,fun w' j hb hj=>by
   have h:=left_any g N z g3 j w' (b3.bl hb) hz hj hN
   unfold Sd.kind
   rw [if_neg (by decide),if_neg (by decide)]
   exact h⟩
theorem check_law:SoundC:=by
 intro t n s A len c ps w B hlen hmax hr hB
 have HL:=Lib.hid hlen;clear hlen
 have HP:Hid (∀ w',Bl w w'→Prs w' w'.heap.size A ps):=fun _ hb=>(hr.prs.bl hB hb).more (Nat.le_trans hB hb.size)
 clear hr hB
 have HB0:Hid (Bl w (w.alloc (.cells #[.int .i64 t,.int .i64 n,.int .i64 s,.slice A len c] 24))):=(Bl.refl w).alloc _
 have HK0:=Lib.hid (Bk.new w 24 #[.int .i64 t,.int .i64 n,.int .i64 s,.slice A len c])
 go_enter Tryz.func27,Tryz.ntmps27
 go_wp2_with fail
 refine (right_any t n s A len c ps _ _ HL.out hmax (HP.out _ HB0.out) (Nat.le_refl _)).mono ?_
 rintro e w1 ⟨rfl,hb1⟩
 have HB1:=Lib.hid (HB0.out.trans hb1)
 have HK1:=Lib.hid (HK0.out.bl hb1)
 clear hb1 HB0 HK0
 cases hok:okB ⟨t,n,s,ps⟩ with
 | false=>
  have HE:=Lib.hid (chkOf_no hok)
  go_wp2_with fail
  go_ret2
  exact ⟨by rw [HE.out];rfl,HB1.out⟩
 | true=>
 obtain ⟨n1,n2,n3⟩:=ok_nons hok
 obtain ⟨N,rfl⟩:∃ N:Nat,n=(N:Int):=⟨n.toNat,by omega⟩
 have HE:=Lib.hid (chkOf_ok hok)
 have HOK:=Lib.hid hok
 clear hok
 have k0:w1.cell? ⟨w.heap.size,0,none⟩=some (.int .i64 t):=HK1.out.cell 0
 have k1:w1.cell? ⟨w.heap.size,1,none⟩=some (.int .i64 (N:Int)):=HK1.out.cell 1
 have k2:w1.cell? ⟨w.heap.size,2,none⟩=some (.int .i64 s):=HK1.out.cell 2
 have k3:w1.cell? ⟨w.heap.size,3,none⟩=some (.slice A len c):=HK1.out.cell 3
 go_wp2_with fail
 refine (faults_any t s A len c N ps _ _ HL.out (HP.out _ HB1.out) (Nat.le_refl _) HOK.out).mono ?_
 rintro e w2 ⟨gf,g1,g2,g3,rfl,hf,hv⟩
 have HB2:=Lib.hid (HB1.out.trans hv.b)
 have HK2:=Lib.hid (HK1.out.bl hv.b)
 have HF2:=Lib.hid hf
 have HV2:=Lib.hid hv
 clear hf hv k0 k1 k2 k3 HB1 HK1
 go_wp2_with fail
 go_loopw [13] (fun i wr=>∃ k:Nat,k≤3∧i=.int .i64 k∧Hid (Sd.NoneTo ⟨t,(N:Int),s,ps⟩ k)∧Hid (Bl w2 wr)) (fun i _=>3 - (intOf i).toNat)
 case atStart=>exact ⟨0,Nat.zero_le _,rfl,Sd.NoneTo.zero _,Bl.refl _⟩
 case round=>
  obtain ⟨k,hk,rfl,HT,HBr⟩:=hrel
  rename World=>wo
  by_cases hlt:k < 3
  ·obtain ⟨fx,gx,hfx,c0,c1,hc⟩:=kind_has (N:=N) (by omega) (HF2.out.bl HBr.out) (HV2.out.bl HBr.out) rfl hlt
   have HC:=Lib.hid hc
   have HFx:=Lib.hid hfx
   have HKr:=Lib.hid (HK2.out.bl HBr.out)
   have flt:gf < wo.heap.size:=(HF2.out.bl HBr.out).lt
   have k1:(wo.alloc (.cells #[.int .i64 ((8 + k:Nat):Int),.func (.func fx) #[] #[.pointer (some ⟨gx,0,none⟩)]] 106)).cell? ⟨w.heap.size,1,none⟩=some (.int .i64 (N:Int)):=(HKr.out.alloc _).cell 1
   have hk0:(0:Int)≤(k:Int):=by omega
   have hk3:(k:Int) < 3:=by omega
   have HBa:Hid (Bl wo (wo.alloc (.cells #[.int .i64 ((8 + k:Nat):Int),.func (.func fx) #[] #[.pointer (some ⟨gx,0,none⟩)]] 106))):=(Bl.refl wo).alloc _
   have HSa:=Lib.hid (Bk.new wo 106 #[.int .i64 ((8 + k:Nat):Int),.func (.func fx) #[] #[.pointer (some ⟨gx,0,none⟩)]])
   have HFd:Hid (∀ j,j < N→Sd.kind ⟨t,(N:Int),s,ps⟩ k j=true→(∀ q,q < j→Sd.kind ⟨t,(N:Int),s,ps⟩ k q=false)→Sd.faultOf ⟨t,(N:Int),s,ps⟩=(j,8 + k)):=fun j hj h1 h2=>Sd.fault_kind hlt HT.out hj h1 h2
   have HNx:Hid ((∀ q,q < N→Sd.kind ⟨t,(N:Int),s,ps⟩ k q=false)→Sd.NoneTo ⟨t,(N:Int),s,ps⟩ (k + 1)):=fun h=>HT.out.succ h
   clear hc hfx
   generalize hek:((8 + k:Nat):Int)=ek at *
   have HEk:=Lib.hid hek
   clear hek
   go_wp2_with fail
   go_loopw [19] (fun i wi=>∃ j:Nat,j≤N∧i=.int .i64 j∧Hid (∀ q,q < j→Sd.kind ⟨t,(N:Int),s,ps⟩ k q=false)∧Hid (Bl (wo.alloc (.cells #[.int .i64 ek,.func (.func fx) #[] #[.pointer (some ⟨gx,0,none⟩)]] 106)) wi)) (fun i _=>N - (intOf i).toNat)
   case atStart=>exact ⟨0,Nat.zero_le _,rfl,fun q hq=>absurd hq (by omega),Bl.refl _⟩
   case round=>
    obtain ⟨j,hj,rfl,HTj,HBi⟩:=hrel
    have HBw:=Lib.hid (HBa.out.trans HBi.out)
    by_cases hltj:j < N
    ·have HCj:=Lib.hid (HC.out _ j HBw.out hltj)
     have HSi:=Lib.hid (HSa.out.bl HBi.out)
     have s0:wr.cell? ⟨wo.heap.size,0,none⟩=some (.int .i64 ek):=HSi.out.cell 0
     have s1:wr.cell? ⟨wo.heap.size,1,none⟩=some (.func (.func fx) #[] #[.pointer (some ⟨gx,0,none⟩)]):=HSi.out.cell 1
     have slt:=HSi.out.lt
     clear c0 c1 k1
     rcases HFx.out with rfl | rfl | rfl
     all_goals
      go_wp2_with fail
      refine HCj.out.mono ?_
      rintro e v1 ⟨rfl,hb1⟩
      have HBj:=Lib.hid (HBi.out.trans hb1)
      have HSj:=Lib.hid (HSi.out.bl hb1)
      clear hb1 s0 s1 slt
      have s0:v1.cell? ⟨wo.heap.size,0,none⟩=some (.int .i64 ek):=HSj.out.cell 0
      have slt:=HSj.out.lt
      cases hkd:Sd.kind ⟨t,(N:Int),s,ps⟩ k j with
      | true=>
       have HX:=Lib.hid (HFd.out j hltj hkd HTj.out)
       clear hkd
       go_wp2_with fail
       go_quiet (fail)
       go_wp2_with fail
       go_ret2
       exact ⟨by rw [HE.out,HX.out,← HEk.out];rfl,(HB2.out.trans ((HBr.out.trans HBa.out).trans HBj.out)).drewN _⟩
      | false=>
       have HX:=Lib.hid (Sd.below_snoc HTj.out hkd)
       clear hkd
       go_wp2_with fail
       go_roundw
       case rel=>exact ⟨j + 1,by omega,by go_num,HX.out,HBj.out⟩
       case measure=>simp [intOf];omega
    ·have hje:j=N:=by omega
     subst hje
     have HX:=Lib.hid (HNx.out HTj.out)
     go_wp2_with fail
     go_roundw
     case rel=>exact ⟨k + 1,by omega,by go_num,HX.out,HBr.out.trans HBw.out⟩
     case measure=>simp [intOf];omega
  ·have hke:k=3:=by omega
   subst hke
   have HX:=Lib.hid (Sd.fault_no HT.out)
   go_wp2_with fail
   go_ret2
   exact ⟨by rw [HE.out,HX.out];rfl,HB2.out.trans HBr.out⟩
end Go.Proofs.YtdfhhbncmdpoeaaGreat
