/- kept.elsewhere: may a symbol of a node begin at another place, and end where it does? -/
import Derived.Test.YtdfhhbncmdpoeaaGreatClAno
import Derived.Deep.RegionWith
set_option maxRecDepth 100000
set_option maxHeartbeats 4000000
namespace Go.Proofs.YtdfhhbncmdpoeaaGreat
open Go.RowKit
def ElsewP (g:Gr.Gm) (P:List St4) (i dot:Nat) (non:Int) (f0 fd fe:Nat):Prop:=∃ m,f0≤m∧m≤fe∧m≠fd∧(m,(⟨i,dot,f0⟩:Ch.Im)) ∈ P∧(non,m,fe) ∈ Ch.endL g P
theorem elsewhere_any (G:Kg) (ps:List Gr.Pr) (base:Nat) (K:Kw) (V:Int × Nat→Value) (P:List St4) (B:Nat) (xs:List Int) (i dot:Nat) (non:Int) (row:List Nat) (f0 fd fe:Nat) (Ar:Option Addr) (nr cr B2:Nat) (w:World) (h:ClE G ps base K V P B xs w)
  (hi:i < 1000) (hdo:dot < 1000) (hnon:0≤non∧non < 1000) (hnr:nr=row.length) (hrd:Rd w B2 Ar (ins (ns row))) (hB2:B2≤w.heap.size) (h0:row[0]?=some f0) (hd:row[dot]?=some fd) (he:row[dot + 1]?=some fe) (hs0:f0≤1000) (hse:fe≤1000) (hnl:nr≤1000) :
  Calls Tryz.prog 51 #[.pointer (some ⟨K.p,0,none⟩),.agg #[.int .i64 (i:Int),.slice Ar nr cr],.int .i64 (dot:Int),.int .i64 non] w fun e w'=>∃ b:Bool,e=.returned (.bool b)∧(b=true↔ElsewP ⟨G.t,G.n,G.s,ps⟩ P i dot non f0 fd fe)∧Bl w w':=by
 have HB1:Hid (Bl w (w.alloc (.cells #[.int .i64 (i:Int),.slice Ar nr cr] 61))):=(Bl.refl w).alloc _
 have HX1:=Lib.hid (Bk.new w 61 #[.int .i64 (i:Int),.slice Ar nr cr])
 have HE1:=Lib.hid (h.bl HB1.out)
 have hcell:∀ (j x:Nat),row[j]?=some x→∃ b off,Ar=some ⟨b,off,none⟩∧b < B2∧∀ wx,Bl w wx→wx.cell? ⟨b,off + j,none⟩=some (.int .i64 (x:Int)):=fun j x hj=>by
  have hjl:=Ch.lt_of_get hj
  obtain ⟨b,off,e,hb,hc⟩:=hrd.int (j:=j) (by rw [ns_len];exact hjl)
  have e2:(ns row)[j]'(by rw [ns_len];exact hjl)=(x:Int):=by
   unfold ns
   rw [List.getElem_map]
   rw [List.getElem?_eq_getElem hjl] at hj
   injection hj with hj
   rw [hj]
  rw [e2] at hc
  exact ⟨b,off,e,hb,fun wx hbx=>(World.cell?_of_block (hbx.block b (Nat.lt_of_lt_of_le hb hB2))).trans hc⟩
 obtain ⟨br,orr,eA,hbr,c0⟩:=hcell 0 f0 h0
 obtain ⟨b2,o2,e2,_,cd⟩:=hcell dot fd hd
 obtain ⟨b3,o3,e3,_,ce⟩:=hcell (dot + 1) fe he
 rw [eA] at e2 e3
 injection e2 with e2
 injection e2 with q1 q2 _
 injection e3 with e3
 injection e3 with q3 q4 _
 subst q1 q2 q3 q4 eA
 have hn2:dot + 1 < nr:=by rw [hnr];exact Ch.lt_of_get he
 have C0:=Lib.hid c0
 have CD:=Lib.hid cd
 have CE:=Lib.hid ce
 clear hrd h hcell c0 cd ce h0 hd he hnr
 go_enter Tryz.func51,Tryz.ntmps51
 go_upto_region 1 with fail
 have hz:Bl w (w.alloc (.cells #[.int .i64 (i:Int),.slice (some ⟨br,orr,none⟩) nr cr] 61)):=HB1.out
 generalize w.alloc (.cells #[.int .i64 (i:Int),.slice (some ⟨br,orr,none⟩) nr cr] 61)=w1 at *
 have x0:w1.cell? ⟨w.heap.size,0,none⟩=some (.int .i64 (i:Int)):=HX1.out.cell 0
 have x1:w1.cell? ⟨w.heap.size,1,none⟩=some (.slice (some ⟨br,orr,none⟩) nr cr):=HX1.out.cell 1
 have xl:=HX1.out.lt
 have c0:w1.cell? ⟨br,orr,none⟩=some (.int .i64 (f0:Int)):=C0.out w1 HB1.out
 have ce:w1.cell? ⟨br,orr + (dot + 1),none⟩=some (.int .i64 (fe:Int)):=CE.out w1 HB1.out
 have hbl:br < w1.heap.size:=Nat.lt_of_lt_of_le hbr (Nat.le_trans hB2 HB1.out.size)
 have i0:(0:Int) < (nr:Int):=by omega
 have i1:(0:Int)≤(dot:Int) + 1:=by omega
 have i2:(dot:Int) + 1 < (nr:Int):=by omega
 have hwr:IntKind.i64.wrap ((dot:Int) + 1)=(dot:Int) + 1:=by rw [IntKind.wrap_i64];omega
 go_region
 clear hz
 have HX1d:=Lib.hid (HX1.out.drew)
 have HAh:Hid (Bk (w1.alloc (.cells #[.int .i64 (i:Int),.int .i64 (dot:Int),.int .i64 (f0:Int)] 44)).drew w1.heap.size 44 #[.int .i64 (i:Int),.int .i64 (dot:Int),.int .i64 (f0:Int)]):=(Bk.new w1 _ _).drew
 have HBa:Hid (Bl w (w1.alloc (.cells #[.int .i64 (i:Int),.int .i64 (dot:Int),.int .i64 (f0:Int)] 44)).drew):=(HB1.out.alloc _).drew
 have HBx:Hid (Bl w1 (w1.alloc (.cells #[.int .i64 (i:Int),.int .i64 (dot:Int),.int .i64 (f0:Int)] 44)).drew):=((Bl.refl w1).alloc _).drew
 go_wp2_with fail
 generalize (w1.alloc (.cells #[.int .i64 (i:Int),.int .i64 (dot:Int),.int .i64 (f0:Int)] 44)).drew=w2 at *
 have HX2:=Lib.hid (HX1.out.bl HBx.out)
 have HE2:=Lib.hid (HE1.out.bl HBx.out)
 clear x0 x1 xl c0 ce hbl HX1 HX1d HE1 HBx
 go_loopw [12] (fun iv wr=>∃ m:Nat,f0≤m∧m≤1001∧iv=.int .i64 m∧Hid (Bl w2 wr)∧∀ m',f0≤m'→m' < m→m'≤fe→m'≠fd→(m',(⟨i,dot,f0⟩:Ch.Im)) ∈ P→(non,m',fe) ∉ Ch.endL ⟨G.t,G.n,G.s,ps⟩ P) (fun iv _=>fe + 1 - (intOf iv).toNat)
 case atStart=>exact ⟨f0,Nat.le_refl _,by omega,rfl,Bl.refl _,fun m' h1 h2=>by omega⟩
 case round=>
  obtain ⟨m,hm0,hm1,rfl,HBr,hno⟩:=hrel
  have HNo:=Lib.hid hno
  clear hno
  by_cases hle:m≤fe
  ·have hle2:(m:Int)≤(fe:Int):=by omega
   have HX3:=Lib.hid (HX2.out.bl HBr.out)
   have HE3:=Lib.hid (HE2.out.bl HBr.out)
   have HA3:=Lib.hid (HAh.out.bl HBr.out)
   have HB3:Hid (Bl w wr):=HBa.out.trans HBr.out
   have x0:wr.cell? ⟨w.heap.size,0,none⟩=some (.int .i64 (i:Int)):=HX3.out.cell 0
   have x1:wr.cell? ⟨w.heap.size,1,none⟩=some (.slice (some ⟨br,orr,none⟩) nr cr):=HX3.out.cell 1
   have xl:=HX3.out.lt
   have cd:wr.cell? ⟨br,orr + dot,none⟩=some (.int .i64 (fd:Int)):=CD.out wr HB3.out
   have hbl:br < wr.heap.size:=Nat.lt_of_lt_of_le hbr (Nat.le_trans hB2 HB3.out.size)
   have a0:wr.cell? ⟨w1.heap.size,0,none⟩=some (.int .i64 (i:Int)):=HA3.out.cell 0
   have a1:wr.cell? ⟨w1.heap.size,1,none⟩=some (.int .i64 (dot:Int)):=HA3.out.cell 1
   have a2:wr.cell? ⟨w1.heap.size,2,none⟩=some (.int .i64 (f0:Int)):=HA3.out.cell 2
   have al:=HA3.out.lt
   have k5:wr.cell? ⟨K.p,5,none⟩=some (.map (some K.h)):=HE3.out.k.kb.cell 5
   have k7:wr.cell? ⟨K.p,7,none⟩=some (.map (some K.e)):=HE3.out.k.kb.cell 7
   have kl:=HE3.out.k.kb.lt
   have j0:(0:Int)≤(dot:Int):=by omega
   have j1:(dot:Int) < (nr:Int):=by omega
   have HStk:Hid (stOk (m,(⟨i,dot,f0⟩:Ch.Im))):=⟨by show m < 1000000;omega,by show i < 1000000;omega,by show dot < 1000000;omega,by show f0 < 1000000;omega⟩
   have HNd:Hid (ndOk (non,m,fe)):=⟨hnon.1,by show non < 1000000;omega,by show m < 1000000;omega,by show fe < 1000000;omega⟩
   have HGo:Hid (¬ (m≠fd∧(m,(⟨i,dot,f0⟩:Ch.Im)) ∈ P∧(non,m,fe) ∈ Ch.endL ⟨G.t,G.n,G.s,ps⟩ P)→∀ m',f0≤m'→m' < m + 1→m'≤fe→m'≠fd→(m',(⟨i,dot,f0⟩:Ch.Im)) ∈ P→(non,m',fe) ∉ Ch.endL ⟨G.t,G.n,G.s,ps⟩ P):=fun h m' h1 h2 h3 h4 h5 h6=>by
    rcases Nat.lt_or_ge m' m with h7 | h7
    ·exact HNo.out m' h1 h7 h3 h4 h5 h6
    ·have e:m'=m:=by omega
     subst e
     exact h ⟨h4,h5,h6⟩
   by_cases hmd:m=fd
   ·have d1:((m:Int) == (fd:Int))=true:=by rw [hmd];simp
    have d2:((m:Int) != (fd:Int))=false:=by rw [hmd];simp
    have d4:(m == fd)=true:=by rw [hmd];simp
    have d5:(m != fd)=false:=by rw [hmd];simp
    have d6:decide (m=fd)=true:=decide_eq_true hmd
    go_upto_region 6 with fail
    go_quiet (fail)
    go_wp2_with fail
    go_roundw
    case rel=>exact ⟨m + 1,by omega,by omega,by go_num,HBr.out.drewN _,HGo.out fun h=>h.1 hmd⟩
    case measure=>simp [intOf];omega
   ·have d1:((m:Int) == (fd:Int))=false:=by rw [beq_eq_false_iff_ne];omega
    have d2:((m:Int) != (fd:Int))=true:=by rw [bne_iff_ne];omega
    have d3:decide ((m:Int)=(fd:Int))=false:=decide_eq_false (by omega)
    have d4:(m == fd)=false:=by rw [beq_eq_false_iff_ne];exact hmd
    have d5:(m != fd)=true:=by rw [bne_iff_ne];exact hmd
    have d6:decide (m=fd)=false:=decide_eq_false hmd
    by_cases hm9:(m,(⟨i,dot,f0⟩:Ch.Im)) ∈ P
    ·have hlk:∀ nq,(Instr.lookup 88 (.map (some K.h)) (.agg #[.int .i64 (m:Int),.int .i64 (i:Int),.int .i64 (dot:Int),.int .i64 (f0:Int)]) false).run Tryz.prog (wr.drewN nq)=.ok (.bool true) (wr.drewN nq):=fun nq=>(HE3.out.k.has.of_block (w':=wr.drewN nq) rfl).look_yes st_law Tryz.underlying88 HStk.out hm9 (key_st HStk.out)
     by_cases hme:(non,m,fe) ∈ Ch.endL ⟨G.t,G.n,G.s,ps⟩ P
     ·have hle9:∀ nq,(Instr.lookup 90 (.map (some K.e)) (.agg #[.int .i64 non,.int .i64 (m:Int),.int .i64 (fe:Int)]) false).run Tryz.prog (wr.drewN nq)=.ok (.bool true) (wr.drewN nq):=fun nq=>(HE3.out.k.ends.of_block (w':=wr.drewN nq) rfl).look_yes nd_law Tryz.underlying90 HNd.out hme (key_nd HNd.out)
      go_upto_region 6 with fail
      go_quiet (fail)
      go_wp2_with fail
      go_ret
      exact ⟨true,rfl,⟨fun _=>⟨m,hm0,hle,hmd,hm9,hme⟩,fun _=>rfl⟩,HB3.out.drewN _⟩
     ·have hle9:∀ nq,(Instr.lookup 90 (.map (some K.e)) (.agg #[.int .i64 non,.int .i64 (m:Int),.int .i64 (fe:Int)]) false).run Tryz.prog (wr.drewN nq)=.ok (.bool false) (wr.drewN nq):=fun nq=>(HE3.out.k.ends.of_block (w':=wr.drewN nq) rfl).look_no nd_law Tryz.underlying90 HNd.out hme (key_nd HNd.out)
      go_upto_region 6 with fail
      go_quiet (fail)
      go_wp2_with fail
      go_roundw
      case rel=>exact ⟨m + 1,by omega,by omega,by go_num,HBr.out.drewN _,HGo.out fun h=>hme h.2.2⟩
      case measure=>simp [intOf];omega
    ·have hlk:∀ nq,(Instr.lookup 88 (.map (some K.h)) (.agg #[.int .i64 (m:Int),.int .i64 (i:Int),.int .i64 (dot:Int),.int .i64 (f0:Int)]) false).run Tryz.prog (wr.drewN nq)=.ok (.bool false) (wr.drewN nq):=fun nq=>(HE3.out.k.has.of_block (w':=wr.drewN nq) rfl).look_no st_law Tryz.underlying88 HStk.out hm9 (key_st HStk.out)
     go_upto_region 6 with fail
     go_quiet (fail)
     go_wp2_with fail
     go_roundw
     case rel=>exact ⟨m + 1,by omega,by omega,by go_num,HBr.out.drewN _,HGo.out fun h=>hm9 h.2.1⟩
     case measure=>simp [intOf];omega
  ·have hle2:¬ (m:Int)≤(fe:Int):=by omega
   go_wp2_with fail
   go_ret
   refine .inl ⟨rfl,?_,HBa.out.trans HBr.out⟩
   rintro ⟨m',h1,h2,h3,h4,h5⟩
   exact HNo.out m' h1 (by omega) h2 h3 h4 h5
end Go.Proofs.YtdfhhbncmdpoeaaGreat
namespace Go.Proofs.YtdfhhbncmdpoeaaGreat
open Go.RowKit
structure NodeOk (ps:List Gr.Pr) (i:Nat) (row:List Nat):Prop where
 prod:i < ps.length
 len:row.length=(ps[i]'prod).right.length + 1
 small:∀ x ∈ row,x≤1000
def OtherP (g:Gr.Gm) (P:List St4) (i:Nat) (row:List Nat):Prop:=AnotherP g P i (row.getD 0 0) (row.getD (row.length - 1) 0)∨
 ∃ p dot s fd fe,g.prods[i]?=some p∧p.right[dot]?=some s∧s.non=true∧row[dot]?=some fd∧row[dot + 1]?=some fe∧ElsewP g P i dot s.n (row.getD 0 0) fd fe
theorem otherwise_any (G:Kg) (ps:List Gr.Pr) (base:Nat) (K:Kw) (V:Int × Nat→Value) (P:List St4) (B:Nat) (xs:List Int) (i:Nat) (row:List Nat) (Ar:Option Addr) (nr cr B2:Nat) (w:World) (h:ClE G ps base K V P B xs w)
  (hn:NodeOk ps i row) (hnr:nr=row.length) (hrd:Rd w B2 Ar (ins (ns row))) (hB2:B2≤w.heap.size) :
  Calls Tryz.prog 25 #[.pointer (some ⟨K.p,0,none⟩),.agg #[.int .i64 (i:Int),.slice Ar nr cr]] w fun e w'=>∃ b:Bool,e=.returned (.bool b)∧(b=true↔OtherP ⟨G.t,G.n,G.s,ps⟩ P i row)∧Bl w w':=by
 have hi:=hn.prod
 have HB1:Hid (Bl w (w.alloc (.cells #[.int .i64 (i:Int),.slice Ar nr cr] 61))):=(Bl.refl w).alloc _
 have HX1:=Lib.hid (Bk.new w 61 #[.int .i64 (i:Int),.slice Ar nr cr])
 have HE1:=Lib.hid (h.bl HB1.out)
 have hpo:=h.ok.2.2.2.2.2.2.2 (ps[i]'hi) (List.getElem_mem hi)
 have hr8:(ps[i]'hi).right.length≤8:=hpo.2.2.1
 have h60:=h.h60
 have h24:G.n≤24:=h.ok.2.2.2.1
 have HRd:=Lib.hid (fun (wx:World) (hb:Bl w wx)=>hrd.bl hB2 hb)
 obtain ⟨r0,rs,hrow⟩:∃ r0 rs,row=r0 :: rs:=by
  cases row with
  | nil=>exact absurd hn.len (by simp)
  | cons a b=>exact ⟨a,b,rfl⟩
 have hl1:row.length=(ps[i]'hi).right.length + 1:=hn.len
 have hlr:rs.length=(ps[i]'hi).right.length:=by
  have h2:row.length=rs.length + 1:=by rw [hrow];rfl
  omega
 have HNo:=Lib.hid hn
 have HAn:Hid (∀ wx,Bl w wx→Calls Tryz.prog 50 #[.pointer (some ⟨K.p,0,none⟩),.agg #[.int .i64 (i:Int),.slice Ar nr cr]] wx fun e w'=>∃ b:Bool,e=.returned (.bool b)∧(b=true↔AnotherP ⟨G.t,G.n,G.s,ps⟩ P i (row.getD 0 0) (row.getD (row.length - 1) 0))∧Bl wx w'):=fun wx hb=>by
  have hc:=another_any G ps base K V P B xs i r0 rs Ar nr cr B2 wx (h.bl hb) hi (by rw [hnr,hrow];simp) (by rw [← hrow];exact hrd.bl hB2 hb) (Nat.le_trans hB2 hb.size) (by rw [← hrow];exact hn.small) (by omega)
  subst hrow
  exact hc
 have HEl:Hid (∀ wx,Bl w wx→∀ (dot:Nat) (s:Gr.Sy),(ps[i]'hi).right[dot]?=some s→s.non=true→∃ fd fe,row[dot]?=some fd∧row[dot + 1]?=some fe∧Calls Tryz.prog 51 #[.pointer (some ⟨K.p,0,none⟩),.agg #[.int .i64 (i:Int),.slice Ar nr cr],.int .i64 (dot:Int),.int .i64 s.n] wx fun e w'=>∃ b:Bool,e=.returned (.bool b)∧(b=true↔ElsewP ⟨G.t,G.n,G.s,ps⟩ P i dot s.n (row.getD 0 0) fd fe)∧Bl wx w'):=fun wx hb (dot:Nat) (s:Gr.Sy) hs hsn=>by
  have hdl:=Ch.lt_of_get hs
  have hl:=hn.len
  have h1:row[dot]?=some (row[dot]'(by omega)):=List.getElem?_eq_getElem _
  have h2:row[dot + 1]?=some (row[dot + 1]'(by omega)):=List.getElem?_eq_getElem _
  have h3:row[0]?=some (row.getD 0 0):=by rw [List.getD_eq_getElem?_getD,List.getElem?_eq_getElem (by omega)];rfl
  have hsy:=hpo.2.2.2 s (List.mem_of_getElem? hs)
  have h5:s.n < G.n:=hsy.2.1 hsn
  exact ⟨_,_,h1,h2,elsewhere_any G ps base K V P B xs i dot s.n row (row.getD 0 0) _ _ Ar nr cr B2 wx (h.bl hb) (by omega) (by omega) ⟨hsy.1,by omega⟩ hnr (hrd.bl hB2 hb) (Nat.le_trans hB2 hb.size) h3 h1 h2 (hn.small _ (List.mem_of_getElem? h3)) (hn.small _ (List.getElem_mem _)) (by rw [hnr];omega)⟩
 clear h hrd hn hpo hnr hrow hlr hl1
 go_enter Tryz.func25,Tryz.ntmps25
 have x0:=HX1.out.cell 0
 have x1:=HX1.out.cell 1
 go_upto_region 3 with (go_at_call 50;(with_reducible refine (HAn.out _ HB1.out).mono ?_);rintro e w2 ⟨b,rfl,hiff,hb2⟩;have HI:=Lib.hid hiff;have HB2:=Lib.hid (HB1.out.trans hb2);have HX2:=Lib.hid (HX1.out.bl hb2);have HE2:=Lib.hid (HE1.out.bl hb2);clear hiff hb2)
 ·go_ret
  exact ⟨true,rfl,⟨fun _=>.inl (HI.out.1 (by assumption)),fun _=>rfl⟩,HB2.out⟩
 clear x0 x1
 have x0:w2.cell? ⟨w.heap.size,0,none⟩=some (.int .i64 (i:Int)):=HX2.out.cell 0
 have xl:=HX2.out.lt
 obtain ⟨bp,op,Ax,cx,eA,hbp,hrs,_,hr1⟩:=HE2.out.prs.at_ hi
 have HRs:=Lib.hid hrs
 have HNA:Hid (¬ AnotherP ⟨G.t,G.n,G.s,ps⟩ P i (row.getD 0 0) (row.getD (row.length - 1) 0)):=fun h9=>by have:=HI.out.2 h9;simp_all
 clear hrs HI
 have HRl:Hid (∀ (dot:Nat) (s:Gr.Sy),(ps[i]'hi).right[dot]?=some s→s ∈ (ps[i]'hi).right∧dot < (ps[i]'hi).right.length):=fun dot s h9=>⟨List.mem_of_getElem? h9,Ch.lt_of_get h9⟩
 have HPi:Hid ((⟨G.t,G.n,G.s,ps⟩:Gr.Gm).prods[i]?=some (ps[i]'hi)):=List.getElem?_eq_getElem hi
 generalize hq:(ps[i]'hi)=q at *
 generalize hrl:q.right.length=rl at *
 have HLr:=Lib.hid hrl
 clear hq hrl
 have k3:w2.cell? ⟨K.p,3,none⟩=some (.slice (some ⟨bp,op,none⟩) G.len G.c):=by rw [← eA];exact HE2.out.k.kb.cell 3
 have kl:=HE2.out.k.kb.lt
 have hpl:bp < w2.heap.size:=Nat.lt_of_lt_of_le hbp HE2.out.hB
 have j0:(0:Int)≤(i:Int):=by omega
 have j1:(i:Int) < (G.len:Int):=by have:=HE2.out.len;omega
 go_region
 clear x0 xl hr1 k3 kl
 go_wp2_with fail
 go_loopw [21] (fun iv wr=>∃ k:Nat,k≤rl∧iv=.int .i64 k∧Hid (Bl w2 wr)∧∀ (dot:Nat) (s:Gr.Sy),dot < k→q.right[dot]?=some s→s.non=true→∀ fd fe,row[dot]?=some fd→row[dot + 1]?=some fe→¬ ElsewP ⟨G.t,G.n,G.s,ps⟩ P i dot s.n (row.getD 0 0) fd fe) (fun iv _=>rl - (intOf iv).toNat)
 case atStart=>exact ⟨0,Nat.zero_le _,rfl,(Bl.refl _).drew,fun dot s hd=>absurd hd (Nat.not_lt_zero _)⟩
 case round=>
  obtain ⟨k,hk,rfl,HBr,hno⟩:=hrel
  have HNo2:=Lib.hid hno
  clear hno
  by_cases hlt:k < rl
  ·have hkl:k < q.right.length:=by have:=HLr.out;omega
   obtain ⟨bo,oo,eA2,hbo,c0,c1⟩:=(HRs.out.bl HE2.out.hB HBr.out).sym hkl
   have HGk:Hid (q.right[k]?=some q.right[k]):=List.getElem?_eq_getElem hkl
   generalize q.right[k]=s at *
   clear hkl
   have HB3:Hid (Bl w wr):=HB2.out.trans HBr.out
   have HX3:=Lib.hid (HX2.out.bl HBr.out)
   have HS:Hid (∀ wx,Bl wr wx→(∀ dot s2,q.right[dot]?=some s2→(s2.non=true→∀ fd fe,row[dot]?=some fd→row[dot + 1]?=some fe→¬ ElsewP ⟨G.t,G.n,G.s,ps⟩ P i dot s2.n (row.getD 0 0) fd fe)∨dot≠k)→∀ (dot:Nat) (s2:Gr.Sy),dot < k + 1→q.right[dot]?=some s2→s2.non=true→∀ fd fe,row[dot]?=some fd→row[dot + 1]?=some fe→¬ ElsewP ⟨G.t,G.n,G.s,ps⟩ P i dot s2.n (row.getD 0 0) fd fe):=fun wx hb h9 dot s2 hd h1 h2 fd fe h3 h4=>by
    rcases h9 dot s2 h1 with h5 | h5
    ·exact h5 h2 fd fe h3 h4
    ·exact HNo2.out dot s2 (by omega) h1 h2 fd fe h3 h4
   have x0:wr.cell? ⟨w.heap.size,0,none⟩=some (.int .i64 (i:Int)):=HX3.out.cell 0
   have x1:wr.cell? ⟨w.heap.size,1,none⟩=some (.slice Ar nr cr):=HX3.out.cell 1
   have xl:=HX3.out.lt
   have hbl:bo < wr.heap.size:=Nat.lt_of_lt_of_le hbo (Nat.le_trans HE2.out.hB HBr.out.size)
   have q0:(0:Int)≤(k:Int):=by omega
   have q1:(k:Int) < (rl:Int):=by omega
   subst eA2
   go_upto_region 6 with fail
   have HXs:Hid (Bk (wr.alloc (.cells #[.bool s.non,.int .i64 s.n] 39)) wr.heap.size 39 #[.bool s.non,.int .i64 s.n]):=Bk.new wr _ _
   have HBs:Hid (Bl wr (wr.alloc (.cells #[.bool s.non,.int .i64 s.n] 39))):=(Bl.refl wr).alloc _
   have HB4:Hid (Bl w (wr.alloc (.cells #[.bool s.non,.int .i64 s.n] 39))):=HB3.out.trans HBs.out
   have HBr4:Hid (Bl w2 (wr.alloc (.cells #[.bool s.non,.int .i64 s.n] 39))):=HBr.out.trans HBs.out
   generalize wr.alloc (.cells #[.bool s.non,.int .i64 s.n] 39)=w4 at *
   clear x0 x1 c0 c1 hbl q0 q1
   have x0:w4.cell? ⟨w.heap.size,0,none⟩=some (.int .i64 (i:Int)):=(HX3.out.bl HBs.out).cell 0
   have x1:w4.cell? ⟨w.heap.size,1,none⟩=some (.slice Ar nr cr):=(HX3.out.bl HBs.out).cell 1
   have y0:w4.cell? ⟨wr.heap.size,0,none⟩=some (.bool s.non):=HXs.out.cell 0
   have y1:w4.cell? ⟨wr.heap.size,1,none⟩=some (.int .i64 s.n):=HXs.out.cell 1
   have yl:=HXs.out.lt
   have xl:=(HX3.out.bl HBs.out).lt
   rcases hsn:s.non with _ | _
   ·rw [hsn] at y0
    have HSn:=Lib.hid hsn
    clear hsn
    go_wp2_with fail
    go_roundw
    case rel=>exact ⟨k + 1,by omega,by go_num,HBr4.out,HS.out wr (Bl.refl _) fun dot s2 h1=>by
     by_cases h2:dot=k
     ·subst h2
      have h3:=Option.some.inj (HGk.out.symm.trans h1)
      subst h3
      exact .inl fun h4=>by rw [HSn.out] at h4;cases h4
     ·exact .inr h2⟩
    case measure=>simp [intOf];omega
   ·rw [hsn] at y0
    obtain ⟨fd,fe,h1,h2,hc⟩:=HEl.out w4 HB4.out k s HGk.out hsn
    have HC:=Lib.hid hc
    have HF:=Lib.hid (And.intro h1 h2)
    have HSn:=Lib.hid hsn
    clear hsn h1 h2 hc
    go_wp2_with (go_at_call 51;(with_reducible refine HC.out.mono ?_);rintro e w5 ⟨b5,rfl,hiff,hb5⟩;have HI5:=Lib.hid hiff;have HB5:=Lib.hid (HB4.out.trans hb5);have HBr5:=Lib.hid (HBr4.out.trans hb5);clear hiff hb5)
    ·go_ret
     exact ⟨true,rfl,⟨fun _=>.inr ⟨q,k,s,fd,fe,HPi.out,HGk.out,HSn.out,HF.out.1,HF.out.2,HI5.out.1 (by assumption)⟩,fun _=>rfl⟩,HB5.out⟩
    ·go_roundw
     case rel=>exact ⟨k + 1,by omega,by go_num,HBr5.out,HS.out wr (Bl.refl _) fun dot s2 h1=>by
      by_cases h2:dot=k
      ·subst h2
       have h3:=Option.some.inj (HGk.out.symm.trans h1)
       subst h3
       refine .inl fun _ fd2 fe2 h5 h6 h7=>?_
       have e1:=Option.some.inj (HF.out.1.symm.trans h5)
       have e2:=Option.some.inj (HF.out.2.symm.trans h6)
       subst e1 e2
       have h8:=HI5.out.2 h7
       simp_all
      ·exact .inr h2⟩
     case measure=>simp [intOf];omega
  ·have hlt2:¬ (k:Int) < (rl:Int):=by omega
   go_wp2_with fail
   go_ret
   refine .inl ⟨rfl,?_,HB2.out.trans HBr.out⟩
   rintro (h9 | ⟨p,dot,s2,fd,fe,h1,h2,h3,h4,h5,h6⟩)
   ·exact HNA.out h9
   ·have h7:q=p:=Option.some.inj (HPi.out.symm.trans h1)
    subst h7
    have h8:=(HRl.out dot s2 h2).2
    exact HNo2.out dot s2 (by omega) h2 h3 fd fe h4 h5 h6
end Go.Proofs.YtdfhhbncmdpoeaaGreat
