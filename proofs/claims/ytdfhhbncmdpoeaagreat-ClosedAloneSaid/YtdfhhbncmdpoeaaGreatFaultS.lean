/- sound.faults' closures: what each tells of a nonterminal. -/
import Derived.Test.YtdfhhbncmdpoeaaGreatSdRec
import Derived.Test.YtdfhhbncmdpoeaaGreatPlainS
import Derived.Test.YtdfhhbncmdpoeaaGreatFactS
import Derived.Test.YtdfhhbncmdpoeaaGreatLIs
import Derived.Test.YtdfhhbncmdpoeaaGreatRankS
import Derived.Test.YtdfhhbncmdpoeaaGreatReachS
import Derived.Deep.RegionHeld3
set_option maxRecDepth 100000
set_option maxHeartbeats 16000000
namespace Go.Proofs.YtdfhhbncmdpoeaaGreat
open Go.RowKit
theorem Rd.fact_rank {w:World} {B:Nat} {A:Option Addr} {F:Rk.Fs} (h:Rd w B A (fcRow (fz F))) {j:Nat} (hj:j < F.length):∃ b off,A=some ⟨b,off,none⟩∧b < B∧w.cell? ⟨b,off + j * 2,none⟩=some (.int .i64 (Rk.rk F j:Int)):=by
 have hl:j < (fz F).length:=by rw [fz_len];exact hj
 obtain ⟨b,off,e,hb,f0,_⟩:=h.fact hl
 rw [fz_rank] at f0
 exact ⟨b,off,e,hb,f0⟩
theorem dead_any (F:Rk.Fs) (A:Option Addr) (N c gl j:Nat) (w:World) (hk:Bk w gl 70 #[.slice A N c]) (hr:Rd w w.heap.size A (fcRow (fz F))) (hl:F.length=N) (hj:j < N) :
  Calls Tryz.prog 80 #[.int .i64 j,.pointer (some ⟨gl,0,none⟩)] w fun e w'=>e=.returned (.bool (decide (Rk.rk F j=0)))∧Bl w w':=by
 obtain ⟨b,off,rfl,hb,f0⟩:=hr.fact_rank (j:=j) (by omega)
 have k0:w.cell? ⟨gl,0,none⟩=some (.slice (some ⟨b,off,none⟩) N c):=hk.cell 0
 have klt:gl < w.heap.size:=hk.lt
 have hj0:(0:Int)≤(j:Int):=by omega
 have hj1:(j:Int) < (N:Int):=by omega
 generalize Rk.rk F j=x at *
 clear hk hr hl hj
 by_cases hx:x=0
 ·subst hx
  go_enter Tryz.func80,Tryz.ntmps80
  go_wp2_with fail
  go_ret
  exact ⟨rfl,Bl.refl w⟩
 ·have hq:(((x:Nat):Int) == 0)=false:=by simp;omega
  have hd:=Lib.hid (decide_eq_false hx)
  clear hx
  go_enter Tryz.func80,Tryz.ntmps80
  go_wp2_with fail
  go_ret
  exact ⟨by rw [hd.out];rfl,Bl.refl w⟩
theorem sdalone_any (F:Rk.Fs) (A:Option Addr) (N c gl j:Nat) (w:World) (hk:Bk w gl 70 #[.slice A N c]) (hr:Rd w w.heap.size A (fcRow (fz F))) (hl:F.length=N) (hj:j < N) :
  Calls Tryz.prog 81 #[.int .i64 j,.pointer (some ⟨gl,0,none⟩)] w fun e w'=>e=.returned (.bool (decide (Rk.rk F j=0)))∧Bl w w':=by
 obtain ⟨b,off,rfl,hb,f0⟩:=hr.fact_rank (j:=j) (by omega)
 have k0:w.cell? ⟨gl,0,none⟩=some (.slice (some ⟨b,off,none⟩) N c):=hk.cell 0
 have klt:gl < w.heap.size:=hk.lt
 have hj0:(0:Int)≤(j:Int):=by omega
 have hj1:(j:Int) < (N:Int):=by omega
 generalize Rk.rk F j=x at *
 clear hk hr hl hj
 by_cases hx:x=0
 ·subst hx
  go_enter Tryz.func81,Tryz.ntmps81
  go_wp2_with fail
  go_ret
  exact ⟨rfl,Bl.refl w⟩
 ·have hq:(((x:Nat):Int) == 0)=false:=by simp;omega
  have hd:=Lib.hid (decide_eq_false hx)
  clear hx
  go_enter Tryz.func81,Tryz.ntmps81
  go_wp2_with fail
  go_ret
  exact ⟨by rw [hd.out];rfl,Bl.refl w⟩
theorem left_any (g:Gr.Gm) (N z gl j:Nat) (w:World) (hk:Bk w gl 126 #[.int .u32 (z:Int)]) (hs:SetTo g z N) (hj:j < N) (hN:N≤24) :
  Calls Tryz.prog 82 #[.int .i64 j,.pointer (some ⟨gl,0,none⟩)] w fun e w'=>e=.returned (.bool (Sd.leftB g j))∧Bl w w':=by
 have k0:w.cell? ⟨gl,0,none⟩=some (.int .u32 (z:Int)):=hk.cell 0
 have klt:gl < w.heap.size:=hk.lt
 have hj0:(0:Int)≤(j:Int):=by omega
 have hj32:j < 32:=by omega
 have hb:=bit_test (z:=z) j hs.1
 rw [hs.2.1 j hj] at hb
 clear hk hs hj hN
 cases hx:Sd.leftB g j with
 | true=>
  have hbt:bits .and .u32 ((z:Int) / 2 ^ j) 1=1:=by rw [hb,hx];rfl
  clear hx hb
  go_enter Tryz.func82,Tryz.ntmps82
  go_wp2_with fail
  go_ret
  exact ⟨rfl,Bl.refl w⟩
 | false=>
  have hbt:bits .and .u32 ((z:Int) / 2 ^ j) 1=0:=by rw [hb,hx];rfl
  clear hx hb
  go_enter Tryz.func82,Tryz.ntmps82
  go_wp2_with fail
  go_ret
  exact ⟨rfl,Bl.refl w⟩
end Go.Proofs.YtdfhhbncmdpoeaaGreat
namespace Go.Proofs.YtdfhhbncmdpoeaaGreat
open Go.RowKit
structure FltVars (g:Gr.Gm) (N g1 g2 g3:Nat) (w0 w:World):Prop where
 f1:∃ A c,Bk w g1 70 #[.slice A N c]∧Rd w w.heap.size A (fcRow (fz (Rk.ranks true g.prods N)))
 f2:∃ A c,Bk w g2 70 #[.slice A N c]∧Rd w w.heap.size A (fcRow (fz (Rc.reach g.prods N g.start.toNat)))
 f3:∃ z:Nat,Bk w g3 126 #[.int .u32 (z:Int)]∧SetTo g z N
 b:Bl w0 w
theorem FltVars.bl {g:Gr.Gm} {N g1 g2 g3:Nat} {w0 w w':World} (h:FltVars g N g1 g2 g3 w0 w) (hb:Bl w w'):FltVars g N g1 g2 g3 w0 w':=by
 obtain ⟨⟨A1,c1,b1,r1⟩,⟨A2,c2,b2,r2⟩,⟨z,b3,hz⟩,b⟩:=h
 exact ⟨⟨A1,c1,b1.bl hb,rd_on r1 hb⟩,⟨A2,c2,b2.bl hb,rd_on r2 hb⟩,⟨z,b3.bl hb,hz⟩,b.trans hb⟩
theorem FltVars.build {g:Gr.Gm} {N g1 g2 g3 z c1 c2:Nat} {A1 A2:Option Addr} {w0 w:World}
  (hl:Bk w g1 70 #[.slice none 0 0]) (hm:Bk w g2 70 #[.slice none 0 0]) (hn:Bk w g3 126 #[.int .u32 0]) (hll:w0.heap.size≤g1) (hlm:w0.heap.size≤g2) (hln:w0.heap.size≤g3) (hne:g1≠g2)
  (ho:w.ownsRow w0.heap.size 73 2 (.slice A1 N c1) N (fcRow (fz (Rk.ranks true g.prods N)))) (hp:w.ownsRow w0.heap.size 73 2 (.slice A2 N c2) N (fcRow (fz (Rc.reach g.prods N g.start.toNat)))) (hz:SetTo g z N) (hb:Bl w0 w) :
  FltVars g N g1 g2 g3 w0 (((w.setCell ⟨g1,0,none⟩ (.slice A1 N c1)).setCell ⟨g2,0,none⟩ (.slice A2 N c2)).setCell ⟨g3,0,none⟩ (.int .u32 (z:Int))):=by
 have n13:g1≠g3:=hl.apart hn (by decide)
 have n23:g2≠g3:=hm.apart hn (by decide)
 have hfr:Fr (fun k=>k=g1∨k=g2∨k=g3) w (((w.setCell ⟨g1,0,none⟩ (.slice A1 N c1)).setCell ⟨g2,0,none⟩ (.slice A2 N c2)).setCell ⟨g3,0,none⟩ (.int .u32 (z:Int))):=
  (((Fr.refl _ w).setCell (p:=⟨g1,0,none⟩) (.inl (.inl rfl)) _).setCell (p:=⟨g2,0,none⟩) (.inl (.inr (.inl rfl))) _).setCell (p:=⟨g3,0,none⟩) (.inl (.inr (.inr rfl))) _
 have hS:∀ {A:Option Addr} {c:Nat} {xs:List Value},w.ownsRow w0.heap.size 73 2 (.slice A N c) N xs→∀ k,(Value.slice A N c).ownBlock=some k→¬ (k=g1∨k=g2∨k=g3):=by
  rintro A c xs ho k hk (h | h | h)
  ·subst h;exact hl.row ho (by decide) hk
  ·subst h;exact hm.row ho (by decide) hk
  ·subst h;exact hn.row ho (by decide) hk
 refine ⟨⟨A1,c1,((hl.put 0 _).far (p:=⟨g2,0,none⟩) hne _).far (p:=⟨g3,0,none⟩) n13 _,own_rd2 (own_fr ho hfr (hS ho))⟩,
  ⟨A2,c2,((hm.far (p:=⟨g1,0,none⟩) (fun e=>hne e.symm) _).put 0 _).far (p:=⟨g3,0,none⟩) n23 _,own_rd2 (own_fr hp hfr (hS hp))⟩,
  ⟨z,((hn.far (p:=⟨g1,0,none⟩) (fun e=>n13 e.symm) _).far (p:=⟨g2,0,none⟩) (fun e=>n23 e.symm) _).put 0 _,hz⟩,hb.fr hfr (by rintro k hk (h | h | h) <;> omega)⟩
theorem faultsRegion (t s:Int) (A:Option Addr) (len c N:Nat) (ps:List Gr.Pr) (w0 w1:World) (B gg:Nat) (Q:Exit→Act→World→Prop) (a0 a2 a3 a4 a5 a6 a7 a8 a9 a10 a11 a12 a13 a14 a15 a16 a17 a18:Value)
  (hlen:len=ps.length) (hok:okB ⟨t,(N:Int),s,ps⟩=true) (hr:Prs w0 B A ps) (hB:B≤w0.heap.size) (hg:Bk w1 gg 24 #[.int .i64 t,.int .i64 (N:Int),.int .i64 s,.slice A len c]) (hb:Bl w0 w1)
  (hp:∀ c (a a':Act) w,a.defers=a'.defers→Q (.panic c) a w→Q (.panic c) a' w)
  (hQ:∀ (g1 g2 g3:Nat) (x6 x7 x8 x9 x10 x11:Value) (w':World),FltVars ⟨t,(N:Int),s,ps⟩ N g1 g2 g3 w0 w'→Q .normal { tmps:=#[a0,.pointer (some ⟨gg,0,none⟩),a2,.pointer (some ⟨g1,0,none⟩),.pointer (some ⟨g2,0,none⟩),.pointer (some ⟨g3,0,none⟩),x6,x7,x8,x9,x10,x11,a12,a13,a14,a15,a16,a17,a18],defers:=[] } w') :
  (Code.region 1 #[{ dst:=some 6,op:=Op.load 24 (Operand.tmp 1),type:=24,pos:="sound.go:35",after:=#[],guard:=none },{ dst:=some 7,op:=Op.call { callee:=Callee.value (Operand.func 36),args:=#[Operand.tmp 6],argTypes:=#[24] },type:=70,pos:="sound.go:35",after:=#[{ on:=0,ground:=Ground.data }],guard:=none },{ dst:=some 8,op:=Op.load 24 (Operand.tmp 1),type:=24,pos:="sound.go:35",after:=#[],guard:=none },{ dst:=some 9,op:=Op.call { callee:=Callee.value (Operand.func 78),args:=#[Operand.tmp 8],argTypes:=#[24] },type:=70,pos:="sound.go:35",after:=#[{ on:=2,ground:=Ground.data },{ on:=1,ground:=Ground.chain }],guard:=none },{ dst:=some 10,op:=Op.load 24 (Operand.tmp 1),type:=24,pos:="sound.go:35",after:=#[],guard:=none },{ dst:=some 11,op:=Op.call { callee:=Callee.value (Operand.func 79),args:=#[Operand.tmp 10],argTypes:=#[24] },type:=126,pos:="sound.go:35",after:=#[{ on:=4,ground:=Ground.data },{ on:=3,ground:=Ground.chain }],guard:=none },{ dst:=some 3,op:=Op.alloc 70,type:=0,pos:="sound.go:35",after:=#[],guard:=none },{ dst:=some 4,op:=Op.alloc 70,type:=0,pos:="sound.go:35",after:=#[],guard:=none },{ dst:=some 5,op:=Op.alloc 126,type:=0,pos:="sound.go:35",after:=#[],guard:=none },{ dst:=none,op:=Op.store 70 (Operand.tmp 3) (Operand.tmp 7),type:=0,pos:="sound.go:35",after:=#[{ on:=6,ground:=Ground.data },{ on:=1,ground:=Ground.data },{ on:=5,ground:=Ground.chain },{ on:=0,ground:=Ground.phase },{ on:=1,ground:=Ground.phase },{ on:=2,ground:=Ground.textOnly Departure.lateStores },{ on:=3,ground:=Ground.textOnly Departure.lateStoresUnsure },{ on:=4,ground:=Ground.textOnly Departure.lateStores },{ on:=5,ground:=Ground.textOnly Departure.lateStoresUnsure },{ on:=6,ground:=Ground.phase },{ on:=7,ground:=Ground.phase },{ on:=8,ground:=Ground.phase }],guard:=none },{ dst:=none,op:=Op.store 70 (Operand.tmp 4) (Operand.tmp 9),type:=0,pos:="sound.go:35",after:=#[{ on:=7,ground:=Ground.data },{ on:=3,ground:=Ground.data },{ on:=9,ground:=Ground.chain },{ on:=0,ground:=Ground.phase },{ on:=1,ground:=Ground.phase },{ on:=2,ground:=Ground.phase },{ on:=3,ground:=Ground.phase },{ on:=4,ground:=Ground.textOnly Departure.lateStores },{ on:=5,ground:=Ground.textOnly Departure.lateStoresUnsure },{ on:=6,ground:=Ground.phase },{ on:=7,ground:=Ground.phase },{ on:=8,ground:=Ground.phase },{ on:=9,ground:=Ground.phase }],guard:=none },{ dst:=none,op:=Op.store 126 (Operand.tmp 5) (Operand.tmp 11),type:=0,pos:="sound.go:35",after:=#[{ on:=8,ground:=Ground.data },{ on:=5,ground:=Ground.data },{ on:=10,ground:=Ground.chain },{ on:=0,ground:=Ground.phase },{ on:=1,ground:=Ground.phase },{ on:=2,ground:=Ground.phase },{ on:=3,ground:=Ground.phase },{ on:=4,ground:=Ground.phase },{ on:=5,ground:=Ground.phase },{ on:=6,ground:=Ground.phase },{ on:=7,ground:=Ground.phase },{ on:=8,ground:=Ground.phase },{ on:=9,ground:=Ground.phase },{ on:=10,ground:=Ground.phase }],guard:=none }] true).wp Tryz.prog Q { tmps:=#[a0,.pointer (some ⟨gg,0,none⟩),a2,a3,a4,a5,a6,a7,a8,a9,a10,a11,a12,a13,a14,a15,a16,a17,a18],defers:=[] } w1:=by
 obtain ⟨n1,n2,n3⟩:=ok_nons hok
 have HFa:Hid (factsOf true ⟨t,(N:Int),s,ps⟩=fz (Rk.ranks true ps N)):=factsOf_ok hok
 have HRe:Hid (reachOf ⟨t,(N:Int),s,ps⟩=fz (Rc.reach ps N s.toNat)):=reachOf_ok hok
 have HEl:Hid ((Rc.reach ps N s.toNat).length=N):=by have h:=reachOf_len hok;rw [reachOf_ok hok,fz_len] at h;exact h
 have HOK:=Lib.hid hok
 have HPr:Hid (∀ w',Bl w0 w'→Prs w' B A ps):=fun w' h=>hr.bl hB h
 have HSz:Hid (∀ w',Bl w0 w'→B≤w'.heap.size):=fun w' h=>Nat.le_trans hB h.size
 have HQ:=Lib.hid hQ;clear hQ
 have hlx:len≤9223372036854775807:=by omega
 have HL:=Lib.hid hlen;clear hlen
 clear hok hr hB
 refine wp_region_held_drew (S:=(fun w'=>w'.cell? ⟨gg,0,none⟩=some (.int .i64 t)∧w'.cell? ⟨gg,1,none⟩=some (.int .i64 (N:Int))∧w'.cell? ⟨gg,2,none⟩=some (.int .i64 s)∧w'.cell? ⟨gg,3,none⟩=some (.slice A len c))) (by kernel_rfl) ⟨hg.cell 0,hg.cell 1,hg.cell 2,hg.cell 3⟩ (fun hHeld=>?_)
 refine wpAnyH_take (i:=0) (oi:=({ dst:=some 6,op:=Op.load 24 (Operand.tmp 1),type:=24,pos:="sound.go:35",after:=#[],guard:=none }:Oper)) (v:=?_) rfl (by kernel_rfl) (by kernel_rfl) (by kernel_rfl) (fun c0 b0 v0 h=>hp c0 (b0.put _ _) b0 v0 rfl h) (Or.inl ⟨by rfl,?_⟩) hHeld ?_
 rotate_left
 ·(intro w hSw;(try dsimp only at hSw);go_simp) <;> with_reducible rfl
 try simp only [Act.put,List.setIfInBounds_toArray,List.set_cons_zero,List.set_cons_succ]
 refine wpAnyH_take (i:=2) (oi:=({ dst:=some 8,op:=Op.load 24 (Operand.tmp 1),type:=24,pos:="sound.go:35",after:=#[],guard:=none }:Oper)) (v:=?_) rfl (by kernel_rfl) (by kernel_rfl) (by kernel_rfl) (fun c0 b0 v0 h=>hp c0 (b0.put _ _) b0 v0 rfl h) (Or.inl ⟨by rfl,?_⟩) hHeld ?_
 rotate_left
 ·(intro w hSw;(try dsimp only at hSw);go_simp) <;> with_reducible rfl
 try simp only [Act.put,List.setIfInBounds_toArray,List.set_cons_zero,List.set_cons_succ]
 refine wpAnyH_take (i:=4) (oi:=({ dst:=some 10,op:=Op.load 24 (Operand.tmp 1),type:=24,pos:="sound.go:35",after:=#[],guard:=none }:Oper)) (v:=?_) rfl (by kernel_rfl) (by kernel_rfl) (by kernel_rfl) (fun c0 b0 v0 h=>hp c0 (b0.put _ _) b0 v0 rfl h) (Or.inl ⟨by rfl,?_⟩) hHeld ?_
 rotate_left
 ·(intro w hSw;(try dsimp only at hSw);go_simp) <;> with_reducible rfl
 try simp only [Act.put,List.setIfInBounds_toArray,List.set_cons_zero,List.set_cons_succ]
 clear hHeld
 generalize hW:wpAnyH Tryz.prog _ _ _ _=W
 have st135678:Hid (∀ (wk:World) (A1:Option Addr) (c1:Nat) (A2:Option Addr) (c2:Nat) (z:Nat) (g1:Nat) (g2:Nat) (g3:Nat),Bk wk gg 24 #[.int .i64 t,.int .i64 (N:Int),.int .i64 s,.slice A len c]→Bl w0 wk→(wk.ownsRow w0.heap.size 73 2 (.slice A1 N c1) N (fcRow (fz (Rk.ranks true ps N))))→(wk.ownsRow w0.heap.size 73 2 (.slice A2 N c2) N (fcRow (fz (Rc.reach ps N s.toNat))))→(SetTo ⟨t,(N:Int),s,ps⟩ z N)→(Bk wk g1 70 #[.slice none 0 0]∧w0.heap.size≤g1)→(Bk wk g2 70 #[.slice none 0 0]∧w0.heap.size≤g2)→(Bk wk g3 126 #[.int .u32 0]∧w0.heap.size≤g3)→g1≠g2→W 3 #[true,true,true,true,true,true,true,true,true,false,false,false] { tmps:=#[a0,.pointer (some ⟨gg,0,none⟩),a2,.pointer (some ⟨g1,0,none⟩),.pointer (some ⟨g2,0,none⟩),.pointer (some ⟨g3,0,none⟩),.agg #[.int .i64 t,.int .i64 (N:Int),.int .i64 s,.slice A len c],.slice A1 N c1,.agg #[.int .i64 t,.int .i64 (N:Int),.int .i64 s,.slice A len c],.slice A2 N c2,.agg #[.int .i64 t,.int .i64 (N:Int),.int .i64 s,.slice A len c],.int .u32 (z:Int),a12,a13,a14,a15,a16,a17,a18],defers:=[] } wk):=by
  intro wk A1 c1 A2 c2 z g1 g2 g3 hg hb ho hp2 hz hl hm hn hne
  subst hW
  have hHeld:=(⟨hg.cell 0,hg.cell 1,hg.cell 2,hg.cell 3⟩:wk.cell? ⟨gg,0,none⟩=some (.int .i64 t)∧wk.cell? ⟨gg,1,none⟩=some (.int .i64 (N:Int))∧wk.cell? ⟨gg,2,none⟩=some (.int .i64 s)∧wk.cell? ⟨gg,3,none⟩=some (.slice A len c))
  obtain ⟨hl,hll⟩:=hl
  obtain ⟨hm,hlm⟩:=hm
  obtain ⟨hn,hln⟩:=hn
  have HX:=Lib.hid (FltVars.build (g:=⟨t,(N:Int),s,ps⟩) hl hm hn hll hlm hln hne ho hp2 hz hb)
  have n13:g1≠g3:=hl.apart hn (by decide)
  have n23:g2≠g3:=hm.apart hn (by decide)
  have c1_:wk.cell? ⟨g1,0,none⟩=some (.slice none 0 0):=hl.cell 0
  have f1_:=hl.free 0
  have hg2:=Lib.hid (hg.far (p:=⟨g1,0,none⟩) (hg.apart hl (by decide)) (.slice A1 N c1))
  have hm2:=Lib.hid (hm.far (p:=⟨g1,0,none⟩) (fun e=>hne e.symm) (.slice A1 N c1))
  have hn2:=Lib.hid (hn.far (p:=⟨g1,0,none⟩) (fun e=>n13 e.symm) (.slice A1 N c1))
  have hg3:=Lib.hid (hg2.out.far (p:=⟨g2,0,none⟩) (hg.apart hm (by decide)) (.slice A2 N c2))
  have hn3:=Lib.hid (hn2.out.far (p:=⟨g2,0,none⟩) (fun e=>n23 e.symm) (.slice A2 N c2))
  have hg4:=Lib.hid (hg3.out.far (p:=⟨g3,0,none⟩) (hg.apart hn (by decide)) (.int .u32 (z:Int)))
  clear hHeld hl hm hn ho hp2 hz hb n13 n23 hne hg
  refine wpAnyH_ready (rs:=[9]) (by kernel_rfl) (by simp) ?_
  refine AllReadyH.cons (o:=({ dst:=none,op:=Op.store 70 (Operand.tmp 3) (Operand.tmp 7),type:=0,pos:="sound.go:35",after:=#[{ on:=6,ground:=Ground.data },{ on:=1,ground:=Ground.data },{ on:=5,ground:=Ground.chain },{ on:=0,ground:=Ground.phase },{ on:=1,ground:=Ground.phase },{ on:=2,ground:=Ground.textOnly Departure.lateStores },{ on:=3,ground:=Ground.textOnly Departure.lateStoresUnsure },{ on:=4,ground:=Ground.textOnly Departure.lateStores },{ on:=5,ground:=Ground.textOnly Departure.lateStoresUnsure },{ on:=6,ground:=Ground.phase },{ on:=7,ground:=Ground.phase },{ on:=8,ground:=Ground.phase }],guard:=none }:Oper)) rfl (fun K hK=>?_) AllReadyH.nil
  go_simp
  refine hK.out _ _ ⟨hg2.out.cell 0,hg2.out.cell 1,hg2.out.cell 2,hg2.out.cell 3⟩ (fun hHeld=>?_)
  clear hK K hHeld
  have c2_:(wk.setCell ⟨g1,0,none⟩ (.slice A1 N c1)).cell? ⟨g2,0,none⟩=some (.slice none 0 0):=hm2.out.cell 0
  have f2_:(wk.setCell ⟨g1,0,none⟩ (.slice A1 N c1)).frozen? ⟨g2,0,none⟩=false:=hm2.out.free 0
  refine wpAnyH_ready (rs:=[10]) (by kernel_rfl) (by simp) ?_
  refine AllReadyH.cons (o:=({ dst:=none,op:=Op.store 70 (Operand.tmp 4) (Operand.tmp 9),type:=0,pos:="sound.go:35",after:=#[{ on:=7,ground:=Ground.data },{ on:=3,ground:=Ground.data },{ on:=9,ground:=Ground.chain },{ on:=0,ground:=Ground.phase },{ on:=1,ground:=Ground.phase },{ on:=2,ground:=Ground.phase },{ on:=3,ground:=Ground.phase },{ on:=4,ground:=Ground.textOnly Departure.lateStores },{ on:=5,ground:=Ground.textOnly Departure.lateStoresUnsure },{ on:=6,ground:=Ground.phase },{ on:=7,ground:=Ground.phase },{ on:=8,ground:=Ground.phase },{ on:=9,ground:=Ground.phase }],guard:=none }:Oper)) rfl (fun K hK=>?_) AllReadyH.nil
  go_simp
  refine hK.out _ _ ⟨hg3.out.cell 0,hg3.out.cell 1,hg3.out.cell 2,hg3.out.cell 3⟩ (fun hHeld=>?_)
  clear hK K hHeld
  have c3_:((wk.setCell ⟨g1,0,none⟩ (.slice A1 N c1)).setCell ⟨g2,0,none⟩ (.slice A2 N c2)).cell? ⟨g3,0,none⟩=some (.int .u32 0):=hn3.out.cell 0
  have f3_:((wk.setCell ⟨g1,0,none⟩ (.slice A1 N c1)).setCell ⟨g2,0,none⟩ (.slice A2 N c2)).frozen? ⟨g3,0,none⟩=false:=hn3.out.free 0
  refine wpAnyH_ready (rs:=[11]) (by kernel_rfl) (by simp) ?_
  refine AllReadyH.cons (o:=({ dst:=none,op:=Op.store 126 (Operand.tmp 5) (Operand.tmp 11),type:=0,pos:="sound.go:35",after:=#[{ on:=8,ground:=Ground.data },{ on:=5,ground:=Ground.data },{ on:=10,ground:=Ground.chain },{ on:=0,ground:=Ground.phase },{ on:=1,ground:=Ground.phase },{ on:=2,ground:=Ground.phase },{ on:=3,ground:=Ground.phase },{ on:=4,ground:=Ground.phase },{ on:=5,ground:=Ground.phase },{ on:=6,ground:=Ground.phase },{ on:=7,ground:=Ground.phase },{ on:=8,ground:=Ground.phase },{ on:=9,ground:=Ground.phase },{ on:=10,ground:=Ground.phase }],guard:=none }:Oper)) rfl (fun K hK=>?_) AllReadyH.nil
  go_simp
  refine hK.out _ _ ⟨hg4.out.cell 0,hg4.out.cell 1,hg4.out.cell 2,hg4.out.cell 3⟩ (fun hHeld=>?_)
  clear hK K hHeld
  refine wpAnyH_done (by kernel_rfl) ?_ _
  exact HQ.out g1 g2 g3 _ _ _ _ _ _ _ HX.out
 have st13567:Hid (∀ (wk:World) (A1:Option Addr) (c1:Nat) (A2:Option Addr) (c2:Nat) (z:Nat) (g1:Nat) (g2:Nat),Bk wk gg 24 #[.int .i64 t,.int .i64 (N:Int),.int .i64 s,.slice A len c]→Bl w0 wk→(wk.ownsRow w0.heap.size 73 2 (.slice A1 N c1) N (fcRow (fz (Rk.ranks true ps N))))→(wk.ownsRow w0.heap.size 73 2 (.slice A2 N c2) N (fcRow (fz (Rc.reach ps N s.toNat))))→(SetTo ⟨t,(N:Int),s,ps⟩ z N)→(Bk wk g1 70 #[.slice none 0 0]∧w0.heap.size≤g1)→(Bk wk g2 70 #[.slice none 0 0]∧w0.heap.size≤g2)→g1≠g2→W 4 #[true,true,true,true,true,true,true,true,false,false,false,false] { tmps:=#[a0,.pointer (some ⟨gg,0,none⟩),a2,.pointer (some ⟨g1,0,none⟩),.pointer (some ⟨g2,0,none⟩),a5,.agg #[.int .i64 t,.int .i64 (N:Int),.int .i64 s,.slice A len c],.slice A1 N c1,.agg #[.int .i64 t,.int .i64 (N:Int),.int .i64 s,.slice A len c],.slice A2 N c2,.agg #[.int .i64 t,.int .i64 (N:Int),.int .i64 s,.slice A len c],.int .u32 (z:Int),a12,a13,a14,a15,a16,a17,a18],defers:=[] } wk):=by
  intro wk A1 c1 A2 c2 z g1 g2 hg hb ho hp2 hz hl hm hne
  subst hW
  have hHeld:=(⟨hg.cell 0,hg.cell 1,hg.cell 2,hg.cell 3⟩:wk.cell? ⟨gg,0,none⟩=some (.int .i64 t)∧wk.cell? ⟨gg,1,none⟩=some (.int .i64 (N:Int))∧wk.cell? ⟨gg,2,none⟩=some (.int .i64 s)∧wk.cell? ⟨gg,3,none⟩=some (.slice A len c))
  refine wpAnyH_ready (rs:=[8]) (by kernel_rfl) (by simp) ?_
  refine (AllReadyH.cons (o:=({ dst:=some 5,op:=Op.alloc 126,type:=0,pos:="sound.go:35",after:=#[],guard:=none }:Oper)) rfl (fun K hK=>?_) AllReadyH.nil)
  ·have HX:=Lib.hid (st135678.out (wk.alloc (.cells #[.int .u32 0] 126)) A1 c1 A2 c2 z g1 g2 wk.heap.size (hg.alloc _) (hb.alloc _) (ho.alloc _) (hp2.alloc _) hz ⟨hl.1.alloc _,hl.2⟩ ⟨hm.1.alloc _,hm.2⟩ ⟨Bk.new _ _ _,hb.size⟩ hne)
   have HS:=Lib.hid (hg.alloc (.cells #[.int .u32 0] 126))
   go_simp
   refine hK.out _ _ ⟨HS.out.cell 0,HS.out.cell 1,HS.out.cell 2,HS.out.cell 3⟩ (fun _=>?_)
   exact HX.out
 have st13568:Hid (∀ (wk:World) (A1:Option Addr) (c1:Nat) (A2:Option Addr) (c2:Nat) (z:Nat) (g1:Nat) (g3:Nat),Bk wk gg 24 #[.int .i64 t,.int .i64 (N:Int),.int .i64 s,.slice A len c]→Bl w0 wk→(wk.ownsRow w0.heap.size 73 2 (.slice A1 N c1) N (fcRow (fz (Rk.ranks true ps N))))→(wk.ownsRow w0.heap.size 73 2 (.slice A2 N c2) N (fcRow (fz (Rc.reach ps N s.toNat))))→(SetTo ⟨t,(N:Int),s,ps⟩ z N)→(Bk wk g1 70 #[.slice none 0 0]∧w0.heap.size≤g1)→(Bk wk g3 126 #[.int .u32 0]∧w0.heap.size≤g3)→W 4 #[true,true,true,true,true,true,true,false,true,false,false,false] { tmps:=#[a0,.pointer (some ⟨gg,0,none⟩),a2,.pointer (some ⟨g1,0,none⟩),a4,.pointer (some ⟨g3,0,none⟩),.agg #[.int .i64 t,.int .i64 (N:Int),.int .i64 s,.slice A len c],.slice A1 N c1,.agg #[.int .i64 t,.int .i64 (N:Int),.int .i64 s,.slice A len c],.slice A2 N c2,.agg #[.int .i64 t,.int .i64 (N:Int),.int .i64 s,.slice A len c],.int .u32 (z:Int),a12,a13,a14,a15,a16,a17,a18],defers:=[] } wk):=by
  intro wk A1 c1 A2 c2 z g1 g3 hg hb ho hp2 hz hl hn
  subst hW
  have hHeld:=(⟨hg.cell 0,hg.cell 1,hg.cell 2,hg.cell 3⟩:wk.cell? ⟨gg,0,none⟩=some (.int .i64 t)∧wk.cell? ⟨gg,1,none⟩=some (.int .i64 (N:Int))∧wk.cell? ⟨gg,2,none⟩=some (.int .i64 s)∧wk.cell? ⟨gg,3,none⟩=some (.slice A len c))
  refine wpAnyH_ready (rs:=[7]) (by kernel_rfl) (by simp) ?_
  refine (AllReadyH.cons (o:=({ dst:=some 4,op:=Op.alloc 70,type:=0,pos:="sound.go:35",after:=#[],guard:=none }:Oper)) rfl (fun K hK=>?_) AllReadyH.nil)
  ·have HX:=Lib.hid (st135678.out (wk.alloc (.cells #[.slice none 0 0] 70)) A1 c1 A2 c2 z g1 wk.heap.size g3 (hg.alloc _) (hb.alloc _) (ho.alloc _) (hp2.alloc _) hz ⟨hl.1.alloc _,hl.2⟩ ⟨Bk.new _ _ _,hb.size⟩ ⟨hn.1.alloc _,hn.2⟩ (Nat.ne_of_lt hl.1.lt))
   have HS:=Lib.hid (hg.alloc (.cells #[.slice none 0 0] 70))
   go_simp
   refine hK.out _ _ ⟨HS.out.cell 0,HS.out.cell 1,HS.out.cell 2,HS.out.cell 3⟩ (fun _=>?_)
   exact HX.out
 have st13578:Hid (∀ (wk:World) (A1:Option Addr) (c1:Nat) (A2:Option Addr) (c2:Nat) (z:Nat) (g2:Nat) (g3:Nat),Bk wk gg 24 #[.int .i64 t,.int .i64 (N:Int),.int .i64 s,.slice A len c]→Bl w0 wk→(wk.ownsRow w0.heap.size 73 2 (.slice A1 N c1) N (fcRow (fz (Rk.ranks true ps N))))→(wk.ownsRow w0.heap.size 73 2 (.slice A2 N c2) N (fcRow (fz (Rc.reach ps N s.toNat))))→(SetTo ⟨t,(N:Int),s,ps⟩ z N)→(Bk wk g2 70 #[.slice none 0 0]∧w0.heap.size≤g2)→(Bk wk g3 126 #[.int .u32 0]∧w0.heap.size≤g3)→W 4 #[true,true,true,true,true,true,false,true,true,false,false,false] { tmps:=#[a0,.pointer (some ⟨gg,0,none⟩),a2,a3,.pointer (some ⟨g2,0,none⟩),.pointer (some ⟨g3,0,none⟩),.agg #[.int .i64 t,.int .i64 (N:Int),.int .i64 s,.slice A len c],.slice A1 N c1,.agg #[.int .i64 t,.int .i64 (N:Int),.int .i64 s,.slice A len c],.slice A2 N c2,.agg #[.int .i64 t,.int .i64 (N:Int),.int .i64 s,.slice A len c],.int .u32 (z:Int),a12,a13,a14,a15,a16,a17,a18],defers:=[] } wk):=by
  intro wk A1 c1 A2 c2 z g2 g3 hg hb ho hp2 hz hm hn
  subst hW
  have hHeld:=(⟨hg.cell 0,hg.cell 1,hg.cell 2,hg.cell 3⟩:wk.cell? ⟨gg,0,none⟩=some (.int .i64 t)∧wk.cell? ⟨gg,1,none⟩=some (.int .i64 (N:Int))∧wk.cell? ⟨gg,2,none⟩=some (.int .i64 s)∧wk.cell? ⟨gg,3,none⟩=some (.slice A len c))
  refine wpAnyH_ready (rs:=[6]) (by kernel_rfl) (by simp) ?_
  refine (AllReadyH.cons (o:=({ dst:=some 3,op:=Op.alloc 70,type:=0,pos:="sound.go:35",after:=#[],guard:=none }:Oper)) rfl (fun K hK=>?_) AllReadyH.nil)
  ·have HX:=Lib.hid (st135678.out (wk.alloc (.cells #[.slice none 0 0] 70)) A1 c1 A2 c2 z wk.heap.size g2 g3 (hg.alloc _) (hb.alloc _) (ho.alloc _) (hp2.alloc _) hz ⟨Bk.new _ _ _,hb.size⟩ ⟨hm.1.alloc _,hm.2⟩ ⟨hn.1.alloc _,hn.2⟩ (Nat.ne_of_gt hm.1.lt))
   have HS:=Lib.hid (hg.alloc (.cells #[.slice none 0 0] 70))
   go_simp
   refine hK.out _ _ ⟨HS.out.cell 0,HS.out.cell 1,HS.out.cell 2,HS.out.cell 3⟩ (fun _=>?_)
   exact HX.out
 have st13678:Hid (∀ (wk:World) (A1:Option Addr) (c1:Nat) (A2:Option Addr) (c2:Nat) (g1:Nat) (g2:Nat) (g3:Nat),Bk wk gg 24 #[.int .i64 t,.int .i64 (N:Int),.int .i64 s,.slice A len c]→Bl w0 wk→(wk.ownsRow w0.heap.size 73 2 (.slice A1 N c1) N (fcRow (fz (Rk.ranks true ps N))))→(wk.ownsRow w0.heap.size 73 2 (.slice A2 N c2) N (fcRow (fz (Rc.reach ps N s.toNat))))→(Bk wk g1 70 #[.slice none 0 0]∧w0.heap.size≤g1)→(Bk wk g2 70 #[.slice none 0 0]∧w0.heap.size≤g2)→(Bk wk g3 126 #[.int .u32 0]∧w0.heap.size≤g3)→g1≠g2→W 4 #[true,true,true,true,true,false,true,true,true,false,false,false] { tmps:=#[a0,.pointer (some ⟨gg,0,none⟩),a2,.pointer (some ⟨g1,0,none⟩),.pointer (some ⟨g2,0,none⟩),.pointer (some ⟨g3,0,none⟩),.agg #[.int .i64 t,.int .i64 (N:Int),.int .i64 s,.slice A len c],.slice A1 N c1,.agg #[.int .i64 t,.int .i64 (N:Int),.int .i64 s,.slice A len c],.slice A2 N c2,.agg #[.int .i64 t,.int .i64 (N:Int),.int .i64 s,.slice A len c],a11,a12,a13,a14,a15,a16,a17,a18],defers:=[] } wk):=by
  intro wk A1 c1 A2 c2 g1 g2 g3 hg hb ho hp2 hl hm hn hne
  subst hW
  have hHeld:=(⟨hg.cell 0,hg.cell 1,hg.cell 2,hg.cell 3⟩:wk.cell? ⟨gg,0,none⟩=some (.int .i64 t)∧wk.cell? ⟨gg,1,none⟩=some (.int .i64 (N:Int))∧wk.cell? ⟨gg,2,none⟩=some (.int .i64 s)∧wk.cell? ⟨gg,3,none⟩=some (.slice A len c))
  refine wpAnyH_ready (rs:=[5]) (by kernel_rfl) (by simp) ?_
  refine (AllReadyH.cons (o:=({ dst:=some 11,op:=Op.call { callee:=Callee.value (Operand.func 79),args:=#[Operand.tmp 10],argTypes:=#[24] },type:=126,pos:="sound.go:35",after:=#[{ on:=4,ground:=Ground.data },{ on:=3,ground:=Ground.chain }],guard:=none }:Oper)) rfl (fun K hK=>?_) AllReadyH.nil)
  ·go_simp
   refine (recursive_any t N s A len c ps _ B HL.out hlx (HPr.out _ hb) (HSz.out _ hb) HOK.out).mono ?_
   rintro e v1 ⟨y,rfl,hy,hb1⟩
   have hg':=hg.bl hb1
   have HX:=Lib.hid (st135678.out v1 A1 c1 A2 c2 y g1 g2 g3 hg' (hb.trans hb1) (own_bl ho hb1) (own_bl hp2 hb1) hy ⟨hl.1.bl hb1,hl.2⟩ ⟨hm.1.bl hb1,hm.2⟩ ⟨hn.1.bl hb1,hn.2⟩ hne)
   have HS:=Lib.hid hg'
   clear hg' hy hb1
   go_wp2_with fail
   refine hK.out _ _ ⟨HS.out.cell 0,HS.out.cell 1,HS.out.cell 2,HS.out.cell 3⟩ (fun _=>?_)
   exact HX.out
 have st1356:Hid (∀ (wk:World) (A1:Option Addr) (c1:Nat) (A2:Option Addr) (c2:Nat) (z:Nat) (g1:Nat),Bk wk gg 24 #[.int .i64 t,.int .i64 (N:Int),.int .i64 s,.slice A len c]→Bl w0 wk→(wk.ownsRow w0.heap.size 73 2 (.slice A1 N c1) N (fcRow (fz (Rk.ranks true ps N))))→(wk.ownsRow w0.heap.size 73 2 (.slice A2 N c2) N (fcRow (fz (Rc.reach ps N s.toNat))))→(SetTo ⟨t,(N:Int),s,ps⟩ z N)→(Bk wk g1 70 #[.slice none 0 0]∧w0.heap.size≤g1)→W 5 #[true,true,true,true,true,true,true,false,false,false,false,false] { tmps:=#[a0,.pointer (some ⟨gg,0,none⟩),a2,.pointer (some ⟨g1,0,none⟩),a4,a5,.agg #[.int .i64 t,.int .i64 (N:Int),.int .i64 s,.slice A len c],.slice A1 N c1,.agg #[.int .i64 t,.int .i64 (N:Int),.int .i64 s,.slice A len c],.slice A2 N c2,.agg #[.int .i64 t,.int .i64 (N:Int),.int .i64 s,.slice A len c],.int .u32 (z:Int),a12,a13,a14,a15,a16,a17,a18],defers:=[] } wk):=by
  intro wk A1 c1 A2 c2 z g1 hg hb ho hp2 hz hl
  subst hW
  have hHeld:=(⟨hg.cell 0,hg.cell 1,hg.cell 2,hg.cell 3⟩:wk.cell? ⟨gg,0,none⟩=some (.int .i64 t)∧wk.cell? ⟨gg,1,none⟩=some (.int .i64 (N:Int))∧wk.cell? ⟨gg,2,none⟩=some (.int .i64 s)∧wk.cell? ⟨gg,3,none⟩=some (.slice A len c))
  refine wpAnyH_ready (rs:=[7,8]) (by kernel_rfl) (by simp) ?_
  refine (AllReadyH.cons (o:=({ dst:=some 4,op:=Op.alloc 70,type:=0,pos:="sound.go:35",after:=#[],guard:=none }:Oper)) rfl (fun K hK=>?_) (AllReadyH.cons (o:=({ dst:=some 5,op:=Op.alloc 126,type:=0,pos:="sound.go:35",after:=#[],guard:=none }:Oper)) rfl (fun K hK=>?_) AllReadyH.nil))
  ·have HX:=Lib.hid (st13567.out (wk.alloc (.cells #[.slice none 0 0] 70)) A1 c1 A2 c2 z g1 wk.heap.size (hg.alloc _) (hb.alloc _) (ho.alloc _) (hp2.alloc _) hz ⟨hl.1.alloc _,hl.2⟩ ⟨Bk.new _ _ _,hb.size⟩ (Nat.ne_of_lt hl.1.lt))
   have HS:=Lib.hid (hg.alloc (.cells #[.slice none 0 0] 70))
   go_simp
   refine hK.out _ _ ⟨HS.out.cell 0,HS.out.cell 1,HS.out.cell 2,HS.out.cell 3⟩ (fun _=>?_)
   exact HX.out
  ·have HX:=Lib.hid (st13568.out (wk.alloc (.cells #[.int .u32 0] 126)) A1 c1 A2 c2 z g1 wk.heap.size (hg.alloc _) (hb.alloc _) (ho.alloc _) (hp2.alloc _) hz ⟨hl.1.alloc _,hl.2⟩ ⟨Bk.new _ _ _,hb.size⟩ )
   have HS:=Lib.hid (hg.alloc (.cells #[.int .u32 0] 126))
   go_simp
   refine hK.out _ _ ⟨HS.out.cell 0,HS.out.cell 1,HS.out.cell 2,HS.out.cell 3⟩ (fun _=>?_)
   exact HX.out
 have st1357:Hid (∀ (wk:World) (A1:Option Addr) (c1:Nat) (A2:Option Addr) (c2:Nat) (z:Nat) (g2:Nat),Bk wk gg 24 #[.int .i64 t,.int .i64 (N:Int),.int .i64 s,.slice A len c]→Bl w0 wk→(wk.ownsRow w0.heap.size 73 2 (.slice A1 N c1) N (fcRow (fz (Rk.ranks true ps N))))→(wk.ownsRow w0.heap.size 73 2 (.slice A2 N c2) N (fcRow (fz (Rc.reach ps N s.toNat))))→(SetTo ⟨t,(N:Int),s,ps⟩ z N)→(Bk wk g2 70 #[.slice none 0 0]∧w0.heap.size≤g2)→W 5 #[true,true,true,true,true,true,false,true,false,false,false,false] { tmps:=#[a0,.pointer (some ⟨gg,0,none⟩),a2,a3,.pointer (some ⟨g2,0,none⟩),a5,.agg #[.int .i64 t,.int .i64 (N:Int),.int .i64 s,.slice A len c],.slice A1 N c1,.agg #[.int .i64 t,.int .i64 (N:Int),.int .i64 s,.slice A len c],.slice A2 N c2,.agg #[.int .i64 t,.int .i64 (N:Int),.int .i64 s,.slice A len c],.int .u32 (z:Int),a12,a13,a14,a15,a16,a17,a18],defers:=[] } wk):=by
  intro wk A1 c1 A2 c2 z g2 hg hb ho hp2 hz hm
  subst hW
  have hHeld:=(⟨hg.cell 0,hg.cell 1,hg.cell 2,hg.cell 3⟩:wk.cell? ⟨gg,0,none⟩=some (.int .i64 t)∧wk.cell? ⟨gg,1,none⟩=some (.int .i64 (N:Int))∧wk.cell? ⟨gg,2,none⟩=some (.int .i64 s)∧wk.cell? ⟨gg,3,none⟩=some (.slice A len c))
  refine wpAnyH_ready (rs:=[6,8]) (by kernel_rfl) (by simp) ?_
  refine (AllReadyH.cons (o:=({ dst:=some 3,op:=Op.alloc 70,type:=0,pos:="sound.go:35",after:=#[],guard:=none }:Oper)) rfl (fun K hK=>?_) (AllReadyH.cons (o:=({ dst:=some 5,op:=Op.alloc 126,type:=0,pos:="sound.go:35",after:=#[],guard:=none }:Oper)) rfl (fun K hK=>?_) AllReadyH.nil))
  ·have HX:=Lib.hid (st13567.out (wk.alloc (.cells #[.slice none 0 0] 70)) A1 c1 A2 c2 z wk.heap.size g2 (hg.alloc _) (hb.alloc _) (ho.alloc _) (hp2.alloc _) hz ⟨Bk.new _ _ _,hb.size⟩ ⟨hm.1.alloc _,hm.2⟩ (Nat.ne_of_gt hm.1.lt))
   have HS:=Lib.hid (hg.alloc (.cells #[.slice none 0 0] 70))
   go_simp
   refine hK.out _ _ ⟨HS.out.cell 0,HS.out.cell 1,HS.out.cell 2,HS.out.cell 3⟩ (fun _=>?_)
   exact HX.out
  ·have HX:=Lib.hid (st13578.out (wk.alloc (.cells #[.int .u32 0] 126)) A1 c1 A2 c2 z g2 wk.heap.size (hg.alloc _) (hb.alloc _) (ho.alloc _) (hp2.alloc _) hz ⟨hm.1.alloc _,hm.2⟩ ⟨Bk.new _ _ _,hb.size⟩ )
   have HS:=Lib.hid (hg.alloc (.cells #[.int .u32 0] 126))
   go_simp
   refine hK.out _ _ ⟨HS.out.cell 0,HS.out.cell 1,HS.out.cell 2,HS.out.cell 3⟩ (fun _=>?_)
   exact HX.out
 have st1358:Hid (∀ (wk:World) (A1:Option Addr) (c1:Nat) (A2:Option Addr) (c2:Nat) (z:Nat) (g3:Nat),Bk wk gg 24 #[.int .i64 t,.int .i64 (N:Int),.int .i64 s,.slice A len c]→Bl w0 wk→(wk.ownsRow w0.heap.size 73 2 (.slice A1 N c1) N (fcRow (fz (Rk.ranks true ps N))))→(wk.ownsRow w0.heap.size 73 2 (.slice A2 N c2) N (fcRow (fz (Rc.reach ps N s.toNat))))→(SetTo ⟨t,(N:Int),s,ps⟩ z N)→(Bk wk g3 126 #[.int .u32 0]∧w0.heap.size≤g3)→W 5 #[true,true,true,true,true,true,false,false,true,false,false,false] { tmps:=#[a0,.pointer (some ⟨gg,0,none⟩),a2,a3,a4,.pointer (some ⟨g3,0,none⟩),.agg #[.int .i64 t,.int .i64 (N:Int),.int .i64 s,.slice A len c],.slice A1 N c1,.agg #[.int .i64 t,.int .i64 (N:Int),.int .i64 s,.slice A len c],.slice A2 N c2,.agg #[.int .i64 t,.int .i64 (N:Int),.int .i64 s,.slice A len c],.int .u32 (z:Int),a12,a13,a14,a15,a16,a17,a18],defers:=[] } wk):=by
  intro wk A1 c1 A2 c2 z g3 hg hb ho hp2 hz hn
  subst hW
  have hHeld:=(⟨hg.cell 0,hg.cell 1,hg.cell 2,hg.cell 3⟩:wk.cell? ⟨gg,0,none⟩=some (.int .i64 t)∧wk.cell? ⟨gg,1,none⟩=some (.int .i64 (N:Int))∧wk.cell? ⟨gg,2,none⟩=some (.int .i64 s)∧wk.cell? ⟨gg,3,none⟩=some (.slice A len c))
  refine wpAnyH_ready (rs:=[6,7]) (by kernel_rfl) (by simp) ?_
  refine (AllReadyH.cons (o:=({ dst:=some 3,op:=Op.alloc 70,type:=0,pos:="sound.go:35",after:=#[],guard:=none }:Oper)) rfl (fun K hK=>?_) (AllReadyH.cons (o:=({ dst:=some 4,op:=Op.alloc 70,type:=0,pos:="sound.go:35",after:=#[],guard:=none }:Oper)) rfl (fun K hK=>?_) AllReadyH.nil))
  ·have HX:=Lib.hid (st13568.out (wk.alloc (.cells #[.slice none 0 0] 70)) A1 c1 A2 c2 z wk.heap.size g3 (hg.alloc _) (hb.alloc _) (ho.alloc _) (hp2.alloc _) hz ⟨Bk.new _ _ _,hb.size⟩ ⟨hn.1.alloc _,hn.2⟩ )
   have HS:=Lib.hid (hg.alloc (.cells #[.slice none 0 0] 70))
   go_simp
   refine hK.out _ _ ⟨HS.out.cell 0,HS.out.cell 1,HS.out.cell 2,HS.out.cell 3⟩ (fun _=>?_)
   exact HX.out
  ·have HX:=Lib.hid (st13578.out (wk.alloc (.cells #[.slice none 0 0] 70)) A1 c1 A2 c2 z wk.heap.size g3 (hg.alloc _) (hb.alloc _) (ho.alloc _) (hp2.alloc _) hz ⟨Bk.new _ _ _,hb.size⟩ ⟨hn.1.alloc _,hn.2⟩ )
   have HS:=Lib.hid (hg.alloc (.cells #[.slice none 0 0] 70))
   go_simp
   refine hK.out _ _ ⟨HS.out.cell 0,HS.out.cell 1,HS.out.cell 2,HS.out.cell 3⟩ (fun _=>?_)
   exact HX.out
 have st1367:Hid (∀ (wk:World) (A1:Option Addr) (c1:Nat) (A2:Option Addr) (c2:Nat) (g1:Nat) (g2:Nat),Bk wk gg 24 #[.int .i64 t,.int .i64 (N:Int),.int .i64 s,.slice A len c]→Bl w0 wk→(wk.ownsRow w0.heap.size 73 2 (.slice A1 N c1) N (fcRow (fz (Rk.ranks true ps N))))→(wk.ownsRow w0.heap.size 73 2 (.slice A2 N c2) N (fcRow (fz (Rc.reach ps N s.toNat))))→(Bk wk g1 70 #[.slice none 0 0]∧w0.heap.size≤g1)→(Bk wk g2 70 #[.slice none 0 0]∧w0.heap.size≤g2)→g1≠g2→W 5 #[true,true,true,true,true,false,true,true,false,false,false,false] { tmps:=#[a0,.pointer (some ⟨gg,0,none⟩),a2,.pointer (some ⟨g1,0,none⟩),.pointer (some ⟨g2,0,none⟩),a5,.agg #[.int .i64 t,.int .i64 (N:Int),.int .i64 s,.slice A len c],.slice A1 N c1,.agg #[.int .i64 t,.int .i64 (N:Int),.int .i64 s,.slice A len c],.slice A2 N c2,.agg #[.int .i64 t,.int .i64 (N:Int),.int .i64 s,.slice A len c],a11,a12,a13,a14,a15,a16,a17,a18],defers:=[] } wk):=by
  intro wk A1 c1 A2 c2 g1 g2 hg hb ho hp2 hl hm hne
  subst hW
  have hHeld:=(⟨hg.cell 0,hg.cell 1,hg.cell 2,hg.cell 3⟩:wk.cell? ⟨gg,0,none⟩=some (.int .i64 t)∧wk.cell? ⟨gg,1,none⟩=some (.int .i64 (N:Int))∧wk.cell? ⟨gg,2,none⟩=some (.int .i64 s)∧wk.cell? ⟨gg,3,none⟩=some (.slice A len c))
  refine wpAnyH_ready (rs:=[5,8]) (by kernel_rfl) (by simp) ?_
  refine (AllReadyH.cons (o:=({ dst:=some 11,op:=Op.call { callee:=Callee.value (Operand.func 79),args:=#[Operand.tmp 10],argTypes:=#[24] },type:=126,pos:="sound.go:35",after:=#[{ on:=4,ground:=Ground.data },{ on:=3,ground:=Ground.chain }],guard:=none }:Oper)) rfl (fun K hK=>?_) (AllReadyH.cons (o:=({ dst:=some 5,op:=Op.alloc 126,type:=0,pos:="sound.go:35",after:=#[],guard:=none }:Oper)) rfl (fun K hK=>?_) AllReadyH.nil))
  ·go_simp
   refine (recursive_any t N s A len c ps _ B HL.out hlx (HPr.out _ hb) (HSz.out _ hb) HOK.out).mono ?_
   rintro e v1 ⟨y,rfl,hy,hb1⟩
   have hg':=hg.bl hb1
   have HX:=Lib.hid (st13567.out v1 A1 c1 A2 c2 y g1 g2 hg' (hb.trans hb1) (own_bl ho hb1) (own_bl hp2 hb1) hy ⟨hl.1.bl hb1,hl.2⟩ ⟨hm.1.bl hb1,hm.2⟩ hne)
   have HS:=Lib.hid hg'
   clear hg' hy hb1
   go_wp2_with fail
   refine hK.out _ _ ⟨HS.out.cell 0,HS.out.cell 1,HS.out.cell 2,HS.out.cell 3⟩ (fun _=>?_)
   exact HX.out
  ·have HX:=Lib.hid (st13678.out (wk.alloc (.cells #[.int .u32 0] 126)) A1 c1 A2 c2 g1 g2 wk.heap.size (hg.alloc _) (hb.alloc _) (ho.alloc _) (hp2.alloc _) ⟨hl.1.alloc _,hl.2⟩ ⟨hm.1.alloc _,hm.2⟩ ⟨Bk.new _ _ _,hb.size⟩ hne)
   have HS:=Lib.hid (hg.alloc (.cells #[.int .u32 0] 126))
   go_simp
   refine hK.out _ _ ⟨HS.out.cell 0,HS.out.cell 1,HS.out.cell 2,HS.out.cell 3⟩ (fun _=>?_)
   exact HX.out
 have st1368:Hid (∀ (wk:World) (A1:Option Addr) (c1:Nat) (A2:Option Addr) (c2:Nat) (g1:Nat) (g3:Nat),Bk wk gg 24 #[.int .i64 t,.int .i64 (N:Int),.int .i64 s,.slice A len c]→Bl w0 wk→(wk.ownsRow w0.heap.size 73 2 (.slice A1 N c1) N (fcRow (fz (Rk.ranks true ps N))))→(wk.ownsRow w0.heap.size 73 2 (.slice A2 N c2) N (fcRow (fz (Rc.reach ps N s.toNat))))→(Bk wk g1 70 #[.slice none 0 0]∧w0.heap.size≤g1)→(Bk wk g3 126 #[.int .u32 0]∧w0.heap.size≤g3)→W 5 #[true,true,true,true,true,false,true,false,true,false,false,false] { tmps:=#[a0,.pointer (some ⟨gg,0,none⟩),a2,.pointer (some ⟨g1,0,none⟩),a4,.pointer (some ⟨g3,0,none⟩),.agg #[.int .i64 t,.int .i64 (N:Int),.int .i64 s,.slice A len c],.slice A1 N c1,.agg #[.int .i64 t,.int .i64 (N:Int),.int .i64 s,.slice A len c],.slice A2 N c2,.agg #[.int .i64 t,.int .i64 (N:Int),.int .i64 s,.slice A len c],a11,a12,a13,a14,a15,a16,a17,a18],defers:=[] } wk):=by
  intro wk A1 c1 A2 c2 g1 g3 hg hb ho hp2 hl hn
  subst hW
  have hHeld:=(⟨hg.cell 0,hg.cell 1,hg.cell 2,hg.cell 3⟩:wk.cell? ⟨gg,0,none⟩=some (.int .i64 t)∧wk.cell? ⟨gg,1,none⟩=some (.int .i64 (N:Int))∧wk.cell? ⟨gg,2,none⟩=some (.int .i64 s)∧wk.cell? ⟨gg,3,none⟩=some (.slice A len c))
  refine wpAnyH_ready (rs:=[5,7]) (by kernel_rfl) (by simp) ?_
  refine (AllReadyH.cons (o:=({ dst:=some 11,op:=Op.call { callee:=Callee.value (Operand.func 79),args:=#[Operand.tmp 10],argTypes:=#[24] },type:=126,pos:="sound.go:35",after:=#[{ on:=4,ground:=Ground.data },{ on:=3,ground:=Ground.chain }],guard:=none }:Oper)) rfl (fun K hK=>?_) (AllReadyH.cons (o:=({ dst:=some 4,op:=Op.alloc 70,type:=0,pos:="sound.go:35",after:=#[],guard:=none }:Oper)) rfl (fun K hK=>?_) AllReadyH.nil))
  ·go_simp
   refine (recursive_any t N s A len c ps _ B HL.out hlx (HPr.out _ hb) (HSz.out _ hb) HOK.out).mono ?_
   rintro e v1 ⟨y,rfl,hy,hb1⟩
   have hg':=hg.bl hb1
   have HX:=Lib.hid (st13568.out v1 A1 c1 A2 c2 y g1 g3 hg' (hb.trans hb1) (own_bl ho hb1) (own_bl hp2 hb1) hy ⟨hl.1.bl hb1,hl.2⟩ ⟨hn.1.bl hb1,hn.2⟩ )
   have HS:=Lib.hid hg'
   clear hg' hy hb1
   go_wp2_with fail
   refine hK.out _ _ ⟨HS.out.cell 0,HS.out.cell 1,HS.out.cell 2,HS.out.cell 3⟩ (fun _=>?_)
   exact HX.out
  ·have HX:=Lib.hid (st13678.out (wk.alloc (.cells #[.slice none 0 0] 70)) A1 c1 A2 c2 g1 wk.heap.size g3 (hg.alloc _) (hb.alloc _) (ho.alloc _) (hp2.alloc _) ⟨hl.1.alloc _,hl.2⟩ ⟨Bk.new _ _ _,hb.size⟩ ⟨hn.1.alloc _,hn.2⟩ (Nat.ne_of_lt hl.1.lt))
   have HS:=Lib.hid (hg.alloc (.cells #[.slice none 0 0] 70))
   go_simp
   refine hK.out _ _ ⟨HS.out.cell 0,HS.out.cell 1,HS.out.cell 2,HS.out.cell 3⟩ (fun _=>?_)
   exact HX.out
 have st1378:Hid (∀ (wk:World) (A1:Option Addr) (c1:Nat) (A2:Option Addr) (c2:Nat) (g2:Nat) (g3:Nat),Bk wk gg 24 #[.int .i64 t,.int .i64 (N:Int),.int .i64 s,.slice A len c]→Bl w0 wk→(wk.ownsRow w0.heap.size 73 2 (.slice A1 N c1) N (fcRow (fz (Rk.ranks true ps N))))→(wk.ownsRow w0.heap.size 73 2 (.slice A2 N c2) N (fcRow (fz (Rc.reach ps N s.toNat))))→(Bk wk g2 70 #[.slice none 0 0]∧w0.heap.size≤g2)→(Bk wk g3 126 #[.int .u32 0]∧w0.heap.size≤g3)→W 5 #[true,true,true,true,true,false,false,true,true,false,false,false] { tmps:=#[a0,.pointer (some ⟨gg,0,none⟩),a2,a3,.pointer (some ⟨g2,0,none⟩),.pointer (some ⟨g3,0,none⟩),.agg #[.int .i64 t,.int .i64 (N:Int),.int .i64 s,.slice A len c],.slice A1 N c1,.agg #[.int .i64 t,.int .i64 (N:Int),.int .i64 s,.slice A len c],.slice A2 N c2,.agg #[.int .i64 t,.int .i64 (N:Int),.int .i64 s,.slice A len c],a11,a12,a13,a14,a15,a16,a17,a18],defers:=[] } wk):=by
  intro wk A1 c1 A2 c2 g2 g3 hg hb ho hp2 hm hn
  subst hW
  have hHeld:=(⟨hg.cell 0,hg.cell 1,hg.cell 2,hg.cell 3⟩:wk.cell? ⟨gg,0,none⟩=some (.int .i64 t)∧wk.cell? ⟨gg,1,none⟩=some (.int .i64 (N:Int))∧wk.cell? ⟨gg,2,none⟩=some (.int .i64 s)∧wk.cell? ⟨gg,3,none⟩=some (.slice A len c))
  refine wpAnyH_ready (rs:=[5,6]) (by kernel_rfl) (by simp) ?_
  refine (AllReadyH.cons (o:=({ dst:=some 11,op:=Op.call { callee:=Callee.value (Operand.func 79),args:=#[Operand.tmp 10],argTypes:=#[24] },type:=126,pos:="sound.go:35",after:=#[{ on:=4,ground:=Ground.data },{ on:=3,ground:=Ground.chain }],guard:=none }:Oper)) rfl (fun K hK=>?_) (AllReadyH.cons (o:=({ dst:=some 3,op:=Op.alloc 70,type:=0,pos:="sound.go:35",after:=#[],guard:=none }:Oper)) rfl (fun K hK=>?_) AllReadyH.nil))
  ·go_simp
   refine (recursive_any t N s A len c ps _ B HL.out hlx (HPr.out _ hb) (HSz.out _ hb) HOK.out).mono ?_
   rintro e v1 ⟨y,rfl,hy,hb1⟩
   have hg':=hg.bl hb1
   have HX:=Lib.hid (st13578.out v1 A1 c1 A2 c2 y g2 g3 hg' (hb.trans hb1) (own_bl ho hb1) (own_bl hp2 hb1) hy ⟨hm.1.bl hb1,hm.2⟩ ⟨hn.1.bl hb1,hn.2⟩ )
   have HS:=Lib.hid hg'
   clear hg' hy hb1
   go_wp2_with fail
   refine hK.out _ _ ⟨HS.out.cell 0,HS.out.cell 1,HS.out.cell 2,HS.out.cell 3⟩ (fun _=>?_)
   exact HX.out
  ·have HX:=Lib.hid (st13678.out (wk.alloc (.cells #[.slice none 0 0] 70)) A1 c1 A2 c2 wk.heap.size g2 g3 (hg.alloc _) (hb.alloc _) (ho.alloc _) (hp2.alloc _) ⟨Bk.new _ _ _,hb.size⟩ ⟨hm.1.alloc _,hm.2⟩ ⟨hn.1.alloc _,hn.2⟩ (Nat.ne_of_gt hm.1.lt))
   have HS:=Lib.hid (hg.alloc (.cells #[.slice none 0 0] 70))
   go_simp
   refine hK.out _ _ ⟨HS.out.cell 0,HS.out.cell 1,HS.out.cell 2,HS.out.cell 3⟩ (fun _=>?_)
   exact HX.out
 have st1678:Hid (∀ (wk:World) (A1:Option Addr) (c1:Nat) (g1:Nat) (g2:Nat) (g3:Nat),Bk wk gg 24 #[.int .i64 t,.int .i64 (N:Int),.int .i64 s,.slice A len c]→Bl w0 wk→(wk.ownsRow w0.heap.size 73 2 (.slice A1 N c1) N (fcRow (fz (Rk.ranks true ps N))))→(Bk wk g1 70 #[.slice none 0 0]∧w0.heap.size≤g1)→(Bk wk g2 70 #[.slice none 0 0]∧w0.heap.size≤g2)→(Bk wk g3 126 #[.int .u32 0]∧w0.heap.size≤g3)→g1≠g2→W 5 #[true,true,true,false,true,false,true,true,true,false,false,false] { tmps:=#[a0,.pointer (some ⟨gg,0,none⟩),a2,.pointer (some ⟨g1,0,none⟩),.pointer (some ⟨g2,0,none⟩),.pointer (some ⟨g3,0,none⟩),.agg #[.int .i64 t,.int .i64 (N:Int),.int .i64 s,.slice A len c],.slice A1 N c1,.agg #[.int .i64 t,.int .i64 (N:Int),.int .i64 s,.slice A len c],a9,.agg #[.int .i64 t,.int .i64 (N:Int),.int .i64 s,.slice A len c],a11,a12,a13,a14,a15,a16,a17,a18],defers:=[] } wk):=by
  intro wk A1 c1 g1 g2 g3 hg hb ho hl hm hn hne
  subst hW
  have hHeld:=(⟨hg.cell 0,hg.cell 1,hg.cell 2,hg.cell 3⟩:wk.cell? ⟨gg,0,none⟩=some (.int .i64 t)∧wk.cell? ⟨gg,1,none⟩=some (.int .i64 (N:Int))∧wk.cell? ⟨gg,2,none⟩=some (.int .i64 s)∧wk.cell? ⟨gg,3,none⟩=some (.slice A len c))
  refine wpAnyH_ready (rs:=[3]) (by kernel_rfl) (by simp) ?_
  refine (AllReadyH.cons (o:=({ dst:=some 9,op:=Op.call { callee:=Callee.value (Operand.func 78),args:=#[Operand.tmp 8],argTypes:=#[24] },type:=70,pos:="sound.go:35",after:=#[{ on:=2,ground:=Ground.data },{ on:=1,ground:=Ground.chain }],guard:=none }:Oper)) rfl (fun K hK=>?_) AllReadyH.nil)
  ·go_simp
   refine (reach_new t N s A len c ps _ B HL.out hlx (HPr.out _ hb) (HSz.out _ hb)).mono ?_
   intro e v1 h1
   obtain ⟨A9,c9,he1,ho1,hb1⟩:=h1.lit (k:=N) HRe.out (by rw [fz_len];exact HEl.out)
   subst he1
   have hg':=hg.bl hb1
   have HO1:=Lib.hid (own_base (b':=w0.heap.size) ho1 fun k hk=>Nat.le_trans hb.size (ho1.lt k hk).1)
   have HX:=Lib.hid (st13678.out v1 A1 c1 A9 c9 g1 g2 g3 hg' (hb.trans hb1) (own_bl ho hb1) HO1.out ⟨hl.1.bl hb1,hl.2⟩ ⟨hm.1.bl hb1,hm.2⟩ ⟨hn.1.bl hb1,hn.2⟩ hne)
   have HS:=Lib.hid hg'
   clear hg' ho1 hb1 h1
   go_wp2_with fail
   refine hK.out _ _ ⟨HS.out.cell 0,HS.out.cell 1,HS.out.cell 2,HS.out.cell 3⟩ (fun _=>?_)
   exact HX.out
 have st135:Hid (∀ (wk:World) (A1:Option Addr) (c1:Nat) (A2:Option Addr) (c2:Nat) (z:Nat),Bk wk gg 24 #[.int .i64 t,.int .i64 (N:Int),.int .i64 s,.slice A len c]→Bl w0 wk→(wk.ownsRow w0.heap.size 73 2 (.slice A1 N c1) N (fcRow (fz (Rk.ranks true ps N))))→(wk.ownsRow w0.heap.size 73 2 (.slice A2 N c2) N (fcRow (fz (Rc.reach ps N s.toNat))))→(SetTo ⟨t,(N:Int),s,ps⟩ z N)→W 6 #[true,true,true,true,true,true,false,false,false,false,false,false] { tmps:=#[a0,.pointer (some ⟨gg,0,none⟩),a2,a3,a4,a5,.agg #[.int .i64 t,.int .i64 (N:Int),.int .i64 s,.slice A len c],.slice A1 N c1,.agg #[.int .i64 t,.int .i64 (N:Int),.int .i64 s,.slice A len c],.slice A2 N c2,.agg #[.int .i64 t,.int .i64 (N:Int),.int .i64 s,.slice A len c],.int .u32 (z:Int),a12,a13,a14,a15,a16,a17,a18],defers:=[] } wk):=by
  intro wk A1 c1 A2 c2 z hg hb ho hp2 hz
  subst hW
  have hHeld:=(⟨hg.cell 0,hg.cell 1,hg.cell 2,hg.cell 3⟩:wk.cell? ⟨gg,0,none⟩=some (.int .i64 t)∧wk.cell? ⟨gg,1,none⟩=some (.int .i64 (N:Int))∧wk.cell? ⟨gg,2,none⟩=some (.int .i64 s)∧wk.cell? ⟨gg,3,none⟩=some (.slice A len c))
  refine wpAnyH_ready (rs:=[6,7,8]) (by kernel_rfl) (by simp) ?_
  refine (AllReadyH.cons (o:=({ dst:=some 3,op:=Op.alloc 70,type:=0,pos:="sound.go:35",after:=#[],guard:=none }:Oper)) rfl (fun K hK=>?_) (AllReadyH.cons (o:=({ dst:=some 4,op:=Op.alloc 70,type:=0,pos:="sound.go:35",after:=#[],guard:=none }:Oper)) rfl (fun K hK=>?_) (AllReadyH.cons (o:=({ dst:=some 5,op:=Op.alloc 126,type:=0,pos:="sound.go:35",after:=#[],guard:=none }:Oper)) rfl (fun K hK=>?_) AllReadyH.nil)))
  ·have HX:=Lib.hid (st1356.out (wk.alloc (.cells #[.slice none 0 0] 70)) A1 c1 A2 c2 z wk.heap.size (hg.alloc _) (hb.alloc _) (ho.alloc _) (hp2.alloc _) hz ⟨Bk.new _ _ _,hb.size⟩ )
   have HS:=Lib.hid (hg.alloc (.cells #[.slice none 0 0] 70))
   go_simp
   refine hK.out _ _ ⟨HS.out.cell 0,HS.out.cell 1,HS.out.cell 2,HS.out.cell 3⟩ (fun _=>?_)
   exact HX.out
  ·have HX:=Lib.hid (st1357.out (wk.alloc (.cells #[.slice none 0 0] 70)) A1 c1 A2 c2 z wk.heap.size (hg.alloc _) (hb.alloc _) (ho.alloc _) (hp2.alloc _) hz ⟨Bk.new _ _ _,hb.size⟩ )
   have HS:=Lib.hid (hg.alloc (.cells #[.slice none 0 0] 70))
   go_simp
   refine hK.out _ _ ⟨HS.out.cell 0,HS.out.cell 1,HS.out.cell 2,HS.out.cell 3⟩ (fun _=>?_)
   exact HX.out
  ·have HX:=Lib.hid (st1358.out (wk.alloc (.cells #[.int .u32 0] 126)) A1 c1 A2 c2 z wk.heap.size (hg.alloc _) (hb.alloc _) (ho.alloc _) (hp2.alloc _) hz ⟨Bk.new _ _ _,hb.size⟩ )
   have HS:=Lib.hid (hg.alloc (.cells #[.int .u32 0] 126))
   go_simp
   refine hK.out _ _ ⟨HS.out.cell 0,HS.out.cell 1,HS.out.cell 2,HS.out.cell 3⟩ (fun _=>?_)
   exact HX.out
 have st136:Hid (∀ (wk:World) (A1:Option Addr) (c1:Nat) (A2:Option Addr) (c2:Nat) (g1:Nat),Bk wk gg 24 #[.int .i64 t,.int .i64 (N:Int),.int .i64 s,.slice A len c]→Bl w0 wk→(wk.ownsRow w0.heap.size 73 2 (.slice A1 N c1) N (fcRow (fz (Rk.ranks true ps N))))→(wk.ownsRow w0.heap.size 73 2 (.slice A2 N c2) N (fcRow (fz (Rc.reach ps N s.toNat))))→(Bk wk g1 70 #[.slice none 0 0]∧w0.heap.size≤g1)→W 6 #[true,true,true,true,true,false,true,false,false,false,false,false] { tmps:=#[a0,.pointer (some ⟨gg,0,none⟩),a2,.pointer (some ⟨g1,0,none⟩),a4,a5,.agg #[.int .i64 t,.int .i64 (N:Int),.int .i64 s,.slice A len c],.slice A1 N c1,.agg #[.int .i64 t,.int .i64 (N:Int),.int .i64 s,.slice A len c],.slice A2 N c2,.agg #[.int .i64 t,.int .i64 (N:Int),.int .i64 s,.slice A len c],a11,a12,a13,a14,a15,a16,a17,a18],defers:=[] } wk):=by
  intro wk A1 c1 A2 c2 g1 hg hb ho hp2 hl
  subst hW
  have hHeld:=(⟨hg.cell 0,hg.cell 1,hg.cell 2,hg.cell 3⟩:wk.cell? ⟨gg,0,none⟩=some (.int .i64 t)∧wk.cell? ⟨gg,1,none⟩=some (.int .i64 (N:Int))∧wk.cell? ⟨gg,2,none⟩=some (.int .i64 s)∧wk.cell? ⟨gg,3,none⟩=some (.slice A len c))
  refine wpAnyH_ready (rs:=[5,7,8]) (by kernel_rfl) (by simp) ?_
  refine (AllReadyH.cons (o:=({ dst:=some 11,op:=Op.call { callee:=Callee.value (Operand.func 79),args:=#[Operand.tmp 10],argTypes:=#[24] },type:=126,pos:="sound.go:35",after:=#[{ on:=4,ground:=Ground.data },{ on:=3,ground:=Ground.chain }],guard:=none }:Oper)) rfl (fun K hK=>?_) (AllReadyH.cons (o:=({ dst:=some 4,op:=Op.alloc 70,type:=0,pos:="sound.go:35",after:=#[],guard:=none }:Oper)) rfl (fun K hK=>?_) (AllReadyH.cons (o:=({ dst:=some 5,op:=Op.alloc 126,type:=0,pos:="sound.go:35",after:=#[],guard:=none }:Oper)) rfl (fun K hK=>?_) AllReadyH.nil)))
  ·go_simp
   refine (recursive_any t N s A len c ps _ B HL.out hlx (HPr.out _ hb) (HSz.out _ hb) HOK.out).mono ?_
   rintro e v1 ⟨y,rfl,hy,hb1⟩
   have hg':=hg.bl hb1
   have HX:=Lib.hid (st1356.out v1 A1 c1 A2 c2 y g1 hg' (hb.trans hb1) (own_bl ho hb1) (own_bl hp2 hb1) hy ⟨hl.1.bl hb1,hl.2⟩ )
   have HS:=Lib.hid hg'
   clear hg' hy hb1
   go_wp2_with fail
   refine hK.out _ _ ⟨HS.out.cell 0,HS.out.cell 1,HS.out.cell 2,HS.out.cell 3⟩ (fun _=>?_)
   exact HX.out
  ·have HX:=Lib.hid (st1367.out (wk.alloc (.cells #[.slice none 0 0] 70)) A1 c1 A2 c2 g1 wk.heap.size (hg.alloc _) (hb.alloc _) (ho.alloc _) (hp2.alloc _) ⟨hl.1.alloc _,hl.2⟩ ⟨Bk.new _ _ _,hb.size⟩ (Nat.ne_of_lt hl.1.lt))
   have HS:=Lib.hid (hg.alloc (.cells #[.slice none 0 0] 70))
   go_simp
   refine hK.out _ _ ⟨HS.out.cell 0,HS.out.cell 1,HS.out.cell 2,HS.out.cell 3⟩ (fun _=>?_)
   exact HX.out
  ·have HX:=Lib.hid (st1368.out (wk.alloc (.cells #[.int .u32 0] 126)) A1 c1 A2 c2 g1 wk.heap.size (hg.alloc _) (hb.alloc _) (ho.alloc _) (hp2.alloc _) ⟨hl.1.alloc _,hl.2⟩ ⟨Bk.new _ _ _,hb.size⟩ )
   have HS:=Lib.hid (hg.alloc (.cells #[.int .u32 0] 126))
   go_simp
   refine hK.out _ _ ⟨HS.out.cell 0,HS.out.cell 1,HS.out.cell 2,HS.out.cell 3⟩ (fun _=>?_)
   exact HX.out
 have st137:Hid (∀ (wk:World) (A1:Option Addr) (c1:Nat) (A2:Option Addr) (c2:Nat) (g2:Nat),Bk wk gg 24 #[.int .i64 t,.int .i64 (N:Int),.int .i64 s,.slice A len c]→Bl w0 wk→(wk.ownsRow w0.heap.size 73 2 (.slice A1 N c1) N (fcRow (fz (Rk.ranks true ps N))))→(wk.ownsRow w0.heap.size 73 2 (.slice A2 N c2) N (fcRow (fz (Rc.reach ps N s.toNat))))→(Bk wk g2 70 #[.slice none 0 0]∧w0.heap.size≤g2)→W 6 #[true,true,true,true,true,false,false,true,false,false,false,false] { tmps:=#[a0,.pointer (some ⟨gg,0,none⟩),a2,a3,.pointer (some ⟨g2,0,none⟩),a5,.agg #[.int .i64 t,.int .i64 (N:Int),.int .i64 s,.slice A len c],.slice A1 N c1,.agg #[.int .i64 t,.int .i64 (N:Int),.int .i64 s,.slice A len c],.slice A2 N c2,.agg #[.int .i64 t,.int .i64 (N:Int),.int .i64 s,.slice A len c],a11,a12,a13,a14,a15,a16,a17,a18],defers:=[] } wk):=by
  intro wk A1 c1 A2 c2 g2 hg hb ho hp2 hm
  subst hW
  have hHeld:=(⟨hg.cell 0,hg.cell 1,hg.cell 2,hg.cell 3⟩:wk.cell? ⟨gg,0,none⟩=some (.int .i64 t)∧wk.cell? ⟨gg,1,none⟩=some (.int .i64 (N:Int))∧wk.cell? ⟨gg,2,none⟩=some (.int .i64 s)∧wk.cell? ⟨gg,3,none⟩=some (.slice A len c))
  refine wpAnyH_ready (rs:=[5,6,8]) (by kernel_rfl) (by simp) ?_
  refine (AllReadyH.cons (o:=({ dst:=some 11,op:=Op.call { callee:=Callee.value (Operand.func 79),args:=#[Operand.tmp 10],argTypes:=#[24] },type:=126,pos:="sound.go:35",after:=#[{ on:=4,ground:=Ground.data },{ on:=3,ground:=Ground.chain }],guard:=none }:Oper)) rfl (fun K hK=>?_) (AllReadyH.cons (o:=({ dst:=some 3,op:=Op.alloc 70,type:=0,pos:="sound.go:35",after:=#[],guard:=none }:Oper)) rfl (fun K hK=>?_) (AllReadyH.cons (o:=({ dst:=some 5,op:=Op.alloc 126,type:=0,pos:="sound.go:35",after:=#[],guard:=none }:Oper)) rfl (fun K hK=>?_) AllReadyH.nil)))
  ·go_simp
   refine (recursive_any t N s A len c ps _ B HL.out hlx (HPr.out _ hb) (HSz.out _ hb) HOK.out).mono ?_
   rintro e v1 ⟨y,rfl,hy,hb1⟩
   have hg':=hg.bl hb1
   have HX:=Lib.hid (st1357.out v1 A1 c1 A2 c2 y g2 hg' (hb.trans hb1) (own_bl ho hb1) (own_bl hp2 hb1) hy ⟨hm.1.bl hb1,hm.2⟩ )
   have HS:=Lib.hid hg'
   clear hg' hy hb1
   go_wp2_with fail
   refine hK.out _ _ ⟨HS.out.cell 0,HS.out.cell 1,HS.out.cell 2,HS.out.cell 3⟩ (fun _=>?_)
   exact HX.out
  ·have HX:=Lib.hid (st1367.out (wk.alloc (.cells #[.slice none 0 0] 70)) A1 c1 A2 c2 wk.heap.size g2 (hg.alloc _) (hb.alloc _) (ho.alloc _) (hp2.alloc _) ⟨Bk.new _ _ _,hb.size⟩ ⟨hm.1.alloc _,hm.2⟩ (Nat.ne_of_gt hm.1.lt))
   have HS:=Lib.hid (hg.alloc (.cells #[.slice none 0 0] 70))
   go_simp
   refine hK.out _ _ ⟨HS.out.cell 0,HS.out.cell 1,HS.out.cell 2,HS.out.cell 3⟩ (fun _=>?_)
   exact HX.out
  ·have HX:=Lib.hid (st1378.out (wk.alloc (.cells #[.int .u32 0] 126)) A1 c1 A2 c2 g2 wk.heap.size (hg.alloc _) (hb.alloc _) (ho.alloc _) (hp2.alloc _) ⟨hm.1.alloc _,hm.2⟩ ⟨Bk.new _ _ _,hb.size⟩ )
   have HS:=Lib.hid (hg.alloc (.cells #[.int .u32 0] 126))
   go_simp
   refine hK.out _ _ ⟨HS.out.cell 0,HS.out.cell 1,HS.out.cell 2,HS.out.cell 3⟩ (fun _=>?_)
   exact HX.out
 have st138:Hid (∀ (wk:World) (A1:Option Addr) (c1:Nat) (A2:Option Addr) (c2:Nat) (g3:Nat),Bk wk gg 24 #[.int .i64 t,.int .i64 (N:Int),.int .i64 s,.slice A len c]→Bl w0 wk→(wk.ownsRow w0.heap.size 73 2 (.slice A1 N c1) N (fcRow (fz (Rk.ranks true ps N))))→(wk.ownsRow w0.heap.size 73 2 (.slice A2 N c2) N (fcRow (fz (Rc.reach ps N s.toNat))))→(Bk wk g3 126 #[.int .u32 0]∧w0.heap.size≤g3)→W 6 #[true,true,true,true,true,false,false,false,true,false,false,false] { tmps:=#[a0,.pointer (some ⟨gg,0,none⟩),a2,a3,a4,.pointer (some ⟨g3,0,none⟩),.agg #[.int .i64 t,.int .i64 (N:Int),.int .i64 s,.slice A len c],.slice A1 N c1,.agg #[.int .i64 t,.int .i64 (N:Int),.int .i64 s,.slice A len c],.slice A2 N c2,.agg #[.int .i64 t,.int .i64 (N:Int),.int .i64 s,.slice A len c],a11,a12,a13,a14,a15,a16,a17,a18],defers:=[] } wk):=by
  intro wk A1 c1 A2 c2 g3 hg hb ho hp2 hn
  subst hW
  have hHeld:=(⟨hg.cell 0,hg.cell 1,hg.cell 2,hg.cell 3⟩:wk.cell? ⟨gg,0,none⟩=some (.int .i64 t)∧wk.cell? ⟨gg,1,none⟩=some (.int .i64 (N:Int))∧wk.cell? ⟨gg,2,none⟩=some (.int .i64 s)∧wk.cell? ⟨gg,3,none⟩=some (.slice A len c))
  refine wpAnyH_ready (rs:=[5,6,7]) (by kernel_rfl) (by simp) ?_
  refine (AllReadyH.cons (o:=({ dst:=some 11,op:=Op.call { callee:=Callee.value (Operand.func 79),args:=#[Operand.tmp 10],argTypes:=#[24] },type:=126,pos:="sound.go:35",after:=#[{ on:=4,ground:=Ground.data },{ on:=3,ground:=Ground.chain }],guard:=none }:Oper)) rfl (fun K hK=>?_) (AllReadyH.cons (o:=({ dst:=some 3,op:=Op.alloc 70,type:=0,pos:="sound.go:35",after:=#[],guard:=none }:Oper)) rfl (fun K hK=>?_) (AllReadyH.cons (o:=({ dst:=some 4,op:=Op.alloc 70,type:=0,pos:="sound.go:35",after:=#[],guard:=none }:Oper)) rfl (fun K hK=>?_) AllReadyH.nil)))
  ·go_simp
   refine (recursive_any t N s A len c ps _ B HL.out hlx (HPr.out _ hb) (HSz.out _ hb) HOK.out).mono ?_
   rintro e v1 ⟨y,rfl,hy,hb1⟩
   have hg':=hg.bl hb1
   have HX:=Lib.hid (st1358.out v1 A1 c1 A2 c2 y g3 hg' (hb.trans hb1) (own_bl ho hb1) (own_bl hp2 hb1) hy ⟨hn.1.bl hb1,hn.2⟩ )
   have HS:=Lib.hid hg'
   clear hg' hy hb1
   go_wp2_with fail
   refine hK.out _ _ ⟨HS.out.cell 0,HS.out.cell 1,HS.out.cell 2,HS.out.cell 3⟩ (fun _=>?_)
   exact HX.out
  ·have HX:=Lib.hid (st1368.out (wk.alloc (.cells #[.slice none 0 0] 70)) A1 c1 A2 c2 wk.heap.size g3 (hg.alloc _) (hb.alloc _) (ho.alloc _) (hp2.alloc _) ⟨Bk.new _ _ _,hb.size⟩ ⟨hn.1.alloc _,hn.2⟩ )
   have HS:=Lib.hid (hg.alloc (.cells #[.slice none 0 0] 70))
   go_simp
   refine hK.out _ _ ⟨HS.out.cell 0,HS.out.cell 1,HS.out.cell 2,HS.out.cell 3⟩ (fun _=>?_)
   exact HX.out
  ·have HX:=Lib.hid (st1378.out (wk.alloc (.cells #[.slice none 0 0] 70)) A1 c1 A2 c2 wk.heap.size g3 (hg.alloc _) (hb.alloc _) (ho.alloc _) (hp2.alloc _) ⟨Bk.new _ _ _,hb.size⟩ ⟨hn.1.alloc _,hn.2⟩ )
   have HS:=Lib.hid (hg.alloc (.cells #[.slice none 0 0] 70))
   go_simp
   refine hK.out _ _ ⟨HS.out.cell 0,HS.out.cell 1,HS.out.cell 2,HS.out.cell 3⟩ (fun _=>?_)
   exact HX.out
 have st167:Hid (∀ (wk:World) (A1:Option Addr) (c1:Nat) (g1:Nat) (g2:Nat),Bk wk gg 24 #[.int .i64 t,.int .i64 (N:Int),.int .i64 s,.slice A len c]→Bl w0 wk→(wk.ownsRow w0.heap.size 73 2 (.slice A1 N c1) N (fcRow (fz (Rk.ranks true ps N))))→(Bk wk g1 70 #[.slice none 0 0]∧w0.heap.size≤g1)→(Bk wk g2 70 #[.slice none 0 0]∧w0.heap.size≤g2)→g1≠g2→W 6 #[true,true,true,false,true,false,true,true,false,false,false,false] { tmps:=#[a0,.pointer (some ⟨gg,0,none⟩),a2,.pointer (some ⟨g1,0,none⟩),.pointer (some ⟨g2,0,none⟩),a5,.agg #[.int .i64 t,.int .i64 (N:Int),.int .i64 s,.slice A len c],.slice A1 N c1,.agg #[.int .i64 t,.int .i64 (N:Int),.int .i64 s,.slice A len c],a9,.agg #[.int .i64 t,.int .i64 (N:Int),.int .i64 s,.slice A len c],a11,a12,a13,a14,a15,a16,a17,a18],defers:=[] } wk):=by
  intro wk A1 c1 g1 g2 hg hb ho hl hm hne
  subst hW
  have hHeld:=(⟨hg.cell 0,hg.cell 1,hg.cell 2,hg.cell 3⟩:wk.cell? ⟨gg,0,none⟩=some (.int .i64 t)∧wk.cell? ⟨gg,1,none⟩=some (.int .i64 (N:Int))∧wk.cell? ⟨gg,2,none⟩=some (.int .i64 s)∧wk.cell? ⟨gg,3,none⟩=some (.slice A len c))
  refine wpAnyH_ready (rs:=[3,8]) (by kernel_rfl) (by simp) ?_
  refine (AllReadyH.cons (o:=({ dst:=some 9,op:=Op.call { callee:=Callee.value (Operand.func 78),args:=#[Operand.tmp 8],argTypes:=#[24] },type:=70,pos:="sound.go:35",after:=#[{ on:=2,ground:=Ground.data },{ on:=1,ground:=Ground.chain }],guard:=none }:Oper)) rfl (fun K hK=>?_) (AllReadyH.cons (o:=({ dst:=some 5,op:=Op.alloc 126,type:=0,pos:="sound.go:35",after:=#[],guard:=none }:Oper)) rfl (fun K hK=>?_) AllReadyH.nil))
  ·go_simp
   refine (reach_new t N s A len c ps _ B HL.out hlx (HPr.out _ hb) (HSz.out _ hb)).mono ?_
   intro e v1 h1
   obtain ⟨A9,c9,he1,ho1,hb1⟩:=h1.lit (k:=N) HRe.out (by rw [fz_len];exact HEl.out)
   subst he1
   have hg':=hg.bl hb1
   have HO1:=Lib.hid (own_base (b':=w0.heap.size) ho1 fun k hk=>Nat.le_trans hb.size (ho1.lt k hk).1)
   have HX:=Lib.hid (st1367.out v1 A1 c1 A9 c9 g1 g2 hg' (hb.trans hb1) (own_bl ho hb1) HO1.out ⟨hl.1.bl hb1,hl.2⟩ ⟨hm.1.bl hb1,hm.2⟩ hne)
   have HS:=Lib.hid hg'
   clear hg' ho1 hb1 h1
   go_wp2_with fail
   refine hK.out _ _ ⟨HS.out.cell 0,HS.out.cell 1,HS.out.cell 2,HS.out.cell 3⟩ (fun _=>?_)
   exact HX.out
  ·have HX:=Lib.hid (st1678.out (wk.alloc (.cells #[.int .u32 0] 126)) A1 c1 g1 g2 wk.heap.size (hg.alloc _) (hb.alloc _) (ho.alloc _) ⟨hl.1.alloc _,hl.2⟩ ⟨hm.1.alloc _,hm.2⟩ ⟨Bk.new _ _ _,hb.size⟩ hne)
   have HS:=Lib.hid (hg.alloc (.cells #[.int .u32 0] 126))
   go_simp
   refine hK.out _ _ ⟨HS.out.cell 0,HS.out.cell 1,HS.out.cell 2,HS.out.cell 3⟩ (fun _=>?_)
   exact HX.out
 have st168:Hid (∀ (wk:World) (A1:Option Addr) (c1:Nat) (g1:Nat) (g3:Nat),Bk wk gg 24 #[.int .i64 t,.int .i64 (N:Int),.int .i64 s,.slice A len c]→Bl w0 wk→(wk.ownsRow w0.heap.size 73 2 (.slice A1 N c1) N (fcRow (fz (Rk.ranks true ps N))))→(Bk wk g1 70 #[.slice none 0 0]∧w0.heap.size≤g1)→(Bk wk g3 126 #[.int .u32 0]∧w0.heap.size≤g3)→W 6 #[true,true,true,false,true,false,true,false,true,false,false,false] { tmps:=#[a0,.pointer (some ⟨gg,0,none⟩),a2,.pointer (some ⟨g1,0,none⟩),a4,.pointer (some ⟨g3,0,none⟩),.agg #[.int .i64 t,.int .i64 (N:Int),.int .i64 s,.slice A len c],.slice A1 N c1,.agg #[.int .i64 t,.int .i64 (N:Int),.int .i64 s,.slice A len c],a9,.agg #[.int .i64 t,.int .i64 (N:Int),.int .i64 s,.slice A len c],a11,a12,a13,a14,a15,a16,a17,a18],defers:=[] } wk):=by
  intro wk A1 c1 g1 g3 hg hb ho hl hn
  subst hW
  have hHeld:=(⟨hg.cell 0,hg.cell 1,hg.cell 2,hg.cell 3⟩:wk.cell? ⟨gg,0,none⟩=some (.int .i64 t)∧wk.cell? ⟨gg,1,none⟩=some (.int .i64 (N:Int))∧wk.cell? ⟨gg,2,none⟩=some (.int .i64 s)∧wk.cell? ⟨gg,3,none⟩=some (.slice A len c))
  refine wpAnyH_ready (rs:=[3,7]) (by kernel_rfl) (by simp) ?_
  refine (AllReadyH.cons (o:=({ dst:=some 9,op:=Op.call { callee:=Callee.value (Operand.func 78),args:=#[Operand.tmp 8],argTypes:=#[24] },type:=70,pos:="sound.go:35",after:=#[{ on:=2,ground:=Ground.data },{ on:=1,ground:=Ground.chain }],guard:=none }:Oper)) rfl (fun K hK=>?_) (AllReadyH.cons (o:=({ dst:=some 4,op:=Op.alloc 70,type:=0,pos:="sound.go:35",after:=#[],guard:=none }:Oper)) rfl (fun K hK=>?_) AllReadyH.nil))
  ·go_simp
   refine (reach_new t N s A len c ps _ B HL.out hlx (HPr.out _ hb) (HSz.out _ hb)).mono ?_
   intro e v1 h1
   obtain ⟨A9,c9,he1,ho1,hb1⟩:=h1.lit (k:=N) HRe.out (by rw [fz_len];exact HEl.out)
   subst he1
   have hg':=hg.bl hb1
   have HO1:=Lib.hid (own_base (b':=w0.heap.size) ho1 fun k hk=>Nat.le_trans hb.size (ho1.lt k hk).1)
   have HX:=Lib.hid (st1368.out v1 A1 c1 A9 c9 g1 g3 hg' (hb.trans hb1) (own_bl ho hb1) HO1.out ⟨hl.1.bl hb1,hl.2⟩ ⟨hn.1.bl hb1,hn.2⟩ )
   have HS:=Lib.hid hg'
   clear hg' ho1 hb1 h1
   go_wp2_with fail
   refine hK.out _ _ ⟨HS.out.cell 0,HS.out.cell 1,HS.out.cell 2,HS.out.cell 3⟩ (fun _=>?_)
   exact HX.out
  ·have HX:=Lib.hid (st1678.out (wk.alloc (.cells #[.slice none 0 0] 70)) A1 c1 g1 wk.heap.size g3 (hg.alloc _) (hb.alloc _) (ho.alloc _) ⟨hl.1.alloc _,hl.2⟩ ⟨Bk.new _ _ _,hb.size⟩ ⟨hn.1.alloc _,hn.2⟩ (Nat.ne_of_lt hl.1.lt))
   have HS:=Lib.hid (hg.alloc (.cells #[.slice none 0 0] 70))
   go_simp
   refine hK.out _ _ ⟨HS.out.cell 0,HS.out.cell 1,HS.out.cell 2,HS.out.cell 3⟩ (fun _=>?_)
   exact HX.out
 have st178:Hid (∀ (wk:World) (A1:Option Addr) (c1:Nat) (g2:Nat) (g3:Nat),Bk wk gg 24 #[.int .i64 t,.int .i64 (N:Int),.int .i64 s,.slice A len c]→Bl w0 wk→(wk.ownsRow w0.heap.size 73 2 (.slice A1 N c1) N (fcRow (fz (Rk.ranks true ps N))))→(Bk wk g2 70 #[.slice none 0 0]∧w0.heap.size≤g2)→(Bk wk g3 126 #[.int .u32 0]∧w0.heap.size≤g3)→W 6 #[true,true,true,false,true,false,false,true,true,false,false,false] { tmps:=#[a0,.pointer (some ⟨gg,0,none⟩),a2,a3,.pointer (some ⟨g2,0,none⟩),.pointer (some ⟨g3,0,none⟩),.agg #[.int .i64 t,.int .i64 (N:Int),.int .i64 s,.slice A len c],.slice A1 N c1,.agg #[.int .i64 t,.int .i64 (N:Int),.int .i64 s,.slice A len c],a9,.agg #[.int .i64 t,.int .i64 (N:Int),.int .i64 s,.slice A len c],a11,a12,a13,a14,a15,a16,a17,a18],defers:=[] } wk):=by
  intro wk A1 c1 g2 g3 hg hb ho hm hn
  subst hW
  have hHeld:=(⟨hg.cell 0,hg.cell 1,hg.cell 2,hg.cell 3⟩:wk.cell? ⟨gg,0,none⟩=some (.int .i64 t)∧wk.cell? ⟨gg,1,none⟩=some (.int .i64 (N:Int))∧wk.cell? ⟨gg,2,none⟩=some (.int .i64 s)∧wk.cell? ⟨gg,3,none⟩=some (.slice A len c))
  refine wpAnyH_ready (rs:=[3,6]) (by kernel_rfl) (by simp) ?_
  refine (AllReadyH.cons (o:=({ dst:=some 9,op:=Op.call { callee:=Callee.value (Operand.func 78),args:=#[Operand.tmp 8],argTypes:=#[24] },type:=70,pos:="sound.go:35",after:=#[{ on:=2,ground:=Ground.data },{ on:=1,ground:=Ground.chain }],guard:=none }:Oper)) rfl (fun K hK=>?_) (AllReadyH.cons (o:=({ dst:=some 3,op:=Op.alloc 70,type:=0,pos:="sound.go:35",after:=#[],guard:=none }:Oper)) rfl (fun K hK=>?_) AllReadyH.nil))
  ·go_simp
   refine (reach_new t N s A len c ps _ B HL.out hlx (HPr.out _ hb) (HSz.out _ hb)).mono ?_
   intro e v1 h1
   obtain ⟨A9,c9,he1,ho1,hb1⟩:=h1.lit (k:=N) HRe.out (by rw [fz_len];exact HEl.out)
   subst he1
   have hg':=hg.bl hb1
   have HO1:=Lib.hid (own_base (b':=w0.heap.size) ho1 fun k hk=>Nat.le_trans hb.size (ho1.lt k hk).1)
   have HX:=Lib.hid (st1378.out v1 A1 c1 A9 c9 g2 g3 hg' (hb.trans hb1) (own_bl ho hb1) HO1.out ⟨hm.1.bl hb1,hm.2⟩ ⟨hn.1.bl hb1,hn.2⟩ )
   have HS:=Lib.hid hg'
   clear hg' ho1 hb1 h1
   go_wp2_with fail
   refine hK.out _ _ ⟨HS.out.cell 0,HS.out.cell 1,HS.out.cell 2,HS.out.cell 3⟩ (fun _=>?_)
   exact HX.out
  ·have HX:=Lib.hid (st1678.out (wk.alloc (.cells #[.slice none 0 0] 70)) A1 c1 wk.heap.size g2 g3 (hg.alloc _) (hb.alloc _) (ho.alloc _) ⟨Bk.new _ _ _,hb.size⟩ ⟨hm.1.alloc _,hm.2⟩ ⟨hn.1.alloc _,hn.2⟩ (Nat.ne_of_gt hm.1.lt))
   have HS:=Lib.hid (hg.alloc (.cells #[.slice none 0 0] 70))
   go_simp
   refine hK.out _ _ ⟨HS.out.cell 0,HS.out.cell 1,HS.out.cell 2,HS.out.cell 3⟩ (fun _=>?_)
   exact HX.out
 have st678:Hid (∀ (wk:World) (g1:Nat) (g2:Nat) (g3:Nat),Bk wk gg 24 #[.int .i64 t,.int .i64 (N:Int),.int .i64 s,.slice A len c]→Bl w0 wk→(Bk wk g1 70 #[.slice none 0 0]∧w0.heap.size≤g1)→(Bk wk g2 70 #[.slice none 0 0]∧w0.heap.size≤g2)→(Bk wk g3 126 #[.int .u32 0]∧w0.heap.size≤g3)→g1≠g2→W 6 #[true,false,true,false,true,false,true,true,true,false,false,false] { tmps:=#[a0,.pointer (some ⟨gg,0,none⟩),a2,.pointer (some ⟨g1,0,none⟩),.pointer (some ⟨g2,0,none⟩),.pointer (some ⟨g3,0,none⟩),.agg #[.int .i64 t,.int .i64 (N:Int),.int .i64 s,.slice A len c],a7,.agg #[.int .i64 t,.int .i64 (N:Int),.int .i64 s,.slice A len c],a9,.agg #[.int .i64 t,.int .i64 (N:Int),.int .i64 s,.slice A len c],a11,a12,a13,a14,a15,a16,a17,a18],defers:=[] } wk):=by
  intro wk g1 g2 g3 hg hb hl hm hn hne
  subst hW
  have hHeld:=(⟨hg.cell 0,hg.cell 1,hg.cell 2,hg.cell 3⟩:wk.cell? ⟨gg,0,none⟩=some (.int .i64 t)∧wk.cell? ⟨gg,1,none⟩=some (.int .i64 (N:Int))∧wk.cell? ⟨gg,2,none⟩=some (.int .i64 s)∧wk.cell? ⟨gg,3,none⟩=some (.slice A len c))
  refine wpAnyH_ready (rs:=[1]) (by kernel_rfl) (by simp) ?_
  refine (AllReadyH.cons (o:=({ dst:=some 7,op:=Op.call { callee:=Callee.value (Operand.func 36),args:=#[Operand.tmp 6],argTypes:=#[24] },type:=70,pos:="sound.go:35",after:=#[{ on:=0,ground:=Ground.data }],guard:=none }:Oper)) rfl (fun K hK=>?_) AllReadyH.nil)
  ·go_simp
   refine (productive_new t N s A len c ps _ B HL.out hlx (HPr.out _ hb) (HSz.out _ hb)).mono ?_
   intro e v1 h1
   obtain ⟨A9,c9,he1,ho1,hb1⟩:=h1.lit (k:=N) HFa.out (by rw [fz_len,Rk.ranks_length])
   subst he1
   have hg':=hg.bl hb1
   have HO1:=Lib.hid (own_base (b':=w0.heap.size) ho1 fun k hk=>Nat.le_trans hb.size (ho1.lt k hk).1)
   have HX:=Lib.hid (st1678.out v1 A9 c9 g1 g2 g3 hg' (hb.trans hb1) HO1.out ⟨hl.1.bl hb1,hl.2⟩ ⟨hm.1.bl hb1,hm.2⟩ ⟨hn.1.bl hb1,hn.2⟩ hne)
   have HS:=Lib.hid hg'
   clear hg' ho1 hb1 h1
   go_wp2_with fail
   refine hK.out _ _ ⟨HS.out.cell 0,HS.out.cell 1,HS.out.cell 2,HS.out.cell 3⟩ (fun _=>?_)
   exact HX.out
 have st13:Hid (∀ (wk:World) (A1:Option Addr) (c1:Nat) (A2:Option Addr) (c2:Nat),Bk wk gg 24 #[.int .i64 t,.int .i64 (N:Int),.int .i64 s,.slice A len c]→Bl w0 wk→(wk.ownsRow w0.heap.size 73 2 (.slice A1 N c1) N (fcRow (fz (Rk.ranks true ps N))))→(wk.ownsRow w0.heap.size 73 2 (.slice A2 N c2) N (fcRow (fz (Rc.reach ps N s.toNat))))→W 7 #[true,true,true,true,true,false,false,false,false,false,false,false] { tmps:=#[a0,.pointer (some ⟨gg,0,none⟩),a2,a3,a4,a5,.agg #[.int .i64 t,.int .i64 (N:Int),.int .i64 s,.slice A len c],.slice A1 N c1,.agg #[.int .i64 t,.int .i64 (N:Int),.int .i64 s,.slice A len c],.slice A2 N c2,.agg #[.int .i64 t,.int .i64 (N:Int),.int .i64 s,.slice A len c],a11,a12,a13,a14,a15,a16,a17,a18],defers:=[] } wk):=by
  intro wk A1 c1 A2 c2 hg hb ho hp2
  subst hW
  have hHeld:=(⟨hg.cell 0,hg.cell 1,hg.cell 2,hg.cell 3⟩:wk.cell? ⟨gg,0,none⟩=some (.int .i64 t)∧wk.cell? ⟨gg,1,none⟩=some (.int .i64 (N:Int))∧wk.cell? ⟨gg,2,none⟩=some (.int .i64 s)∧wk.cell? ⟨gg,3,none⟩=some (.slice A len c))
  refine wpAnyH_ready (rs:=[5,6,7,8]) (by kernel_rfl) (by simp) ?_
  refine (AllReadyH.cons (o:=({ dst:=some 11,op:=Op.call { callee:=Callee.value (Operand.func 79),args:=#[Operand.tmp 10],argTypes:=#[24] },type:=126,pos:="sound.go:35",after:=#[{ on:=4,ground:=Ground.data },{ on:=3,ground:=Ground.chain }],guard:=none }:Oper)) rfl (fun K hK=>?_) (AllReadyH.cons (o:=({ dst:=some 3,op:=Op.alloc 70,type:=0,pos:="sound.go:35",after:=#[],guard:=none }:Oper)) rfl (fun K hK=>?_) (AllReadyH.cons (o:=({ dst:=some 4,op:=Op.alloc 70,type:=0,pos:="sound.go:35",after:=#[],guard:=none }:Oper)) rfl (fun K hK=>?_) (AllReadyH.cons (o:=({ dst:=some 5,op:=Op.alloc 126,type:=0,pos:="sound.go:35",after:=#[],guard:=none }:Oper)) rfl (fun K hK=>?_) AllReadyH.nil))))
  ·go_simp
   refine (recursive_any t N s A len c ps _ B HL.out hlx (HPr.out _ hb) (HSz.out _ hb) HOK.out).mono ?_
   rintro e v1 ⟨y,rfl,hy,hb1⟩
   have hg':=hg.bl hb1
   have HX:=Lib.hid (st135.out v1 A1 c1 A2 c2 y hg' (hb.trans hb1) (own_bl ho hb1) (own_bl hp2 hb1) hy )
   have HS:=Lib.hid hg'
   clear hg' hy hb1
   go_wp2_with fail
   refine hK.out _ _ ⟨HS.out.cell 0,HS.out.cell 1,HS.out.cell 2,HS.out.cell 3⟩ (fun _=>?_)
   exact HX.out
  ·have HX:=Lib.hid (st136.out (wk.alloc (.cells #[.slice none 0 0] 70)) A1 c1 A2 c2 wk.heap.size (hg.alloc _) (hb.alloc _) (ho.alloc _) (hp2.alloc _) ⟨Bk.new _ _ _,hb.size⟩ )
   have HS:=Lib.hid (hg.alloc (.cells #[.slice none 0 0] 70))
   go_simp
   refine hK.out _ _ ⟨HS.out.cell 0,HS.out.cell 1,HS.out.cell 2,HS.out.cell 3⟩ (fun _=>?_)
   exact HX.out
  ·have HX:=Lib.hid (st137.out (wk.alloc (.cells #[.slice none 0 0] 70)) A1 c1 A2 c2 wk.heap.size (hg.alloc _) (hb.alloc _) (ho.alloc _) (hp2.alloc _) ⟨Bk.new _ _ _,hb.size⟩ )
   have HS:=Lib.hid (hg.alloc (.cells #[.slice none 0 0] 70))
   go_simp
   refine hK.out _ _ ⟨HS.out.cell 0,HS.out.cell 1,HS.out.cell 2,HS.out.cell 3⟩ (fun _=>?_)
   exact HX.out
  ·have HX:=Lib.hid (st138.out (wk.alloc (.cells #[.int .u32 0] 126)) A1 c1 A2 c2 wk.heap.size (hg.alloc _) (hb.alloc _) (ho.alloc _) (hp2.alloc _) ⟨Bk.new _ _ _,hb.size⟩ )
   have HS:=Lib.hid (hg.alloc (.cells #[.int .u32 0] 126))
   go_simp
   refine hK.out _ _ ⟨HS.out.cell 0,HS.out.cell 1,HS.out.cell 2,HS.out.cell 3⟩ (fun _=>?_)
   exact HX.out
 have st16:Hid (∀ (wk:World) (A1:Option Addr) (c1:Nat) (g1:Nat),Bk wk gg 24 #[.int .i64 t,.int .i64 (N:Int),.int .i64 s,.slice A len c]→Bl w0 wk→(wk.ownsRow w0.heap.size 73 2 (.slice A1 N c1) N (fcRow (fz (Rk.ranks true ps N))))→(Bk wk g1 70 #[.slice none 0 0]∧w0.heap.size≤g1)→W 7 #[true,true,true,false,true,false,true,false,false,false,false,false] { tmps:=#[a0,.pointer (some ⟨gg,0,none⟩),a2,.pointer (some ⟨g1,0,none⟩),a4,a5,.agg #[.int .i64 t,.int .i64 (N:Int),.int .i64 s,.slice A len c],.slice A1 N c1,.agg #[.int .i64 t,.int .i64 (N:Int),.int .i64 s,.slice A len c],a9,.agg #[.int .i64 t,.int .i64 (N:Int),.int .i64 s,.slice A len c],a11,a12,a13,a14,a15,a16,a17,a18],defers:=[] } wk):=by
  intro wk A1 c1 g1 hg hb ho hl
  subst hW
  have hHeld:=(⟨hg.cell 0,hg.cell 1,hg.cell 2,hg.cell 3⟩:wk.cell? ⟨gg,0,none⟩=some (.int .i64 t)∧wk.cell? ⟨gg,1,none⟩=some (.int .i64 (N:Int))∧wk.cell? ⟨gg,2,none⟩=some (.int .i64 s)∧wk.cell? ⟨gg,3,none⟩=some (.slice A len c))
  refine wpAnyH_ready (rs:=[3,7,8]) (by kernel_rfl) (by simp) ?_
  refine (AllReadyH.cons (o:=({ dst:=some 9,op:=Op.call { callee:=Callee.value (Operand.func 78),args:=#[Operand.tmp 8],argTypes:=#[24] },type:=70,pos:="sound.go:35",after:=#[{ on:=2,ground:=Ground.data },{ on:=1,ground:=Ground.chain }],guard:=none }:Oper)) rfl (fun K hK=>?_) (AllReadyH.cons (o:=({ dst:=some 4,op:=Op.alloc 70,type:=0,pos:="sound.go:35",after:=#[],guard:=none }:Oper)) rfl (fun K hK=>?_) (AllReadyH.cons (o:=({ dst:=some 5,op:=Op.alloc 126,type:=0,pos:="sound.go:35",after:=#[],guard:=none }:Oper)) rfl (fun K hK=>?_) AllReadyH.nil)))
  ·go_simp
   refine (reach_new t N s A len c ps _ B HL.out hlx (HPr.out _ hb) (HSz.out _ hb)).mono ?_
   intro e v1 h1
   obtain ⟨A9,c9,he1,ho1,hb1⟩:=h1.lit (k:=N) HRe.out (by rw [fz_len];exact HEl.out)
   subst he1
   have hg':=hg.bl hb1
   have HO1:=Lib.hid (own_base (b':=w0.heap.size) ho1 fun k hk=>Nat.le_trans hb.size (ho1.lt k hk).1)
   have HX:=Lib.hid (st136.out v1 A1 c1 A9 c9 g1 hg' (hb.trans hb1) (own_bl ho hb1) HO1.out ⟨hl.1.bl hb1,hl.2⟩ )
   have HS:=Lib.hid hg'
   clear hg' ho1 hb1 h1
   go_wp2_with fail
   refine hK.out _ _ ⟨HS.out.cell 0,HS.out.cell 1,HS.out.cell 2,HS.out.cell 3⟩ (fun _=>?_)
   exact HX.out
  ·have HX:=Lib.hid (st167.out (wk.alloc (.cells #[.slice none 0 0] 70)) A1 c1 g1 wk.heap.size (hg.alloc _) (hb.alloc _) (ho.alloc _) ⟨hl.1.alloc _,hl.2⟩ ⟨Bk.new _ _ _,hb.size⟩ (Nat.ne_of_lt hl.1.lt))
   have HS:=Lib.hid (hg.alloc (.cells #[.slice none 0 0] 70))
   go_simp
   refine hK.out _ _ ⟨HS.out.cell 0,HS.out.cell 1,HS.out.cell 2,HS.out.cell 3⟩ (fun _=>?_)
   exact HX.out
  ·have HX:=Lib.hid (st168.out (wk.alloc (.cells #[.int .u32 0] 126)) A1 c1 g1 wk.heap.size (hg.alloc _) (hb.alloc _) (ho.alloc _) ⟨hl.1.alloc _,hl.2⟩ ⟨Bk.new _ _ _,hb.size⟩ )
   have HS:=Lib.hid (hg.alloc (.cells #[.int .u32 0] 126))
   go_simp
   refine hK.out _ _ ⟨HS.out.cell 0,HS.out.cell 1,HS.out.cell 2,HS.out.cell 3⟩ (fun _=>?_)
   exact HX.out
 have st17:Hid (∀ (wk:World) (A1:Option Addr) (c1:Nat) (g2:Nat),Bk wk gg 24 #[.int .i64 t,.int .i64 (N:Int),.int .i64 s,.slice A len c]→Bl w0 wk→(wk.ownsRow w0.heap.size 73 2 (.slice A1 N c1) N (fcRow (fz (Rk.ranks true ps N))))→(Bk wk g2 70 #[.slice none 0 0]∧w0.heap.size≤g2)→W 7 #[true,true,true,false,true,false,false,true,false,false,false,false] { tmps:=#[a0,.pointer (some ⟨gg,0,none⟩),a2,a3,.pointer (some ⟨g2,0,none⟩),a5,.agg #[.int .i64 t,.int .i64 (N:Int),.int .i64 s,.slice A len c],.slice A1 N c1,.agg #[.int .i64 t,.int .i64 (N:Int),.int .i64 s,.slice A len c],a9,.agg #[.int .i64 t,.int .i64 (N:Int),.int .i64 s,.slice A len c],a11,a12,a13,a14,a15,a16,a17,a18],defers:=[] } wk):=by
  intro wk A1 c1 g2 hg hb ho hm
  subst hW
  have hHeld:=(⟨hg.cell 0,hg.cell 1,hg.cell 2,hg.cell 3⟩:wk.cell? ⟨gg,0,none⟩=some (.int .i64 t)∧wk.cell? ⟨gg,1,none⟩=some (.int .i64 (N:Int))∧wk.cell? ⟨gg,2,none⟩=some (.int .i64 s)∧wk.cell? ⟨gg,3,none⟩=some (.slice A len c))
  refine wpAnyH_ready (rs:=[3,6,8]) (by kernel_rfl) (by simp) ?_
  refine (AllReadyH.cons (o:=({ dst:=some 9,op:=Op.call { callee:=Callee.value (Operand.func 78),args:=#[Operand.tmp 8],argTypes:=#[24] },type:=70,pos:="sound.go:35",after:=#[{ on:=2,ground:=Ground.data },{ on:=1,ground:=Ground.chain }],guard:=none }:Oper)) rfl (fun K hK=>?_) (AllReadyH.cons (o:=({ dst:=some 3,op:=Op.alloc 70,type:=0,pos:="sound.go:35",after:=#[],guard:=none }:Oper)) rfl (fun K hK=>?_) (AllReadyH.cons (o:=({ dst:=some 5,op:=Op.alloc 126,type:=0,pos:="sound.go:35",after:=#[],guard:=none }:Oper)) rfl (fun K hK=>?_) AllReadyH.nil)))
  ·go_simp
   refine (reach_new t N s A len c ps _ B HL.out hlx (HPr.out _ hb) (HSz.out _ hb)).mono ?_
   intro e v1 h1
   obtain ⟨A9,c9,he1,ho1,hb1⟩:=h1.lit (k:=N) HRe.out (by rw [fz_len];exact HEl.out)
   subst he1
   have hg':=hg.bl hb1
   have HO1:=Lib.hid (own_base (b':=w0.heap.size) ho1 fun k hk=>Nat.le_trans hb.size (ho1.lt k hk).1)
   have HX:=Lib.hid (st137.out v1 A1 c1 A9 c9 g2 hg' (hb.trans hb1) (own_bl ho hb1) HO1.out ⟨hm.1.bl hb1,hm.2⟩ )
   have HS:=Lib.hid hg'
   clear hg' ho1 hb1 h1
   go_wp2_with fail
   refine hK.out _ _ ⟨HS.out.cell 0,HS.out.cell 1,HS.out.cell 2,HS.out.cell 3⟩ (fun _=>?_)
   exact HX.out
  ·have HX:=Lib.hid (st167.out (wk.alloc (.cells #[.slice none 0 0] 70)) A1 c1 wk.heap.size g2 (hg.alloc _) (hb.alloc _) (ho.alloc _) ⟨Bk.new _ _ _,hb.size⟩ ⟨hm.1.alloc _,hm.2⟩ (Nat.ne_of_gt hm.1.lt))
   have HS:=Lib.hid (hg.alloc (.cells #[.slice none 0 0] 70))
   go_simp
   refine hK.out _ _ ⟨HS.out.cell 0,HS.out.cell 1,HS.out.cell 2,HS.out.cell 3⟩ (fun _=>?_)
   exact HX.out
  ·have HX:=Lib.hid (st178.out (wk.alloc (.cells #[.int .u32 0] 126)) A1 c1 g2 wk.heap.size (hg.alloc _) (hb.alloc _) (ho.alloc _) ⟨hm.1.alloc _,hm.2⟩ ⟨Bk.new _ _ _,hb.size⟩ )
   have HS:=Lib.hid (hg.alloc (.cells #[.int .u32 0] 126))
   go_simp
   refine hK.out _ _ ⟨HS.out.cell 0,HS.out.cell 1,HS.out.cell 2,HS.out.cell 3⟩ (fun _=>?_)
   exact HX.out
 have st18:Hid (∀ (wk:World) (A1:Option Addr) (c1:Nat) (g3:Nat),Bk wk gg 24 #[.int .i64 t,.int .i64 (N:Int),.int .i64 s,.slice A len c]→Bl w0 wk→(wk.ownsRow w0.heap.size 73 2 (.slice A1 N c1) N (fcRow (fz (Rk.ranks true ps N))))→(Bk wk g3 126 #[.int .u32 0]∧w0.heap.size≤g3)→W 7 #[true,true,true,false,true,false,false,false,true,false,false,false] { tmps:=#[a0,.pointer (some ⟨gg,0,none⟩),a2,a3,a4,.pointer (some ⟨g3,0,none⟩),.agg #[.int .i64 t,.int .i64 (N:Int),.int .i64 s,.slice A len c],.slice A1 N c1,.agg #[.int .i64 t,.int .i64 (N:Int),.int .i64 s,.slice A len c],a9,.agg #[.int .i64 t,.int .i64 (N:Int),.int .i64 s,.slice A len c],a11,a12,a13,a14,a15,a16,a17,a18],defers:=[] } wk):=by
  intro wk A1 c1 g3 hg hb ho hn
  subst hW
  have hHeld:=(⟨hg.cell 0,hg.cell 1,hg.cell 2,hg.cell 3⟩:wk.cell? ⟨gg,0,none⟩=some (.int .i64 t)∧wk.cell? ⟨gg,1,none⟩=some (.int .i64 (N:Int))∧wk.cell? ⟨gg,2,none⟩=some (.int .i64 s)∧wk.cell? ⟨gg,3,none⟩=some (.slice A len c))
  refine wpAnyH_ready (rs:=[3,6,7]) (by kernel_rfl) (by simp) ?_
  refine (AllReadyH.cons (o:=({ dst:=some 9,op:=Op.call { callee:=Callee.value (Operand.func 78),args:=#[Operand.tmp 8],argTypes:=#[24] },type:=70,pos:="sound.go:35",after:=#[{ on:=2,ground:=Ground.data },{ on:=1,ground:=Ground.chain }],guard:=none }:Oper)) rfl (fun K hK=>?_) (AllReadyH.cons (o:=({ dst:=some 3,op:=Op.alloc 70,type:=0,pos:="sound.go:35",after:=#[],guard:=none }:Oper)) rfl (fun K hK=>?_) (AllReadyH.cons (o:=({ dst:=some 4,op:=Op.alloc 70,type:=0,pos:="sound.go:35",after:=#[],guard:=none }:Oper)) rfl (fun K hK=>?_) AllReadyH.nil)))
  ·go_simp
   refine (reach_new t N s A len c ps _ B HL.out hlx (HPr.out _ hb) (HSz.out _ hb)).mono ?_
   intro e v1 h1
   obtain ⟨A9,c9,he1,ho1,hb1⟩:=h1.lit (k:=N) HRe.out (by rw [fz_len];exact HEl.out)
   subst he1
   have hg':=hg.bl hb1
   have HO1:=Lib.hid (own_base (b':=w0.heap.size) ho1 fun k hk=>Nat.le_trans hb.size (ho1.lt k hk).1)
   have HX:=Lib.hid (st138.out v1 A1 c1 A9 c9 g3 hg' (hb.trans hb1) (own_bl ho hb1) HO1.out ⟨hn.1.bl hb1,hn.2⟩ )
   have HS:=Lib.hid hg'
   clear hg' ho1 hb1 h1
   go_wp2_with fail
   refine hK.out _ _ ⟨HS.out.cell 0,HS.out.cell 1,HS.out.cell 2,HS.out.cell 3⟩ (fun _=>?_)
   exact HX.out
  ·have HX:=Lib.hid (st168.out (wk.alloc (.cells #[.slice none 0 0] 70)) A1 c1 wk.heap.size g3 (hg.alloc _) (hb.alloc _) (ho.alloc _) ⟨Bk.new _ _ _,hb.size⟩ ⟨hn.1.alloc _,hn.2⟩ )
   have HS:=Lib.hid (hg.alloc (.cells #[.slice none 0 0] 70))
   go_simp
   refine hK.out _ _ ⟨HS.out.cell 0,HS.out.cell 1,HS.out.cell 2,HS.out.cell 3⟩ (fun _=>?_)
   exact HX.out
  ·have HX:=Lib.hid (st178.out (wk.alloc (.cells #[.slice none 0 0] 70)) A1 c1 wk.heap.size g3 (hg.alloc _) (hb.alloc _) (ho.alloc _) ⟨Bk.new _ _ _,hb.size⟩ ⟨hn.1.alloc _,hn.2⟩ )
   have HS:=Lib.hid (hg.alloc (.cells #[.slice none 0 0] 70))
   go_simp
   refine hK.out _ _ ⟨HS.out.cell 0,HS.out.cell 1,HS.out.cell 2,HS.out.cell 3⟩ (fun _=>?_)
   exact HX.out
 have st67:Hid (∀ (wk:World) (g1:Nat) (g2:Nat),Bk wk gg 24 #[.int .i64 t,.int .i64 (N:Int),.int .i64 s,.slice A len c]→Bl w0 wk→(Bk wk g1 70 #[.slice none 0 0]∧w0.heap.size≤g1)→(Bk wk g2 70 #[.slice none 0 0]∧w0.heap.size≤g2)→g1≠g2→W 7 #[true,false,true,false,true,false,true,true,false,false,false,false] { tmps:=#[a0,.pointer (some ⟨gg,0,none⟩),a2,.pointer (some ⟨g1,0,none⟩),.pointer (some ⟨g2,0,none⟩),a5,.agg #[.int .i64 t,.int .i64 (N:Int),.int .i64 s,.slice A len c],a7,.agg #[.int .i64 t,.int .i64 (N:Int),.int .i64 s,.slice A len c],a9,.agg #[.int .i64 t,.int .i64 (N:Int),.int .i64 s,.slice A len c],a11,a12,a13,a14,a15,a16,a17,a18],defers:=[] } wk):=by
  intro wk g1 g2 hg hb hl hm hne
  subst hW
  have hHeld:=(⟨hg.cell 0,hg.cell 1,hg.cell 2,hg.cell 3⟩:wk.cell? ⟨gg,0,none⟩=some (.int .i64 t)∧wk.cell? ⟨gg,1,none⟩=some (.int .i64 (N:Int))∧wk.cell? ⟨gg,2,none⟩=some (.int .i64 s)∧wk.cell? ⟨gg,3,none⟩=some (.slice A len c))
  refine wpAnyH_ready (rs:=[1,8]) (by kernel_rfl) (by simp) ?_
  refine (AllReadyH.cons (o:=({ dst:=some 7,op:=Op.call { callee:=Callee.value (Operand.func 36),args:=#[Operand.tmp 6],argTypes:=#[24] },type:=70,pos:="sound.go:35",after:=#[{ on:=0,ground:=Ground.data }],guard:=none }:Oper)) rfl (fun K hK=>?_) (AllReadyH.cons (o:=({ dst:=some 5,op:=Op.alloc 126,type:=0,pos:="sound.go:35",after:=#[],guard:=none }:Oper)) rfl (fun K hK=>?_) AllReadyH.nil))
  ·go_simp
   refine (productive_new t N s A len c ps _ B HL.out hlx (HPr.out _ hb) (HSz.out _ hb)).mono ?_
   intro e v1 h1
   obtain ⟨A9,c9,he1,ho1,hb1⟩:=h1.lit (k:=N) HFa.out (by rw [fz_len,Rk.ranks_length])
   subst he1
   have hg':=hg.bl hb1
   have HO1:=Lib.hid (own_base (b':=w0.heap.size) ho1 fun k hk=>Nat.le_trans hb.size (ho1.lt k hk).1)
   have HX:=Lib.hid (st167.out v1 A9 c9 g1 g2 hg' (hb.trans hb1) HO1.out ⟨hl.1.bl hb1,hl.2⟩ ⟨hm.1.bl hb1,hm.2⟩ hne)
   have HS:=Lib.hid hg'
   clear hg' ho1 hb1 h1
   go_wp2_with fail
   refine hK.out _ _ ⟨HS.out.cell 0,HS.out.cell 1,HS.out.cell 2,HS.out.cell 3⟩ (fun _=>?_)
   exact HX.out
  ·have HX:=Lib.hid (st678.out (wk.alloc (.cells #[.int .u32 0] 126)) g1 g2 wk.heap.size (hg.alloc _) (hb.alloc _) ⟨hl.1.alloc _,hl.2⟩ ⟨hm.1.alloc _,hm.2⟩ ⟨Bk.new _ _ _,hb.size⟩ hne)
   have HS:=Lib.hid (hg.alloc (.cells #[.int .u32 0] 126))
   go_simp
   refine hK.out _ _ ⟨HS.out.cell 0,HS.out.cell 1,HS.out.cell 2,HS.out.cell 3⟩ (fun _=>?_)
   exact HX.out
 have st68:Hid (∀ (wk:World) (g1:Nat) (g3:Nat),Bk wk gg 24 #[.int .i64 t,.int .i64 (N:Int),.int .i64 s,.slice A len c]→Bl w0 wk→(Bk wk g1 70 #[.slice none 0 0]∧w0.heap.size≤g1)→(Bk wk g3 126 #[.int .u32 0]∧w0.heap.size≤g3)→W 7 #[true,false,true,false,true,false,true,false,true,false,false,false] { tmps:=#[a0,.pointer (some ⟨gg,0,none⟩),a2,.pointer (some ⟨g1,0,none⟩),a4,.pointer (some ⟨g3,0,none⟩),.agg #[.int .i64 t,.int .i64 (N:Int),.int .i64 s,.slice A len c],a7,.agg #[.int .i64 t,.int .i64 (N:Int),.int .i64 s,.slice A len c],a9,.agg #[.int .i64 t,.int .i64 (N:Int),.int .i64 s,.slice A len c],a11,a12,a13,a14,a15,a16,a17,a18],defers:=[] } wk):=by
  intro wk g1 g3 hg hb hl hn
  subst hW
  have hHeld:=(⟨hg.cell 0,hg.cell 1,hg.cell 2,hg.cell 3⟩:wk.cell? ⟨gg,0,none⟩=some (.int .i64 t)∧wk.cell? ⟨gg,1,none⟩=some (.int .i64 (N:Int))∧wk.cell? ⟨gg,2,none⟩=some (.int .i64 s)∧wk.cell? ⟨gg,3,none⟩=some (.slice A len c))
  refine wpAnyH_ready (rs:=[1,7]) (by kernel_rfl) (by simp) ?_
  refine (AllReadyH.cons (o:=({ dst:=some 7,op:=Op.call { callee:=Callee.value (Operand.func 36),args:=#[Operand.tmp 6],argTypes:=#[24] },type:=70,pos:="sound.go:35",after:=#[{ on:=0,ground:=Ground.data }],guard:=none }:Oper)) rfl (fun K hK=>?_) (AllReadyH.cons (o:=({ dst:=some 4,op:=Op.alloc 70,type:=0,pos:="sound.go:35",after:=#[],guard:=none }:Oper)) rfl (fun K hK=>?_) AllReadyH.nil))
  ·go_simp
   refine (productive_new t N s A len c ps _ B HL.out hlx (HPr.out _ hb) (HSz.out _ hb)).mono ?_
   intro e v1 h1
   obtain ⟨A9,c9,he1,ho1,hb1⟩:=h1.lit (k:=N) HFa.out (by rw [fz_len,Rk.ranks_length])
   subst he1
   have hg':=hg.bl hb1
   have HO1:=Lib.hid (own_base (b':=w0.heap.size) ho1 fun k hk=>Nat.le_trans hb.size (ho1.lt k hk).1)
   have HX:=Lib.hid (st168.out v1 A9 c9 g1 g3 hg' (hb.trans hb1) HO1.out ⟨hl.1.bl hb1,hl.2⟩ ⟨hn.1.bl hb1,hn.2⟩ )
   have HS:=Lib.hid hg'
   clear hg' ho1 hb1 h1
   go_wp2_with fail
   refine hK.out _ _ ⟨HS.out.cell 0,HS.out.cell 1,HS.out.cell 2,HS.out.cell 3⟩ (fun _=>?_)
   exact HX.out
  ·have HX:=Lib.hid (st678.out (wk.alloc (.cells #[.slice none 0 0] 70)) g1 wk.heap.size g3 (hg.alloc _) (hb.alloc _) ⟨hl.1.alloc _,hl.2⟩ ⟨Bk.new _ _ _,hb.size⟩ ⟨hn.1.alloc _,hn.2⟩ (Nat.ne_of_lt hl.1.lt))
   have HS:=Lib.hid (hg.alloc (.cells #[.slice none 0 0] 70))
   go_simp
   refine hK.out _ _ ⟨HS.out.cell 0,HS.out.cell 1,HS.out.cell 2,HS.out.cell 3⟩ (fun _=>?_)
   exact HX.out
 have st78:Hid (∀ (wk:World) (g2:Nat) (g3:Nat),Bk wk gg 24 #[.int .i64 t,.int .i64 (N:Int),.int .i64 s,.slice A len c]→Bl w0 wk→(Bk wk g2 70 #[.slice none 0 0]∧w0.heap.size≤g2)→(Bk wk g3 126 #[.int .u32 0]∧w0.heap.size≤g3)→W 7 #[true,false,true,false,true,false,false,true,true,false,false,false] { tmps:=#[a0,.pointer (some ⟨gg,0,none⟩),a2,a3,.pointer (some ⟨g2,0,none⟩),.pointer (some ⟨g3,0,none⟩),.agg #[.int .i64 t,.int .i64 (N:Int),.int .i64 s,.slice A len c],a7,.agg #[.int .i64 t,.int .i64 (N:Int),.int .i64 s,.slice A len c],a9,.agg #[.int .i64 t,.int .i64 (N:Int),.int .i64 s,.slice A len c],a11,a12,a13,a14,a15,a16,a17,a18],defers:=[] } wk):=by
  intro wk g2 g3 hg hb hm hn
  subst hW
  have hHeld:=(⟨hg.cell 0,hg.cell 1,hg.cell 2,hg.cell 3⟩:wk.cell? ⟨gg,0,none⟩=some (.int .i64 t)∧wk.cell? ⟨gg,1,none⟩=some (.int .i64 (N:Int))∧wk.cell? ⟨gg,2,none⟩=some (.int .i64 s)∧wk.cell? ⟨gg,3,none⟩=some (.slice A len c))
  refine wpAnyH_ready (rs:=[1,6]) (by kernel_rfl) (by simp) ?_
  refine (AllReadyH.cons (o:=({ dst:=some 7,op:=Op.call { callee:=Callee.value (Operand.func 36),args:=#[Operand.tmp 6],argTypes:=#[24] },type:=70,pos:="sound.go:35",after:=#[{ on:=0,ground:=Ground.data }],guard:=none }:Oper)) rfl (fun K hK=>?_) (AllReadyH.cons (o:=({ dst:=some 3,op:=Op.alloc 70,type:=0,pos:="sound.go:35",after:=#[],guard:=none }:Oper)) rfl (fun K hK=>?_) AllReadyH.nil))
  ·go_simp
   refine (productive_new t N s A len c ps _ B HL.out hlx (HPr.out _ hb) (HSz.out _ hb)).mono ?_
   intro e v1 h1
   obtain ⟨A9,c9,he1,ho1,hb1⟩:=h1.lit (k:=N) HFa.out (by rw [fz_len,Rk.ranks_length])
   subst he1
   have hg':=hg.bl hb1
   have HO1:=Lib.hid (own_base (b':=w0.heap.size) ho1 fun k hk=>Nat.le_trans hb.size (ho1.lt k hk).1)
   have HX:=Lib.hid (st178.out v1 A9 c9 g2 g3 hg' (hb.trans hb1) HO1.out ⟨hm.1.bl hb1,hm.2⟩ ⟨hn.1.bl hb1,hn.2⟩ )
   have HS:=Lib.hid hg'
   clear hg' ho1 hb1 h1
   go_wp2_with fail
   refine hK.out _ _ ⟨HS.out.cell 0,HS.out.cell 1,HS.out.cell 2,HS.out.cell 3⟩ (fun _=>?_)
   exact HX.out
  ·have HX:=Lib.hid (st678.out (wk.alloc (.cells #[.slice none 0 0] 70)) wk.heap.size g2 g3 (hg.alloc _) (hb.alloc _) ⟨Bk.new _ _ _,hb.size⟩ ⟨hm.1.alloc _,hm.2⟩ ⟨hn.1.alloc _,hn.2⟩ (Nat.ne_of_gt hm.1.lt))
   have HS:=Lib.hid (hg.alloc (.cells #[.slice none 0 0] 70))
   go_simp
   refine hK.out _ _ ⟨HS.out.cell 0,HS.out.cell 1,HS.out.cell 2,HS.out.cell 3⟩ (fun _=>?_)
   exact HX.out
 have st1:Hid (∀ (wk:World) (A1:Option Addr) (c1:Nat),Bk wk gg 24 #[.int .i64 t,.int .i64 (N:Int),.int .i64 s,.slice A len c]→Bl w0 wk→(wk.ownsRow w0.heap.size 73 2 (.slice A1 N c1) N (fcRow (fz (Rk.ranks true ps N))))→W 8 #[true,true,true,false,true,false,false,false,false,false,false,false] { tmps:=#[a0,.pointer (some ⟨gg,0,none⟩),a2,a3,a4,a5,.agg #[.int .i64 t,.int .i64 (N:Int),.int .i64 s,.slice A len c],.slice A1 N c1,.agg #[.int .i64 t,.int .i64 (N:Int),.int .i64 s,.slice A len c],a9,.agg #[.int .i64 t,.int .i64 (N:Int),.int .i64 s,.slice A len c],a11,a12,a13,a14,a15,a16,a17,a18],defers:=[] } wk):=by
  intro wk A1 c1 hg hb ho
  subst hW
  have hHeld:=(⟨hg.cell 0,hg.cell 1,hg.cell 2,hg.cell 3⟩:wk.cell? ⟨gg,0,none⟩=some (.int .i64 t)∧wk.cell? ⟨gg,1,none⟩=some (.int .i64 (N:Int))∧wk.cell? ⟨gg,2,none⟩=some (.int .i64 s)∧wk.cell? ⟨gg,3,none⟩=some (.slice A len c))
  refine wpAnyH_ready (rs:=[3,6,7,8]) (by kernel_rfl) (by simp) ?_
  refine (AllReadyH.cons (o:=({ dst:=some 9,op:=Op.call { callee:=Callee.value (Operand.func 78),args:=#[Operand.tmp 8],argTypes:=#[24] },type:=70,pos:="sound.go:35",after:=#[{ on:=2,ground:=Ground.data },{ on:=1,ground:=Ground.chain }],guard:=none }:Oper)) rfl (fun K hK=>?_) (AllReadyH.cons (o:=({ dst:=some 3,op:=Op.alloc 70,type:=0,pos:="sound.go:35",after:=#[],guard:=none }:Oper)) rfl (fun K hK=>?_) (AllReadyH.cons (o:=({ dst:=some 4,op:=Op.alloc 70,type:=0,pos:="sound.go:35",after:=#[],guard:=none }:Oper)) rfl (fun K hK=>?_) (AllReadyH.cons (o:=({ dst:=some 5,op:=Op.alloc 126,type:=0,pos:="sound.go:35",after:=#[],guard:=none }:Oper)) rfl (fun K hK=>?_) AllReadyH.nil))))
  ·go_simp
   refine (reach_new t N s A len c ps _ B HL.out hlx (HPr.out _ hb) (HSz.out _ hb)).mono ?_
   intro e v1 h1
   obtain ⟨A9,c9,he1,ho1,hb1⟩:=h1.lit (k:=N) HRe.out (by rw [fz_len];exact HEl.out)
   subst he1
   have hg':=hg.bl hb1
   have HO1:=Lib.hid (own_base (b':=w0.heap.size) ho1 fun k hk=>Nat.le_trans hb.size (ho1.lt k hk).1)
   have HX:=Lib.hid (st13.out v1 A1 c1 A9 c9 hg' (hb.trans hb1) (own_bl ho hb1) HO1.out )
   have HS:=Lib.hid hg'
   clear hg' ho1 hb1 h1
   go_wp2_with fail
   refine hK.out _ _ ⟨HS.out.cell 0,HS.out.cell 1,HS.out.cell 2,HS.out.cell 3⟩ (fun _=>?_)
   exact HX.out
  ·have HX:=Lib.hid (st16.out (wk.alloc (.cells #[.slice none 0 0] 70)) A1 c1 wk.heap.size (hg.alloc _) (hb.alloc _) (ho.alloc _) ⟨Bk.new _ _ _,hb.size⟩ )
   have HS:=Lib.hid (hg.alloc (.cells #[.slice none 0 0] 70))
   go_simp
   refine hK.out _ _ ⟨HS.out.cell 0,HS.out.cell 1,HS.out.cell 2,HS.out.cell 3⟩ (fun _=>?_)
   exact HX.out
  ·have HX:=Lib.hid (st17.out (wk.alloc (.cells #[.slice none 0 0] 70)) A1 c1 wk.heap.size (hg.alloc _) (hb.alloc _) (ho.alloc _) ⟨Bk.new _ _ _,hb.size⟩ )
   have HS:=Lib.hid (hg.alloc (.cells #[.slice none 0 0] 70))
   go_simp
   refine hK.out _ _ ⟨HS.out.cell 0,HS.out.cell 1,HS.out.cell 2,HS.out.cell 3⟩ (fun _=>?_)
   exact HX.out
  ·have HX:=Lib.hid (st18.out (wk.alloc (.cells #[.int .u32 0] 126)) A1 c1 wk.heap.size (hg.alloc _) (hb.alloc _) (ho.alloc _) ⟨Bk.new _ _ _,hb.size⟩ )
   have HS:=Lib.hid (hg.alloc (.cells #[.int .u32 0] 126))
   go_simp
   refine hK.out _ _ ⟨HS.out.cell 0,HS.out.cell 1,HS.out.cell 2,HS.out.cell 3⟩ (fun _=>?_)
   exact HX.out
 have st6:Hid (∀ (wk:World) (g1:Nat),Bk wk gg 24 #[.int .i64 t,.int .i64 (N:Int),.int .i64 s,.slice A len c]→Bl w0 wk→(Bk wk g1 70 #[.slice none 0 0]∧w0.heap.size≤g1)→W 8 #[true,false,true,false,true,false,true,false,false,false,false,false] { tmps:=#[a0,.pointer (some ⟨gg,0,none⟩),a2,.pointer (some ⟨g1,0,none⟩),a4,a5,.agg #[.int .i64 t,.int .i64 (N:Int),.int .i64 s,.slice A len c],a7,.agg #[.int .i64 t,.int .i64 (N:Int),.int .i64 s,.slice A len c],a9,.agg #[.int .i64 t,.int .i64 (N:Int),.int .i64 s,.slice A len c],a11,a12,a13,a14,a15,a16,a17,a18],defers:=[] } wk):=by
  intro wk g1 hg hb hl
  subst hW
  have hHeld:=(⟨hg.cell 0,hg.cell 1,hg.cell 2,hg.cell 3⟩:wk.cell? ⟨gg,0,none⟩=some (.int .i64 t)∧wk.cell? ⟨gg,1,none⟩=some (.int .i64 (N:Int))∧wk.cell? ⟨gg,2,none⟩=some (.int .i64 s)∧wk.cell? ⟨gg,3,none⟩=some (.slice A len c))
  refine wpAnyH_ready (rs:=[1,7,8]) (by kernel_rfl) (by simp) ?_
  refine (AllReadyH.cons (o:=({ dst:=some 7,op:=Op.call { callee:=Callee.value (Operand.func 36),args:=#[Operand.tmp 6],argTypes:=#[24] },type:=70,pos:="sound.go:35",after:=#[{ on:=0,ground:=Ground.data }],guard:=none }:Oper)) rfl (fun K hK=>?_) (AllReadyH.cons (o:=({ dst:=some 4,op:=Op.alloc 70,type:=0,pos:="sound.go:35",after:=#[],guard:=none }:Oper)) rfl (fun K hK=>?_) (AllReadyH.cons (o:=({ dst:=some 5,op:=Op.alloc 126,type:=0,pos:="sound.go:35",after:=#[],guard:=none }:Oper)) rfl (fun K hK=>?_) AllReadyH.nil)))
  ·go_simp
   refine (productive_new t N s A len c ps _ B HL.out hlx (HPr.out _ hb) (HSz.out _ hb)).mono ?_
   intro e v1 h1
   obtain ⟨A9,c9,he1,ho1,hb1⟩:=h1.lit (k:=N) HFa.out (by rw [fz_len,Rk.ranks_length])
   subst he1
   have hg':=hg.bl hb1
   have HO1:=Lib.hid (own_base (b':=w0.heap.size) ho1 fun k hk=>Nat.le_trans hb.size (ho1.lt k hk).1)
   have HX:=Lib.hid (st16.out v1 A9 c9 g1 hg' (hb.trans hb1) HO1.out ⟨hl.1.bl hb1,hl.2⟩ )
   have HS:=Lib.hid hg'
   clear hg' ho1 hb1 h1
   go_wp2_with fail
   refine hK.out _ _ ⟨HS.out.cell 0,HS.out.cell 1,HS.out.cell 2,HS.out.cell 3⟩ (fun _=>?_)
   exact HX.out
  ·have HX:=Lib.hid (st67.out (wk.alloc (.cells #[.slice none 0 0] 70)) g1 wk.heap.size (hg.alloc _) (hb.alloc _) ⟨hl.1.alloc _,hl.2⟩ ⟨Bk.new _ _ _,hb.size⟩ (Nat.ne_of_lt hl.1.lt))
   have HS:=Lib.hid (hg.alloc (.cells #[.slice none 0 0] 70))
   go_simp
   refine hK.out _ _ ⟨HS.out.cell 0,HS.out.cell 1,HS.out.cell 2,HS.out.cell 3⟩ (fun _=>?_)
   exact HX.out
  ·have HX:=Lib.hid (st68.out (wk.alloc (.cells #[.int .u32 0] 126)) g1 wk.heap.size (hg.alloc _) (hb.alloc _) ⟨hl.1.alloc _,hl.2⟩ ⟨Bk.new _ _ _,hb.size⟩ )
   have HS:=Lib.hid (hg.alloc (.cells #[.int .u32 0] 126))
   go_simp
   refine hK.out _ _ ⟨HS.out.cell 0,HS.out.cell 1,HS.out.cell 2,HS.out.cell 3⟩ (fun _=>?_)
   exact HX.out
 have st7:Hid (∀ (wk:World) (g2:Nat),Bk wk gg 24 #[.int .i64 t,.int .i64 (N:Int),.int .i64 s,.slice A len c]→Bl w0 wk→(Bk wk g2 70 #[.slice none 0 0]∧w0.heap.size≤g2)→W 8 #[true,false,true,false,true,false,false,true,false,false,false,false] { tmps:=#[a0,.pointer (some ⟨gg,0,none⟩),a2,a3,.pointer (some ⟨g2,0,none⟩),a5,.agg #[.int .i64 t,.int .i64 (N:Int),.int .i64 s,.slice A len c],a7,.agg #[.int .i64 t,.int .i64 (N:Int),.int .i64 s,.slice A len c],a9,.agg #[.int .i64 t,.int .i64 (N:Int),.int .i64 s,.slice A len c],a11,a12,a13,a14,a15,a16,a17,a18],defers:=[] } wk):=by
  intro wk g2 hg hb hm
  subst hW
  have hHeld:=(⟨hg.cell 0,hg.cell 1,hg.cell 2,hg.cell 3⟩:wk.cell? ⟨gg,0,none⟩=some (.int .i64 t)∧wk.cell? ⟨gg,1,none⟩=some (.int .i64 (N:Int))∧wk.cell? ⟨gg,2,none⟩=some (.int .i64 s)∧wk.cell? ⟨gg,3,none⟩=some (.slice A len c))
  refine wpAnyH_ready (rs:=[1,6,8]) (by kernel_rfl) (by simp) ?_
  refine (AllReadyH.cons (o:=({ dst:=some 7,op:=Op.call { callee:=Callee.value (Operand.func 36),args:=#[Operand.tmp 6],argTypes:=#[24] },type:=70,pos:="sound.go:35",after:=#[{ on:=0,ground:=Ground.data }],guard:=none }:Oper)) rfl (fun K hK=>?_) (AllReadyH.cons (o:=({ dst:=some 3,op:=Op.alloc 70,type:=0,pos:="sound.go:35",after:=#[],guard:=none }:Oper)) rfl (fun K hK=>?_) (AllReadyH.cons (o:=({ dst:=some 5,op:=Op.alloc 126,type:=0,pos:="sound.go:35",after:=#[],guard:=none }:Oper)) rfl (fun K hK=>?_) AllReadyH.nil)))
  ·go_simp
   refine (productive_new t N s A len c ps _ B HL.out hlx (HPr.out _ hb) (HSz.out _ hb)).mono ?_
   intro e v1 h1
   obtain ⟨A9,c9,he1,ho1,hb1⟩:=h1.lit (k:=N) HFa.out (by rw [fz_len,Rk.ranks_length])
   subst he1
   have hg':=hg.bl hb1
   have HO1:=Lib.hid (own_base (b':=w0.heap.size) ho1 fun k hk=>Nat.le_trans hb.size (ho1.lt k hk).1)
   have HX:=Lib.hid (st17.out v1 A9 c9 g2 hg' (hb.trans hb1) HO1.out ⟨hm.1.bl hb1,hm.2⟩ )
   have HS:=Lib.hid hg'
   clear hg' ho1 hb1 h1
   go_wp2_with fail
   refine hK.out _ _ ⟨HS.out.cell 0,HS.out.cell 1,HS.out.cell 2,HS.out.cell 3⟩ (fun _=>?_)
   exact HX.out
  ·have HX:=Lib.hid (st67.out (wk.alloc (.cells #[.slice none 0 0] 70)) wk.heap.size g2 (hg.alloc _) (hb.alloc _) ⟨Bk.new _ _ _,hb.size⟩ ⟨hm.1.alloc _,hm.2⟩ (Nat.ne_of_gt hm.1.lt))
   have HS:=Lib.hid (hg.alloc (.cells #[.slice none 0 0] 70))
   go_simp
   refine hK.out _ _ ⟨HS.out.cell 0,HS.out.cell 1,HS.out.cell 2,HS.out.cell 3⟩ (fun _=>?_)
   exact HX.out
  ·have HX:=Lib.hid (st78.out (wk.alloc (.cells #[.int .u32 0] 126)) g2 wk.heap.size (hg.alloc _) (hb.alloc _) ⟨hm.1.alloc _,hm.2⟩ ⟨Bk.new _ _ _,hb.size⟩ )
   have HS:=Lib.hid (hg.alloc (.cells #[.int .u32 0] 126))
   go_simp
   refine hK.out _ _ ⟨HS.out.cell 0,HS.out.cell 1,HS.out.cell 2,HS.out.cell 3⟩ (fun _=>?_)
   exact HX.out
 have st8:Hid (∀ (wk:World) (g3:Nat),Bk wk gg 24 #[.int .i64 t,.int .i64 (N:Int),.int .i64 s,.slice A len c]→Bl w0 wk→(Bk wk g3 126 #[.int .u32 0]∧w0.heap.size≤g3)→W 8 #[true,false,true,false,true,false,false,false,true,false,false,false] { tmps:=#[a0,.pointer (some ⟨gg,0,none⟩),a2,a3,a4,.pointer (some ⟨g3,0,none⟩),.agg #[.int .i64 t,.int .i64 (N:Int),.int .i64 s,.slice A len c],a7,.agg #[.int .i64 t,.int .i64 (N:Int),.int .i64 s,.slice A len c],a9,.agg #[.int .i64 t,.int .i64 (N:Int),.int .i64 s,.slice A len c],a11,a12,a13,a14,a15,a16,a17,a18],defers:=[] } wk):=by
  intro wk g3 hg hb hn
  subst hW
  have hHeld:=(⟨hg.cell 0,hg.cell 1,hg.cell 2,hg.cell 3⟩:wk.cell? ⟨gg,0,none⟩=some (.int .i64 t)∧wk.cell? ⟨gg,1,none⟩=some (.int .i64 (N:Int))∧wk.cell? ⟨gg,2,none⟩=some (.int .i64 s)∧wk.cell? ⟨gg,3,none⟩=some (.slice A len c))
  refine wpAnyH_ready (rs:=[1,6,7]) (by kernel_rfl) (by simp) ?_
  refine (AllReadyH.cons (o:=({ dst:=some 7,op:=Op.call { callee:=Callee.value (Operand.func 36),args:=#[Operand.tmp 6],argTypes:=#[24] },type:=70,pos:="sound.go:35",after:=#[{ on:=0,ground:=Ground.data }],guard:=none }:Oper)) rfl (fun K hK=>?_) (AllReadyH.cons (o:=({ dst:=some 3,op:=Op.alloc 70,type:=0,pos:="sound.go:35",after:=#[],guard:=none }:Oper)) rfl (fun K hK=>?_) (AllReadyH.cons (o:=({ dst:=some 4,op:=Op.alloc 70,type:=0,pos:="sound.go:35",after:=#[],guard:=none }:Oper)) rfl (fun K hK=>?_) AllReadyH.nil)))
  ·go_simp
   refine (productive_new t N s A len c ps _ B HL.out hlx (HPr.out _ hb) (HSz.out _ hb)).mono ?_
   intro e v1 h1
   obtain ⟨A9,c9,he1,ho1,hb1⟩:=h1.lit (k:=N) HFa.out (by rw [fz_len,Rk.ranks_length])
   subst he1
   have hg':=hg.bl hb1
   have HO1:=Lib.hid (own_base (b':=w0.heap.size) ho1 fun k hk=>Nat.le_trans hb.size (ho1.lt k hk).1)
   have HX:=Lib.hid (st18.out v1 A9 c9 g3 hg' (hb.trans hb1) HO1.out ⟨hn.1.bl hb1,hn.2⟩ )
   have HS:=Lib.hid hg'
   clear hg' ho1 hb1 h1
   go_wp2_with fail
   refine hK.out _ _ ⟨HS.out.cell 0,HS.out.cell 1,HS.out.cell 2,HS.out.cell 3⟩ (fun _=>?_)
   exact HX.out
  ·have HX:=Lib.hid (st68.out (wk.alloc (.cells #[.slice none 0 0] 70)) wk.heap.size g3 (hg.alloc _) (hb.alloc _) ⟨Bk.new _ _ _,hb.size⟩ ⟨hn.1.alloc _,hn.2⟩ )
   have HS:=Lib.hid (hg.alloc (.cells #[.slice none 0 0] 70))
   go_simp
   refine hK.out _ _ ⟨HS.out.cell 0,HS.out.cell 1,HS.out.cell 2,HS.out.cell 3⟩ (fun _=>?_)
   exact HX.out
  ·have HX:=Lib.hid (st78.out (wk.alloc (.cells #[.slice none 0 0] 70)) wk.heap.size g3 (hg.alloc _) (hb.alloc _) ⟨Bk.new _ _ _,hb.size⟩ ⟨hn.1.alloc _,hn.2⟩ )
   have HS:=Lib.hid (hg.alloc (.cells #[.slice none 0 0] 70))
   go_simp
   refine hK.out _ _ ⟨HS.out.cell 0,HS.out.cell 1,HS.out.cell 2,HS.out.cell 3⟩ (fun _=>?_)
   exact HX.out
 have st:Hid (∀ (wk:World),Bk wk gg 24 #[.int .i64 t,.int .i64 (N:Int),.int .i64 s,.slice A len c]→Bl w0 wk→ W 9 #[true,false,true,false,true,false,false,false,false,false,false,false] { tmps:=#[a0,.pointer (some ⟨gg,0,none⟩),a2,a3,a4,a5,.agg #[.int .i64 t,.int .i64 (N:Int),.int .i64 s,.slice A len c],a7,.agg #[.int .i64 t,.int .i64 (N:Int),.int .i64 s,.slice A len c],a9,.agg #[.int .i64 t,.int .i64 (N:Int),.int .i64 s,.slice A len c],a11,a12,a13,a14,a15,a16,a17,a18],defers:=[] } wk):=by
  intro wk  hg hb
  subst hW
  have hHeld:=(⟨hg.cell 0,hg.cell 1,hg.cell 2,hg.cell 3⟩:wk.cell? ⟨gg,0,none⟩=some (.int .i64 t)∧wk.cell? ⟨gg,1,none⟩=some (.int .i64 (N:Int))∧wk.cell? ⟨gg,2,none⟩=some (.int .i64 s)∧wk.cell? ⟨gg,3,none⟩=some (.slice A len c))
  refine wpAnyH_ready (rs:=[1,6,7,8]) (by kernel_rfl) (by simp) ?_
  refine (AllReadyH.cons (o:=({ dst:=some 7,op:=Op.call { callee:=Callee.value (Operand.func 36),args:=#[Operand.tmp 6],argTypes:=#[24] },type:=70,pos:="sound.go:35",after:=#[{ on:=0,ground:=Ground.data }],guard:=none }:Oper)) rfl (fun K hK=>?_) (AllReadyH.cons (o:=({ dst:=some 3,op:=Op.alloc 70,type:=0,pos:="sound.go:35",after:=#[],guard:=none }:Oper)) rfl (fun K hK=>?_) (AllReadyH.cons (o:=({ dst:=some 4,op:=Op.alloc 70,type:=0,pos:="sound.go:35",after:=#[],guard:=none }:Oper)) rfl (fun K hK=>?_) (AllReadyH.cons (o:=({ dst:=some 5,op:=Op.alloc 126,type:=0,pos:="sound.go:35",after:=#[],guard:=none }:Oper)) rfl (fun K hK=>?_) AllReadyH.nil))))
  ·go_simp
   refine (productive_new t N s A len c ps _ B HL.out hlx (HPr.out _ hb) (HSz.out _ hb)).mono ?_
   intro e v1 h1
   obtain ⟨A9,c9,he1,ho1,hb1⟩:=h1.lit (k:=N) HFa.out (by rw [fz_len,Rk.ranks_length])
   subst he1
   have hg':=hg.bl hb1
   have HO1:=Lib.hid (own_base (b':=w0.heap.size) ho1 fun k hk=>Nat.le_trans hb.size (ho1.lt k hk).1)
   have HX:=Lib.hid (st1.out v1 A9 c9 hg' (hb.trans hb1) HO1.out )
   have HS:=Lib.hid hg'
   clear hg' ho1 hb1 h1
   go_wp2_with fail
   refine hK.out _ _ ⟨HS.out.cell 0,HS.out.cell 1,HS.out.cell 2,HS.out.cell 3⟩ (fun _=>?_)
   exact HX.out
  ·have HX:=Lib.hid (st6.out (wk.alloc (.cells #[.slice none 0 0] 70)) wk.heap.size (hg.alloc _) (hb.alloc _) ⟨Bk.new _ _ _,hb.size⟩ )
   have HS:=Lib.hid (hg.alloc (.cells #[.slice none 0 0] 70))
   go_simp
   refine hK.out _ _ ⟨HS.out.cell 0,HS.out.cell 1,HS.out.cell 2,HS.out.cell 3⟩ (fun _=>?_)
   exact HX.out
  ·have HX:=Lib.hid (st7.out (wk.alloc (.cells #[.slice none 0 0] 70)) wk.heap.size (hg.alloc _) (hb.alloc _) ⟨Bk.new _ _ _,hb.size⟩ )
   have HS:=Lib.hid (hg.alloc (.cells #[.slice none 0 0] 70))
   go_simp
   refine hK.out _ _ ⟨HS.out.cell 0,HS.out.cell 1,HS.out.cell 2,HS.out.cell 3⟩ (fun _=>?_)
   exact HX.out
  ·have HX:=Lib.hid (st8.out (wk.alloc (.cells #[.int .u32 0] 126)) wk.heap.size (hg.alloc _) (hb.alloc _) ⟨Bk.new _ _ _,hb.size⟩ )
   have HS:=Lib.hid (hg.alloc (.cells #[.int .u32 0] 126))
   go_simp
   refine hK.out _ _ ⟨HS.out.cell 0,HS.out.cell 1,HS.out.cell 2,HS.out.cell 3⟩ (fun _=>?_)
   exact HX.out
 exact st.out w1.drew (hg.drew) (hb.drew)
end Go.Proofs.YtdfhhbncmdpoeaaGreat
namespace Go.Proofs.YtdfhhbncmdpoeaaGreat
open Go.RowKit
theorem faults_any (t s:Int) (A:Option Addr) (len c N:Nat) (ps:List Gr.Pr) (w:World) (B:Nat) (hlen:len=ps.length) (hr:Prs w B A ps) (hB:B≤w.heap.size) (hok:okB ⟨t,(N:Int),s,ps⟩=true) :
  Calls Tryz.prog 52 #[.agg #[.int .i64 t,.int .i64 N,.int .i64 s,.slice A len c]] w fun e w'=>∃ gf g1 g2 g3:Nat,e=.returned (.slice (some ⟨gf,0,none⟩) 3 3)∧
   Bk w' gf 106 #[.int .i64 8,.func (.func 80) #[] #[.pointer (some ⟨g1,0,none⟩)],.int .i64 9,.func (.func 81) #[] #[.pointer (some ⟨g2,0,none⟩)],.int .i64 10,.func (.func 82) #[] #[.pointer (some ⟨g3,0,none⟩)]]∧
   FltVars ⟨t,(N:Int),s,ps⟩ N g1 g2 g3 w w':=by
 have HL:=Lib.hid hlen;clear hlen
 have HA:=Lib.hid hr;clear hr
 have HOK:=Lib.hid hok;clear hok
 have HBx:Hid (Bl w (w.alloc (.cells #[.int .i64 t,.int .i64 N,.int .i64 s,.slice A len c] 24))):=(Bl.refl w).alloc _
 have HGx:Hid (Bk (w.alloc (.cells #[.int .i64 t,.int .i64 N,.int .i64 s,.slice A len c] 24)) w.heap.size 24 #[.int .i64 t,.int .i64 N,.int .i64 s,.slice A len c]):=Bk.new w _ _
 have hmf:∀ (fn:Fn) (first cap:Array Value) (w:World),(Instr.makeFunc fn first cap).run Tryz.prog w=.ok (.func fn first cap) w:=fun _ _ _ _=>rfl
 go_enter Tryz.func52,Tryz.ntmps52
 go_wp2_with fail
 refine faultsRegion t s A len c N ps w _ B w.heap.size _ _ _ _ _ _ _ _ _ _ _ _ _ _ _ _ _ _ _ HL.out HOK.out HA.out hB HGx.out HBx.out (fun _ a a' _ h hq=>by obtain ⟨ta,da⟩:=a;obtain ⟨tb,db⟩:=a';cases h;exact hq) ?_
 intro g1 g2 g3 x6 x7 x8 x9 x10 x11 w2 hk
 have HK:=Lib.hid hk
 clear hk
 have HX:=Lib.hid (Bk.new w2 106 #[.int .i64 8,.func (.func 80) #[] #[.pointer (some ⟨g1,0,none⟩)],.int .i64 9,.func (.func 81) #[] #[.pointer (some ⟨g2,0,none⟩)],.int .i64 10,.func (.func 82) #[] #[.pointer (some ⟨g3,0,none⟩)]])
 have HV:=Lib.hid (HK.out.bl ((Bl.refl w2).alloc (.cells #[.int .i64 8,.func (.func 80) #[] #[.pointer (some ⟨g1,0,none⟩)],.int .i64 9,.func (.func 81) #[] #[.pointer (some ⟨g2,0,none⟩)],.int .i64 10,.func (.func 82) #[] #[.pointer (some ⟨g3,0,none⟩)]] 106)))
 go_wp2_with fail
 go_ret
 exact ⟨w2.heap.size,g1,g2,g3,rfl,HX.out,HV.out⟩
end Go.Proofs.YtdfhhbncmdpoeaaGreat
