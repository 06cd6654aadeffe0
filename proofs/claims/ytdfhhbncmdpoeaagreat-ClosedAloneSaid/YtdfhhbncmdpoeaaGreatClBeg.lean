/- An argument that is a slice of slices of items, opened to cells. -/
import Derived.Test.YtdfhhbncmdpoeaaGreatClKey
import Derived.Test.YtdfhhbncmdpoeaaGreatClKeep
import Derived.Test.YtdfhhbncmdpoeaaGreatGRS
import Derived.RangeFuncNested
import Derived.RangeFuncBound
import Derived.RangeFuncCalls
import Derived.RangeFuncLeaves
import Derived.OwnWalkIn
import Derived.TacticsInMore
import Derived.LoopNIn
import Derived.LoopIn
import Derived.OrdersIn
import Derived.OrdersHeld
import Derived.Stop.RegionWithIn
set_option maxRecDepth 100000
set_option maxHeartbeats 4000000
namespace Go.Proofs.YtdfhhbncmdpoeaaGreat
open Go.ChangeShapes Go.WideShapes Go.RowKit Go.Deep
section
variable {H:Type} {enc:TypeId × Value→H} {w:World} {spare:Nat→Bool} {held:Bool}
theorem open_ixs {fuel:Nat} {v:Value} {x:DataW H × List MemPlace} (h:DataW.trod enc Tryz.prog w 0 spare held fuel 45 [v]=some x) :
  ∃ (A:Option Addr) (l:List Ix) (c:Nat),v=.slice A l.length c∧Rd w w.heap.size A (ixRow l):=by
 have h':=h
 rcases open_slice Tryz.underlying45 h with ⟨hcs,_⟩ | ⟨a,len',cap',m,n,D,Pl,hcs,_⟩
 ·injection hcs with hcs _
  subst hcs
  exact ⟨none,[],0,rfl,Rd.nil⟩
 ·injection hcs with hcs _
  subst hcs
  obtain ⟨d,p⟩:=x
  obtain ⟨l,hl,hr,_⟩:=iopen_items (A:=some a) (len:=len') (cap:=cap') (d:=d) (p:=p) ⟨fuel,h'⟩
  subst hl
  exact ⟨some a,l,cap',rfl,hr⟩
theorem sopen_sets {A:Option Addr} {len cap:Nat} {d:DataW H} {p:List MemPlace} (h:DataW.Trod enc Tryz.prog w 0 spare held 26 (.slice A len cap) d p) :
  ∃ L:List (List Ix),len=L.length∧SetsX w w.heap.size A L∧len≤maxLen:=by
 obtain ⟨fuel,hf⟩:=h
 rcases open_slice Tryz.underlying26 hf with ⟨hcs,_⟩ | ⟨a,len',cap',m,n,D,Pl,hcs,_,hl,hm,hmm,_,hi⟩
 ·simp [Value.cells] at hcs
  obtain ⟨rfl,rfl,rfl⟩:=hcs
  exact ⟨[],rfl,⟨[],Rd.nil,rfl,fun i l hl=>by simp at hl⟩,Nat.zero_le _⟩
 ·simp [Value.cells] at hcs
  obtain ⟨rfl,rfl,rfl⟩:=hcs
  have h2:Tryz.prog.cellsOf 45=1:=by kernel_rfl
  rw [h2] at hi
  have hlm:len≤m:=by rw [hmm];split <;> omega
  have key:∀ i:Fin len,∃ x:Option Addr × List Ix × Nat,w.cell? (a.add i)=some (.slice x.1 x.2.1.length x.2.2)∧Rd w w.heap.size x.1 (ixRow x.2.1):=by
   intro i
   obtain ⟨cs',hc,ht⟩:=hi i (by omega)
   obtain ⟨hlen,_,hat⟩:=World.cells?_some hc
   have a0:=hat 0 (by omega)
   rw [show ∀ b:Addr,b.add 0=b from fun b=>by simp [Addr.add]] at a0
   match cs',hlen,ht,a0 with
   | [v],_,ht,a0=>
    obtain ⟨A2,l,c,rfl,hr⟩:=open_ixs ht
    rw [Nat.mul_one] at a0
    exact ⟨(A2,l,c),a0,hr⟩
  obtain ⟨X,hX⟩:=Classical.skolem.1 key
  refine ⟨List.ofFn fun i=>(X i).2.1,by simp,⟨List.ofFn fun i=>.slice (X i).1 (X i).2.1.length (X i).2.2,?_,by simp,fun i l hl=>?_⟩,Nat.le_trans hl hm⟩
  ·intro hn
   rw [List.length_ofFn] at hn
   obtain ⟨h0,_⟩:=hX ⟨0,hn⟩
   obtain ⟨b,off,spot⟩:=a
   have hspot:spot=none:=by simpa [Addr.add] using World.cell?_spot h0
   subst hspot
   refine ⟨b,off,rfl,by have:=World.block_lt_of_cell? w _ h0;simpa [Addr.add] using this,fun j u hu=>?_⟩
   have hj:j < len:=by have:=Ch.lt_of_get hu;rwa [List.length_ofFn] at this
   rw [List.getElem?_eq_getElem (by rw [List.length_ofFn];exact hj),List.getElem_ofFn] at hu
   injection hu with hu
   subst hu
   have q:=(hX ⟨j,hj⟩).1
   have e:(⟨b,off,none⟩:Addr).add j=⟨b,off + j,none⟩:=by unfold Addr.add;split <;> simp_all
   rw [e] at q
   exact q
  ·have hj:i < len:=by have:=Ch.lt_of_get hl;rwa [List.length_ofFn] at this
   rw [List.getElem?_eq_getElem (by rw [List.length_ofFn];exact hj),List.getElem_ofFn] at hl
   injection hl with hl
   subst hl
   refine ⟨(X ⟨i,hj⟩).1,(X ⟨i,hj⟩).2.2,?_,(hX ⟨i,hj⟩).2⟩
   rw [List.getElem?_eq_getElem (by rw [List.length_ofFn];exact hj),List.getElem_ofFn]
end
end Go.Proofs.YtdfhhbncmdpoeaaGreat
namespace Go.Proofs.YtdfhhbncmdpoeaaGreat
open Go.RowKit
attribute [local go_sem] Oper.semAt_some
abbrev SX:={ s:St4 // stOk s }
def SX.enc (x:SX):Array Value:=#[stv x.1]
abbrev RndP (J Jx:List SX→World→Prop) (pre:List SX) (x:SX) (W1:World) (e:Ending) (W':World):Prop:=
 (e=.returned (.bool true)∧J (pre ++ [x]) W'∧KpC W1 W')∨(e=.returned (.bool false)∧Jx (pre ++ [x]) W')
theorem yieldAny {m m':Nat} {l:Nat} {args:Array Value} {W:World} {R:Ending→World→Prop} (h:YieldAt Fence.wide m Tryz.prog l args W R):YieldAt Fence.wide m' Tryz.prog l args W R:=by
 obtain ⟨fn,tmps,assign,body,hy,hR⟩:=h
 exact ⟨fn,tmps,assign,body,hy,trivial,fun c cs _=>hR.2 c cs (room_wide _)⟩
def begL (g:Gr.Gm) (x:Int × Nat):List St4:=(ofK g.prods x.1 g.prods.length).map fun i=>(x.2,⟨i,0,x.2⟩)
theorem ofK_lt {ps:List Gr.Pr} {non:Int} {k i:Nat} (h:i ∈ ofK ps non k):i < k:=by
 unfold ofK at h
 rw [List.mem_filter,List.mem_range] at h
 exact h.1
theorem begL_get {t n s:Int} {ps:List Gr.Pr} {x1:Int} {x2 k:Nat} (h:k < (ofK ps x1 ps.length).length):(begL ⟨t,n,s,ps⟩ (x1,x2))[k]?=some (x2,⟨(ofK ps x1 ps.length)[k],0,x2⟩):=by
 unfold begL
 rw [List.getElem?_map]
 show Option.map _ ((ofK ps x1 ps.length)[k]?)=_
 rw [List.getElem?_eq_getElem h]
 rfl
def SX.mk' (a i:Nat) (ha:a < 1000000) (hi:i < 1000000):SX:=⟨(a,⟨i,0,a⟩),ha,hi,by show (0:Nat) < 1000000;omega,ha⟩
theorem begin_in (G:Kg) (ps:List Gr.Pr) (base:Nat) (K:Kw) (V:Int × Nat→Value) (P:List St4) (n l:Nat) (x1:Int) (x2:Nat) (J Jx:List SX→World→Prop) (N:Nat) (B:Nat) (hlen:G.len=ps.length) (h60:ps.length≤60) (hx2:x2 < 1000000)
  (hJ:∀ pre W W',J pre W→Bl W W'→J pre W')
  (hY:∀ pre x W,J pre W→pre.length < N→YieldAt Fence.wide 0 Tryz.prog l x.enc W (RndP J Jx pre x W))
  (W:World) (hK:KeptR G ⟨G.t,G.n,G.s,ps⟩ base K V P W) (hr:Prs W B G.A ps) (hB:B≤W.heap.size) (pre0:List SX) (hN:pre0.length + ps.length≤N) (h0:J pre0 W) :
  CallsIn Fence.wide n Tryz.prog 75 #[.pointer (some ⟨K.p,0,none⟩),.agg #[.int .i64 x1,.int .i64 (x2:Int)],.func (.yield l) #[] #[]] W fun e W'=>
   (∃ ys:List SX,ys.map (·.1)=begL ⟨G.t,G.n,G.s,ps⟩ (x1,x2)∧e=.returned (.bool true)∧J (pre0 ++ ys) W'∧KpC W W')∨(∃ ys:List SX,(∀ y ∈ ys,y.1 ∈ begL ⟨G.t,G.n,G.s,ps⟩ (x1,x2))∧e=.returned (.bool false)∧Jx (pre0 ++ ys) W'):=by
 refine callsIn_of_wp Tryz.func75 rfl trivial ?_ rfl
 simp only [Tryz.ntmps75,List.size_toArray,List.length_cons,List.length_nil,Nat.reduceAdd,Nat.reduceSub,Array.replicate_succ,Array.replicate_zero,List.push_toArray,List.append_toArray,List.nil_append,List.cons_append]
 have HB0:Hid (Bl W (W.alloc (.cells #[.int .i64 x1,.int .i64 (x2:Int)] 154))):=(Bl.refl W).alloc _
 have HX0:=Lib.hid (Bk.new W 154 #[.int .i64 x1,.int .i64 (x2:Int)])
 have HK0:=Lib.hid (hK.bl HB0.out)
 have hO:=of_any G.t G.n G.s x1 G.A G.len G.c ps (W.alloc (.cells #[.int .i64 x1,.int .i64 (x2:Int)] 154)).drew B hlen (by omega) (hr.bl hB HB0.out.drew) (Nat.le_trans hB HB0.out.size)
 have HO:=Lib.hid hO
 have HL:=Lib.hid hlen
 clear hO hr hlen
 gi_wp2
 generalize W.alloc (.cells #[.int .i64 x1,.int .i64 (x2:Int)] 154)=W1 at *
 have k0:W1.cell? ⟨K.p,0,none⟩=some (.int .i64 G.t):=HK0.out.kb.cell 0
 have k1:W1.cell? ⟨K.p,1,none⟩=some (.int .i64 G.n):=HK0.out.kb.cell 1
 have k2:W1.cell? ⟨K.p,2,none⟩=some (.int .i64 G.s):=HK0.out.kb.cell 2
 have k3:W1.cell? ⟨K.p,3,none⟩=some (.slice G.A G.len G.c):=HK0.out.kb.cell 3
 have kl:=HK0.out.kb.lt
 have x0:W1.cell? ⟨W.heap.size,0,none⟩=some (.int .i64 x1):=HX0.out.cell 0
 have xl:=HX0.out.lt
 have hmx:Tryz.prog.follows .mixedOrders=true:=by kernel_rfl
 gi_region_with (refine ⟨trivial,fun h=>(by cases h),?_⟩;refine (callsIn_wide.2 HO.out).mono ?_;rintro e W2 ⟨A2,c2,rfl,hc2,ho2,hb2⟩;have HO2:=Lib.hid ho2;have HB2:=Lib.hid hb2;clear ho2 hb2)
 all_goals
  rw [ns_len] at *
  have hm60:(ofK ps x1 ps.length).length≤ps.length:=ofK_len _ _ _
  have HRd:Hid (Rd W2 W2.heap.size A2 (ins (ns (ofK ps x1 ps.length)))):=Rd.own HO2.out
  have HJ2:Hid (J pre0 W2):=hJ _ _ _ h0 (HB0.out.trans (HB2.out.undrew))
  have HK02:Hid (KpC W W2):=KpC.of_bl (HB0.out.trans HB2.out.undrew)
  have HX2:=Lib.hid (HX0.out.bl HB2.out.undrew)
  generalize hm:(ofK ps x1 ps.length).length=m at *
  have HM:=Lib.hid hm
  clear k0 k1 k2 k3 kl x0 xl HX0 HK0 HO HO2 HB0 HB2 hm
  gi_wp2
  gi_loopw [17] (fun i wr=>∃ (k:Nat) (ys:List SX),k≤m∧i=.int .i64 k∧ys.length=k∧ys.map (·.1)=(begL ⟨G.t,G.n,G.s,ps⟩ (x1,x2)).take k∧J (pre0 ++ ys) wr∧KpC W2 wr) (fun i _=>m - (intOf i).toNat)
  case atStart=>exact ⟨0,[],Nat.zero_le _,rfl,rfl,rfl,by rw [List.append_nil];exact HJ2.out,KpC.refl _⟩
  case round=>
   obtain ⟨k,ys,hk,rfl,hyl,hys,hJs,hkp⟩:=hrel
   by_cases hlt:k < m
   ·have hL2:k < (ofK ps x1 ps.length).length:=by have:=HM.out;omega
    have hi:(ofK ps x1 ps.length)[k] < ps.length:=ofK_lt (List.getElem_mem hL2)
    have hbe:=begL_get (t:=G.t) (n:=G.n) (s:=G.s) (x2:=x2) hL2
    have HTk:Hid ((begL ⟨G.t,G.n,G.s,ps⟩ (x1,x2)).take (k + 1)=(begL ⟨G.t,G.n,G.s,ps⟩ (x1,x2)).take k ++ [(x2,⟨(ofK ps x1 ps.length)[k],0,x2⟩)]):=by show _=_;rw [List.take_add_one,hbe];rfl
    have HMm:Hid ((x2,(⟨(ofK ps x1 ps.length)[k],0,x2⟩:Ch.Im)) ∈ begL ⟨G.t,G.n,G.s,ps⟩ (x1,x2)):=List.mem_of_getElem? hbe
    obtain ⟨bo,oo,rfl,hbo,c0⟩:=(HRd.out.kpc hkp).int (j:=k) (by rw [ns_len];exact hL2)
    have hnk:(ns (ofK ps x1 ps.length))[k]'(by rw [ns_len];exact hL2)=(((ofK ps x1 ps.length)[k]:Nat):Int):=by unfold ns;rw [List.getElem_map]
    rw [hnk] at c0
    generalize (ofK ps x1 ps.length)[k]=j at *
    clear hbe hnk
    have hbl:bo < wr.heap.size:=Nat.lt_of_lt_of_le hbo hkp.1
    have i0:(0:Int)≤(k:Int):=by omega
    have i1:(k:Int) < (m:Int):=by omega
    have HX:=Lib.hid (HX2.out.kpc hkp)
    have x1c:wr.cell? ⟨W.heap.size,1,none⟩=some (.int .i64 (x2:Int)):=HX.out.cell 1
    have xl:=HX.out.lt
    obtain ⟨fn,tmps,assign,body,hy,hR⟩:=yieldAny (m':=n - 1) (hY (pre0 ++ ys) (SX.mk' x2 j hx2 (by omega)) wr hJs (by rw [List.length_append];omega))
    have hy:(Instr.yield l #[.agg #[.int .i64 (x2:Int),.int .i64 (j:Int),.int .i64 0,.int .i64 (x2:Int)]]).run Tryz.prog wr=.ok (.round l fn tmps assign body) wr:=hy
    gi_wp2
    refine ⟨fun h=>(by cases h),hR.mono ?_⟩
    rintro e W3 (⟨rfl,hJ3,hk3⟩ | ⟨rfl,hJx3⟩)
    ·gi_wp2
     go_roundw
     case rel=>exact ⟨k + 1,ys ++ [SX.mk' x2 j hx2 (by omega)],by omega,by go_num,by rw [List.length_append];simp;omega,by rw [List.map_append,hys,HTk.out];rfl,by rw [← List.append_assoc];exact hJ3,hkp.trans hk3⟩
     case measure=>simp [intOf];omega
    ·gi_wp2
     go_ret
     refine .inr ⟨ys ++ [SX.mk' x2 j hx2 (by omega)],fun y hy=>?_,rfl,by rw [← List.append_assoc];exact hJx3⟩
     rcases List.mem_append.mp hy with h | h
     ·have:y.1 ∈ ys.map (·.1):=List.mem_map.2 ⟨y,h,rfl⟩
      rw [hys] at this
      exact List.mem_of_mem_take this
     ·rw [List.mem_singleton] at h
      subst h
      exact HMm.out
   ·have hke:k=m:=by omega
    subst hke
    gi_wp2
    go_ret
    refine .inl ⟨ys,?_,rfl,hJs,HK02.out.trans hkp⟩
    rw [hys,List.take_of_length_le]
    unfold begL
    rw [List.length_map]
    have:=HM.out
    show (ofK ps x1 ps.length).length≤k
    omega
end Go.Proofs.YtdfhhbncmdpoeaaGreat
