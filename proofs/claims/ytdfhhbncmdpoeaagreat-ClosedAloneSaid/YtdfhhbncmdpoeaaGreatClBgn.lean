/- A range over a method value that goes through items: what it promises, and the loop over it. -/
import Derived.Test.YtdfhhbncmdpoeaaGreatClBeg
set_option maxRecDepth 100000
set_option maxHeartbeats 4000000
namespace Go.Proofs.YtdfhhbncmdpoeaaGreat
open Go.RowKit
def SeqM (gf:Nat) (rv:Value) (Req:St4→Prop) (N:Nat) (w0:World):Prop:=
 ∀ (l:Nat) (J Jx:List SX→World→Prop) (W:World),Bl w0 W→
  (∀ s X Y row,J s X→X.grownBy Y row→(∀ r,row=some r→W.heap.size≤r∧∃ o:Obj,X.heap[r]?=some o∧o.isWalk=true)→J s Y)→
  (∀ pre x W1,J pre W1→pre.length < N→YieldAt Fence.wide 0 Tryz.prog l x.enc W1 (RndP J Jx pre x W1))→J [] W→
  CallsIn Fence.wide 0 Tryz.prog gf #[rv,.func (.yield l) #[] #[]] W fun e W'=>(∃ v,e=.returned v)∧
   ((∃ ys:List SX,(∀ s,Req s→∃ y ∈ ys,y.1=s)∧(∀ y ∈ ys,Req y.1)∧J ys W')∨(∃ ys:List SX,(∀ y ∈ ys,Req y.1)∧Jx ys W'))
def postR (I Ix:List SX→World→Prop) (xs:List SX) (W:World):Exit→Act→World→Prop
 | .normal,_,W'=>KeepsOthers W W'∧KpC W W'∧I xs W'
 | .ret,_,W'=>KeepsOthers W W'∧Ix xs W'
 | _,_,_=>False
abbrev Abv (w:World) (I:List SX→World→Prop):Prop:=∀ s X Y row,I s X→X.grownBy Y row→(∀ r,row=some r→w.heap.size≤r∧∃ o:Obj,X.heap[r]?=some o∧o.isCells=false)→I s Y
theorem Abv.put {w:World} {I:List SX→World→Prop} (h:Abv w I) {s:List SX} {W:World} {l:Nat} {r:Loop} (o':Obj) (hs:I s W) (hl:w.heap.size≤l) (h1:W.heap[l]?=some (.loop r)):I s (W.putObj l o'):=
 h s W _ (some l) hs (grownBy_putObj' W l o') fun r e=>by cases e;exact ⟨hl,_,h1,rfl⟩
theorem rangeM_in {g:Operand} {ps:Array Tmp} {assign body:Code} {Q:Exit→Act→World→Prop} {a:Act} {w:World} {gf:Nat} {rv:Value} {n:Nat} (hg:a.eval g=.func (.func gf) #[rv] #[]) (eg:∀ args w,(callFunc gf args).run Tryz.prog w=.ok (.enter gf args) w)
  {Req:St4→Prop} {N:Nat} (hseq:SeqM gf rv Req N w) (hps:ps.size=1) (I Ix:List SX→World→Prop) (hI:Abv w I) (hIx:Abv w Ix) (h0:I [] w)
  (Ax:SX→Act→World→Prop) (hAx:∀ x a1,Abv w (fun _ W=>Ax x a1 W))
  (hassign:∀ (l:Nat) (pre:List SX) (x:SX) (W:World) (K:Act→World→Prop),I pre W→(∀ a1 W1,Bl W W1→I pre W1→Ax x a1 W1→K a1 W1)→
   assign.wpIn (Fence.wide.inRound l) 0 Tryz.prog (Exit.then K (fun _ _ _=>False)) { tmps:=(ps.zip x.enc).foldl (fun t (p,v)=>t.setIfInBounds p v) a.tmps,defers:=[] } W)
  (hbody:∀ (l:Nat) (pre:List SX) (x:SX) (a1:Act) (W:World),w.heap.size≤l→I pre W→Ax x a1 W→body.wpIn (Fence.wide.inRound l) 0 Tryz.prog (postR I Ix (pre ++ [x]) W) a1 W)
  (hdone:∀ (D:Nat) (ys:List SX) (W:World),w.heap.size≤D→(∀ s,Req s→∃ y ∈ ys,y.1=s)→(∀ y ∈ ys,Req y.1)→I ys W→W.heap[D]?=some (.deferred (some []))→Q .normal { a with defers:={ target:=.collected D,args:=#[] } :: a.defers } W)
  (hstop:∀ (D:Nat) (ys:List SX) (W:World),w.heap.size≤D→(∀ y ∈ ys,Req y.1)→Ix ys W→W.heap[D]?=some (.deferred (some []))→Code.ret.wpIn Fence.wide n Tryz.prog Q { a with defers:={ target:=.collected D,args:=#[] } :: a.defers } W) :
  (Code.rangeFunc g ps assign body).wpIn Fence.wide n Tryz.prog Q a w:=by
 refine wpIn_rangeFunc fun fn hfn=>?_
 -- the loop's record,block l,and the block for deferred calls,block d
 generalize hd:w.heap.size=d
 let rc:LoopState→Option Code→Obj:=fun st pe=>.loop { state:=st,pending:=pe,fn,tmps:=a.tmps,params:=ps,assign,body,defers:=d }
 have hent:=run_enterLoop_outer (P:=Tryz.prog) (w:=w) fn a.tmps ps assign body
 rw [hd] at hent
 have hW:∃ W1,W1=(w.alloc (.deferred (some []))).alloc (rc .ready none):=⟨_,rfl⟩
 obtain ⟨W1,hW1⟩:=hW
 have hb1:Bl w W1:=by rw [hW1];exact ((Bl.refl w).alloc _).alloc _
 have hd1:W1.heap[d]?=some (.deferred (some [])):=by
  rw [hW1,← hd,Below.heap_alloc _ _ _ (by simp)]
  exact World.alloc_heap_new w _
 have hl1:W1.heap[d + 1]?=some (rc .ready none):=by
  have:=World.alloc_heap_new (w.alloc (.deferred (some []))) (rc .ready none)
  rw [World.size_alloc,hd] at this
  rw [hW1];exact this
 have hI1:I [] W1:=hI [] w W1 none h0 ⟨hb1.os,hb1.tape,hb1.output,hb1.size,fun k hk _=>hb1.block k hk⟩ (fun r e=>by cases e)
 have hs1:W1.heap.size=d + 2:=by rw [hW1,World.size_alloc,World.size_alloc,hd]
 refine ⟨d + 1,_,W1,{ target:=.fn (.func gf) #[],args:=#[rv,.func (.yield (d + 1)) #[] #[]] },W1,gf,#[rv,.func (.yield (d + 1)) #[] #[]],W1,by rw [hW1];exact hent,?_,fun _ _=>trivial,?_,fun h=>(by cases h),?_⟩
 ·simp only [resolve,hg]
  simp [go_sem]
 ·simp [invoke,go_sem,eg]
 have key:=hseq (d + 1) (fun pre W=>I pre W∧W.heap[d + 1]?=some (rc .ready none)∧W.heap[d]?=some (.deferred (some []))) (fun pre W=>Ix pre W∧W.heap[d + 1]?=some (rc .done (some .ret))∧W.heap[d]?=some (.deferred (some []))) W1 hb1 ?_ ?_ ⟨hI1,hl1,hd1⟩
 ·refine callsIn_wide.2 ((callsIn_wide.1 key).mono ?_)
  rintro e W2 ⟨⟨v,rfl⟩,⟨ys,h1,h2,hi,hl,hk⟩ | ⟨ys,h2,hi,hl,hk⟩⟩
  ·exact ⟨none,_,run_endLoop hl (by simp),hdone d ys _ (by omega) h1 h2 (hI.put _ hi (by omega) hl) ((World.putObj_heap_other (by omega)).trans hk)⟩
  ·exact ⟨some .ret,_,run_endLoop hl (by simp),hstop d ys _ (by omega) h2 (hIx.put _ hi (by omega) hl) ((World.putObj_heap_other (by omega)).trans hk)⟩
 ·rintro s X Y row ⟨h1,h2,h3⟩ hgr hr
  have low:∀ k,k < d + 2→some k≠row:=fun k hk e=>by have:=(hr k e.symm).1;omega
  refine ⟨hI s X Y row h1 hgr fun r e=>?_,(hgr.block _ (heap_lt h2) (low _ (by omega))).trans h2,(hgr.block _ (heap_lt h3) (low _ (by omega))).trans h3⟩
  obtain ⟨q1,o,q2,q3⟩:=hr r e
  exact ⟨by omega,o,q2,Obj.not_cells_of_walk q3⟩
 ·rintro pre x W ⟨hi,hl,hk⟩ _
  have hlt:=heap_lt hl
  refine ⟨fn,_,assign,body,run_yield hl (by show (1:Nat)=ps.size;exact hps.symm),roundIn_of_wpIn hfn (hassign _ pre x W _ hi fun a1 Wa hba hia hax=>?_)⟩
  have hla:Wa.heap[d + 1]?=some (rc .ready none):=(hba.block _ hlt).trans hl
  have hka:Wa.heap[d]?=some (.deferred (some [])):=(hba.block _ (heap_lt hk)).trans hk
  refine ⟨_,run_beginRound hla rfl,?_⟩
  have hlb:(Wa.putObj (d + 1) (rc .busy none)).heap[d + 1]?=some (rc .busy none):=World.putObj_heap_same (heap_lt hla)
  have hkb:(Wa.putObj (d + 1) (rc .busy none)).heap[d]?=some (.deferred (some [])):=(World.putObj_heap_other (by omega)).trans hka
  have hkp:KpC W (Wa.putObj (d + 1) (rc .busy none)):=(KpC.of_bl hba).trans (KpC.put (d + 1) Wa (d + 1) _ _ (Nat.le_refl _) hla rfl rfl)
  refine wpIn_mono (hbody (d + 1) pre x a1 _ (by omega) (hI.put _ hia (by omega) hla) ((hAx x a1).put (s:=[]) _ hax (by omega) hla)) ?_
  rintro e a3 W3 hp
  cases e with
  | normal=>
   obtain ⟨h1,h2,h3⟩:=hp
   have hl3:=h1.same _ _ hlb rfl
   have hk3:=h1.same _ _ hkb rfl
   exact ⟨_,_,run_endRound none hl3,.inl ⟨rfl,⟨hI.put _ h3 (by omega) hl3,World.putObj_heap_same (heap_lt hl3),(World.putObj_heap_other (by omega)).trans hk3⟩,(hkp.trans h2).trans (KpC.put (d + 1) W3 (d + 1) _ _ (Nat.le_refl _) hl3 rfl rfl)⟩⟩
  | ret=>
   obtain ⟨h1,h3⟩:=hp
   have hl3:=h1.same _ _ hlb rfl
   have hk3:=h1.same _ _ hkb rfl
   exact ⟨_,_,run_endRound (some .ret) hl3,.inr ⟨rfl,hIx.put _ h3 (by omega) hl3,World.putObj_heap_same (heap_lt hl3),(World.putObj_heap_other (by omega)).trans hk3⟩⟩
  | exit id=>exact hp.elim
  | goto t=>exact hp.elim
  | panic ch=>exact hp.elim
  | outgrown=>exact hp.elim
end Go.Proofs.YtdfhhbncmdpoeaaGreat
namespace Go.Proofs.YtdfhhbncmdpoeaaGreat
open Go.RowKit
attribute [local go_sem] Oper.semAt_some
def ReqS (g:Gr.Gm) (s:St4):Prop:=s ∈ begL g (g.start,0)
def ReqB (g:Gr.Gm) (P:List St4) (s:St4):Prop:=∃ x,Ch.waitL g P x≠[]∧s ∈ begL g x
def ReqR (g:Gr.Gm) (P:List St4) (xs:List Int) (m:Nat) (s:St4):Prop:=∃ t ∈ P,∃ y,Ch.symAt g t.2=some y∧y.non=false∧t.1 < m∧xs[t.1]?=some y.n∧s=(t.1 + 1,⟨t.2.prod,t.2.dot + 1,t.2.frm⟩)
def ReqL (g:Gr.Gm) (P:List St4) (s:St4):Prop:=∃ e ∈ Ch.endL g P,∃ y ∈ Ch.waitL g P (e.1,e.2.1),s=(e.2.2,⟨y.prod,y.dot + 1,y.frm⟩)
structure ClE (G:Kg) (ps:List Gr.Pr) (base:Nat) (K:Kw) (V:Int × Nat→Value) (P:List St4) (B:Nat) (xs:List Int) (w:World):Prop where
 k:KeptR G ⟨G.t,G.n,G.s,ps⟩ base K V P w
 len:G.len=ps.length
 ok:Gr.Ok ⟨G.t,G.n,G.s,ps⟩
 prs:Prs w B G.A ps
 rw_:Rd w B G.Aw (ins xs)
 lw:G.lw≤xs.length
 hB:B≤w.heap.size
 atl:∀ s ∈ P,s.1≤G.lw
 fine:∀ s ∈ P,s.1≤1000∧imIn ⟨G.t,G.n,G.s,ps⟩ s.2∧s.2.frm≤s.1
 few:P.length≤300000
section
variable {G:Kg} {ps:List Gr.Pr} {base:Nat} {K:Kw} {V:Int × Nat→Value} {P:List St4} {B:Nat} {xs:List Int} {w w':World}
theorem ClE.kpc (h:ClE G ps base K V P B xs w) (k:KpC w w'):ClE G ps base K V P B xs w':=
 { h with k:=h.k.kpc k,prs:=h.prs.kpc k,rw_:=h.rw_.kpc k,hB:=Nat.le_trans h.hB k.1 }
theorem ClE.bl (h:ClE G ps base K V P B xs w) (k:Bl w w'):ClE G ps base K V P B xs w':=h.kpc (.of_bl k)
theorem ClE.h60 (h:ClE G ps base K V P B xs w):ps.length≤60:=h.ok.2.2.2.2.2.2.1
theorem ClE.stOk (h:ClE G ps base K V P B xs w) {s:St4} (hs:s ∈ P):stOk s:=by
 obtain ⟨h1,⟨p,hp,hd⟩,h3⟩:=h.fine s hs
 have h4:s.2.prod < ps.length:=Ch.lt_of_get hp
 have:=h.h60
 have h5:=(h.ok.2.2.2.2.2.2.2 p (List.mem_of_getElem? hp)).2.2.1
 exact ⟨by omega,by show s.2.prod < 1000000;omega,by show s.2.dot < 1000000;omega,by show s.2.frm < 1000000;omega⟩
end
theorem bl_grown {w w':World} (h:Bl w w'):w.grownBy w' none:=⟨h.os,h.tape,h.output,h.size,fun k hk _=>h.block k hk⟩
theorem begin_two {G:Kg} {ps:List Gr.Pr} {base:Nat} {K:Kw} {V:Int × Nat→Value} {P:List St4} {B:Nat} {xs:List Int} {W:World} (hE:ClE G ps base K V P B xs W) (n l:Nat) (x1:Int) (x2:Nat) (J Jx:List SX→World→Prop) (N B0:Nat) (hx2:x2 < 1000000)
  (hJ:∀ s X Y row,J s X→X.grownBy Y row→(∀ r,row=some r→B0≤r∧∃ o:Obj,X.heap[r]?=some o∧o.isWalk=true)→J s Y)
  (hY:∀ pre x W1,J pre W1→pre.length < N→YieldAt Fence.wide 0 Tryz.prog l x.enc W1 (RndP J Jx pre x W1)) (pre0:List SX) (hN:pre0.length + 60≤N) (h0:J pre0 W) :
  CallsIn Fence.wide n Tryz.prog 75 #[.pointer (some ⟨K.p,0,none⟩),.agg #[.int .i64 x1,.int .i64 (x2:Int)],.func (.yield l) #[] #[]] W fun e W'=>
   ∃ b:Bool,e=.returned (.bool b)∧((b=true∧∃ ys:List SX,ys.map (·.1)=begL ⟨G.t,G.n,G.s,ps⟩ (x1,x2)∧J (pre0 ++ ys) W'∧KpC W W')∨(b=false∧∃ ys:List SX,(∀ y ∈ ys,y.1 ∈ begL ⟨G.t,G.n,G.s,ps⟩ (x1,x2))∧Jx (pre0 ++ ys) W')):=by
 refine (begin_in G ps base K V P n l x1 x2 J Jx N B hE.len hE.h60 hx2 (fun pre X Y hx hb=>hJ pre X Y none hx (bl_grown hb) (fun r e=>by cases e)) hY W hE.k hE.prs hE.hB pre0 (by have:=hE.h60;omega) h0).mono ?_
 rintro e W2 (⟨ys,h1,rfl,h3,h4⟩ | ⟨ys,h1,rfl,h3⟩)
 ·exact ⟨true,rfl,.inl ⟨rfl,ys,h1,h3,h4⟩⟩
 ·exact ⟨false,rfl,.inr ⟨rfl,ys,h1,h3⟩⟩
theorem started_in (G:Kg) (ps:List Gr.Pr) (base:Nat) (K:Kw) (V:Int × Nat→Value) (P:List St4) (B:Nat) (xs:List Int) (w:World) (h:ClE G ps base K V P B xs w) :
  SeqM 45 (.pointer (some ⟨K.p,0,none⟩)) (ReqS ⟨G.t,G.n,G.s,ps⟩) 60 w:=by
 intro l J Jx W hW hJ hY h0
 have hE:=h.bl hW
 have hb:=begin_two hE 0 l G.s 0 J Jx 60 W.heap.size (by omega) hJ hY [] (by simp) h0
 have hb2:CallsIn Fence.wide 0 Tryz.prog 75 #[.pointer (some ⟨K.p,0,none⟩),.agg #[.int .i64 G.s,.int .i64 0],.func (.yield l) #[] #[]] W _:=hb
 have HB:=Lib.hid hb2
 have k2:W.cell? ⟨K.p,2,none⟩=some (.int .i64 G.s):=hE.k.kb.cell 2
 have kl:=hE.k.kb.lt
 clear hb hb2 hE hY h0
 refine callsIn_of_wp Tryz.func45 rfl trivial ?_ rfl
 simp only [Tryz.ntmps45,List.size_toArray,List.length_cons,List.length_nil,Nat.reduceAdd,Nat.reduceSub,Array.replicate_succ,Array.replicate_zero,List.push_toArray,List.append_toArray,List.nil_append,List.cons_append]
 gi_wp2_with (refine ⟨trivial,(by first | rfl | (intro h;cases h)),?_⟩;refine HB.out.mono ?_;rintro e W2 ⟨b,rfl,hp⟩;have HP:=Lib.hid hp;clear hp)
 go_end0
 refine ⟨⟨_,rfl⟩,?_⟩
 rcases HP.out with ⟨_,ys,h1,h3,_⟩ | ⟨_,ys,h1,h3⟩
 ·refine .inl ⟨ys,fun s hs=>?_,fun y hy=>?_,h3⟩
  ·have hs:s ∈ ys.map (·.1):=by rw [h1];exact hs
   obtain ⟨y,h5,h6⟩:=List.mem_map.1 hs
   exact ⟨y,h5,h6⟩
  ·show y.1 ∈ begL _ _
   have:y.1 ∈ ys.map (·.1):=List.mem_map.2 ⟨y,hy,rfl⟩
   rw [h1] at this
   exact this
 ·exact .inr ⟨ys,h1,h3⟩
end Go.Proofs.YtdfhhbncmdpoeaaGreat
namespace Go.Proofs.YtdfhhbncmdpoeaaGreat
open Go.RowKit
open Go.Maps (Keyed)
attribute [local go_sem] Oper.semAt_some
theorem wpListIn_next_of {H α:Type} {F:Fence} {n:Nat} {P:Program} {w:World} {ops:Array Oper} {rest:List Oper} {o:Oper} {a:Act} {Q:Exit→Act→World→Prop} (hg:o.guard=none) (it:Operand) (hop:o.op=Op.next it false) (k:TypeId) (K:Keyed P k) (R:Value→Option (DataW H × List MemPlace))
  (mk:α→Value) (kl:α→Lit) (ok:α→Prop) (hk:∀ x,ok x→keyOf P k (mk x)=some (kl x)) (b r nn:Nat) (D:DataW H) (left:Lit→Bool) (cnt:Nat) (hleft:∀ z,left z=true→∃ x,ok x∧z=kl x)
  (hit:a.eval it=.pointer (some ⟨r,0,none⟩)) (h:w.ranges P k R b r nn D left cnt)
  (hDone:(∀ z,left z=false)→wpListIn F n P ops Q rest (a.put o.dst (.tuple #[.bool false])) w)
  (hMore:∀ (x:α) (v:Value) (w':World) (cnt':Nat),ok x→left (kl x)=true→w'.ranges P k R b r nn D (fun z=>left z && !z.sameKey (kl x)) cnt'→cnt' < cnt→w.grownBy w' (some r)→
   (Instr.entry (.pointer (some ⟨r,0,none⟩))).run P w'=.ok (.tuple #[mk x,v]) w'→wpListIn F n P ops Q rest (a.put o.dst (.tuple #[.bool true,mk x,v])) w') :
  wpListIn F n P ops Q (o :: rest) a w:=by
 refine wpListIn_plain hg fun K' hK'=>?_
 unfold Oper.wpIn
 refine ⟨by simp [Oper.about,hop],?_⟩
 rw [Oper.semAt_plain F _ _ (fun c hc=>by rw [hop] at hc;cases hc)]
 rcases h.next K o.type with ⟨_,hl,hrun⟩ | ⟨key,v,z,y,w',cnt',hkey,hlk,_,_,hrun,hrg,hlt,hgr,_,hen⟩
 ·simp [execOp,hop,hit,hrun,Result.andThen]
  exact hK' _ _ (hDone hl)
 ·obtain ⟨x,hx,rfl⟩:=hleft z hlk
  obtain rfl:key=mk x:=K.inj hkey (hk x hx)
  simp [execOp,hop,hit,hrun,Result.andThen]
  exact hK' _ _ (hMore x v w' cnt' hx hlk hrg hlt hgr hen)
theorem waits_ne {G:Kg} {g:Gr.Gm} {base:Nat} {K:Kw} {V:Int × Nat→Value} {P:List St4} {w:World} (h:KeptR G g base K V P w) (x:Int × Nat):V x≠nilS↔Ch.waitL g P x≠[]:=by
 refine ⟨h.full x,fun h1 h2=>?_⟩
 obtain ⟨A,c,hv,_⟩:=own_form (h.rows x)
 rw [hv] at h2
 injection h2 with _ h2
 exact h1 (List.eq_nil_of_length_eq_zero h2)
theorem ClE.wt1 {G:Kg} {ps:List Gr.Pr} {base:Nat} {K:Kw} {V:Int × Nat→Value} {P:List St4} {B:Nat} {xs:List Int} {w:World} (h:ClE G ps base K V P B xs w) {t:St4} (ht:t ∈ P) {x:Int × Nat} (hw:Ch.waitOf ⟨G.t,G.n,G.s,ps⟩ t=some x):wtOk x:=by
 unfold Ch.waitOf at hw
 cases e:Ch.symAt ⟨G.t,G.n,G.s,ps⟩ t.2 with
 | none=>rw [e] at hw;cases hw
 | some y=>
  rw [e] at hw
  have hw:(if y.non=true then some (y.n,t.1) else none)=some x:=hw
  split at hw
  ·rename_i hn
   injection hw with hw
   subst hw
   obtain ⟨p,hp,hs2⟩:=Ch.symAt_iff.1 e
   have hy:=(h.ok.2.2.2.2.2.2.2 p (List.mem_of_getElem? hp)).2.2.2 y (List.mem_of_getElem? hs2)
   have h24:G.n≤24:=h.ok.2.2.2.1
   have h1:y.n < G.n:=hy.2.1 hn
   have h2:=(h.fine t ht).1
   exact ⟨hy.1,by show y.n < 1000000;omega,by show t.1 < 1000000;omega⟩
  ·cases hw
theorem ClE.wt2 {G:Kg} {ps:List Gr.Pr} {base:Nat} {K:Kw} {V:Int × Nat→Value} {P:List St4} {B:Nat} {xs:List Int} {w:World} (h:ClE G ps base K V P B xs w) {x:Int × Nat} (hx:Ch.waitL ⟨G.t,G.n,G.s,ps⟩ P x≠[]):wtOk x:=by
 obtain ⟨y,hy⟩:=List.exists_mem_of_ne_nil _ hx
 obtain ⟨t,ht,hw,_⟩:=Ch.mem_waitL.1 hy
 exact h.wt1 ht hw
theorem kpc_step {w w' W:World} {r:Nat} (h:KpC W w) (hg:w.grownBy w' (some r)) (hr:W.heap.size≤r):KpC W w':=h.grown hg fun k e=>by cases e;exact hr
theorem begun_in (G:Kg) (ps:List Gr.Pr) (base:Nat) (K:Kw) (V:Int × Nat→Value) (P:List St4) (B:Nat) (xs:List Int) (w:World) (h:ClE G ps base K V P B xs w) :
  ∃ N,SeqM 46 (.pointer (some ⟨K.p,0,none⟩)) (ReqB ⟨G.t,G.n,G.s,ps⟩ P) N w:=by
 obtain ⟨D,hown,hkeys⟩:=h.k.waits
 refine ⟨Maps.size D * 60,?_⟩
 intro l J Jx W hW hJ hY h0
 have hE:=h.bl hW
 have hownW:W.ownsMap Tryz.prog 154 heldR K.q P.length D:=by
  obtain ⟨es,clock,hb,r⟩:=hown
  exact ⟨es,clock,(hW.block _ (heap_lt hb)).trans hb,r⟩
 have hne:=fun x=>waits_ne hE.k x
 have k6:W.cell? ⟨K.p,6,none⟩=some (.map (some K.q)):=hE.k.kb.cell 6
 have kl:=hE.k.kb.lt
 have HE:=Lib.hid hE
 have HKy:=Lib.hid hkeys
 have HNe:=Lib.hid hne
 clear hE hown h hkeys hne hW
 refine callsIn_of_wp Tryz.func46 rfl trivial ?_ rfl
 simp only [Tryz.ntmps46,List.size_toArray,List.length_cons,List.length_nil,Nat.reduceAdd,Nat.reduceSub,Array.replicate_succ,Array.replicate_zero,List.push_toArray,List.append_toArray,List.nil_append,List.cons_append]
 gi_wp2_with (first
  | (gi_at_range;refine wpListIn_range_own _ rfl _ 89 rfl 154 45 (Keyed.of_law wt_law) Tryz.underlying89 heldR K.q _ D rfl hownW ?_;intro W1 hrg1 hg1 hs1)
  | gi_in)
 go_frame
 have HK1:Hid (KpC W W1):=(KpC.refl W).grown hg1 (fun k e=>by cases e)
 have HJ1:Hid (J [] W1):=hJ _ _ _ _ h0 hg1 (fun r e=>by cases e)
 gi_loopw [10] (fun _ wr=>∃ (left:Lit→Bool) (cnt:Nat) (ys:List SX),wr.ranges Tryz.prog 154 heldR K.q W.heap.size P.length D left cnt∧(∀ z,left z=true→Maps.has D z=true)∧J ys wr∧KpC W wr∧(∀ y ∈ ys,ReqB ⟨G.t,G.n,G.s,ps⟩ P y.1)∧
  (∀ x,wtOk x→Maps.has D (wtKey x)=true→left (wtKey x)=false→∀ s ∈ begL ⟨G.t,G.n,G.s,ps⟩ x,∃ y ∈ ys,y.1=s)∧ys.length + cnt * 60≤Maps.size D * 60) (fun _ wr=>wr.rangeLeft K.q W.heap.size)
 case atStart=>
  exact ⟨_,_,[],hrg1,fun _ h=>h,HJ1.out,HK1.out,fun y hy=>by simp at hy,fun x _ h1 h2=>by rw [h1] at h2;(cases h2),by simp⟩
 case round=>
  obtain ⟨left,cnt,ys,hrg,hsub,hJs,hkp,hreq,hall,hlen⟩:=hrel
  gi_wp2_with (first
   | (gi_at_next;refine wpListIn_next_of rfl _ rfl 154 (Keyed.of_law wt_law) heldR wtv wtKey wtOk (fun x hx=>key_wt hx) K.q W.heap.size P.length D left cnt (fun z hz=>by obtain ⟨x,h1,h2,_⟩:=HKy.out.has z (hsub z hz);exact ⟨x,h1,h2⟩) rfl hrg ?_ ?_)
   | gi_in)
  ·intro hl0
   gi_wp2
   go_end0
   refine ⟨⟨_,rfl⟩,.inl ⟨ys,fun s hs=>?_,hreq,hJs⟩⟩
   obtain ⟨x,h1,h2⟩:=hs
   have hx:=HE.out.wt2 h1
   exact hall x hx (HKy.out.mem hx ((HNe.out x).2 h1)) (hl0 _) s h2
  ·intro x1 x2 v W2 cnt2 hx hlx hrg2 hlt hg2 hen
   have HX:=Lib.hid hx
   have HWn:Hid (Ch.waitL ⟨G.t,G.n,G.s,ps⟩ P (x1,x2)≠[]):=by
    obtain ⟨y,h1,h2,h3⟩:=HKy.out.has _ (hsub _ hlx)
    rw [wtKey_inj hx h1 h2]
    exact (HNe.out y).1 h3
   have hJ2:J ys W2:=hJ _ _ _ _ hJs hg2 (fun r e=>by cases e;exact ⟨Nat.le_refl _,hrg.iter_walk⟩)
   have hkp2:KpC W W2:=kpc_step hkp hg2 (Nat.le_refl _)
   unfold wtv at hen
   have HB3:Hid (Bl W2 (W2.alloc (.cells #[.int .i64 x1,.int .i64 (x2:Int)] 154))):=(Bl.refl W2).alloc _
   have hE3:=(HE.out.kpc hkp2).bl HB3.out
   have hJ3:=hJ ys W2 _ none hJ2 (bl_grown HB3.out) (fun r e=>by cases e)
   have HX3:=Lib.hid (Bk.new W2 154 #[.int .i64 x1,.int .i64 (x2:Int)])
   have hnl:ys.length + 60≤Maps.size D * 60:=by
    have:=Nat.mul_le_mul_right 60 (show cnt2 + 1≤cnt by omega)
    rw [Nat.succ_mul] at this
    omega
   have HB:=Lib.hid (begin_two hE3 0 l x1 x2 J Jx (Maps.size D * 60) W.heap.size hx.2.2 hJ hY ys hnl hJ3)
   have HRg3:Hid ((W2.alloc (.cells #[.int .i64 x1,.int .i64 (x2:Int)] 154)).ranges Tryz.prog 154 heldR K.q W.heap.size P.length D (fun z=>left z && !z.sameKey (wtKey (x1,x2))) cnt2):=hrg2.alloc _
   have y0:=HX3.out.cell 0
   have y1:=HX3.out.cell 1
   have yl:=HX3.out.lt
   have HKp3:=Lib.hid (hkp2.bl HB3.out)
   clear hJ3 hE3 hJ2 hnl
   gi_wp2_with (refine ⟨trivial,(by first | rfl | (intro h;cases h)),?_⟩;refine HB.out.mono ?_;rintro e W4 ⟨b,rfl,hp⟩;have HP:=Lib.hid hp;clear hp)
   ·rename_i hb
    rcases HP.out with ⟨rfl,_⟩ | ⟨rfl,zs,h1,h3⟩
    ·exact absurd hb (by simp)
    ·refine bodyPost_ret (results_none rfl _ _ _) rfl ⟨⟨_,rfl⟩,.inr ⟨ys ++ zs,fun y hy=>?_,h3⟩⟩
     rcases List.mem_append.mp hy with h | h
     ·exact hreq y h
     ·exact ⟨(x1,x2),HWn.out,h1 y h⟩
   ·rename_i hb
    rcases HP.out with ⟨rfl,zs,h1,h3,h4⟩ | ⟨rfl,_⟩
    ·have hr4:=HRg3.out.of_walks h4.walks
     refine ⟨⟨_,cnt2,ys ++ zs,hr4,fun z hz=>hsub z (by rw [Bool.and_eq_true] at hz;exact hz.1),h3,HKp3.out.trans h4,fun y hy=>?_,fun x ho hh hl s hs=>?_,?_⟩,?_⟩
     ·rcases List.mem_append.mp hy with h | h
      ·exact hreq y h
      ·refine ⟨(x1,x2),HWn.out,?_⟩
       rw [← h1]
       exact List.mem_map.2 ⟨y,h,rfl⟩
     ·by_cases e:x=(x1,x2)
      ·subst e
       rw [← h1] at hs
       obtain ⟨y,h5,h6⟩:=List.mem_map.1 hs
       exact ⟨y,List.mem_append.mpr (.inr h5),h6⟩
      ·rw [Maps.sameKey_ne (fun e2=>e (wtKey_inj ho HX.out e2)),Bool.not_false,Bool.and_true] at hl
       obtain ⟨y,h5,h6⟩:=hall x ho hh hl s hs
       exact ⟨y,List.mem_append.mpr (.inl h5),h6⟩
     ·have hz:zs.length≤60:=by
       have e:zs.length=(zs.map (·.1)).length:=by rw [List.length_map]
       rw [e,h1]
       unfold begL
       rw [List.length_map]
       exact Nat.le_trans (ofK_len _ _ _) HE.out.h60
      have:=Nat.mul_le_mul_right 60 (show cnt2 + 1≤cnt by omega)
      rw [Nat.succ_mul] at this
      rw [List.length_append]
      omega
     ·rw [hr4.left_eq,hrg.left_eq];exact hlt
    ·exact absurd hb (by simp)
end Go.Proofs.YtdfhhbncmdpoeaaGreat
