/- A region in a round of a loop over an iterator; and slices.Backward of symbols. -/
import Derived.Test.YtdfhhbncmdpoeaaGreatLdA
import Derived.Test.YtdfhhbncmdpoeaaGreatGRS
import Derived.RangeFuncNested
import Derived.RangeFuncBound
import Derived.RangeFuncCalls
import Derived.RangeFuncLeaves
import Derived.OwnWalkIn
import Derived.TacticsInMore
import Derived.LoopNIn
import Derived.LoopIn
import Derived.OrdersIn
import Derived.OrdersHeld
import Derived.Deep.RegionHeld3
import Derived.Maps.AppendAt
import Derived.Shelf.Abstract
import Derived.Laws.CopyRow
import Derived.Laws.EntriesVeiled
import Derived.BigQuiet
set_option maxRecDepth 100000
set_option maxHeartbeats 3200000
namespace Go.Proofs.YtdfhhbncmdpoeaaGreat
open Go.RowKit
attribute [local go_sem] Oper.semAt_some
section
variable {P:Program} {ops:Array Oper} {Q:Exit→Act→World→Prop} {l n:Nat}
def noDefer (ops:Array Oper):Bool:=ops.all fun o=>match o.op with | .defer _=>false | _=>true
theorem noDefer_at {i:Nat} {o:Oper} (h:noDefer ops=true) (hi:ops[i]?=some o):∀ c,o.op≠.defer c:=by
 intro c hc
 unfold noDefer at h
 rw [Array.all_eq_true] at h
 obtain ⟨hlt,he⟩:=Array.getElem?_eq_some_iff.1 hi
 have h1:=h i hlt
 rw [he,hc] at h1
 cases h1
theorem wpOpIn_round (hn:¬ LetsOut Q) (hd:noDefer ops=true) {i:Nat} {K:Act→World→Prop} {a:Act} {w:World} (h:wpOp P ops Q i K a w):wpOpIn (Fence.wide.inRound l) n P ops Q i K a w:=by
 unfold wpOp at h
 unfold wpOpIn
 cases ho:ops[i]? with
 | none=>simpa only [ho] using h
 | some o=>
  simp only [ho] at h ⊢
  split
  ·rename_i hw
   rw [if_pos hw] at h
   rcases h with h | ⟨_,h⟩
   ·refine ⟨fun _ _=>trivial,?_⟩
    rw [Oper.semAt_eq _ _ _ (noDefer_at hd ho)]
    unfold Oper.wp at h
    generalize (execOp a.eval o).run P w=r at *
    cases r with
    | ok x w'=>
     cases x with
     | value v=>exact h
     | skip=>exact h
     | defer d=>exact h
     | enter f args=>exact ⟨fun h0=>(by cases h0),(callsIn_wide.2 h).inRound l⟩
     | row row args=>exact ⟨fun h0=>(by cases h0),fun c cs _=>(let ⟨v,w2,h1,h2⟩:=h c cs;⟨v,w2,h1,stepsIn_wide.2 h2⟩)⟩
     | _=>exact h.elim
    | halt x w'=>
     cases x with
     | panic v=>exact h
     | _=>exact h.elim
   ·exact absurd h hn
  ·rename_i hw
   rw [if_neg hw] at h
   exact ⟨fun _ _=>trivial,h⟩
theorem wpAnyIn_round (hn:¬ LetsOut Q) (hd:noDefer ops=true) {md:Region.Mode}:∀ (fuel:Nat) (listed:Array Bool) (a:Act) (w:World),wpAny P md ops Q fuel listed a w→wpAnyIn (Fence.wide.inRound l) n P md ops Q fuel listed a w
 | 0,_,_,_,h=>h
 | fuel + 1,_,_,_,h=>⟨h.1,fun i hi=>wpOpIn_mono (fun a' w' h'=>wpAnyIn_round hn hd fuel _ a' w' h') (wpOpIn_round hn hd (h.2 i hi))⟩
theorem wpIn_region_round {id:Nat} {a:Act} {w:World} {S:World→Prop} (hm:P.follows .mixedOrders=true) (hn:¬ LetsOut Q) (hd:noDefer ops=true)
  (h:wpAnyH P .any ops Q S ops.size (Array.replicate ops.size false) a { w with drawn:=w.drawn + 1 }):(Code.region id ops true).wpIn (Fence.wide.inRound l) n P Q a w:=
 wpIn_region_any hm (wpAnyIn_round hn hd _ _ _ _ (wpAny_of_held _ _ _ _ h))
theorem wpIn_region_round_drew {id:Nat} {a:Act} {w:World} {S:World→Prop} (hm:P.follows .mixedOrders=true) (hn:¬ LetsOut Q) (hd:noDefer ops=true) (hS:S w.drew)
  (h:S w.drew→wpAnyH P .any ops Q S ops.size (Array.replicate ops.size false) a w.drew):(Code.region id ops true).wpIn (Fence.wide.inRound l) n P Q a w:=
 wpIn_region_round hm hn hd (h hS)
end
abbrev SyX (g:Gr.Gm):={ s:Gr.Sy // Gr.okSy g s } × Int
def SyX.enc {g:Gr.Gm} (x:SyX g):Array Value:=#[.int .i64 x.2,.agg #[.bool x.1.1.non,.int .i64 x.1.1.n]]
def KpB (sb bx:Nat) (W W':World):Prop:=W.heap.size≤W'.heap.size∧∀ k,k=sb∨k=bx→W'.heap[k]?=W.heap[k]?
theorem KpB.refl {sb bx:Nat} (W:World):KpB sb bx W W:=⟨Nat.le_refl _,fun _ _=>rfl⟩
theorem KpB.trans {sb bx:Nat} {X Y Z:World} (h:KpB sb bx X Y) (k:KpB sb bx Y Z):KpB sb bx X Z:=⟨Nat.le_trans h.1 k.1,fun i hi=>(k.2 i hi).trans (h.2 i hi)⟩
theorem KpB.of_fr {sb bx:Nat} {S:Nat→Prop} {X Y:World} (h:Fr S X Y) (hB:sb < X.heap.size) (hx:bx < X.heap.size) (h1:¬ S sb) (h2:¬ S bx):KpB sb bx X Y:=
 ⟨h.size,fun k hk=>h.block k (by omega) (by rcases hk with rfl | rfl <;> assumption)⟩
theorem KpB.put {sb bx:Nat} {w:World} (hB:sb < w.heap.size) (hx:bx < w.heap.size) (W:World) (l:Nat) (o o':Obj) (hl:w.heap.size≤l) (h:W.heap[l]?=some o) (_:o.isCells=false) (_:o.isWalk=false):KpB sb bx W (W.putObj l o'):=by
 have hg:=grownBy_putObj' W l o'
 refine ⟨hg.size,fun k hk=>?_⟩
 have hlt:l < W.heap.size:=(Array.getElem?_eq_some_iff.1 h).1
 exact hg.block k (by omega) (fun e=>by cases e;omega)
theorem back1_in (g:Gr.Gm) (n:Nat) (hn:1≤n) (l Bs b off cap:Nat) (q:List Gr.Sy) (hq:∀ s ∈ q,Gr.okSy g s) (hlen:q.length≤1000000) (J Jx:List (SyX g)→World→Prop)
  (hY:∀ pre x W,J pre W→pre.length < q.length→YieldAt Fence.wide (n - 1) Tryz.prog l x.enc W fun e W'=>
   (e=.returned (.bool true)∧J (pre ++ [x]) W'∧KpB b Bs W W')∨(e=.returned (.bool false)∧Jx (pre ++ [x]) W'))
  (W:World) (hBs:W.cell? ⟨Bs,0,none⟩=some (.slice (some ⟨b,off,none⟩) q.length cap)) (hc:∀ j v,(syRow q)[j]?=some v→W.cell? ⟨b,off + j,none⟩=some v) (h0:J [] W) :
  CallsIn Fence.wide n Tryz.prog 96 #[.func (.yield l) #[] #[],.pointer (some ⟨Bs,0,none⟩)] W fun e W'=>(∃ v,e=.returned v)∧
   ((∃ ys:List (SyX g),(ys.map (·.1.1)).reverse=q∧J ys W')∨(∃ pre,Jx pre W')):=by
 refine callsIn_of_wp Tryz.func96 rfl trivial ?_ rfl
 simp only [Tryz.ntmps96,List.size_toArray,List.length_cons,List.length_nil,Nat.reduceAdd,Nat.reduceSub,Array.replicate_succ,Array.replicate_zero,List.push_toArray,List.append_toArray,List.nil_append,List.cons_append]
 gi_wp2
 gi_loopw [3] (fun i wr=>∃ (k:Nat) (ys:List (SyX g)),k≤q.length∧i=.int .i64 ((k:Int) - 1)∧ys.length + k=q.length∧(ys.map (·.1.1)).reverse=q.drop k∧J ys wr∧KpB b Bs W wr)
  (fun i _=>(intOf i + 1).toNat)
 case atStart=>exact ⟨q.length,[],Nat.le_refl _,by go_num,by simp,by simp,h0,KpB.refl _⟩
 case round=>
  obtain ⟨k,ys,hk,rfl,hl,hys,hJs,hnx⟩:=hrel
  cases k with
  | zero=>
   have hD:(ys.map (·.1.1)).reverse=q:=by rw [hys,List.drop_zero]
   gi_wp2
   go_end0
   exact ⟨⟨_,rfl⟩,.inl ⟨ys,hD,hJs⟩⟩
  | succ k=>
   have hlt:k < q.length:=by omega
   have hsy:=row2_at (f:=fun s:Gr.Sy=>Value.bool s.non) (g:=fun s=>Value.int .i64 s.n) q k hlt
   have hx0:wr.cell? ⟨b,off + k * 2,none⟩=some (.bool q[k].non):=(World.cell?_of_block (hnx.2 b (.inl rfl))).trans (hc _ _ hsy.1)
   have hx1:wr.cell? ⟨b,off + k * 2 + 1,none⟩=some (.int .i64 q[k].n):=(World.cell?_of_block (hnx.2 b (.inl rfl))).trans (by rw [Nat.add_assoc];exact hc _ _ hsy.2)
   have hxs:wr.cell? ⟨Bs,0,none⟩=some (.slice (some ⟨b,off,none⟩) q.length cap):=(World.cell?_of_block (hnx.2 Bs (.inr rfl))).trans hBs
   have e1:((k + 1:Nat):Int) - 1=(k:Int):=by omega
   rw [e1]
   obtain ⟨fn,tmps,assign,body,hy,hR⟩:=hY ys (⟨q[k],hq _ (List.getElem_mem hlt)⟩,(k:Int)) wr hJs (by omega)
   have hdrop:q.drop k=q[k] :: q.drop (k + 1):=List.drop_eq_getElem_cons hlt
   have hki:(k:Int) < (q.length:Int):=by omega
   dsimp only [SyX.enc] at hy
   gi_wp2
   refine hR.mono ?_
   rintro e W3 (⟨rfl,hJ3,hk3⟩ | ⟨rfl,hJx3⟩)
   ·gi_wp2
    go_roundw
    case rel=>exact ⟨k,_,by omega,by go_num,by rw [List.length_append,List.length_singleton];omega,by rw [List.map_append,List.reverse_append,hys,hdrop];rfl,hJ3,hnx.trans hk3⟩
    case measure=>simp [intOf]
   ·gi_wp2
    refine bodyPost_ret (results_none rfl _ _ _) rfl ?_
    exact ⟨⟨_,rfl⟩,.inr ⟨_,hJx3⟩⟩
theorem back0_in (g:Gr.Gm) (n:Nat) (l Bs cap:Nat) (A:Option Addr) (J:List (SyX g)→World→Prop) (W:World) (hBs:W.cell? ⟨Bs,0,none⟩=some (.slice A 0 cap)) (h0:J [] W) :
  CallsIn Fence.wide n Tryz.prog 96 #[.func (.yield l) #[] #[],.pointer (some ⟨Bs,0,none⟩)] W fun e W'=>(∃ v,e=.returned v)∧J [] W':=by
 refine callsIn_of_wp Tryz.func96 rfl trivial ?_ rfl
 simp only [Tryz.ntmps96,List.size_toArray,List.length_cons,List.length_nil,Nat.reduceAdd,Nat.reduceSub,Array.replicate_succ,Array.replicate_zero,List.push_toArray,List.append_toArray,List.nil_append,List.cons_append]
 gi_wp2
 gi_loopw [3] (fun i wr=>i=.int .i64 (-1)∧J [] wr) (fun _ _=>0)
 case atStart=>exact ⟨rfl,h0⟩
 case round=>
  obtain ⟨rfl,hJs⟩:=hrel
  gi_wp2
  go_end0
  exact ⟨⟨_,rfl⟩,hJs⟩
theorem back_in (n:Nat) (A:Option Addr) (len cap:Nat) (w:World) :
  CallsIn Fence.wide n Tryz.prog 67 #[.slice A len cap] w fun e w'=>e=.returned (.func (.func 96) #[] #[.pointer (some ⟨w.heap.size,0,none⟩)])∧w'=w.alloc (.cells #[.slice A len cap] 40):=by
 refine callsIn_of_wp Tryz.func67 rfl trivial ?_ rfl
 simp only [Tryz.ntmps67,List.size_toArray,List.length_cons,List.length_nil,Nat.reduceAdd,Nat.reduceSub,Array.replicate_succ,Array.replicate_zero,List.push_toArray,List.append_toArray,List.nil_append,List.cons_append]
 gi_wp2
 go_ret
 exact ⟨rfl,rfl⟩
theorem back_stops (g:Gr.Gm) (n:Nat) (hn:1≤n) (Bs sb cap:Nat) (A:Option Addr) (q:List Gr.Sy) (hq:∀ s ∈ q,Gr.okSy g s) (hlen:q.length≤1000000) (w:World) (hBs:w.cell? ⟨Bs,0,none⟩=some (.slice A q.length cap)) (hb:Bs < w.heap.size)
  (hr:RdP w (fun b=>b=sb∧b < w.heap.size) A (syRow q)) :
  SeqStopsK Fence.wide n Tryz.prog 96 #[.pointer (some ⟨Bs,0,none⟩)] (SyX.enc (g:=g)) (KpB sb Bs) (fun ys=>(ys.map (·.1.1)).reverse=q) (fun _=>True) q.length w:=fun l J Jx W hW _ _ hY h0=>by
 have hc':=(hW.cell (p:=⟨Bs,0,none⟩) hb).trans hBs
 cases q with
 | nil=>exact (back0_in g n l Bs cap A J W hc' h0).mono fun e W' ⟨he,hj⟩=>⟨he,.inl ⟨[],rfl,hj⟩⟩
 | cons s r=>
  obtain ⟨b,off,rfl,⟨hbs,hbl⟩,hcell⟩:=hr (by rw [syRow_len];simp)
  subst hbs
  exact (back1_in g n hn l Bs b off cap (s :: r) hq hlen J Jx hY W hc' (fun j v hj=>(hW.cell (p:=⟨b,off + j,none⟩) hbl).trans (hcell j v hj)) h0).mono fun e W' ⟨he,hj⟩=>⟨he,hj.imp id fun ⟨pre,hp⟩=>⟨pre,trivial,hp⟩⟩
end Go.Proofs.YtdfhhbncmdpoeaaGreat
namespace Go.Proofs.YtdfhhbncmdpoeaaGreat
open Go.RowKit Go.Shelf
attribute [local go_sem] Oper.semAt_some
theorem left_info:(Tryz.prog.info? 133).map (fun i=>(i.zero,i.size,i.bytes))=some (some (.agg #[.bool false,.int .i64 0,.int .u32 0]),3,24):=by kernel_rfl
section
variable {E:LdE} {a:Nat} {l:List Gr.Sy} {vl:Value} {w w':World}
theorem Bk.kept {k:Nat} {t:TypeId} {cs:Array Value} {row:Option Nat} (h:Bk w k t cs) (hg:w.grownBy w' row) (hr:∀ r,row=some r→∃ o:Obj,w.heap[r]?=some o∧o.isCells=false):Bk w' k t cs:=
 h.grown hg fun e=>by
  obtain ⟨o,ho,hc⟩:=hr k e.symm
  rw [show w.heap[k]?=_ from h] at ho
  cases ho
  cases hc
theorem own_kept {base size n:Nat} {e:TypeId} {v:Value} {xs:List Value} {row:Option Nat} (h:w.ownsRow base e size v n xs) (hg:w.grownBy w' row) (hr:∀ r,row=some r→∃ o:Obj,w.heap[r]?=some o∧o.isCells=false):w'.ownsRow base e size v n xs:=by
 refine World.ownsRow.kept h hg ?_
 cases hv:v.ownBlock with
 | none=>exact .inl rfl
 | some k=>
  refine .inr fun e=>?_
  obtain ⟨o,ho,hc⟩:=hr k e.symm
  rcases h.2 with ⟨rfl,_⟩ | ⟨g,cap,cur,rfl,_,hgb,_⟩
  ·cases hv
  ·obtain rfl:g=k:=by simpa [Value.ownBlock] using hv
   rw [hgb] at ho
   cases ho
   cases hc
theorem FrD.kept {row:Option Nat} (hg:w.grownBy w' row) (hr:∀ r,row=some r→E.lo≤r∧∃ o:Obj,w.heap[r]?=some o∧o.isCells=false):FrD E w w':=
 ⟨(Fr.refl _ w).grown hg fun k hk _=>.inr (hr k hk).1,fun b cs fr hb=>(hg.block b (heap_lt hb) fun e=>by
  obtain ⟨o,ho,hc⟩:=(hr b e.symm).2
  rw [hb] at ho
  cases ho
  cases hc).trans hb⟩
theorem DvR.kept {row:Option Nat} (h:DvR E a l vl w) (hg:w.grownBy w' row) (hr:∀ r,row=some r→E.lo≤r∧∃ o:Obj,w.heap[r]?=some o∧o.isCells=false):DvR E a l vl w':=
 ⟨h.bd.kept hg fun r e=>(hr r e).2,own_kept h.st hg fun r e=>(hr r e).2,h.env.fr (FrD.kept hg hr)⟩
theorem rd_newL (w:World) (t:TypeId) (cs:Array Value):Rd (w.alloc (.cells cs t)) (w.heap.size + 1) (some ⟨w.heap.size,0,none⟩) cs.toList:=fun _=>⟨w.heap.size,0,rfl,Nat.lt_succ_self _,fun j u hu=>by
 rw [Nat.zero_add]
 rw [Bk.cell (Bk.new w t cs) j,← Array.getElem?_toList]
 exact hu⟩
def SyB (E:LdE) (w:World) (b:Nat):Prop:=b≠E.dd∧b < w.heap.size∧(b < E.lo∨∃ cs t fr,w.heap[b]?=some (.cells cs t fr)∧t≠133)
theorem SyB.keep {sb:Nat} (h:SyB E w sb) (hs:w.heap.size≤w'.heap.size) (hk:w'.heap[sb]?=w.heap[sb]?):SyB E w' sb:=
 ⟨h.1,Nat.lt_of_lt_of_le h.2.1 hs,h.2.2.imp id fun ⟨cs,t,fr,h1,h2⟩=>⟨cs,t,fr,hk.trans h1,h2⟩⟩
theorem SyB.far {sb n base:Nat} {v:Value} {xs:List Value} (h:SyB E w sb) (hb:E.lo≤base) (ho:w.ownsRow base 133 3 v n xs):v.ownBlock≠some sb:=fun hv=>by
 rcases h.2.2 with h1 | ⟨cs,t,fr,h1,h2⟩
 ·have:=(ho.lt sb hv).1;omega
 ·rcases ho.2 with ⟨rfl,_⟩ | ⟨g,cap,cur,rfl,_,hgb,_⟩
  ·cases hv
  ·obtain rfl:g=sb:=by simpa [Value.ownBlock] using hv
   rw [hgb] at h1
   cases h1
   exact h2 rfl
def preL {g:Gr.Gm} (pre:List (SyX g)):List Gr.Sy:=(pre.map (·.1.1)).reverse
theorem preL_snoc {g:Gr.Gm} (pre:List (SyX g)) (x:SyX g):preL (pre ++ [x])=x.1.1 :: preL pre:=by unfold preL;rw [List.map_append,List.reverse_append];rfl
theorem preL_ok {g:Gr.Gm} (pre:List (SyX g)):Ld.RowG g (preL pre):=fun s hs=>by
 unfold preL at hs
 rw [List.mem_reverse,List.mem_map] at hs
 obtain ⟨x,_,rfl⟩:=hs
 exact x.1.2
theorem preL_len {g:Gr.Gm} (pre:List (SyX g)):(preL pre).length=pre.length:=by unfold preL;rw [List.length_reverse,List.length_map]
theorem left_size:(Tryz.prog.info? 133).map (·.size)=some 3:=by kernel_rfl
theorem lfRow_pre (E:LdE):∀ (q l:List Gr.Sy),∃ xs,lfRow E (q ++ l)=lfRow E l ++ xs
 | [],l=>⟨[],by rw [List.append_nil];rfl⟩
 | s :: q,l=>by
  obtain ⟨xs,h⟩:=lfRow_pre E q l
  exact ⟨xs ++ [.bool s.non,.int .i64 s.n,.int .u32 (Ld.fromN E.K E.g E.u (s :: (q ++ l)):Int)],by rw [List.cons_append,lfRow_cons,h,List.append_assoc]⟩
theorem own_cut {base size n k c:Nat} {e:TypeId} {A:Option Addr} {xs ys:List Value} (hk:k≤n) (hx:xs.length=k * size) (h:w.ownsRow base e size (.slice A n c) n (xs ++ ys)):w.ownsRow base e size (.slice A k c) k xs:=by
 obtain ⟨h1,h2⟩:=h
 rcases h2 with ⟨h0,h3⟩ | ⟨g',cap',cur,hv,hg,hh,hn,hcap,hsz,htake⟩
 ·injection h0 with h4 h5 h6
  subst h4
  obtain rfl:k=0:=by omega
  exact ⟨hx,.inl ⟨by rw [h6],rfl⟩⟩
 ·injection hv with h4 h5 h6
  subst h4 h6
  refine ⟨hx,.inr ⟨g',c,cur,rfl,hg,hh,by omega,hcap,hsz,?_⟩⟩
  have h7:(cur.toList.take (n * size)).take (k * size)=cur.toList.take (k * size):=by rw [List.take_take,Nat.min_eq_left (Nat.mul_le_mul_right size hk)]
  rw [← h7,htake,← hx,List.take_left' rfl]
theorem DvR.cut {q:List Gr.Sy} {A:Option Addr} {c:Nat} (h:DvR E a (q ++ l) (.slice A (q ++ l).length c) w):DvR E a l (.slice A l.length c) (w.setCell ⟨E.dd,9,none⟩ (.slice A l.length c)):=by
 obtain ⟨xs,hx⟩:=lfRow_pre E q l
 have hst:=h.st
 rw [hx] at hst
 have h2:=own_cut (k:=l.length) (by rw [List.length_append];omega) (lfRow_len E l) hst
 refine ⟨h.bd.put 9 _,own_fr (S:=fun k=>k=E.dd) h2 ((Fr.refl _ w).own 9 _) fun k hv e=>?_,h.env.fr (FrD.cell9 h.bd 9 _)⟩
 exact h.bd.row h2 (by decide) (by rw [← e];exact hv)
structure PutI (E:LdE) (a:Nat) (l:List Gr.Sy) (sz fb bx sb:Nat) (vb:Value) (w:World) (pre:List (SyX E.g)) (W:World):Prop where
 dv:∃ vl',DvR E a (preL pre ++ l) vl' W
 fb:Bk W fb 126 #[.int .u32 (Ld.fromN E.K E.g E.u (preL pre ++ l):Int)]
 tb:Bk W sz 125 #[.pointer (some ⟨E.dd,0,none⟩)]
 bx:Bk W bx 40 #[vb]
 fr:FrD E w W
 sb:SyB E W sb
theorem PutI.kept {sz fb bx sb:Nat} {vb:Value} {pre:List (SyX E.g)} {W W':World} {B:Nat} {row:Option Nat} (h:PutI E a l sz fb bx sb vb w pre W) (hsb:sb < B) (hlo:E.lo≤B) (hg:W.grownBy W' row) (hr:∀ r,row=some r→B≤r∧∃ o:Obj,W.heap[r]?=some o∧o.isCells=false):PutI E a l sz fb bx sb vb w pre W':=by
 have hr2:∀ r,row=some r→∃ o:Obj,W.heap[r]?=some o∧o.isCells=false:=fun r e=>(hr r e).2
 obtain ⟨vl',hd⟩:=h.dv
 refine ⟨⟨vl',hd.kept hg fun r e=>⟨Nat.le_trans hlo (hr r e).1,(hr r e).2⟩⟩,h.fb.kept hg hr2,h.tb.kept hg hr2,h.bx.kept hg hr2,h.fr.trans (FrD.kept hg fun r e=>⟨Nat.le_trans hlo (hr r e).1,(hr r e).2⟩),h.sb.keep hg.size ?_⟩
 exact hg.block sb h.sb.2.1 fun e=>by have:=(hr sb e.symm).1;omega
theorem PutI.push {sz fb bx sb B n:Nat} {vb:Value} {pre:List (SyX E.g)} {x:SyX E.g} {W Wa Wb:World} {vl' v2:Value} {o:Obj} (h:PutI E a l sz fb bx sb vb w pre W) (hd:DvR E a (preL pre ++ l) vl' W) (hlo:E.lo≤fb) (hsf:sb≠fb)
  (hn:n=(preL pre ++ l).length + 1) (hb:Bl W Wa)
  (ho:Wb.ownsRow E.lo 133 3 v2 n (lfRow E (preL pre ++ l) ++ [.bool x.1.1.non,.int .i64 x.1.1.n,.int .u32 (Ld.fromN E.K E.g E.u (x.1.1 :: (preL pre ++ l)):Int)]))
  (hg:((Wa.setCell ⟨fb,0,none⟩ (.int .u32 (Ld.fromN E.K E.g E.u (x.1.1 :: (preL pre ++ l)):Int))).drew.alloc o).grownBy Wb vl'.ownBlock) :
  KeepsFrom B W (Wb.setCell ⟨E.dd,9,none⟩ v2)∧KpB sb bx W (Wb.setCell ⟨E.dd,9,none⟩ v2)∧PutI E a l sz fb bx sb vb w (pre ++ [x]) (Wb.setCell ⟨E.dd,9,none⟩ v2):=by
 obtain ⟨f,hf⟩:∃ f:Nat,f=Ld.fromN E.K E.g E.u (x.1.1 :: (preL pre ++ l)):=⟨_,rfl⟩
 rw [← hf] at ho hg
 have n1:fb≠E.dd:=h.fb.apart hd.bd (by decide)
 have n2:sz≠E.dd:=h.tb.apart hd.bd (by decide)
 have n3:sz≠fb:=h.tb.apart h.fb (by decide)
 have n4:bx≠E.dd:=h.bx.apart hd.bd (by decide)
 have n5:bx≠fb:=h.bx.apart h.fb (by decide)
 have o1:vl'.ownBlock≠some fb:=h.fb.row hd.st (by decide)
 have o2:vl'.ownBlock≠some sz:=h.tb.row hd.st (by decide)
 have o3:vl'.ownBlock≠some bx:=h.bx.row hd.st (by decide)
 have o4:vl'.ownBlock≠some E.dd:=hd.bd.row hd.st (by decide)
 have o5:vl'.ownBlock≠some sb:=h.sb.far (Nat.le_refl _) hd.st
 have f1:Fr (fun k=>k=fb) W (Wa.setCell ⟨fb,0,none⟩ (.int .u32 (f:Int))):=(Fr.of_bl (S:=fun k=>k=fb) hb).own 0 _
 have f2:Fr (fun k=>k=fb∨vl'.ownBlock=some k) W Wb:=((f1.mono (T:=fun k=>k=fb∨vl'.ownBlock=some k) (fun _ _ e=>.inl e)).drew.alloc o).grown hg fun k hk _=>.inr hk
 have f3:Fr (fun k=>k=fb∨vl'.ownBlock=some k∨k=E.dd) W (Wb.setCell ⟨E.dd,9,none⟩ v2):=(f2.mono (T:=fun k=>k=fb∨vl'.ownBlock=some k∨k=E.dd) (fun _ _ e=>e.imp id .inl)).setCell (p:=⟨E.dd,9,none⟩) (.inl (.inr (.inr rfl))) _
 have hD:FrD E W (Wb.setCell ⟨E.dd,9,none⟩ v2):=⟨f3.mono fun k hk e=>(by
  rcases e with e | e | e
  ·subst e;exact .inr hlo
  ·exact .inr (hd.st.lt k e).1
  ·exact .inl e),fun b cs fr hb=>(f3.block b (heap_lt hb) fun e=>(by
   rcases e with e | e | e
   ·subst e;have h9:=h.fb;unfold Bk at h9;rw [hb] at h9;cases h9
   ·rcases hd.st.2 with ⟨rfl,_⟩ | ⟨g,cap,cur,rfl,_,hgb,_⟩
    ·cases e
    ·obtain rfl:g=b:=by simpa [Value.ownBlock] using e
     rw [hgb] at hb;cases hb
   ·subst e;have h9:=hd.bd;unfold Bk at h9;rw [hb] at h9;cases h9)).trans hb⟩
 have bd2:Bk Wb E.dd 80 (E.cells a vl'):=hd.bd.fr f2 (fun h=>h.elim (fun e=>n1 e.symm) (fun e=>o4 e))
 have ks:(Wb.setCell ⟨E.dd,9,none⟩ v2).heap[sb]?=W.heap[sb]?:=f3.block sb h.sb.2.1 (fun hk=>hk.elim (fun e=>hsf e) (fun hk=>hk.elim (fun e=>o5 e) (fun e=>h.sb.1 e)))
 refine ⟨⟨f3.size,fun k o' _ hk ho'=>(f3.block k (heap_lt hk) ?_).trans hk⟩,KpB.of_fr f3 h.sb.2.1 h.bx.lt (fun hk=>hk.elim (fun e=>hsf e) (fun hk=>hk.elim (fun e=>o5 e) (fun e=>h.sb.1 e))) (fun h=>h.elim (fun e=>n5 e) (fun h=>h.elim (fun e=>o3 e) (fun e=>n4 e))),?_⟩
 ·have hc:∀ (t:TypeId) (cs:Array Value),W.heap[k]?≠some (.cells cs t (0,0)):=fun t cs e=>by rw [e] at hk;cases hk;cases ho'
  rintro (e | e | e)
  ·subst e;exact hc _ _ h.fb
  ·rcases hd.st.2 with ⟨rfl,_⟩ | ⟨g,cap,cur,rfl,_,hgb,_⟩
   ·cases e
   ·obtain rfl:g=k:=by simpa [Value.ownBlock] using e
    exact hc _ _ hgb
  ·subst e;exact hc _ _ hd.bd
 ·have hst:(Wb.setCell ⟨E.dd,9,none⟩ v2).ownsRow E.lo 133 3 v2 n (lfRow E (preL pre ++ l) ++ [.bool x.1.1.non,.int .i64 x.1.1.n,.int .u32 (f:Int)]):=
   own_fr (S:=fun k=>k=E.dd) ho ((Fr.refl _ Wb).own 9 _) fun k hv e=>bd2.row ho (by decide) (by rw [← e];exact hv)
  rw [hf] at hst
  have e1:preL (pre ++ [x]) ++ l=x.1.1 :: (preL pre ++ l):=by rw [preL_snoc];rfl
  subst hn
  refine ⟨⟨v2,by rw [e1];exact ⟨bd2.put 9 _,hst,h.dv.elim fun _ hx=>hx.env.fr hD⟩⟩,?_,h.tb.fr f3 (fun h=>h.elim (fun e=>n3 e) (fun h=>h.elim (fun e=>o2 e) (fun e=>n2 e))),h.bx.fr f3 (fun h=>h.elim (fun e=>n5 e) (fun h=>h.elim (fun e=>o3 e) (fun e=>n4 e))),h.fr.trans hD,h.sb.keep f3.size ks⟩
  rw [e1,← hf]
  have b1:Bk (Wa.setCell ⟨fb,0,none⟩ (.int .u32 (f:Int))) fb 126 #[.int .u32 (f:Int)]:=(h.fb.bl hb).put 0 _
  have b2:Bk Wb fb 126 #[.int .u32 (f:Int)]:=(b1.drew.alloc o).grown hg (fun e=>o1 e.symm)
  exact b2.far (p:=⟨E.dd,9,none⟩) n1 _
end
theorem ldput_any (E:LdE) (hE:LdOk E) (a:Nat) (l:List Gr.Sy) (vl:Value) (Aq:Option Addr) (lq cq:Nat) (q:List Gr.Sy) (w:World) (hD:DvR E a l vl w) (ha:a≤E.lw) (hq:Ld.RowG E.g q) (hl:Ld.RowG E.g l) (hlq:lq=q.length) (hrd:RdP w (SyB E w) Aq (syRow q)) (hn:l.length≤900000) (hqn:q.length≤1000) :
  Calls Tryz.prog 37 #[.pointer (some ⟨E.dd,0,none⟩),.slice Aq lq cq] w fun e w'=>e=.returned (.bool (Ld.mayB E.K E.g E.u (q ++ l) a))∧(∃ vl',DvR E a (if Ld.mayB E.K E.g E.u (q ++ l) a=true then q ++ l else l) vl' w')∧FrD E w w':=by
 obtain ⟨mb,hmb⟩:∃ mb,mb=Ld.mayB E.K E.g E.u (q ++ l) a:=⟨_,rfl⟩
 rw [← hmb]
 obtain ⟨l2,hl2⟩:∃ l2,l2=if mb=true then q ++ l else l:=⟨_,rfl⟩
 rw [← hl2]
 have HMb:=Lib.hid hmb
 have HL2:=Lib.hid hl2
 clear hmb hl2
 refine (callsIn_wide (n:=6)).1 ?_
 refine callsIn_of_wp_marks Tryz.func37 rfl trivial ?_ rfl
 simp only [Tryz.ntmps37,List.size_toArray,List.length_cons,List.length_nil,Nat.reduceAdd,Nat.reduceSub,Array.replicate_succ,Array.replicate_zero,List.push_toArray,List.append_toArray,List.nil_append,List.cons_append]
 have HT0:=Lib.hid (Bk.new w 125 #[.pointer (some ⟨E.dd,0,none⟩)])
 have HB0:Hid (Bl w (w.alloc (.cells #[.pointer (some ⟨E.dd,0,none⟩)] 125))):=(Bl.refl w).alloc _
 have HD0:=Lib.hid (hD.bl HB0.out)
 obtain ⟨Al,cl,hv,hcl⟩:=own_form hD.st
 subst hv
 obtain ⟨w0,hw0⟩:∃ w0,w0=w.alloc (.cells #[.pointer (some ⟨E.dd,0,none⟩)] 125):=⟨_,rfl⟩
 rw [← hw0] at HT0 HB0 HD0
 have t0:w0.cell? ⟨w.heap.size,0,none⟩=some (.pointer (some ⟨E.dd,0,none⟩)):=HT0.out.cell 0
 have d9:w0.cell? ⟨E.dd,9,none⟩=some (.slice Al l.length cl):=HD0.out.bd.cell 9
 have dl:E.dd < w0.heap.size:=HD0.out.bd.lt
 have tl:w.heap.size < w0.heap.size:=HT0.out.lt
 have hls:(l.length:Int)≤900000:=by omega
 obtain ⟨x,hx⟩:∃ x,x=Ld.fromN E.K E.g E.u l:=⟨_,rfl⟩
 have HFrom:Hid (∀ wx,Bl w0 wx→Calls Tryz.prog 66 #[.pointer (some ⟨E.dd,0,none⟩)] wx fun e w'=>e=.returned (.int .u32 (x:Int))∧Bl wx w'):=fun wx hb=>by
  rw [hx]
  exact ldfrom_any E hE a l _ wx (HD0.out.bl hb) (by omega)
 have HS:Hid (∀ wx,Bl w0 wx→wx.cell? ⟨w.heap.size,0,none⟩=some (.pointer (some ⟨E.dd,0,none⟩))∧wx.cell? ⟨E.dd,9,none⟩=some (.slice Al l.length cl)):=fun wx hb=>⟨(HT0.out.bl hb).cell 0,(HD0.out.bl hb).bd.cell 9⟩
 have HBc:=Lib.hid (Bl.refl w0)
 have HX:=Lib.hid hx
 have HE:=Lib.hid hE
 have HQ:=Lib.hid hq
 have HLg:=Lib.hid hl
 have HLq:=Lib.hid hlq
 have HRd:=Lib.hid hrd
 have HDw:=Lib.hid hD
 clear hx hE hq hl hlq hrd hD
 obtain ⟨sz,hsz⟩:∃ sz,sz=w.heap.size:=⟨_,rfl⟩
 have HSz:=Lib.hid hsz
 rw [← hsz] at t0 tl HS HT0
 have tk1:True:=trivial
 gi_wp2
 rw [← hw0,← hsz]
 clear hw0 hsz
 refine wpIn_mono (Q:=fun e a' W=>e=.normal∧∃ (fb:Nat) (u9 u10 u11 u12 u13 u14 u15:Value),sz < fb∧E.lo≤fb∧Hid (Bl w0 W)∧Hid (Bk W fb 126 #[.int .u32 (x:Int)])∧
  a' = { tmps:=#[.pointer (some ⟨E.dd,0,none⟩),.slice Aq lq cq,.pointer (some ⟨sz,0,none⟩),undef,.bool false,.int .i64 (l.length:Int),.pointer (some ⟨fb,0,none⟩),undef,undef,u9,u10,u11,u12,u13,u14,u15,undef,undef,undef,undef,undef,undef,undef,undef,undef,undef,undef,undef,undef,undef,undef,undef,undef,undef,undef,undef,undef,undef,undef,undef,undef,undef,undef,undef,undef,undef,undef,undef,undef,undef,undef,undef,undef],defers:=[] }) (wpIn_wide.2 ?reg) ?aft
 case reg=>
  go_region_held3 (fun w'=>w'.cell? ⟨sz,0,none⟩=some (.pointer (some ⟨E.dd,0,none⟩))∧w'.cell? ⟨E.dd,9,none⟩=some (.slice Al l.length cl)) (first | with_reducible exact HS.out _ HBc.out | with_reducible exact HS.out _ HBc.out.drew | with_reducible exact HS.out _ (HBc.out.alloc _) | with_reducible exact HS.out _ (HBc.out.alloc _).drew | exact HS.out _ (HBc.out.fr ((Fr.refl (fun k=>k=w0.heap.size) _).own 0 _) (fun k hk e=>by omega))) (first
   | (go_at_call 66;have _t:=tk1;((with_reducible refine (HFrom.out _ HBc.out.drew).mono ?_);rintro e v1 ⟨rfl,hb1⟩;have HBc:=Lib.hid (HBc.out.drew.trans hb1);clear hb1;clear tk1))
   | (go_at_call 66;have _t:=tk1;((with_reducible refine (HFrom.out _ (HBc.out.alloc _).drew).mono ?_);rintro e v1 ⟨rfl,hb1⟩;have HXb:=Lib.hid ((Bk.new w0 126 #[.int .u32 0]).drew.bl hb1);have xc:=HXb.out.cell 0;have xf:=HXb.out.free 0;have xl:=HXb.out.lt;have HBc:=Lib.hid ((HBc.out.alloc _).drew.trans hb1);clear hb1;clear tk1)))
  all_goals first
   | exact ⟨rfl,_,_,_,_,_,_,_,_,Nat.lt_of_lt_of_le tl HBc.out.size,Nat.le_trans HDw.out.env.hlo (Nat.le_trans HB0.out.size HBc.out.size),HBc.out.alloc _,Bk.new _ _ _,rfl⟩
   | exact ⟨rfl,_,_,_,_,_,_,_,_,tl,Nat.le_trans HDw.out.env.hlo HB0.out.size,HBc.out.fr ((Fr.refl (fun k=>k=w0.heap.size) _).own 0 _) (fun k hk e=>by omega),HXb.out.put 0 _,rfl⟩
 case aft=>
  rintro e a' w1 ⟨rfl,fb,u9,u10,u11,u12,u13,u14,u15,hfb,hlo,HB1,HFb,rfl⟩
  gi_wp2_with (refine ⟨trivial,?_⟩;gi_at_call 67;refine (back_in _ _ _ _ _).mono ?_;rintro e w2 ⟨rfl,rfl⟩)
  have hlq2:=HLq.out
  subst hlq2
  have HB3:Hid (Bl w0 (w1.alloc (.cells #[.slice Aq q.length cq] 40))):=HB1.out.alloc _
  have HF3:Hid (Bk (w1.alloc (.cells #[.slice Aq q.length cq] 40)) fb 126 #[.int .u32 (x:Int)]):=HFb.out.alloc _
  have HX3:Hid (Bk (w1.alloc (.cells #[.slice Aq q.length cq] 40)) w1.heap.size 40 #[.slice Aq q.length cq]):=Bk.new w1 _ _
  have hfl:fb < w1.heap.size:=HFb.out.lt
  obtain ⟨bx,hbx⟩:∃ bx,bx=w1.heap.size:=⟨_,rfl⟩
  rw [← hbx] at HX3 hfl ⊢
  obtain ⟨w3,hw3⟩:∃ w3,w3=w1.alloc (.cells #[.slice Aq q.length cq] 40):=⟨_,rfl⟩
  rw [← hw3] at HB3 HF3 HX3 ⊢
  clear hw3 hbx HB1 HFb
  have HBw:Hid (Bl w w3):=HB0.out.trans HB3.out
  obtain ⟨sb,hsb,hsf,hrs⟩:∃ sb,SyB E w3 sb∧sb≠fb∧RdP w3 (fun b=>b=sb∧b < w3.heap.size) Aq (syRow q):=by
   cases q with
   | nil=>exact ⟨bx,⟨by have:=HDw.out.bd.lt;have:=HSz.out;omega,HX3.out.lt,.inr ⟨_,_,_,HX3.out,by decide⟩⟩,by omega,RdP.nil⟩
   | cons y q=>
    obtain ⟨b,off,e,hb,hc⟩:=HRd.out (by rw [syRow_len];simp)
    have hb2:b < w.heap.size:=hb.2.1
    refine ⟨b,hb.keep HBw.out.size (HBw.out.block b hb2),by have:=HSz.out;omega,fun _=>⟨b,off,e,⟨rfl,Nat.lt_of_lt_of_le hb2 HBw.out.size⟩,fun j u hu=>(World.cell?_of_block (HBw.out.block b hb2)).trans (hc j u hu)⟩⟩
  have hlo3:E.lo≤w3.heap.size:=Nat.le_trans HDw.out.env.hlo HBw.out.size
  have hfb3:fb < w3.heap.size:=HF3.out.lt
  have hbx3:bx < w3.heap.size:=HX3.out.lt
  have hsb3:sb < w3.heap.size:=hsb.2.1
  have hI0:PutI E a l sz fb bx sb (.slice Aq q.length cq) w [] w3:=⟨⟨_,HDw.out.bl HBw.out⟩,by rw [HX.out] at HF3;exact HF3.out,HT0.out.bl HB3.out,HX3.out,FrD.of_bl HBw.out,hsb⟩
  have hstop:=back_stops E.g 5 (by omega) bx sb cq Aq q HQ.out (by omega) w3 (HX3.out.cell 0) hbx3 hrs
  have HSb:=Lib.hid hsb
  have HI0:=Lib.hid hI0
  have HSt:=Lib.hid hstop
  clear hsb hrs hI0 hstop
  refine wpIn_rangeFunc_ownH rfl (by omega) (gf:=96) (lb:=#[.pointer (some ⟨bx,0,none⟩)]) rfl trivial (enters_of Tryz.func96 (by kernel_rfl) rfl)
   HSt.out (fun h k=>KpB.trans h k) (KpB.put hsb3 hbx3) (Below.refl _ _) (fun _=>rfl)
   (fun pre W=>PutI E a l sz fb bx sb (.slice Aq q.length cq) w pre W) (fun _ _ _=>False)
   (fun pre W W' row h hg hr=>h.kept hsb3 hlo3 hg hr) (fun _ _ _ _ _ h _ _=>h) HI0.out
   (fun y a' W=>∃ Bx,Bk W Bx 39 #[.bool y.1.1.non,.int .i64 y.1.1.n]∧a' = { tmps:=#[.pointer (some ⟨E.dd,0,none⟩),.slice Aq q.length cq,.pointer (some ⟨sz,0,none⟩),undef,.bool false,.int .i64 (l.length:Int),.pointer (some ⟨fb,0,none⟩),undef,.pointer (some ⟨Bx,0,none⟩),u9,u10,u11,u12,u13,u14,u15,.slice Aq q.length cq,.func (.func 96) #[] #[.pointer (some ⟨bx,0,none⟩)],.int .i64 y.2,.agg #[.bool y.1.1.non,.int .i64 y.1.1.n],undef,undef,undef,undef,undef,undef,undef,undef,undef,undef,undef,undef,undef,undef,undef,undef,undef,undef,undef,undef,undef,undef,undef,undef,undef,undef,undef,undef,undef,undef,undef,undef,undef],defers:=[] })
   (fun y a' _ W W' row h hg hr=>by
    obtain ⟨Bx,h2,h3⟩:=h
    exact ⟨Bx,h2.kept hg fun r e=>(hr r e).2,h3⟩) ?assign ?body ?done ?stop
  case assign=>
   rintro l' pre y W K hI hK
   dsimp only [SyX.enc]
   gi_wp2
   exact hK _ _ ((KeepsOthers.alloc _ _).from _) (KpB.of_fr (S:=fun _=>False) ((Fr.refl _ W).alloc _) hI.sb.2.1 hI.bx.lt (fun h=>h) (fun h=>h)) (hI.kept (B:=sb + 1 + E.lo) (by omega) (by omega) (World.grownBy_alloc W _ none) (fun r e=>by cases e)) ⟨W.heap.size,Bk.new W _ _,rfl⟩
  case body=>
   rintro l' pre ⟨⟨⟨yb,yn⟩,hyo⟩,yi⟩ a' W hl' _ hI ⟨Bx,HXb,rfl⟩ hlt
   obtain ⟨vl',hd⟩:=hI.dv
   have HI:=Lib.hid hI
   have HDv:=Lib.hid hd
   have HRow:Hid (Ld.RowG E.g (preL pre ++ l)):=fun s hs=>(List.mem_append.mp hs).elim (fun h=>preL_ok pre s h) (fun h=>HLg.out s h)
   have HThr:=Lib.hid (ldthr_any E HE.out a (preL pre ++ l) vl' yb yn (preL pre ++ l) W hd hyo HRow.out)
   have hln:(preL pre ++ l).length≤901000:=by rw [List.length_append,preL_len];omega
   obtain ⟨row,hrow⟩:∃ row,row=preL pre ++ l:=⟨_,rfl⟩
   have HRw:=Lib.hid hrow
   obtain ⟨fo,hfo⟩:∃ fo,fo=Ld.fromN E.K E.g E.u (preL pre ++ l):=⟨_,rfl⟩
   obtain ⟨fn,hfn⟩:∃ fn,fn=Ld.fromN E.K E.g E.u (⟨yb,yn⟩ :: (preL pre ++ l)):=⟨_,rfl⟩
   have HFn:=Lib.hid hfn
   rw [← hfo,← hfn] at HThr
   obtain ⟨Ax,cx,hvx,hcx⟩:=own_form hd.st
   subst hvx
   have s0:W.cell? ⟨sz,0,none⟩=some (.pointer (some ⟨E.dd,0,none⟩)):=hI.tb.cell 0
   have b0:W.cell? ⟨Bx,0,none⟩=some (.bool yb):=HXb.cell 0
   have b1:W.cell? ⟨Bx,1,none⟩=some (.int .i64 yn):=HXb.cell 1
   have f0:W.cell? ⟨fb,0,none⟩=some (.int .u32 (fo:Int)):=by rw [hfo];exact hI.fb.cell 0
   have l0:sz < W.heap.size:=hI.tb.lt
   have l1:Bx < W.heap.size:=HXb.lt
   have l2:fb < W.heap.size:=hI.fb.lt
   have hBf:fb≠Bx:=hI.fb.apart HXb (by decide)
   have hsf2:sz≠fb:=hI.tb.apart hI.fb (by decide)
   have hdf:E.dd≠fb:=hd.bd.apart hI.fb (by decide)
   have HFb:=Lib.hid hI.fb
   have HTb:=Lib.hid hI.tb
   have HXx:=Lib.hid HXb
   clear hI hd hfo hfn HXb hrow
   gi_wp2_with (refine ⟨trivial,?_⟩;gi_at_call 68;refine (CallsIn.inRound l' (callsIn_wide.2 HThr.out)).mono ?_;rintro e W2 ⟨rfl,hb2⟩;have HB2:=Lib.hid hb2;have f1:=(HFb.out.bl hb2).cell 0;have f2:=(HFb.out.bl hb2).free 0;have f3:=(HFb.out.bl hb2).lt;clear hb2)
   obtain ⟨W4,hW4⟩:∃ W4,W4=W2.setCell ⟨fb,0,none⟩ (.int .u32 (fn:Int)):=⟨_,rfl⟩
   rw [← hW4]
   have HW4:=Lib.hid hW4
   have HFr4:Hid (Fr (fun k=>k=fb) W W4):=by rw [hW4];exact (Fr.of_bl (S:=fun k=>k=fb) HB2.out).own 0 _
   have s4:W4.cell? ⟨sz,0,none⟩=some (.pointer (some ⟨E.dd,0,none⟩)):=(HFr4.out.cell (p:=⟨sz,0,none⟩) l0 hsf2).trans s0
   have b4:W4.cell? ⟨Bx,0,none⟩=some (.bool yb):=(HFr4.out.cell (p:=⟨Bx,0,none⟩) l1 (fun e=>hBf e.symm)).trans b0
   have c4:W4.cell? ⟨Bx,1,none⟩=some (.int .i64 yn):=(HFr4.out.cell (p:=⟨Bx,1,none⟩) l1 (fun e=>hBf e.symm)).trans b1
   have g4:W4.cell? ⟨fb,0,none⟩=some (.int .u32 (fn:Int)):=by rw [hW4];exact ((HFb.out.bl HB2.out).put 0 _).cell 0
   have HDb:Hid (Bk W4 E.dd 80 (E.cells a (.slice Ax (preL pre ++ l).length cx))):=HDv.out.bd.fr HFr4.out hdf
   have HO4:Hid (W4.ownsRow E.lo 133 3 (.slice Ax (preL pre ++ l).length cx) (preL pre ++ l).length (lfRow E (preL pre ++ l))):=own_fr HDv.out.st HFr4.out (fun k hk e=>by subst e;exact HFb.out.row HDv.out.st (by decide) hk)
   have HTb4:=Lib.hid (HTb.out.fr HFr4.out hsf2)
   have HXx4:=Lib.hid (HXx.out.fr HFr4.out (fun e=>hBf e.symm))
   have HFb4:Hid (Bk W4 fb 126 #[.int .u32 (fn:Int)]):=by unfold Hid;rw [hW4];exact (HFb.out.bl HB2.out).put 0 _
   have hlo4:E.lo≤W4.heap.size:=Nat.le_trans HDv.out.env.hlo HFr4.out.size
   have d94:W4.cell? ⟨E.dd,9,none⟩=some (.slice Ax (preL pre ++ l).length cx):=HDb.out.cell 9
   have dl4:E.dd < W4.heap.size:=HDb.out.lt
   obtain ⟨i0,hi,hz0,hz1,hz2⟩:=info_parts left_info
   have HSd:Hid (W4.drew.cell? ⟨sz,0,none⟩=some (.pointer (some ⟨E.dd,0,none⟩))∧W4.drew.cell? ⟨Bx,0,none⟩=some (.bool yb)∧W4.drew.cell? ⟨Bx,1,none⟩=some (.int .i64 yn)∧W4.drew.cell? ⟨fb,0,none⟩=some (.int .u32 (fn:Int))):=⟨s4,b4,c4,g4⟩
   have HBa:Hid (Bl W4 (W4.drew.alloc (.cells #[.bool yb,.int .i64 yn,.int .u32 (fn:Int)] 133))):=(Bl.refl W4).drew.alloc _
   have HSa:Hid ((W4.drew.alloc (.cells #[.bool yb,.int .i64 yn,.int .u32 (fn:Int)] 133)).cell? ⟨sz,0,none⟩=some (.pointer (some ⟨E.dd,0,none⟩))∧(W4.drew.alloc (.cells #[.bool yb,.int .i64 yn,.int .u32 (fn:Int)] 133)).cell? ⟨Bx,0,none⟩=some (.bool yb)∧(W4.drew.alloc (.cells #[.bool yb,.int .i64 yn,.int .u32 (fn:Int)] 133)).cell? ⟨Bx,1,none⟩=some (.int .i64 yn)∧(W4.drew.alloc (.cells #[.bool yb,.int .i64 yn,.int .u32 (fn:Int)] 133)).cell? ⟨fb,0,none⟩=some (.int .u32 (fn:Int))):=
    ⟨(HTb4.out.bl HBa.out).cell 0,(HXx4.out.bl HBa.out).cell 0,(HXx4.out.bl HBa.out).cell 1,(HFb4.out.bl HBa.out).cell 0⟩
   have HOx:Hid ((W4.drew.alloc (.cells #[.bool yb,.int .i64 yn,.int .u32 (fn:Int)] 133)).ownsRow E.lo 133 3 (.slice Ax (preL pre ++ l).length cx) (preL pre ++ l).length (lfRow E (preL pre ++ l))):=own_bl HO4.out HBa.out
   have HRx:Hid (Rd (W4.drew.alloc (.cells #[.bool yb,.int .i64 yn,.int .u32 (fn:Int)] 133)) (W4.heap.size + 1) (some ⟨W4.heap.size,0,none⟩) [.bool yb,.int .i64 yn,.int .u32 (fn:Int)]):=rd_newL W4.drew 133 #[.bool yb,.int .i64 yn,.int .u32 (fn:Int)]
   have hloA:E.lo≤(W4.drew.alloc (.cells #[.bool yb,.int .i64 yn,.int .u32 (fn:Int)] 133)).heap.size:=Nat.le_trans hlo4 HBa.out.size
   have HPs:Hid (∀ (A2:Option Addr) (d2:Nat) (w5:World),w5.ownsRow E.lo 133 3 (.slice A2 ((preL pre ++ l).length + 1) d2) ((preL pre ++ l).length + 1) (lfRow E (preL pre ++ l) ++ [.bool yb,.int .i64 yn,.int .u32 (fn:Int)])→(W4.drew.alloc (.cells #[.bool yb,.int .i64 yn,.int .u32 (fn:Int)] 133)).grownBy w5 (Value.slice Ax (preL pre ++ l).length cx).ownBlock→
     w5.cell? ⟨E.dd,9,none⟩=some (.slice Ax (preL pre ++ l).length cx)∧w5.frozen? ⟨E.dd,9,none⟩=false∧E.dd < w5.heap.size∧
     (w5.cell? ⟨sz,0,none⟩=some (.pointer (some ⟨E.dd,0,none⟩))∧w5.cell? ⟨Bx,0,none⟩=some (.bool yb)∧w5.cell? ⟨Bx,1,none⟩=some (.int .i64 yn)∧w5.cell? ⟨fb,0,none⟩=some (.int .u32 (fn:Int)))∧
     ((w5.setCell ⟨E.dd,9,none⟩ (.slice A2 ((preL pre ++ l).length + 1) d2)).cell? ⟨sz,0,none⟩=some (.pointer (some ⟨E.dd,0,none⟩))∧(w5.setCell ⟨E.dd,9,none⟩ (.slice A2 ((preL pre ++ l).length + 1) d2)).cell? ⟨Bx,0,none⟩=some (.bool yb)∧(w5.setCell ⟨E.dd,9,none⟩ (.slice A2 ((preL pre ++ l).length + 1) d2)).cell? ⟨Bx,1,none⟩=some (.int .i64 yn)∧(w5.setCell ⟨E.dd,9,none⟩ (.slice A2 ((preL pre ++ l).length + 1) d2)).cell? ⟨fb,0,none⟩=some (.int .u32 (fn:Int)))):=by
    intro A2 d2 w5 hown2 hg2
    have k1:=(HDb.out.bl HBa.out).grown hg2 (fun e=>HDb.out.row HO4.out (by decide) e.symm)
    have k2:=(HTb4.out.bl HBa.out).grown hg2 (fun e=>HTb4.out.row HO4.out (by decide) e.symm)
    have k3:=(HXx4.out.bl HBa.out).grown hg2 (fun e=>HXx4.out.row HO4.out (by decide) e.symm)
    have k4:=(HFb4.out.bl HBa.out).grown hg2 (fun e=>HFb4.out.row HO4.out (by decide) e.symm)
    have n1:=HTb4.out.apart HDb.out (by decide)
    have n2:=HXx4.out.apart HDb.out (by decide)
    have n3:=HFb4.out.apart HDb.out (by decide)
    exact ⟨k1.cell 9,k1.free 9,k1.lt,⟨k2.cell 0,k3.cell 0,k3.cell 1,k4.cell 0⟩,(k2.far (p:=⟨E.dd,9,none⟩) n1 _).cell 0,(k3.far (p:=⟨E.dd,9,none⟩) n2 _).cell 0,(k3.far (p:=⟨E.dd,9,none⟩) n2 _).cell 1,(k4.far (p:=⟨E.dd,9,none⟩) n3 _).cell 0⟩
   have HFin:Hid (∀ (A2:Option Addr) (d2:Nat) (w5:World),w5.ownsRow E.lo 133 3 (.slice A2 ((preL pre ++ l).length + 1) d2) ((preL pre ++ l).length + 1) (lfRow E (preL pre ++ l) ++ [.bool yb,.int .i64 yn,.int .u32 (fn:Int)])→(W4.drew.alloc (.cells #[.bool yb,.int .i64 yn,.int .u32 (fn:Int)] 133)).grownBy w5 (Value.slice Ax (preL pre ++ l).length cx).ownBlock→
     KeepsFrom w3.heap.size W (w5.setCell ⟨E.dd,9,none⟩ (.slice A2 ((preL pre ++ l).length + 1) d2))∧KpB sb bx W (w5.setCell ⟨E.dd,9,none⟩ (.slice A2 ((preL pre ++ l).length + 1) d2))∧PutI E a l sz fb bx sb (.slice Aq q.length cq) w (pre ++ [(⟨⟨yb,yn⟩,hyo⟩,yi)]) (w5.setCell ⟨E.dd,9,none⟩ (.slice A2 ((preL pre ++ l).length + 1) d2))):=by
    intro A2 d2 w5 hown2 hg2
    rw [HW4.out] at hg2
    rw [HFn.out] at hown2 hg2
    exact HI.out.push (x:=(⟨⟨yb,yn⟩,hyo⟩,yi)) HDv.out hlo hsf rfl HB2.out hown2 hg2
   rw [← HRw.out] at HOx HPs HFin d94 hln
   clear HW4 hW4 HI HDv HRow HThr HFn HRw HB2 f1 f2 f3 s0 b0 b1 f0 HFr4 HDb HO4 HTb4 HXx4 HFb4 HBa HFb HTb HXx HSt HI0 HS HFrom
   refine wpIn_region_round_drew (S:=fun w'=>w'.cell? ⟨sz,0,none⟩=some (.pointer (some ⟨E.dd,0,none⟩))∧w'.cell? ⟨Bx,0,none⟩=some (.bool yb)∧w'.cell? ⟨Bx,1,none⟩=some (.int .i64 yn)∧w'.cell? ⟨fb,0,none⟩=some (.int .u32 (fn:Int))) (by kernel_rfl) (by rintro ⟨_,_,h⟩;exact h) (by kernel_rfl) HSd.out (fun hHeld=>?_)
   refine wpAnyH_take (i:=0) (oi:=({ dst:=some 24,op:=Op.load 125 (Operand.tmp 2),type:=125,pos:="deriving.go:72",after:=#[],guard:=none }:Oper)) (v:=?_) rfl (by kernel_rfl) (by kernel_rfl) (by kernel_rfl) (fun _ _ _ h=>h) (Or.inl ⟨by rfl,?_⟩) hHeld ?_
   rotate_left
   ·(intro w hSw;(try dsimp only at hSw);go_simp) <;> with_reducible rfl
   try simp only [Act.put,List.setIfInBounds_toArray,List.set_cons_zero,List.set_cons_succ]
   refine wpAnyH_take (i:=1) (oi:=({ dst:=some 25,op:=Op.load 125 (Operand.tmp 2),type:=125,pos:="deriving.go:72",after:=#[],guard:=none }:Oper)) (v:=?_) rfl (by kernel_rfl) (by kernel_rfl) (by kernel_rfl) (fun _ _ _ h=>h) (Or.inl ⟨by rfl,?_⟩) hHeld ?_
   rotate_left
   ·(intro w hSw;(try dsimp only at hSw);go_simp) <;> with_reducible rfl
   try simp only [Act.put,List.setIfInBounds_toArray,List.set_cons_zero,List.set_cons_succ]
   refine wpAnyH_take (i:=2) (oi:=({ dst:=some 26,op:=Op.nilCheck (Operand.tmp 25),type:=0,pos:="deriving.go:72",after:=#[{ on:=1,ground:=Ground.data }],guard:=none }:Oper)) (v:=?_) rfl (by kernel_rfl) (by kernel_rfl) (by kernel_rfl) (fun _ _ _ h=>h) (Or.inl ⟨by rfl,?_⟩) hHeld ?_
   rotate_left
   ·(intro w hSw;(try dsimp only at hSw);go_simp) <;> with_reducible rfl
   try simp only [Act.put,List.setIfInBounds_toArray,List.set_cons_zero,List.set_cons_succ]
   refine wpAnyH_take (i:=3) (oi:=({ dst:=some 27,op:=Op.fieldAddr 80 (Operand.tmp 26) 6,type:=0,pos:="deriving.go:72",after:=#[{ on:=2,ground:=Ground.data }],guard:=none }:Oper)) (v:=?_) rfl (by kernel_rfl) (by kernel_rfl) (by kernel_rfl) (fun _ _ _ h=>h) (Or.inl ⟨by rfl,?_⟩) hHeld ?_
   rotate_left
   ·(intro w hSw;(try dsimp only at hSw);go_simp) <;> with_reducible rfl
   try simp only [Act.put,List.setIfInBounds_toArray,List.set_cons_zero,List.set_cons_succ]
   refine wpAnyH_take (i:=5) (oi:=({ dst:=some 29,op:=Op.load 39 (Operand.tmp 8),type:=39,pos:="deriving.go:72",after:=#[],guard:=none }:Oper)) (v:=?_) rfl (by kernel_rfl) (by kernel_rfl) (by kernel_rfl) (fun _ _ _ h=>h) (Or.inl ⟨by rfl,?_⟩) hHeld ?_
   rotate_left
   ·(intro w hSw;(try dsimp only at hSw);go_simp) <;> with_reducible rfl
   try simp only [Act.put,List.setIfInBounds_toArray,List.set_cons_zero,List.set_cons_succ]
   refine wpAnyH_take (i:=6) (oi:=({ dst:=some 30,op:=Op.load 126 (Operand.tmp 6),type:=126,pos:="deriving.go:72",after:=#[],guard:=none }:Oper)) (v:=?_) rfl (by kernel_rfl) (by kernel_rfl) (by kernel_rfl) (fun _ _ _ h=>h) (Or.inl ⟨by rfl,?_⟩) hHeld ?_
   rotate_left
   ·(intro w hSw;(try dsimp only at hSw);go_simp) <;> with_reducible rfl
   try simp only [Act.put,List.setIfInBounds_toArray,List.set_cons_zero,List.set_cons_succ]
   refine wpAnyH_take (i:=7) (oi:=({ dst:=some 31,op:=Op.build 133 #[(0,Operand.tmp 29),(1,Operand.tmp 30)],type:=133,pos:="deriving.go:72",after:=#[{ on:=5,ground:=Ground.data },{ on:=6,ground:=Ground.data }],guard:=none }:Oper)) (v:=?_) rfl (by kernel_rfl) (by kernel_rfl) (by kernel_rfl) (fun _ _ _ h=>h) (Or.inl ⟨by rfl,?_⟩) hHeld ?_
   rotate_left
   ·(intro w hSw;(try dsimp only at hSw);go_simp) <;> with_reducible rfl
   try simp only [Act.put,List.setIfInBounds_toArray,List.set_cons_zero,List.set_cons_succ]
   refine wpAnyH_ready (rs:=[4,8]) (by kernel_rfl) (by simp) ?_
   refine AllReadyH.cons (o:=({ dst:=some 28,op:=Op.load 78 (Operand.tmp 27),type:=78,pos:="deriving.go:72",after:=#[{ on:=3,ground:=Ground.data }],guard:=none }:Oper)) rfl (fun K hK=>?_) (AllReadyH.cons (o:=({ dst:=some 32,op:=Op.buildSlice 78 1 #[(0,Operand.tmp 31)],type:=78,pos:="deriving.go:72",after:=#[{ on:=7,ground:=Ground.data }],guard:=none }:Oper)) rfl (fun K hK=>?_) AllReadyH.nil)
   rotate_left
   ·go_simp
    refine hK.out _ _ HSa.out (fun hHeld=>?_)
    clear hK K
    try simp only [Act.put,List.setIfInBounds_toArray,List.set_cons_zero,List.set_cons_succ]
    refine wpAnyH_ready (rs:=[4]) (by kernel_rfl) (by simp) ?_
    refine AllReadyH.cons (o:=({ dst:=some 28,op:=Op.load 78 (Operand.tmp 27),type:=78,pos:="deriving.go:72",after:=#[{ on:=3,ground:=Ground.data }],guard:=none }:Oper)) rfl (fun K hK=>?_) AllReadyH.nil
    go_simp
    refine hK.out _ _ HSa.out (fun hHeld=>?_)
    clear hK K
    try simp only [Act.put,List.setIfInBounds_toArray,List.set_cons_zero,List.set_cons_succ]
    refine wpAnyH_ready (rs:=[9]) (by kernel_rfl) (by simp) ?_
    refine AllReadyH.cons (o:=({ dst:=some 33,op:=Op.call { callee:=Callee.builtin Builtin.append,args:=#[Operand.tmp 28,Operand.tmp 32],argTypes:=#[78,78] },type:=78,pos:="deriving.go:72",after:=#[{ on:=4,ground:=Ground.data },{ on:=8,ground:=Ground.data }],guard:=none }:Oper)) rfl (fun K hK=>?_) AllReadyH.nil
    refine step_append_rdN rfl (.tmp 28) (.tmp 32) 78 rfl E.lo 133 i0 (.agg #[.bool false,.int .i64 0,.int .u32 0]) 3 24 Tryz.underlying78 hi hz0 hz1 hz2 rfl (by decide) (.slice Ax row.length cx) row.length (lfRow E row) rfl HOx.out (W4.heap.size + 1) (some ⟨W4.heap.size,0,none⟩) 1 1 [.bool yb,.int .i64 yn,.int .u32 (fn:Int)] rfl HRx.out rfl (fun u hu=>by simp at hu;rcases hu with rfl | rfl | rfl <;> rfl) (by simp only [maxLen];omega) (by omega) hloA ?_
    intro v2 w5 hown2 hg2
    obtain ⟨A2,d2,hv2,_⟩:=own_form hown2
    subst hv2
    obtain ⟨q1,q2,q3,hS5,hSs⟩:=HPs.out _ _ _ hown2 hg2
    have HEnd:=Lib.hid (HFin.out _ _ _ hown2 hg2)
    clear hown2 hg2
    refine hK.out _ _ hS5 (fun hHeld=>?_)
    clear hK K
    try simp only [Act.put,List.setIfInBounds_toArray,List.set_cons_zero,List.set_cons_succ]
    refine wpAnyH_take (i:=10) (oi:=({ dst:=some 34,op:=Op.nilCheck (Operand.tmp 24),type:=0,pos:="deriving.go:72",after:=#[{ on:=0,ground:=Ground.data },{ on:=0,ground:=Ground.phase },{ on:=1,ground:=Ground.phase },{ on:=2,ground:=Ground.phase },{ on:=3,ground:=Ground.phase },{ on:=4,ground:=Ground.phase },{ on:=5,ground:=Ground.phase },{ on:=6,ground:=Ground.phase },{ on:=7,ground:=Ground.phase },{ on:=8,ground:=Ground.phase },{ on:=9,ground:=Ground.phase }],guard:=none }:Oper)) (v:=?_) rfl (by kernel_rfl) (by kernel_rfl) (by kernel_rfl) (fun _ _ _ h=>h) (Or.inl ⟨by rfl,?_⟩) hHeld ?_
    rotate_left
    ·(intro w hSw;(try dsimp only at hSw);go_simp) <;> with_reducible rfl
    try simp only [Act.put,List.setIfInBounds_toArray,List.set_cons_zero,List.set_cons_succ]
    refine wpAnyH_take (i:=11) (oi:=({ dst:=some 35,op:=Op.fieldAddr 80 (Operand.tmp 34) 6,type:=0,pos:="deriving.go:72",after:=#[{ on:=10,ground:=Ground.data },{ on:=0,ground:=Ground.phase },{ on:=1,ground:=Ground.phase },{ on:=2,ground:=Ground.phase },{ on:=3,ground:=Ground.phase },{ on:=4,ground:=Ground.phase },{ on:=5,ground:=Ground.phase },{ on:=6,ground:=Ground.phase },{ on:=7,ground:=Ground.phase },{ on:=8,ground:=Ground.phase },{ on:=9,ground:=Ground.phase }],guard:=none }:Oper)) (v:=?_) rfl (by kernel_rfl) (by kernel_rfl) (by kernel_rfl) (fun _ _ _ h=>h) (Or.inl ⟨by rfl,?_⟩) hHeld ?_
    rotate_left
    ·(intro w hSw;(try dsimp only at hSw);go_simp) <;> with_reducible rfl
    try simp only [Act.put,List.setIfInBounds_toArray,List.set_cons_zero,List.set_cons_succ]
    refine wpAnyH_ready (rs:=[12]) (by kernel_rfl) (by simp) ?_
    refine AllReadyH.cons (o:=({ dst:=none,op:=Op.store 78 (Operand.tmp 35) (Operand.tmp 33),type:=0,pos:="deriving.go:72",after:=#[{ on:=11,ground:=Ground.data },{ on:=9,ground:=Ground.data },{ on:=9,ground:=Ground.chain },{ on:=0,ground:=Ground.phase },{ on:=1,ground:=Ground.phase },{ on:=2,ground:=Ground.phase },{ on:=3,ground:=Ground.phase },{ on:=4,ground:=Ground.phase },{ on:=5,ground:=Ground.phase },{ on:=6,ground:=Ground.phase },{ on:=7,ground:=Ground.phase },{ on:=8,ground:=Ground.phase },{ on:=9,ground:=Ground.phase }],guard:=none }:Oper)) rfl (fun K hK=>?_) AllReadyH.nil
    go_simp
    refine hK.out _ _ hSs (fun hHeld=>?_)
    clear hK K
    try simp only [Act.put,List.setIfInBounds_toArray,List.set_cons_zero,List.set_cons_succ]
    refine wpAnyH_done (by kernel_rfl) ?_ _
    exact HEnd.out
   ·go_simp
    refine hK.out _ _ HSd.out (fun hHeld=>?_)
    clear hK K
    try simp only [Act.put,List.setIfInBounds_toArray,List.set_cons_zero,List.set_cons_succ]
    refine wpAnyH_ready (rs:=[8]) (by kernel_rfl) (by simp) ?_
    refine AllReadyH.cons (o:=({ dst:=some 32,op:=Op.buildSlice 78 1 #[(0,Operand.tmp 31)],type:=78,pos:="deriving.go:72",after:=#[{ on:=7,ground:=Ground.data }],guard:=none }:Oper)) rfl (fun K hK=>?_) AllReadyH.nil
    go_simp
    refine hK.out _ _ HSa.out (fun hHeld=>?_)
    clear hK K
    try simp only [Act.put,List.setIfInBounds_toArray,List.set_cons_zero,List.set_cons_succ]
    refine wpAnyH_ready (rs:=[9]) (by kernel_rfl) (by simp) ?_
    refine AllReadyH.cons (o:=({ dst:=some 33,op:=Op.call { callee:=Callee.builtin Builtin.append,args:=#[Operand.tmp 28,Operand.tmp 32],argTypes:=#[78,78] },type:=78,pos:="deriving.go:72",after:=#[{ on:=4,ground:=Ground.data },{ on:=8,ground:=Ground.data }],guard:=none }:Oper)) rfl (fun K hK=>?_) AllReadyH.nil
    refine step_append_rdN rfl (.tmp 28) (.tmp 32) 78 rfl E.lo 133 i0 (.agg #[.bool false,.int .i64 0,.int .u32 0]) 3 24 Tryz.underlying78 hi hz0 hz1 hz2 rfl (by decide) (.slice Ax row.length cx) row.length (lfRow E row) rfl HOx.out (W4.heap.size + 1) (some ⟨W4.heap.size,0,none⟩) 1 1 [.bool yb,.int .i64 yn,.int .u32 (fn:Int)] rfl HRx.out rfl (fun u hu=>by simp at hu;rcases hu with rfl | rfl | rfl <;> rfl) (by simp only [maxLen];omega) (by omega) hloA ?_
    intro v2 w5 hown2 hg2
    obtain ⟨A2,d2,hv2,_⟩:=own_form hown2
    subst hv2
    obtain ⟨q1,q2,q3,hS5,hSs⟩:=HPs.out _ _ _ hown2 hg2
    have HEnd:=Lib.hid (HFin.out _ _ _ hown2 hg2)
    clear hown2 hg2
    refine hK.out _ _ hS5 (fun hHeld=>?_)
    clear hK K
    try simp only [Act.put,List.setIfInBounds_toArray,List.set_cons_zero,List.set_cons_succ]
    refine wpAnyH_take (i:=10) (oi:=({ dst:=some 34,op:=Op.nilCheck (Operand.tmp 24),type:=0,pos:="deriving.go:72",after:=#[{ on:=0,ground:=Ground.data },{ on:=0,ground:=Ground.phase },{ on:=1,ground:=Ground.phase },{ on:=2,ground:=Ground.phase },{ on:=3,ground:=Ground.phase },{ on:=4,ground:=Ground.phase },{ on:=5,ground:=Ground.phase },{ on:=6,ground:=Ground.phase },{ on:=7,ground:=Ground.phase },{ on:=8,ground:=Ground.phase },{ on:=9,ground:=Ground.phase }],guard:=none }:Oper)) (v:=?_) rfl (by kernel_rfl) (by kernel_rfl) (by kernel_rfl) (fun _ _ _ h=>h) (Or.inl ⟨by rfl,?_⟩) hHeld ?_
    rotate_left
    ·(intro w hSw;(try dsimp only at hSw);go_simp) <;> with_reducible rfl
    try simp only [Act.put,List.setIfInBounds_toArray,List.set_cons_zero,List.set_cons_succ]
    refine wpAnyH_take (i:=11) (oi:=({ dst:=some 35,op:=Op.fieldAddr 80 (Operand.tmp 34) 6,type:=0,pos:="deriving.go:72",after:=#[{ on:=10,ground:=Ground.data },{ on:=0,ground:=Ground.phase },{ on:=1,ground:=Ground.phase },{ on:=2,ground:=Ground.phase },{ on:=3,ground:=Ground.phase },{ on:=4,ground:=Ground.phase },{ on:=5,ground:=Ground.phase },{ on:=6,ground:=Ground.phase },{ on:=7,ground:=Ground.phase },{ on:=8,ground:=Ground.phase },{ on:=9,ground:=Ground.phase }],guard:=none }:Oper)) (v:=?_) rfl (by kernel_rfl) (by kernel_rfl) (by kernel_rfl) (fun _ _ _ h=>h) (Or.inl ⟨by rfl,?_⟩) hHeld ?_
    rotate_left
    ·(intro w hSw;(try dsimp only at hSw);go_simp) <;> with_reducible rfl
    try simp only [Act.put,List.setIfInBounds_toArray,List.set_cons_zero,List.set_cons_succ]
    refine wpAnyH_ready (rs:=[12]) (by kernel_rfl) (by simp) ?_
    refine AllReadyH.cons (o:=({ dst:=none,op:=Op.store 78 (Operand.tmp 35) (Operand.tmp 33),type:=0,pos:="deriving.go:72",after:=#[{ on:=11,ground:=Ground.data },{ on:=9,ground:=Ground.data },{ on:=9,ground:=Ground.chain },{ on:=0,ground:=Ground.phase },{ on:=1,ground:=Ground.phase },{ on:=2,ground:=Ground.phase },{ on:=3,ground:=Ground.phase },{ on:=4,ground:=Ground.phase },{ on:=5,ground:=Ground.phase },{ on:=6,ground:=Ground.phase },{ on:=7,ground:=Ground.phase },{ on:=8,ground:=Ground.phase },{ on:=9,ground:=Ground.phase }],guard:=none }:Oper)) rfl (fun K hK=>?_) AllReadyH.nil
    go_simp
    refine hK.out _ _ hSs (fun hHeld=>?_)
    clear hK K
    try simp only [Act.put,List.setIfInBounds_toArray,List.set_cons_zero,List.set_cons_succ]
    refine wpAnyH_done (by kernel_rfl) ?_ _
    exact HEnd.out
  case done=>
   rintro D ys W hDl hys hI hK
   have hys2:preL ys=q:=hys
   have HI:=Lib.hid hI
   obtain ⟨vl',hd⟩:=hI.dv
   have hfb4:=hI.fb
   rw [hys2] at hd hfb4
   obtain ⟨Ax,cx,hvx,hcx⟩:=own_form hd.st
   subst hvx
   have HDv:=Lib.hid hd
   obtain ⟨y,hy⟩:∃ y,y=Ld.fromN E.K E.g E.u (q ++ l):=⟨_,rfl⟩
   rw [← hy] at hfb4
   have s4:W.cell? ⟨sz,0,none⟩=some (.pointer (some ⟨E.dd,0,none⟩)):=hI.tb.cell 0
   have g4:W.cell? ⟨fb,0,none⟩=some (.int .u32 (y:Int)):=hfb4.cell 0
   have d8:W.cell? ⟨E.dd,8,none⟩=some (.int .i64 (a:Int)):=hd.bd.cell 8
   have dl4:E.dd < W.heap.size:=hd.bd.lt
   have hy32:y < 4294967296:=by rw [hy];exact Nat.lt_of_lt_of_le (Ld.fromN_lt HE.out.u24) (by decide)
   have ha24:a≤24:=by have:=HE.out.lw24;omega
   have hk32:min a 32=a:=by omega
   have hbz:=bit_zero y a hy32
   have hyb:y.testBit a=mb:=by
    rw [HMb.out,hy,Bool.eq_iff_iff,Ld.fromN_bit,Ld.mayB_iff]
    have:=HE.out.lw
    constructor
    ·exact fun h=>h.2
    ·exact fun h=>⟨by omega,h⟩
   rw [hyb] at hbz
   have HFr:=Lib.hid hI.fr
   have HTb:=Lib.hid hI.tb
   clear hyb hd hI hfb4 HI HSt HI0 hys hy
   have hKD:∀ k,(W.drewN k).heap[D]?=some (.deferred (some [])):=fun _=>hK
   have HKc:Hid (∀ (Wx:World),Wx.heap[D]?=some (.deferred (some []))→∀ r,(some D:Option Nat)=some r→E.lo≤r∧∃ o:Obj,Wx.heap[r]?=some o∧o.isCells=false):=fun Wx hx r e=>by
    cases e
    exact ⟨Nat.le_trans hlo3 hDl,_,hx,rfl⟩
   clear HMb
   cases mb with
   | true=>
    rw [Bool.not_true] at hbz
    have hl3:l2=q ++ l:=by rw [HL2.out];rfl
    subst hl3
    clear HL2
    gi_wp2
    refine wpIn_wide.2 ?_
    go_quiet (fail)
    gi_wp2
    refine ⟨by simp,.inl ⟨_,_,rfl,run_takeDeferred (hKD _),?_⟩⟩
    refine ⟨_,results_tmp rfl _ _ _,rfl,⟨_,(HDv.out.bl ((Bl.refl W).drewN _)).kept (grownBy_putObj' _ D _) (HKc.out _ (hKD _))⟩,(HFr.out.bl ((Bl.refl W).drewN _)).trans (FrD.kept (grownBy_putObj' _ D _) (HKc.out _ (hKD _)))⟩
   | false=>
    rw [Bool.not_false] at hbz
    have hl3:l=l2:=by rw [HL2.out];rfl
    subst hl3
    clear HL2
    have hb0:=eq_of_beq hbz
    have hlc:l.length≤cx:=by rw [List.length_append] at hcx;omega
    have d94:W.cell? ⟨E.dd,9,none⟩=some (.slice Ax (q ++ l).length cx):=HDv.out.bd.cell 9
    have f94:W.frozen? ⟨E.dd,9,none⟩=false:=HDv.out.bd.free 9
    have hsl:=fun (wx:World)=>run_slice_head (P:=Tryz.prog) (t:=78) (e:=133) (size:=3) Tryz.underlying78 left_size Ax (q ++ l).length cx l.length (l.length:Int) rfl (by rw [List.length_append] at hcx;omega) wx
    have hKE:∀ k,((W.drewN k).setCell ⟨E.dd,9,none⟩ (.slice Ax l.length cx)).heap[D]?=some (.deferred (some [])):=fun k=>(Below.heap_setCell _ _ _ D (fun e=>by have e:D=E.dd:=e;rw [e] at hK;rw [show W.heap[E.dd]?=_ from HDv.out.bd] at hK;cases hK)).trans hK
    gi_wp2
    refine wpIn_wide.2 ?_
    go_quiet (fail)
    gi_wp2
    refine wpIn_wide.2 ?_
    go_region
    all_goals
     gi_wp2
     refine ⟨by simp,.inl ⟨_,_,rfl,run_takeDeferred (hKE _),?_⟩⟩
     exact ⟨_,results_tmp rfl _ _ _,rfl,⟨_,(DvR.cut (HDv.out.bl ((Bl.refl W).drewN _))).kept (grownBy_putObj' _ D _) (HKc.out _ (hKE _))⟩,((HFr.out.bl ((Bl.refl W).drewN _)).trans (FrD.cell9 (HDv.out.bl ((Bl.refl W).drewN _)).bd 9 _)).trans (FrD.kept (grownBy_putObj' _ D _) (HKc.out _ (hKE _)))⟩
  case stop=>
   rintro D c pre W _ _ h _
   exact h.elim
end Go.Proofs.YtdfhhbncmdpoeaaGreat
namespace Go.Proofs.YtdfhhbncmdpoeaaGreat
open Go.RowKit
theorem int_zero (w:World):(zeroValue 3).run Tryz.prog w=.ok (.int .i64 0) w:=by kernel_rfl
theorem ldkeep_any (x f:Int) (bf:Nat) (w:World) (hb:Bk w bf 3 #[.int .i64 f]) :
  Calls Tryz.prog 100 #[.int .i64 x,.pointer (some ⟨bf,0,none⟩)] w fun e w'=>e=.returned (.bool (decide (x≠f)))∧w'=w:=by
 have c0:=hb.cell 0
 have hl:=hb.lt
 by_cases h:x=f
 ·subst h
  go_enter Tryz.func100,Tryz.ntmps100
  go_wp2_with fail
  go_ret
  exact ⟨by simp,rfl⟩
 ·have hq:(x != f)=true:=by simpa using h
  have hd:decide (x≠f)=true:=decide_eq_true h
  rw [hd]
  clear hd
  go_enter Tryz.func100,Tryz.ntmps100
  go_wp2_with fail
  go_ret
  exact ⟨rfl,rfl⟩
theorem ifunc_any (A:Option Addr) (n c bf:Nat) (f:Int) (xs:List Int) (w:World) (B:Nat) (hn:n=xs.length) (hmax:n≤9223372036854775807) (hr:Rd w B A (ins xs)) (hb:Bk w bf 3 #[.int .i64 f]) :
  Calls Tryz.prog 120 #[.slice A n c,.func (.func 100) #[] #[.pointer (some ⟨bf,0,none⟩)]] w fun e w'=>∃ r:Int,e=.returned (.int .i64 r)∧((r = -1∧∀ x ∈ xs,x=f)∨∃ k:Nat,r=(k:Int)∧(∃ h:k < xs.length,xs[k]≠f)∧∀ x ∈ xs.take k,x=f)∧w'=w:=by
 have HN:=Lib.hid hn;clear hn
 have HR:=Lib.hid hr;clear hr
 have HB:=Lib.hid hb;clear hb
 go_enter Tryz.func120,Tryz.ntmps120
 go_wp2_with fail
 go_loopw [8] (fun i wr=>∃ k:Nat,k≤n∧i=.int .i64 k∧Hid (∀ x ∈ xs.take k,x=f)∧wr=w) (fun i _=>n - (intOf i).toNat)
 case atStart=>exact ⟨0,Nat.zero_le _,rfl,by simp [Hid],rfl⟩
 case round=>
  obtain ⟨k,hk,rfl,HT,rfl⟩:=hrel
  by_cases hlt:k < n
  ·have hj:k < xs.length:=by have:=HN.out;omega
   obtain ⟨b,off,rfl,hbB,q0⟩:=HR.out.int hj
   have HC:=Lib.hid (ldkeep_any xs[k] f bf wr HB.out)
   by_cases hx:xs[k]=f
   ·have HG:Hid (∀ x ∈ xs.take (k + 1),x=f):=all_snoc hj HT.out hx
    have hd:decide (xs[k]≠f)=false:=by simp [hx]
    rw [hd] at HC
    generalize xs[k]=y at *
    clear hd hx hj
    go_wp2_with fail
    refine HC.out.mono ?_
    rintro e w1 ⟨rfl,rfl⟩
    go_wp2_with fail
    go_roundw
    case rel=>exact ⟨k + 1,by omega,by go_num,HG.out,by trivial⟩
    case measure=>simp [intOf];omega
   ·have hd:decide (xs[k]≠f)=true:=decide_eq_true hx
    have HF:Hid (∃ k':Nat,(k:Int)=(k':Int)∧(∃ h:k' < xs.length,xs[k']≠f)∧∀ x ∈ xs.take k',x=f):=⟨k,rfl,⟨hj,hx⟩,HT.out⟩
    rw [hd] at HC
    generalize xs[k]=y at *
    clear hd hx hj
    go_wp2_with fail
    refine HC.out.mono ?_
    rintro e w1 ⟨rfl,rfl⟩
    go_wp2_with fail
    go_ret
    exact ⟨_,rfl,.inr HF.out,rfl⟩
  ·have HF:Hid (∀ x ∈ xs,x=f):=by
    have h:=HT.out
    rw [List.take_of_length_le (by have:=HN.out;omega)] at h
    exact h
   go_wp2_with fail
   go_ret
   exact ⟨_,rfl,.inl ⟨rfl,HF.out⟩,rfl⟩
def revs (xs:List Int) (i:Nat) (ys:List Int):Prop:=ys.length=xs.length∧∀ k,k < xs.length→ys[k]?=if k < i∨xs.length - i≤k then xs[xs.length - 1 - k]? else xs[k]?
theorem revs.zero (xs:List Int):revs xs 0 xs:=⟨rfl,fun k hk=>by rw [if_neg (by omega)]⟩
theorem revs.step {xs ys:List Int} {i:Nat} (h:revs xs i ys) (hi:i < xs.length - 1 - i) {a b:Int} (ha:ys[i]?=some a) (hb:ys[xs.length - 1 - i]?=some b):revs xs (i + 1) ((ys.set i b).set (xs.length - 1 - i) a):=by
 obtain ⟨h1,h2⟩:=h
 refine ⟨by simp [h1],fun k hk=>?_⟩
 have ha2:=h2 i (by omega)
 rw [if_neg (by omega),ha] at ha2
 have hb2:=h2 (xs.length - 1 - i) (by omega)
 rw [if_neg (by omega),hb] at hb2
 rw [List.getElem?_set,List.length_set]
 by_cases e1:xs.length - 1 - i=k
 ·rw [if_pos e1,if_pos (by omega),if_pos (by omega),← e1,show xs.length - 1 - (xs.length - 1 - i)=i by omega]
  exact ha2
 ·rw [if_neg e1,List.getElem?_set]
  by_cases e2:i=k
  ·subst e2
   rw [if_pos rfl,if_pos (by omega),if_pos (by omega)]
   exact hb2
  ·rw [if_neg e2,h2 k hk]
   by_cases e3:k < i∨xs.length - i≤k
   ·rw [if_pos e3,if_pos (by omega)]
   ·rw [if_neg e3,if_neg (by omega)]
theorem revs.done {xs ys:List Int} {i:Nat} (h:revs xs i ys) (hi:¬ (i:Int) < (xs.length:Int) - 1 - i):ys=xs.reverse:=by
 obtain ⟨h1,h2⟩:=h
 apply List.ext_getElem?
 intro k
 rcases Nat.lt_or_ge k xs.length with hk | hk
 ·rw [h2 k hk,List.getElem?_reverse hk]
  split
  ·rfl
  ·rw [show xs.length - 1 - k=k by omega]
 ·rw [List.getElem?_eq_none (by omega),List.getElem?_eq_none (by rw [List.length_reverse];exact hk)]
theorem rev_any (base:Nat) (A:Option Addr) (n c:Nat) (xs:List Int) (w:World) (ho:w.ownsRow base 3 1 (.slice A n c) n (ins xs)) (hmax:n≤1000000000) :
  Calls Tryz.prog 98 #[.slice A n c] w fun e w'=>e=.returned (.tuple #[])∧w'.ownsRow base 3 1 (.slice A n c) n (ins xs.reverse)∧Fr (fun k=>(Value.slice A n c).ownBlock=some k) w w':=by
 have hn:n=xs.length:=by have h:=ho.1;rw [ins_len] at h;omega
 have HN:=Lib.hid hn
 have HO:=Lib.hid ho
 clear ho hn
 go_enter Tryz.func98,Tryz.ntmps98
 go_wp2_with fail
 go_loopw [2,3] (fun i j wr=>∃ (k:Nat) (ys:List Int),2 * k≤n + 1∧i=.int .i64 k∧j=.int .i64 ((n:Int) - 1 - k)∧Hid (revs xs k ys)∧Hid (wr.ownsRow base 3 1 (.slice A n c) n (ins ys))∧Hid (Fr (fun k=>(Value.slice A n c).ownBlock=some k) w wr)) (fun i _ _=>n - (intOf i).toNat)
 case atStart=>exact ⟨0,xs,by omega,rfl,by go_num,revs.zero xs,HO.out,Fr.refl _ _⟩
 case round=>
  obtain ⟨k,ys,hk,rfl,rfl,HV,HO2,HF⟩:=hrel
  by_cases hkj:(k:Int) < (n:Int) - 1 - k
  ·obtain ⟨g,cl,hv,hlo,hlt⟩:=World.ownsRow.form HO2.out (show 0 < n by omega)
   injection hv with hv1 hv2 hv3
   subst hv1
   clear hv2 hv3
   have hnx:=HN.out
   have hyl:ys.length=n:=by have:=HV.out.1;omega
   obtain ⟨j,hj⟩:∃ j:Nat,j=n - 1 - k:=⟨_,rfl⟩
   have hje:(n:Int) - 1 - k=(j:Int):=by omega
   rw [hje] at hkj ⊢
   have hk1:k < ys.length:=by omega
   have hj1:j < ys.length:=by omega
   have hlg:=(HO2.out.lt g rfl).2
   have cA:wr.cell? ⟨g,k,none⟩=some (.int .i64 ys[k]):=(HO2.out.cellAt k (by omega)).trans (ins_at ys k hk1)
   have cB:wr.cell? ⟨g,j,none⟩=some (.int .i64 ys[j]):=(HO2.out.cellAt j (by omega)).trans (ins_at ys j hj1)
   have fA:=HO2.out.frozenAt k
   have fB:=HO2.out.frozenAt j
   have HV2:Hid (revs xs (k + 1) ((ys.set k ys[j]).set j ys[k])):=by
    have h:=HV.out.step (i:=k) (a:=ys[k]) (b:=ys[j]) (by omega) (List.getElem?_eq_getElem hk1) (by rw [← hnx,← hj];exact List.getElem?_eq_getElem hj1)
    rw [← hnx,← hj] at h
    exact h
   have HO3:Hid (∀ (wx:World),wx.ownsRow base 3 1 (.slice (some ⟨g,0,none⟩) n c) n (ins ys)→((wx.setCell ⟨g,k,none⟩ (.int .i64 ys[j])).setCell ⟨g,j,none⟩ (.int .i64 ys[k])).ownsRow base 3 1 (.slice (some ⟨g,0,none⟩) n c) n (ins ((ys.set k ys[j]).set j ys[k]))):=fun wx hx=>by
    have h1:=(hx.stored k (.int .i64 ys[j])).1
    have h2:=(h1.stored j (.int .i64 ys[k])).1
    have e:((ins ys).set k (.int .i64 ys[j])).set j (.int .i64 ys[k])=ins ((ys.set k ys[j]).set j ys[k]):=by unfold ins;rw [List.map_set,List.map_set]
    rw [e] at h2
    exact h2
   have hkj2:k≠j:=by omega
   have hjn:j < n:=by omega
   have hkn:k < n:=by omega
   generalize ys[k]=ya at *
   generalize ys[j]=yb at *
   have HJ:=Lib.hid hje
   clear hje hj hyl
   go_wp2_with fail
   go_region
   all_goals
    go_wp2_with fail
    exact ⟨⟨k + 1,_,by have:=HJ.out;omega,by go_num,congrArg (Value.int .i64) (by have:=HJ.out;omega),HV2.out,(HO3.out _ HO2.out).drew,((HF.out.setCell (p:=⟨g,k,none⟩) (.inl rfl) _).setCell (p:=⟨g,j,none⟩) (.inl rfl) _).drew⟩,by simp [intOf];omega⟩
  ·have HD:Hid (ys=xs.reverse):=HV.out.done (by have:=HN.out;omega)
   go_wp2_with fail
   go_end0
   exact ⟨rfl,by rw [← HD.out];exact HO2.out,HF.out⟩
theorem run_clear (w:World) (g o m c:Nat) (cur:Array Value) (hg:Bk w g 3 cur) (ho:o + m≤cur.size) (A:Option Addr) (hA:0 < m→A=some ⟨g,o,none⟩) :
  ∃ w' cur',(Builtin.clear_ #[25] 0 #[.slice A m c]).run Tryz.prog w=.ok (.tuple #[]) w'∧Fr (fun k=>k=g) w w'∧Bk w' g 3 cur'∧cur'.size=cur.size∧cur'.toList.take o=cur.toList.take o:=by
 rcases Nat.eq_zero_or_pos m with h0 | h0
 ·subst h0
  refine ⟨w,cur,?_,Fr.refl _ _,hg,rfl,rfl⟩
  unfold Builtin.clear_
  simp only [List.getElem?_toArray,List.getElem?_cons_zero,Sem.run_bind,run_underlying Tryz.underlying25,Result.andThen_ok]
  cases A <;> rfl
 ·rw [hA h0]
  obtain ⟨m,rfl⟩:∃ k,m=k + 1:=⟨m - 1,by omega⟩
  have hz:(Builtin.zeroCells (Value.int .i64 0).cells (m + 1)).toList.length=m + 1:=by simp [Builtin.zeroCells,Value.cells]
  have hst:=run_storeCells_at Tryz.prog g o 3 (Builtin.zeroCells (Value.int .i64 0).cells (m + 1)).toList 0 cur w hg (by rw [hz];exact ho) (fun v hv=>by
   simp only [Builtin.zeroCells,Value.cells,Array.toList_map] at hv
   rw [List.mem_map] at hv
   obtain ⟨i,_,rfl⟩:=hv
   simp [Nat.mod_one,Value.oneCell'])
  obtain ⟨zs,hzs⟩:∃ zs,zs=(Builtin.zeroCells (Value.int .i64 0).cells (m + 1)).toList:=⟨_,rfl⟩
  rw [← hzs] at hz hst
  refine ⟨w.setRow g (cur.toList.take (o + 0) ++ zs ++ cur.toList.drop (o + 0 + zs.length)).toArray,(cur.toList.take (o + 0) ++ zs ++ cur.toList.drop (o + 0 + zs.length)).toArray,?_,?_,setRow_heap w g cur _ _ _ hg,?_,?_⟩
  ·unfold Builtin.clear_
   simp only [List.getElem?_toArray,List.getElem?_cons_zero,Sem.run_bind,run_underlying Tryz.underlying25,Result.andThen_ok,int_zero]
   rw [← hzs,hst]
   rfl
  ·exact ⟨rfl,rfl,rfl,by simp,fun k _ hk=>setRow_other w g k _ hk⟩
  ·simp only [List.size_toArray,List.length_append,List.length_take,List.length_drop,Array.length_toList,hz]
   omega
  ·simp only [Nat.add_zero,List.append_assoc]
   exact List.take_left' (by rw [List.length_take,Array.length_toList];omega)
def kept (f:Int) (xs:List Int):List Int:=xs.filter fun x=>decide (x=f)
theorem kept_yes {f:Int} {xs:List Int} {k:Nat} (h:k < xs.length) (e:xs[k]=f):kept f (xs.take (k + 1))=kept f (xs.take k) ++ [xs[k]]:=by
 unfold kept
 rw [List.take_succ_eq_append_getElem h,List.filter_append]
 simp [e]
theorem kept_no {f:Int} {xs:List Int} {k:Nat} (h:k < xs.length) (e:xs[k]≠f):kept f (xs.take (k + 1))=kept f (xs.take k):=by
 unfold kept
 rw [List.take_succ_eq_append_getElem h,List.filter_append]
 simp [e]
theorem ldkept_all {f:Int} {xs:List Int} (h:∀ x ∈ xs,x=f):kept f xs=xs:=by
 unfold kept
 rw [List.filter_eq_self]
 intro x hx
 exact decide_eq_true (h x hx)
structure Dels (f:Int) (xs:List Int) (i j:Nat) (ys:List Int):Prop where
 len:ys.length=xs.length
 ij:i < j
 head:ys.take i=kept f (xs.take j)
 rest:ys.drop j=xs.drop j
theorem Dels.at_ {f:Int} {xs ys:List Int} {i j:Nat} (h:Dels f xs i j ys) (hj:j < xs.length) (hj2:j < ys.length):ys[j]=xs[j]:=by
 have h1:=h.rest
 rw [List.drop_eq_getElem_cons hj,List.drop_eq_getElem_cons hj2] at h1
 injection h1
theorem Dels.skip {f:Int} {xs ys:List Int} {i j:Nat} (h:Dels f xs i j ys) (hj:j < xs.length) (e:xs[j]≠f):Dels f xs i (j + 1) ys:=
 ⟨h.len,by have:=h.ij;omega,by rw [kept_no hj e];exact h.head,by rw [← List.drop_drop,h.rest,List.drop_drop]⟩
theorem Dels.put {f:Int} {xs ys:List Int} {i j:Nat} (h:Dels f xs i j ys) (hj:j < xs.length) (e:xs[j]=f):Dels f xs (i + 1) (j + 1) (ys.set i xs[j]):=by
 have hij:=h.ij
 have hl:=h.len
 refine ⟨by rw [List.length_set];exact hl,by omega,?_,?_⟩
 ·rw [kept_yes hj e,← h.head,List.take_succ_eq_append_getElem (by rw [List.length_set];omega),List.getElem_set_self,List.take_set_of_le (Nat.le_refl i)]
 ·rw [List.drop_set_of_lt (by omega),← List.drop_drop,h.rest,List.drop_drop]
theorem delf_any (base:Nat) (A:Option Addr) (n c bf:Nat) (f:Int) (xs:List Int) (w:World) (ho:w.ownsRow base 3 1 (.slice A n c) n (ins xs)) (hmax:n≤1000000000) (hb:Bk w bf 3 #[.int .i64 f]) (hne:(Value.slice A n c).ownBlock≠some bf) :
  Calls Tryz.prog 99 #[.slice A n c,.func (.func 100) #[] #[.pointer (some ⟨bf,0,none⟩)]] w fun e w'=>∃ (A':Option Addr) (k c':Nat),e=.returned (.slice A' k c')∧k=(kept f xs).length∧k≤c'∧w'.ownsRow base 3 1 (.slice A' k c') k (ins (kept f xs))∧Fr (fun k=>(Value.slice A n c).ownBlock=some k) w w':=by
 have hn:n=xs.length:=by have h:=ho.1;rw [ins_len] at h;omega
 have hnc:n≤c:=by obtain ⟨_,_,hv,h⟩:=own_form ho;cases hv;exact h
 have HI:=Lib.hid (ifunc_any A n c bf f xs w w.heap.size hn (by omega) (Rd.own ho) hb)
 have HN:=Lib.hid hn
 have HO:=Lib.hid ho
 have HB:=Lib.hid hb
 have HNe:=Lib.hid hne
 clear hn ho hb hne
 go_enter Tryz.func99,Tryz.ntmps99
 go_wp2_with fail
 refine HI.out.mono ?_
 rintro e w1 ⟨r,rfl,hr,rfl⟩
 rcases hr with ⟨rfl,hall⟩ | ⟨k,rfl,⟨hk,hkf⟩,htk⟩
 ·have HAll:=Lib.hid (ldkept_all hall)
  clear hall
  go_wp2_with fail
  go_ret
  exact ⟨A,n,c,rfl,by rw [HAll.out];exact HN.out,hnc,by rw [HAll.out];exact HO.out,Fr.refl _ _⟩
 ·have hkn:k < n:=by have:=HN.out;omega
  obtain ⟨g,cl,hv,hlo,hlt⟩:=World.ownsRow.form HO.out (show 0 < n by omega)
  injection hv with hv1 hv2 hv3
  subst hv1
  have HD0:Hid (Dels f xs k (k + 1) xs):=⟨rfl,by omega,by rw [kept_no hk hkf,ldkept_all htk],rfl⟩
  have hgb:g≠bf:=fun e=>HNe.out (by rw [e];rfl)
  have hkm:((k:Int) == -1)=false:=by rw [beq_eq_false_iff_ne];omega
  clear hv2 hv3 hkf htk hk
  go_wp2_with fail
  go_loopw [5,6] (fun i j wr=>∃ (i' j':Nat) (ys:List Int),j'≤n∧i=.int .i64 i'∧j=.int .i64 j'∧Hid (Dels f xs i' j' ys)∧Hid (wr.ownsRow base 3 1 (.slice (some ⟨g,0,none⟩) n c) n (ins ys))∧Hid (Fr (fun k=>(Value.slice (some ⟨g,0,none⟩) n c).ownBlock=some k) w1 wr)) (fun _ j _=>n - (intOf j).toNat)
  case atStart=>exact ⟨k,k + 1,xs,by omega,rfl,by go_num,HD0.out,HO.out,Fr.refl _ _⟩
  case round=>
   obtain ⟨i,j,ys,hj,rfl,rfl,HD,HO2,HF⟩:=hrel
   have hyl:ys.length=n:=by have:=HD.out.len;have:=HN.out;omega
   have HY:=Lib.hid hyl
   have hij:i < j:=HD.out.ij
   have hlg:=(HO2.out.lt g rfl).2
   by_cases hjn:j < n
   ·have hjx:j < xs.length:=by have:=HN.out;omega
    have hjy:j < ys.length:=by omega
    have cj:wr.cell? ⟨g,j,none⟩=some (.int .i64 xs[j]):=(HO2.out.cellAt j (by omega)).trans (by rw [ins_at ys j hjy,HD.out.at_ hjx hjy])
    have HBr:=Lib.hid (HB.out.fr HF.out (fun e=>hgb (by injection e)))
    have HC:=Lib.hid (ldkeep_any xs[j] f bf wr HBr.out)
    by_cases hx:xs[j]=f
    ·have HD2:=Lib.hid (HD.out.put hjx hx)
     have ci:wr.cell? ⟨g,i,none⟩=some (.int .i64 ys[i]):=(HO2.out.cellAt i (by omega)).trans (ins_at ys i (by omega))
     have fi:=HO2.out.frozenAt i
     have HO3:Hid ((wr.setCell ⟨g,i,none⟩ (.int .i64 xs[j])).ownsRow base 3 1 (.slice (some ⟨g,0,none⟩) n c) n (ins (ys.set i xs[j]))):=by
      have h1:=(HO2.out.stored i (.int .i64 xs[j])).1
      have e:(ins ys).set i (.int .i64 xs[j])=ins (ys.set i xs[j]):=by unfold ins;rw [List.map_set]
      rw [e] at h1
      exact h1
     have hd:decide (xs[j]≠f)=false:=by simp [hx]
     rw [hd] at HC
     generalize xs[j]=y at *
     generalize ys[i]=z at *
     clear hd hx hjx hjy hyl
     go_wp2_with fail
     refine HC.out.mono ?_
     rintro e w2 ⟨rfl,rfl⟩
     go_wp2_with fail
     go_roundw
     case rel=>exact ⟨i + 1,j + 1,_,by omega,by go_num,by go_num,HD2.out,HO3.out,HF.out.setCell (p:=⟨g,i,none⟩) (.inl rfl) _⟩
     case measure=>simp [intOf];omega
    ·have HD2:=Lib.hid (HD.out.skip hjx hx)
     have hd:decide (xs[j]≠f)=true:=decide_eq_true hx
     rw [hd] at HC
     generalize xs[j]=y at *
     clear hd hx hjx hjy hyl
     go_wp2_with fail
     refine HC.out.mono ?_
     rintro e w2 ⟨rfl,rfl⟩
     go_wp2_with fail
     go_roundw
     case rel=>exact ⟨i,j + 1,_,by omega,rfl,by go_num,HD2.out,HO2.out,HF.out⟩
     case measure=>simp [intOf];omega
   ·have hje:j=n:=by omega
    subst hje
    have HFin:Hid (ys.take i=kept f xs):=by
     have h:=HD.out.head
     rw [List.take_of_length_le (l:=xs) (by have:=HN.out;omega)] at h
     exact h
    obtain ⟨cur,hbk,hlo3,hsz,htk,hcm⟩:∃ cur,Bk wr g 3 cur∧base≤g∧cur.size=c∧cur.toList.take j=ins ys∧c≤maxLen:=by
     rcases HO2.out.2 with ⟨hv,_⟩ | ⟨g',cap',cur,hv,h1,h2,_,h6,h3,h4⟩
     ·cases hv
     ·cases hv
      exact ⟨cur,h2,h1,by rw [h3,Nat.mul_one],by rw [Nat.mul_one] at h4;exact h4,h6⟩
    have hsl:=fun (wx:World)=>run_slice_tail (P:=Tryz.prog) (t:=25) (e:=3) (size:=1) Tryz.underlying25 int_size (some ⟨g,0,none⟩) j c i (i:Int) rfl (by omega) wx
    have hA2:0 < j - i→(if c=i then (some ⟨g,0,none⟩:Option Addr) else (some ⟨g,0,none⟩:Option Addr).map (·.add (i * 1)))=some ⟨g,i,none⟩:=by
     intro h
     rw [if_neg (by omega)]
     simp only [Option.map_some,Addr.add]
     split
     ·rename_i h0;obtain rfl:i=0:=by omega
      rfl
     ·rw [Nat.zero_add,Nat.mul_one]
    generalize (if c=i then (some ⟨g,0,none⟩:Option Addr) else (some ⟨g,0,none⟩:Option Addr).map (·.add (i * 1)))=A2 at hsl hA2
    obtain ⟨w5,cur5,hclr,hf5,hb5,hs5,ht5⟩:=run_clear wr g i (j - i) (c - i) cur hbk (by rw [hsz];omega) A2 hA2
    have HK5:Hid (w5.ownsRow base 3 1 (.slice (some ⟨g,0,none⟩) i c) i (ins (kept f xs))):=by
     refine ⟨by rw [ins_len,← HFin.out,List.length_take];omega,.inr ⟨g,c,cur5,rfl,hlo3,hb5,by omega,hcm,by rw [hs5,hsz,Nat.mul_one],?_⟩⟩
     rw [Nat.mul_one,ht5,← HFin.out]
     have h7:(cur.toList.take j).take i=cur.toList.take i:=by rw [List.take_take,Nat.min_eq_left (by omega)]
     rw [← h7,htk]
     unfold ins
     rw [List.map_take]
    have HKl:Hid (i=(kept f xs).length):=by unfold Hid;rw [← HFin.out,List.length_take];omega
    have HF5:Hid (Fr (fun k=>(Value.slice (some ⟨g,0,none⟩) j c).ownBlock=some k) w1 w5):=HF.out.trans hf5 (fun k _ e=>by subst e;rfl)
    have hic:i≤c:=by omega
    clear hbk hsz htk hb5 hs5 ht5 hf5 hyl hcm
    go_wp2_with fail
    go_ret
    exact ⟨_,i,c,rfl,HKl.out,hic,HK5.out,HF5.out⟩
end Go.Proofs.YtdfhhbncmdpoeaaGreat
namespace Go.Proofs.YtdfhhbncmdpoeaaGreat
open Go.RowKit
theorem kept_ns (f:Nat) (l:List Nat):kept (f:Int) (ns l)=ns (l.filter fun i=>decide (i=f)):=by
 unfold kept ns
 rw [List.filter_map]
 congr 1
 apply List.filter_congr
 intro i _
 show decide ((i:Int)=(f:Int))=decide (i=f)
 exact decide_eq_decide.2 (by omega)
theorem ofK_all (ps:List Gr.Pr) (n:Int):ofK ps n ps.length=Ld.ofL ps n:=rfl
theorem ofL_len (ps:List Gr.Pr) (n:Int):(Ld.ofL ps n).length≤ps.length:=ofK_len ps n ps.length
theorem order_any (E:LdE) (hE:LdOk E) (a m:Nat) (l:List Gr.Sy) (vl:Value) (w:World) (hD:DvR E a l vl w) (hm:(m:Int) < E.n) :
  Calls Tryz.prog 69 #[.pointer (some ⟨E.dd,0,none⟩),.int .i64 (m:Int)] w (IMakes (ns (Ld.opts E.K E.ps (E.f m) (decide (a=E.u.length)) (m:Int))) w):=by
 have hlen:=hE.len
 have h60:E.ps.length≤60:=hE.ok.2.2.2.2.2.2.1
 have hBs:E.B≤w.heap.size:=by have h1:=hD.env.hB;have h2:=hD.env.hd;have h3:=hD.env.hlo;omega
 have HOf:=Lib.hid (of_any E.t E.n E.s (m:Int) E.A E.len E.c E.ps w E.B hlen (by omega) hD.env.prs hBs)
 rw [ofK_all] at HOf
 have HD:=Lib.hid hD
 have HE:=Lib.hid hE
 have dl:=hD.bd.lt
 have d0:w.cell? ⟨E.dd,0,none⟩=some (.int .i64 E.t):=hD.bd.cell 0
 have d1:w.cell? ⟨E.dd,1,none⟩=some (.int .i64 E.n):=hD.bd.cell 1
 have d2:w.cell? ⟨E.dd,2,none⟩=some (.int .i64 E.s):=hD.bd.cell 2
 have d3:w.cell? ⟨E.dd,3,none⟩=some (.slice E.A E.len E.c):=hD.bd.cell 3
 have hlo:=ofL_len E.ps (m:Int)
 clear hlen
 by_cases h1:E.K=1
 ·have HOp:Hid (ns (Ld.opts E.K E.ps (E.f m) (decide (a=E.u.length)) (m:Int))=(ns (Ld.ofL E.ps (m:Int))).reverse):=by
   unfold Hid Ld.opts ns
   rw [if_pos h1,List.map_reverse]
  have hk1:((E.K:Int) == 1)=true:=by rw [h1];rfl
  rw [HOp.out]
  clear hD hE h1
  go_enter Tryz.func69,Tryz.ntmps69
  go_wp2_with fail
  (with_reducible refine HOf.out.mono ?_)
  rintro e w1 ⟨A1,c1,rfl,hc1,ho1,hb1⟩
  have d5:w1.cell? ⟨E.dd,5,none⟩=some (.int .i64 (E.K:Int)):=(HD.out.bl hb1).bd.cell 5
  have dl1:=(HD.out.bl hb1).bd.lt
  have HB1:=Lib.hid hb1
  have HRv:=Lib.hid (rev_any w.heap.size A1 _ c1 _ w1 ho1 (by rw [ns_len];omega))
  have HLw:Hid (∀ k,(Value.slice A1 (ns (Ld.ofL E.ps (m:Int))).length c1).ownBlock=some k→w.heap.size≤k):=fun k hk=>(ho1.lt k hk).1
  clear ho1 hb1
  generalize ns (Ld.ofL E.ps (m:Int))=xs at *
  go_wp2_with fail
  refine HRv.out.mono ?_
  rintro e w2 ⟨rfl,ho2,hf2⟩
  have HO2:=Lib.hid ho2
  have HB2:Hid (Bl w w2):=HB1.out.fr hf2 (fun k hk e=>by have:=HLw.out k e;omega)
  clear ho2 hf2
  go_wp2_with fail
  go_ret
  unfold IMakes
  rw [List.length_reverse]
  exact ⟨A1,c1,rfl,hc1,HO2.out,HB2.out⟩
 ·have hk1:((E.K:Int) == 1)=false:=by rw [beq_eq_false_iff_ne];omega
  by_cases h2:E.K=2
  ·have hk2:((E.K:Int) == 2)=true:=by rw [h2];rfl
   by_cases ha:a=E.lw
   ·have HOp:Hid (ns (Ld.opts E.K E.ps (E.f m) (decide (a=E.u.length)) (m:Int))=kept (E.f m:Int) (ns (Ld.ofL E.ps (m:Int)))):=by
     unfold Hid Ld.opts
     rw [if_neg h1,if_pos ⟨h2,decide_eq_true (by rw [ha];exact HE.out.lw)⟩,kept_ns]
    have haw:((a:Int) == (E.lw:Int))=true:=by rw [ha];exact beq_self_eq_true _
    have hml:m < E.fs.length:=by have h3:=HE.out.fnons;have h4:=HE.out.flen;omega
    have hmi:(m:Int) < (E.lf:Int):=by have h3:=HE.out.fnons;omega
    have hpr:(E.fs[m]).prod=(E.f m:Int):=by
     have h5:=HE.out.fpos _ (List.getElem_mem hml)
     unfold LdE.f
     rw [List.getD_eq_getElem?_getD,List.getElem?_eq_getElem hml,Option.getD_some,Int.toNat_of_nonneg h5]
    rw [HOp.out]
    clear hD hE h1 h2
    go_enter Tryz.func69,Tryz.ntmps69
    go_wp2_with fail
    (with_reducible refine HOf.out.mono ?_)
    rintro e w1 ⟨A1,c1,rfl,hc1,ho1,hb1⟩
    have hd1:=HD.out.bl hb1
    have d5:w1.cell? ⟨E.dd,5,none⟩=some (.int .i64 (E.K:Int)):=hd1.bd.cell 5
    have d4:w1.cell? ⟨E.dd,4,none⟩=some (.slice E.Aw E.lw E.cw):=hd1.bd.cell 4
    have d8:w1.cell? ⟨E.dd,8,none⟩=some (.int .i64 (a:Int)):=hd1.bd.cell 8
    have d7:w1.cell? ⟨E.dd,7,none⟩=some (.slice E.Af E.lf E.cf):=hd1.bd.cell 7
    have dl1:=hd1.bd.lt
    obtain ⟨bf,off,hAf,⟨_,hbl⟩,hcf⟩:=hd1.env.facts (by rw [fcRow_len];omega)
    have hbl1:bf < w1.heap.size:=Nat.lt_of_lt_of_le hbl hd1.env.hlo
    have cf:w1.cell? ⟨bf,off + m * 2 + 1,none⟩=some (.int .i64 (E.f m:Int)):=by
     rw [Nat.add_assoc,← hpr]
     exact hcf _ _ (fcRow_at E.fs m hml).2
    rw [hAf] at d7
    have HB1:=Lib.hid hb1
    have HO1:=Lib.hid ho1
    have hxl:(ns (Ld.ofL E.ps (m:Int))).length≤60:=by rw [ns_len];omega
    have hm0:(0:Int)≤(m:Int):=by omega
    clear ho1 hb1 hd1 hcf hAf hpr hml
    generalize E.f m=fm at *
    generalize ns (Ld.ofL E.ps (m:Int))=xs at *
    go_wp2_with fail
    go_quiet (fail)
    obtain ⟨w2,hw2⟩:∃ w2,w2=w1.drewN nq:=⟨_,rfl⟩
    rw [← hw2]
    have d7:w2.cell? ⟨E.dd,7,none⟩=some (.slice (some ⟨bf,off,none⟩) E.lf E.cf):=by rw [hw2];exact d7
    have dl2:E.dd < w2.heap.size:=by rw [hw2];exact dl1
    have hbl2:bf < w2.heap.size:=by rw [hw2];exact hbl1
    have cf:w2.cell? ⟨bf,off + m * 2 + 1,none⟩=some (.int .i64 (fm:Int)):=by rw [hw2];exact cf
    have HB2:Hid (Bl w w2):=by rw [hw2];exact HB1.out.drewN _
    have HO2:Hid (w2.ownsRow w.heap.size 3 1 (.slice A1 xs.length c1) xs.length (ins xs)):=by rw [hw2];exact own_bl HO1.out ((Bl.refl w1).drewN _)
    clear hw2 HB1 HO1 d5 d4 d8
    have HK3:=Lib.hid (Bk.new w2 3 #[.int .i64 (fm:Int)])
    have HDel:=Lib.hid (delf_any w.heap.size A1 xs.length c1 w2.heap.size (fm:Int) xs (w2.alloc (.cells #[.int .i64 (fm:Int)] 3)) (HO2.out.alloc _) (by omega) HK3.out (fun e=>by have:=(HO2.out.lt _ e).2;omega))
    go_wp2_with fail
    (with_reducible refine HDel.out.mono ?_)
    rintro e w3 ⟨A3,k3,c3,rfl,hk3,hc3,ho3,hf3⟩
    have HB3:Hid (Bl w w3):=(HB2.out.alloc _).fr hf3 (fun k hk e=>by have:=(HO2.out.lt k e).1;omega)
    have HO3:=Lib.hid ho3
    have HK:=Lib.hid hk3
    clear ho3 hf3 hk3
    go_wp2_with fail
    go_ret
    unfold IMakes
    rw [← HK.out]
    exact ⟨A3,c3,rfl,hc3,HO3.out,HB3.out⟩
   ·have haw:((a:Int) == (E.lw:Int))=false:=by rw [beq_eq_false_iff_ne];omega
    have HOp:Hid (ns (Ld.opts E.K E.ps (E.f m) (decide (a=E.u.length)) (m:Int))=ns (Ld.ofL E.ps (m:Int))):=by
     unfold Hid Ld.opts
     rw [if_neg h1,if_neg (fun h=>by have h6:=of_decide_eq_true h.2;have h7:=HE.out.lw;omega)]
    rw [HOp.out]
    clear hD hE h1 h2
    go_enter Tryz.func69,Tryz.ntmps69
    go_wp2_with fail
    (with_reducible refine HOf.out.mono ?_)
    rintro e w1 ⟨A1,c1,rfl,hc1,ho1,hb1⟩
    have hd1:=HD.out.bl hb1
    have d5:w1.cell? ⟨E.dd,5,none⟩=some (.int .i64 (E.K:Int)):=hd1.bd.cell 5
    have d4:w1.cell? ⟨E.dd,4,none⟩=some (.slice E.Aw E.lw E.cw):=hd1.bd.cell 4
    have d8:w1.cell? ⟨E.dd,8,none⟩=some (.int .i64 (a:Int)):=hd1.bd.cell 8
    have dl1:=hd1.bd.lt
    have HB1:=Lib.hid hb1
    have HO1:=Lib.hid ho1
    clear ho1 hb1 hd1
    generalize ns (Ld.ofL E.ps (m:Int))=xs at *
    go_wp2_with fail
    go_quiet (fail)
    go_wp2_with fail
    go_ret
    exact ⟨A1,c1,rfl,hc1,own_bl HO1.out ((Bl.refl w1).drewN _),HB1.out.drewN _⟩
  ·have hk2:((E.K:Int) == 2)=false:=by rw [beq_eq_false_iff_ne];omega
   have HOp:Hid (ns (Ld.opts E.K E.ps (E.f m) (decide (a=E.u.length)) (m:Int))=ns (Ld.ofL E.ps (m:Int))):=by
    unfold Hid Ld.opts
    rw [if_neg h1,if_neg (fun h=>h2 h.1)]
   rw [HOp.out]
   clear hD hE h1 h2
   go_enter Tryz.func69,Tryz.ntmps69
   go_wp2_with fail
   (with_reducible refine HOf.out.mono ?_)
   rintro e w1 ⟨A1,c1,rfl,hc1,ho1,hb1⟩
   have d5:w1.cell? ⟨E.dd,5,none⟩=some (.int .i64 (E.K:Int)):=(HD.out.bl hb1).bd.cell 5
   have dl1:=(HD.out.bl hb1).bd.lt
   have HB1:=Lib.hid hb1
   have HO1:=Lib.hid ho1
   clear ho1 hb1
   generalize ns (Ld.ofL E.ps (m:Int))=xs at *
   go_wp2_with fail
   go_quiet (fail)
   go_wp2_with fail
   go_ret
   exact ⟨A1,c1,rfl,hc1,own_bl HO1.out ((Bl.refl w1).drewN _),HB1.out.drewN _⟩
end Go.Proofs.YtdfhhbncmdpoeaaGreat
namespace Go.Proofs.YtdfhhbncmdpoeaaGreat
open Go.RowKit
theorem own_keepT {w w':World} {base n:Nat} {v:Value} {xs:List Value} (h:w.ownsRow base 3 1 v n xs) (hk:KeepT 3 w w'):w'.ownsRow base 3 1 v n xs:=by
 obtain ⟨h1,h2⟩:=h
 refine ⟨h1,h2.imp id ?_⟩
 rintro ⟨g,cap,cur,e,hg,hh,rest⟩
 exact ⟨g,cap,cur,e,hg,hk _ _ _ hh,rest⟩
theorem find_at {os:List Nat} {p:Nat→Bool} {k:Nat} (hk:k < os.length) (h:∀ j ∈ os.take k,p j=false) (hp:p os[k]=true):os.find? p=some os[k]:=by
 have e:os=os.take k ++ os[k] :: os.drop (k + 1):=by rw [← List.drop_eq_getElem_cons hk,List.take_append_drop]
 have h2:(os.take k).find? p=none:=List.find?_eq_none.mpr fun j hj=>by rw [h j hj];decide
 conv=>lhs;rw [e]
 rw [List.find?_append,h2,List.find?_cons,hp]
 rfl
theorem cho_any (E:LdE) (hE:LdOk E) (a m i:Nat) (l:List Gr.Sy) (vl:Value) (w:World) (hD:DvR E a l vl w) (hm:(m:Int) < E.n) (ha:a≤E.lw) (hl:Ld.RowG E.g l) (hn:l.length≤900000) (hp:Ld.pick E.K E.g E.f E.u a (m:Int) l=some i) :
  Calls Tryz.prog 39 #[.pointer (some ⟨E.dd,0,none⟩),.int .i64 (m:Int)] w fun e w'=>e=.returned (.tuple #[.int .i64 (i:Int),.bool true])∧(∃ vl',DvR E a (Ld.rig E.ps i ++ l) vl' w')∧FrD E w w':=by
 have HOrd:=Lib.hid (order_any E hE a m l vl w hD hm)
 obtain ⟨os,hos⟩:∃ os,os=Ld.opts E.K E.ps (E.f m) (decide (a=E.u.length)) (m:Int):=⟨_,rfl⟩
 rw [← hos] at HOrd
 have HP:Hid (os.find? (fun i=>Ld.mayB E.K E.g E.u (Ld.rig E.ps i ++ l) a)=some i):=by
  unfold Hid
  rw [hos,← hp]
  unfold Ld.pick
  rw [Int.toNat_natCast]
  rfl
 have HSub:Hid (∀ k ∈ os,∃ p,E.ps[k]?=some p∧p.left=(m:Int)):=fun k hk=>by
  rw [hos] at hk
  exact Ld.mem_ofL.mp (Ld.opts_sub hk)
 have hol:os.length≤60:=by
  have h60:E.ps.length≤60:=hE.ok.2.2.2.2.2.2.1
  have h1:=ofL_len E.ps (m:Int)
  rw [hos]
  unfold Ld.opts
  split
  ·rw [List.length_reverse];omega
  ·split
   ·exact Nat.le_trans (List.length_filter_le _ _) (by omega)
   ·omega
 have HD:=Lib.hid hD
 have HE:=Lib.hid hE
 have HL:=Lib.hid hl
 have dl:=hD.bd.lt
 clear hos hD hE hl hp hm
 go_enter Tryz.func39,Tryz.ntmps39
 go_wp2_with fail
 (with_reducible refine HOrd.out.mono ?_)
 rintro e w1 ⟨A1,c1,rfl,hc1,ho1,hb1⟩
 have hnl:(ns os).length=os.length:=ns_len os
 have HD1:=Lib.hid (HD.out.bl hb1)
 have HO1:=Lib.hid ho1
 have HB1:=Lib.hid hb1
 clear ho1 hb1
 go_wp2_with fail
 go_loopw [12] (fun ix wr=>∃ k:Nat,k≤os.length∧ix=.int .i64 k∧Hid (∀ j ∈ os.take k,Ld.mayB E.K E.g E.u (Ld.rig E.ps j ++ l) a=false)∧Hid (∃ vl',DvR E a l vl' wr)∧Hid (FrD E w1 wr)) (fun ix _=>os.length - (intOf ix).toNat)
 case atStart=>exact ⟨0,Nat.zero_le _,rfl,by simp [Hid],⟨_,HD1.out⟩,FrD.refl E w1⟩
 case round=>
  obtain ⟨k,hk,rfl,HT,HR,HF⟩:=hrel
  by_cases hlt:k < os.length
  ·obtain ⟨vl',hd⟩:=HR.out
   obtain ⟨p,hpk,hpl⟩:=HSub.out os[k] (List.getElem_mem hlt)
   have hkp:os[k] < E.ps.length:=by
    rcases Nat.lt_or_ge os[k] E.ps.length with h | h
    ·exact h
    ·rw [List.getElem?_eq_none h] at hpk;cases hpk
   obtain ⟨b,off,Ax,cx,hA,hbB,hrx,hq0,hq1⟩:=hd.env.prs.at_ hkp
   have hrig:Ld.rig E.ps os[k]=E.ps[os[k]].right:=Ld.rig_at (List.getElem?_eq_getElem hkp)
   have hrok:Ld.RowG E.g (Ld.rig E.ps os[k]):=Ld.rig_ok HE.out.ok (i:=os[k]) (p:=p) hpk
   have hr8:E.ps[os[k]].right.length≤8:=(HE.out.ok.2.2.2.2.2.2.2 _ (List.getElem_mem hkp)).2.2.1
   have HSy:Hid (RdP wr (SyB E wr) Ax (syRow (Ld.rig E.ps os[k]))):=by
    rw [hrig]
    intro h0
    obtain ⟨b2,o2,e2,hb2,hc2⟩:=hrx h0
    have h1:=hd.env.hB
    have h2:=hd.env.hd
    have h3:=hd.env.hlo
    exact ⟨b2,o2,e2,⟨by omega,by omega,.inl (by omega)⟩,hc2⟩
   have HPut:=Lib.hid (ldput_any E HE.out a l vl' Ax E.ps[os[k]].right.length cx (Ld.rig E.ps os[k]) wr hd ha hrok HL.out (by rw [hrig]) HSy.out hn (by rw [hrig];omega))
   have hbl:b < wr.heap.size:=by
    have h1:=hd.env.hB
    have h2:=hd.env.hd
    have h3:=hd.env.hlo
    omega
   have d3:wr.cell? ⟨E.dd,3,none⟩=some (.slice E.A E.len E.c):=hd.bd.cell 3
   rw [hA] at d3
   have dlr:=hd.bd.lt
   have HOw:=Lib.hid (own_keepT HO1.out HF.out.2)
   obtain ⟨bo,oo,hAo,hbo,hco⟩:=(Rd.own HOw.out).int (show k < (ns os).length by omega)
   have hok:(ns os)[k]'(by omega)=(os[k]:Int):=by unfold ns;rw [List.getElem_map]
   rw [hok] at hco
   subst hAo
   have hki:(os[k]:Int) < (E.len:Int):=by have:=HE.out.len;omega
   have hk0:(0:Int)≤(os[k]:Int):=by omega
   have HTr:Hid (Ld.mayB E.K E.g E.u (Ld.rig E.ps os[k] ++ l) a=true→os[k]=i):=fun h=>by
    have h1:=find_at (p:=fun i=>Ld.mayB E.K E.g E.u (Ld.rig E.ps i ++ l) a) hlt HT.out h
    rw [HP.out] at h1
    injection h1 with h1
    exact h1.symm
   have HFl:Hid (Ld.mayB E.K E.g E.u (Ld.rig E.ps os[k] ++ l) a=false→∀ j ∈ os.take (k + 1),Ld.mayB E.K E.g E.u (Ld.rig E.ps j ++ l) a=false):=fun h=>all_snoc hlt HT.out h
   clear hd hrig hrok hr8 hrx hq0 hA hok hbo
   generalize E.ps[os[k]].right.length=rl at *
   clear hkp hpk hpl
   generalize Ld.mayB E.K E.g E.u (Ld.rig E.ps os[k] ++ l) a=mb at *
   generalize os[k]=pk at *
   cases mb with
   | true=>
    have hpi:=HTr.out rfl
    subst hpi
    go_wp2_with fail
    (with_reducible refine HPut.out.mono ?_)
    rintro e w2 ⟨rfl,⟨vl2,hd2⟩,hf2⟩
    have hd2:DvR E a (Ld.rig E.ps pk ++ l) vl2 w2:=by simpa using hd2
    have HD2:=Lib.hid hd2
    have HF2:=Lib.hid (((FrD.of_bl (E:=E) HB1.out).trans HF.out).trans hf2)
    clear hd2 hf2
    go_wp2_with fail
    go_ret2
    exact ⟨rfl,⟨_,HD2.out⟩,HF2.out⟩
   | false=>
    go_wp2_with fail
    (with_reducible refine HPut.out.mono ?_)
    rintro e w2 ⟨rfl,⟨vl2,hd2⟩,hf2⟩
    have hd2:DvR E a l vl2 w2:=by simpa using hd2
    have HD2:=Lib.hid hd2
    have HF2:=Lib.hid (HF.out.trans hf2)
    clear hd2 hf2
    go_wp2_with fail
    go_roundw
    case rel=>exact ⟨k + 1,by omega,by go_num,HFl.out (by trivial),⟨_,HD2.out⟩,HF2.out⟩
    case measure=>simp [intOf];omega
  ·exfalso
   have hke:k=os.length:=by omega
   have h1:=HT.out
   rw [List.take_of_length_le (by omega)] at h1
   have h2:os.find? (fun i=>Ld.mayB E.K E.g E.u (Ld.rig E.ps i ++ l) a)=none:=List.find?_eq_none.mpr fun j hj=>by rw [h1 j hj];decide
   rw [HP.out] at h2
   cases h2
end Go.Proofs.YtdfhhbncmdpoeaaGreat
