/- The stack of what is left of the nodes: push, pop. -/
import Derived.Test.YtdfhhbncmdpoeaaGreatRows
import Derived.Test.YtdfhhbncmdpoeaaGreatBaseS
import Derived.Test.YtdfhhbncmdpoeaaGreatTMc
import Derived.WalkSmall
import Derived.RegionTactic
import Derived.Deep.RegionLaw
import Derived.Laws.ResultCell
import Derived.Laws.Rows
import Derived.Deep.RegionHeld3
import Derived.Deep.LoopGhost
import Derived.Deep.CutRange
import Derived.StillTailTactics
set_option maxRecDepth 100000
set_option maxHeartbeats 4000000
namespace Go.Proofs.YtdfhhbncmdpoeaaGreat
open Go.RowKit
theorem tp_rest:(Tryz.prog.info? 147).map (fun i=>(i.zero,i.size,i.bytes))=some (some (.agg #[.pointer none,.slice none 0 0]),2,32):=by kernel_rfl
def PushPost (dd lo n:Nat) (vw vl p s:Value) (cs:List Value) (w:World) (e:Ending) (w':World):Prop:=
 e=.returned (.tuple #[])∧∃ vl',Bk w' dd 143 #[vw,vl']∧w'.ownsRow lo 147 2 vl' (n + 1) (cs ++ [p,s])∧Fr (fun k=>k=dd∨vl.ownBlock=some k) w w'
theorem push_any (dd lo n:Nat) (vw vl:Value) (P A:Option Addr) (m c:Nat) (cs:List Value) (w:World) (hb:Bk w dd 143 #[vw,vl]) (ho:w.ownsRow lo 147 2 vl n cs) (hn:n≤1000000) (hlo:lo≤w.heap.size) :
  Calls Tryz.prog 71 #[.pointer (some ⟨dd,1,none⟩),.agg #[.pointer P,.slice A m c]] w (PushPost dd lo n vw vl (.pointer P) (.slice A m c) cs w):=by
 obtain ⟨i0,hi,hz0,hz1,hz2⟩:=info_parts tp_rest
 obtain ⟨Al,cl,hv,hcl⟩:=own_form ho
 subst hv
 have HB1:=Lib.hid (hb.alloc (.cells #[.pointer P,.slice A m c] 147))
 have HO1:=Lib.hid (ho.alloc (.cells #[.pointer P,.slice A m c] 147))
 have HX1:Hid (Bk (w.alloc (.cells #[.pointer P,.slice A m c] 147)) w.heap.size 147 #[.pointer P,.slice A m c]):=Bk.new w _ _
 have HT:=Lib.hid hb
 have HF1:Hid (Fr (fun k=>k=dd∨(Value.slice Al n cl).ownBlock=some k) w (w.alloc (.cells #[.pointer P,.slice A m c] 147))):=(Fr.refl _ _).alloc _
 have hw1:w.heap.size < (w.alloc (.cells #[.pointer P,.slice A m c] 147)).heap.size:=by simp
 have hlo1:lo≤(w.alloc (.cells #[.pointer P,.slice A m c] 147)).heap.size:=by simp;omega
 have HLT:=Lib.hid hb.lt
 go_enter Tryz.func71,Tryz.ntmps71
 clear hb ho
 go_wp2_with fail
 generalize w.alloc (.cells #[.pointer P,.slice A m c] 147)=w1 at *
 have c0:w1.cell? ⟨dd,1,none⟩=some (.slice Al n cl):=HB1.out.cell 1
 have c1:w1.cell? ⟨w.heap.size,0,none⟩=some (.pointer P):=HX1.out.cell 0
 have c2:w1.cell? ⟨w.heap.size,1,none⟩=some (.slice A m c):=HX1.out.cell 1
 have l1:dd < w1.heap.size:=HB1.out.lt
 have HOx:Hid ((w1.alloc (.cells #[.pointer P,.slice A m c] 147)).drew.ownsRow lo 147 2 (.slice Al n cl) n cs):=own_bl HO1.out ((Bl.refl w1).alloc _).drew
 have HRx:Hid (Rd (w1.alloc (.cells #[.pointer P,.slice A m c] 147)).drew (w1.heap.size + 1) (some ⟨w1.heap.size,0,none⟩) [.pointer P,.slice A m c]):=rd_newB w1 147 #[.pointer P,.slice A m c]
 go_region_law (first
  | (refine step_append_rdN rfl (.tmp 8) (.tmp 10) 139 rfl lo 147 _ (.agg #[.pointer none,.slice none 0 0]) 2 32 Tryz.underlying139 hi hz0 hz1 hz2 rfl (by decide) (.slice Al n cl) n cs rfl HOx.out (w1.heap.size + 1) (some ⟨w1.heap.size,0,none⟩) 1 1 [.pointer P,.slice A m c] rfl HRx.out rfl (fun u hu=>by simp at hu;rcases hu with rfl | rfl <;> rfl) (by simp only [maxLen];omega) (by omega) (by simp;omega) ?_;intro v2 w2 hown2 hg2;obtain ⟨A2,d2,hv2,hd2⟩:=own_form hown2;subst hv2;have HO2:=Lib.hid hown2;have HG2:=Lib.hid hg2;have HB2:=Lib.hid (((HB1.out.alloc _).drew).grown hg2 (fun e=>Bk.row HB1.out HO1.out (by decide) e.symm));have hc2:w2.cell? ⟨dd,1,none⟩=some (.slice Al n cl):=HB2.out.cell 1;have hf2:w2.frozen? ⟨dd,1,none⟩=false:=HB2.out.free 1;have hl2:dd < w2.heap.size:=HB2.out.lt;have HF2:=Lib.hid (((HF1.out.alloc _).drew).grown hg2 (fun k hk _=>Or.inr hk));clear hown2 hg2 hd2)
  | fail)
 all_goals
  go_wp2_with fail
  go_end0
  refine ⟨rfl,.slice A2 (n + 1) d2,HB2.out.put 1 _,own_fr (S:=fun k=>k=dd) HO2.out ((Fr.refl _ _).own 1 _) (fun k hv e=>HB2.out.row HO2.out (by decide) (by rw [hv,e])),HF2.out.setCell (p:=⟨dd,1,none⟩) (.inl (.inl rfl)) _⟩
end Go.Proofs.YtdfhhbncmdpoeaaGreat
namespace Go.Proofs.YtdfhhbncmdpoeaaGreat
open Go.RowKit
theorem tp_int:(Tryz.prog.info? 3).map (fun i=>(i.zero,i.size,i.bytes))=some (some (.int .i64 0),1,8):=by kernel_rfl
theorem tp_sym:(Tryz.prog.info? 39).map (fun i=>(i.zero,i.size,i.bytes))=some (some (.agg #[.bool false,.int .i64 0]),2,16):=by kernel_rfl
theorem tp_size:(Tryz.prog.info? 39).map (·.size)=some 2:=by kernel_rfl
theorem RdT.sy_cut {w:World} {t:TypeId} {A:Option Addr} {l:List Gr.Sy} (h:RdT w t A (syRow l)) {k cap:Nat} (hc:l.length≤cap):RdT w t (if cap=k then A else A.map (·.add (k * 2))) (syRow (l.drop k)):=fun hn=>by
 rw [syRow_len,List.length_drop] at hn
 obtain ⟨b,off,cs,fr,e,hb,hcell⟩:=h (by rw [syRow_len];omega)
 rw [if_neg (by omega)]
 refine ⟨b,off + k * 2,cs,fr,?_,hb,fun j u hu=>?_⟩
 ·subst e
  simp only [Option.map_some,Addr.add]
  split
  ·rename_i h0;rw [h0];rfl
  ·rfl
 ·rw [Nat.add_assoc]
  refine hcell (k * 2 + j) u ?_
  have e2:l=l.take k ++ l.drop k:=(List.take_append_drop k l).symm
  rw [e2,syRow_append,List.getElem?_append_right (by rw [syRow_len,List.length_take];omega),syRow_len,List.length_take,show k * 2 + j - min k l.length * 2=j by omega]
  exact hu
def RdS (w:World) (lo:Nat) (A:Option Addr) (xs:List Value):Prop:=Rd w lo A xs∨RdT w 39 A xs
section
variable {w w':World} {lo:Nat} {A:Option Addr} {xs:List Value}
theorem RdS.keep (h:RdS w lo A xs) (hb:Below lo w w') (hk:KeepT 39 w w'):RdS w' lo A xs:=h.imp (fun h=>h.below hb) (fun h=>h.keep hk)
theorem RdS.bl (h:RdS w lo A xs) (hlo:lo≤w.heap.size) (hb:Bl w w'):RdS w' lo A xs:=h.keep (hb.mono hlo) (.of_bl hb)
theorem RdS.at_ (h:RdS w lo A xs) (hn:0 < xs.length):∃ b off,A=some ⟨b,off,none⟩∧∀ j u,xs[j]?=some u→w.cell? ⟨b,off + j,none⟩=some u:=by
 rcases h with h | h
 ·obtain ⟨b,off,e,_,hc⟩:=h hn
  exact ⟨b,off,e,hc⟩
 ·obtain ⟨b,off,_,_,e,_,hc⟩:=h hn
  exact ⟨b,off,e,hc⟩
theorem RdS.sy_cut {l:List Gr.Sy} (h:RdS w lo A (syRow l)) {k cap:Nat} (hc:l.length≤cap):RdS w lo (if cap=k then A else A.map (·.add (k * 2))) (syRow (l.drop k)):=h.imp (fun h=>h.sy_cut hc) (fun h=>h.sy_cut hc)
end
end Go.Proofs.YtdfhhbncmdpoeaaGreat
namespace Go.Proofs.YtdfhhbncmdpoeaaGreat
open Go.RowKit
namespace Dv
open Gr (Sy)
def todo (S:List (Nat × List Sy)):Nat:=(S.map fun x=>x.2.length + 1).sum
theorem todo_cons (n:Nat) (r:List Sy) (S:List (Nat × List Sy)):todo ((n,r) :: S)=r.length + 1 + todo S:=rfl
theorem todo_len (S:List (Nat × List Sy)):S.length≤todo S:=by
 induction S with
 | nil=>exact Nat.zero_le _
 | cons x S ih=>
  obtain ⟨n,r⟩:=x
  rw [todo_cons,List.length_cons]
  omega
def Bd (K:Nat) (u:List Int) (S:List (Nat × List Sy)) (ats:List (List Int)):Prop:=u.length + todo S≤K∧∀ n,(ats.getD n []).length + todo S≤K
theorem addAll_get (ats:List (List Int)) (n m:Nat) (q:List Int):((addAll ats n q).getD m []).length≤(ats.getD m []).length + q.length:=by
 unfold addAll
 rw [List.getD_eq_getElem?_getD,List.getElem?_set]
 by_cases h:n=m
 ·subst h
  rw [if_pos rfl]
  by_cases h2:n < ats.length
  ·rw [if_pos h2,Option.getD_some,List.length_append];exact Nat.le_refl _
  ·rw [if_neg h2];exact Nat.zero_le _
 ·rw [if_neg h,← List.getD_eq_getElem?_getD];omega
theorem Bd.go {K n:Nat} {x:Int} {u u':List Int} {S S':List (Nat × List Sy)} {ats:List (List Int)} (h:Bd K u S ats) (hS:todo S' + 1≤todo S) (hu:u'.length≤u.length + 1):Bd K u' S' (addAll ats n [x]):=by
 refine ⟨by have:=h.1;omega,fun m=>?_⟩
 have h1:=h.2 m
 have h2:=addAll_get ats n m [x]
 rw [List.length_singleton] at h2
 omega
theorem Bd.push {K K' n:Nat} {r:List Sy} {u:List Int} {S:List (Nat × List Sy)} {ats:List (List Int)} (h:Bd K u S ats) (hK:K + (r.length + 1)≤K'):Bd K' u ((n,r) :: S) ats:=by
 unfold Bd
 rw [todo_cons]
 exact ⟨by have:=h.1;omega,fun m=>by have:=h.2 m;omega⟩
end Dv
theorem grow_fr {w w1 w2:World} {row:Option Nat} (hb:Bl w w1) (hg:w1.grownBy w2 row):Fr (fun k=>row=some k) w w2:=(Fr.of_bl hb).grown hg fun _ hk _=>hk
theorem below_fr {S:Nat→Prop} {lo:Nat} {w w':World} (hf:Fr S w w') (hS:∀ k,S k→lo≤k) (hlo:lo≤w.heap.size):Below lo w w':=
 ⟨hf.os,hf.tape,hf.output,hf.size,fun k hk=>hf.block k (Nat.lt_of_lt_of_le hk hlo) fun hs=>absurd (hS k hs) (by omega)⟩
def nblk (n0 nb n:Nat):Nat:=if n=0 then n0 else nb
def noff (n:Nat):Nat:=if n=0 then 0 else (n - 1) * 2
theorem nblk_succ (n0 nb n:Nat):nblk n0 nb (n + 1)=nb:=rfl
theorem noff_succ (n:Nat):noff (n + 1)=n * 2:=rfl
inductive SK (w:World) (lo n0 nb:Nat):List (Nat × List Gr.Sy)→List Value→Prop
 | nil:SK w lo n0 nb [] []
 | cons {n c:Nat} {r:List Gr.Sy} {A:Option Addr} {S:List (Nat × List Gr.Sy)} {cs:List Value}:SK w lo n0 nb S cs→r.length≤c→RdS w lo A (syRow r)→
   SK w lo n0 nb ((n,r) :: S) (cs ++ [.pointer (some ⟨nblk n0 nb n,noff n,none⟩),.slice A r.length c])
section
variable {w w':World} {lo n0 nb:Nat} {S:List (Nat × List Gr.Sy)} {cs:List Value}
theorem SK.keep (h:SK w lo n0 nb S cs) (hb:Below lo w w') (hk:KeepT 39 w w'):SK w' lo n0 nb S cs:=by
 induction h with
 | nil=>exact .nil
 | cons _ hc hr ih=>exact .cons ih hc (hr.keep hb hk)
theorem SK.len (h:SK w lo n0 nb S cs):cs.length=S.length * 2:=by
 induction h with
 | nil=>rfl
 | cons _ _ _ ih=>rw [List.length_append,ih,List.length_cons];simp;omega
theorem SK.inv {n:Nat} {r:List Gr.Sy} (h:SK w lo n0 nb ((n,r) :: S) cs):∃ ds A c,cs=ds ++ [.pointer (some ⟨nblk n0 nb n,noff n,none⟩),.slice A r.length c]∧SK w lo n0 nb S ds∧r.length≤c∧RdS w lo A (syRow r):=by
 generalize e:((n,r) :: S)=T at h
 cases h with
 | nil=>cases e
 | cons h1 h2 h3=>cases e;exact ⟨_,_,_,rfl,h1,h2,h3⟩
end
structure Fam (w:World) (lo:Nat) (f:Nat→Value) (rows:List (List Int)):Prop where
 own:∀ i,i < rows.length→w.ownsRow lo 3 1 (f i) (rows.getD i []).length (ins (rows.getD i []))
 apart:∀ i j k,i < rows.length→j < rows.length→i≠j→(f i).ownBlock=some k→(f j).ownBlock≠some k
def setF (f:Nat→Value) (i:Nat) (v:Value):Nat→Value:=fun j=>if j=i then v else f j
theorem setF_at (f:Nat→Value) (i:Nat) (v:Value):setF f i v i=v:=if_pos rfl
theorem setF_ne (f:Nat→Value) {i j:Nat} (v:Value) (h:j≠i):setF f i v j=f j:=if_neg h
section
variable {w w' w1 w2:World} {lo:Nat} {f:Nat→Value} {rows:List (List Int)}
theorem Fam.keep {S:Nat→Prop} (h:Fam w lo f rows) (hf:Fr S w w') (hS:∀ k,S k→Ty w k 3→False):Fam w' lo f rows:=
 ⟨fun i hi=>own_fr (h.own i hi) hf fun k hk hs=>hS k hs (own_ty (h.own i hi) hk),h.apart⟩
theorem Fam.grow (h:Fam w lo f rows) {i:Nat} (hi:i < rows.length) {v2:Value} {x:Int} (hb:Bl w w1) (ho:w2.ownsRow lo 3 1 v2 ((rows.getD i []).length + 1) (ins (rows.getD i [] ++ [x]))) (hg:w1.grownBy w2 (f i).ownBlock)
  (hl:v2.ownBlock=(f i).ownBlock∨v2.ownBlock=some w1.heap.size):Fam w2 lo (setF f i v2) (rows.set i (rows.getD i [] ++ [x])):=by
 have hv:∀ j k,j < rows.length→j≠i→(f j).ownBlock=some k→v2.ownBlock≠some k:=fun j k hj hne hk e=>by
  rcases hl with h1 | h1
  ·exact h.apart j i k hj hi hne hk (h1 ▸ e)
  ·rw [h1] at e
   injection e with e
   have:=((h.own j hj).lt k hk).2
   have:=hb.size
   omega
 refine ⟨fun j hj=>?_,fun a b k ha hb' hab hk=>?_⟩
 ·rw [List.length_set] at hj
  by_cases e:j=i
  ·subst e
   have e2:(rows.set j (rows.getD j [] ++ [x])).getD j []=rows.getD j [] ++ [x]:=by rw [List.getD_eq_getElem?_getD,List.getElem?_set,if_pos rfl,if_pos hj];rfl
   rw [setF_at,e2,List.length_append]
   exact ho
  ·have e2:(rows.set i (rows.getD i [] ++ [x])).getD j []=rows.getD j []:=by rw [List.getD_eq_getElem?_getD,List.getElem?_set,if_neg (fun h=>e h.symm),← List.getD_eq_getElem?_getD]
   rw [setF_ne _ _ e,e2]
   refine World.ownsRow.kept (own_bl (h.own j hj) hb) hg ?_
   cases hk:(f j).ownBlock with
   | none=>exact .inl rfl
   | some k=>exact .inr fun e3=>h.apart j i k hj hi e hk e3.symm
 ·rw [List.length_set] at ha hb'
  by_cases e:a=i
  ·subst e
   rw [setF_at] at hk
   rw [setF_ne _ _ (fun h=>hab h.symm)]
   exact fun e3=>hv b k hb' (fun h=>hab h.symm) e3 hk
  ·rw [setF_ne _ _ e] at hk
   by_cases e2:b=i
   ·subst e2
    rw [setF_at]
    exact hv a k ha e hk
   ·rw [setF_ne _ _ e2]
    exact h.apart a b k ha hb' hab hk
end
def NdM (w:World) (n0 nb N:Nat) (f:Nat→Value) (don:List Int):Prop:=
 ∃ c0 cN:Array Value,Bk w n0 61 c0∧Bk w nb 61 cN∧n0≠nb∧c0.size=2∧cN.size=N * 2∧c0[1]?=some (f 1)∧(∀ n,n < N→cN[n * 2 + 1]?=some (f (n + 2)))∧
  don.length≤N∧∀ i,i < don.length→cN[i * 2]?=some (.int .i64 (don.getD i 0))
section
variable {w w':World} {n0 nb N:Nat} {f:Nat→Value} {don:List Int}
theorem NdM.keep {S:Nat→Prop} (h:NdM w n0 nb N f don) (hf:Fr S w w') (hS:∀ k,S k→Ty w k 61→False):NdM w' n0 nb N f don:=by
 obtain ⟨c0,cN,h0,hN,rest⟩:=h
 exact ⟨c0,cN,h0.fr hf fun hs=>hS _ hs h0.ty,hN.fr hf fun hs=>hS _ hs hN.ty,rest⟩
theorem NdM.cell (h:NdM w n0 nb N f don) {n:Nat} (hn:n < N + 1):w.cell? ⟨nblk n0 nb n,noff n + 1,none⟩=some (f (n + 1))∧w.frozen? ⟨nblk n0 nb n,noff n + 1,none⟩=false∧nblk n0 nb n < w.heap.size:=by
 obtain ⟨c0,cN,h0,hN,_,_,_,h1,h2,_⟩:=h
 cases n with
 | zero=>exact ⟨(h0.cell 1).trans h1,h0.free 1,h0.lt⟩
 | succ n=>
  rw [nblk_succ,noff_succ]
  exact ⟨(hN.cell _).trans (h2 n (by omega)),hN.free _,hN.lt⟩
theorem NdM.put (h:NdM w n0 nb N f don) {n:Nat} (hn:n < N + 1) (v:Value):NdM (w.setCell ⟨nblk n0 nb n,noff n + 1,none⟩ v) n0 nb N (setF f (n + 1) v) don:=by
 obtain ⟨c0,cN,h0,hN,hne,s0,sN,h1,h2,h3,h4⟩:=h
 cases n with
 | zero=>
  refine ⟨c0.setIfInBounds 1 v,cN,h0.put 1 v,hN.far (p:=⟨n0,1,none⟩) (fun e=>hne e.symm) v,hne,by simp [s0],sN,?_,fun n hn=>?_,h3,h4⟩
  ·rw [Array.getElem?_setIfInBounds,if_pos rfl,if_pos (by omega),setF_at]
  ·rw [setF_ne _ _ (by omega)];exact h2 n hn
 | succ m=>
  refine ⟨c0,cN.setIfInBounds (m * 2 + 1) v,h0.far (p:=⟨nb,m * 2 + 1,none⟩) hne v,hN.put (m * 2 + 1) v,hne,s0,by simp [sN],?_,fun n hn=>?_,h3,fun i hi=>?_⟩
  ·rw [setF_ne _ _ (by omega)];exact h1
  ·rw [Array.getElem?_setIfInBounds]
   by_cases e:m=n
   ·subst e
    rw [if_pos rfl,if_pos (by omega),setF_at]
   ·rw [if_neg (by omega),setF_ne _ _ (by omega)];exact h2 n hn
  ·rw [Array.getElem?_setIfInBounds,if_neg (by omega)];exact h4 i hi
theorem NdM.prodCell (h:NdM w n0 nb N f don) {i:Nat} (hi:i < N):(∃ u,w.cell? ⟨nb,i * 2,none⟩=some u)∧w.frozen? ⟨nb,i * 2,none⟩=false∧nb < w.heap.size:=by
 obtain ⟨c0,cN,h0,hN,_,_,sN,_⟩:=h
 exact ⟨⟨_,(hN.cell _).trans (Array.getElem?_eq_getElem (by omega))⟩,hN.free _,hN.lt⟩
theorem NdM.prod (h:NdM w n0 nb N f don) {i:Nat} (hi:i < N) (hd:don.length=i) (p:Int):NdM (w.setCell ⟨nb,i * 2,none⟩ (.int .i64 p)) n0 nb N f (don ++ [p]):=by
 obtain ⟨c0,cN,h0,hN,hne,s0,sN,h1,h2,h3,h4⟩:=h
 refine ⟨c0,cN.setIfInBounds (i * 2) (.int .i64 p),h0.far (p:=⟨nb,i * 2,none⟩) hne _,hN.put (i * 2) _,hne,s0,by simp [sN],h1,fun n hn=>?_,by rw [List.length_append,List.length_singleton];omega,fun j hj=>?_⟩
 ·rw [Array.getElem?_setIfInBounds,if_neg (by omega)];exact h2 n hn
 ·rw [List.length_append,List.length_singleton] at hj
  rw [Array.getElem?_setIfInBounds]
  by_cases e:i=j
  ·subst e
   rw [if_pos rfl,if_pos (by omega),List.getD_eq_getElem?_getD,List.getElem?_append_right (by omega),hd,Nat.sub_self];rfl
  ·rw [if_neg (by omega),List.getD_eq_getElem?_getD,List.getElem?_append_left (by omega),← List.getD_eq_getElem?_getD]
   exact h4 j (by omega)
end
structure DRel (lo dd n0 nb N:Nat) (u:List Int) (S:List (Nat × List Gr.Sy)) (ats:List (List Int)) (don:List Int) (f:Nat→Value) (vl:Value) (cs:List Value) (w:World):Prop where
 bd:Bk w dd 143 #[f 0,vl]
 st:w.ownsRow lo 147 2 vl S.length cs
 sk:SK w lo n0 nb S cs
 ids:Dv.Ids S (N + 1)
 len:ats.length=N + 1
 fam:Fam w lo f (u :: ats)
 nd:NdM w n0 nb N f don
 los:lo≤dd∧lo≤n0∧lo≤nb
section
variable {lo dd n0 nb N:Nat} {u:List Int} {S:List (Nat × List Gr.Sy)} {ats:List (List Int)} {don:List Int} {f:Nat→Value} {vl:Value} {cs:List Value} {w w' w1 w2:World}
theorem DRel.lt (h:DRel lo dd n0 nb N u S ats don f vl cs w):dd < w.heap.size∧n0 < w.heap.size∧nb < w.heap.size∧lo≤w.heap.size:=by
 obtain ⟨c0,cN,h0,hN,_⟩:=h.nd
 exact ⟨h.bd.lt,h0.lt,hN.lt,Nat.le_trans h.los.1 (Nat.le_of_lt h.bd.lt)⟩
theorem DRel.keep {T:Nat→Prop} (h:DRel lo dd n0 nb N u S ats don f vl cs w) (hf:Fr T w w') (h0:∀ k,T k→lo≤k) (h1:∀ k,T k→Ty w k 143→False) (h2:∀ k,T k→Ty w k 147→False) (h3:∀ k,T k→Ty w k 39→False)
  (h4:∀ k,T k→Ty w k 3→False) (h5:∀ k,T k→Ty w k 61→False):DRel lo dd n0 nb N u S ats don f vl cs w':=
 ⟨h.bd.fr hf fun hs=>h1 _ hs h.bd.ty,own_fr h.st hf fun k hk hs=>h2 k hs (own_ty h.st hk),h.sk.keep (below_fr hf h0 h.lt.2.2.2) (.of_fr hf h3),h.ids,h.len,h.fam.keep hf h4,h.nd.keep hf h5,h.los⟩
theorem DRel.bl (h:DRel lo dd n0 nb N u S ats don f vl cs w) (hb:Bl w w'):DRel lo dd n0 nb N u S ats don f vl cs w':=h.keep (T:=fun _=>False) (Fr.of_bl hb) (fun _ h=>h.elim) (fun _ h _=>h) (fun _ h _=>h) (fun _ h _=>h) (fun _ h _=>h) (fun _ h _=>h)
theorem DRel.cut {n:Nat} {r:List Gr.Sy} {vl':Value} {ds:List Value} (h:DRel lo dd n0 nb N u ((n,r) :: S) ats don f vl cs w) (hb:Bk w' dd 143 #[f 0,vl']) (ho:w'.ownsRow lo 147 2 vl' S.length ds)
  (hs:SK w lo n0 nb S ds) (hf:Fr (fun k=>k=dd) w w'):DRel lo dd n0 nb N u S ats don f vl' ds w':=by
 have no:∀ t,t≠143→∀ k,k=dd→Ty w k t→False:=fun t ht k hk hT=>by subst hk;exact hT.ne h.bd.ty ht
 exact ⟨hb,ho,hs.keep (below_fr hf (fun k hk=>hk ▸ h.los.1) h.lt.2.2.2) (.of_fr hf (no _ (by decide))),h.ids.tail,h.len,h.fam.keep hf (no _ (by decide)),h.nd.keep hf (no _ (by decide)),h.los⟩
theorem DRel.more {n c:Nat} {r:List Gr.Sy} {A:Option Addr} {vl':Value} (h:DRel lo dd n0 nb N u S ats don f vl cs w) (hn:n < N + 1) (hc:r.length≤c) (hr:RdS w lo A (syRow r))
  (hb:Bk w' dd 143 #[f 0,vl']) (ho:w'.ownsRow lo 147 2 vl' (S.length + 1) (cs ++ [.pointer (some ⟨nblk n0 nb n,noff n,none⟩),.slice A r.length c])) (hf:Fr (fun k=>k=dd∨vl.ownBlock=some k) w w') :
  DRel lo dd n0 nb N u ((n,r) :: S) ats don f vl' (cs ++ [.pointer (some ⟨nblk n0 nb n,noff n,none⟩),.slice A r.length c]) w':=by
 have no:∀ t,t≠143→t≠147→∀ k,(k=dd∨vl.ownBlock=some k)→Ty w k t→False:=fun t ht ht2 k hk hT=>by
  rcases hk with hk | hk
  ·subst hk;exact hT.ne h.bd.ty ht
  ·exact hT.ne (own_ty h.st hk) ht2
 have hbl:=below_fr hf (fun k hk=>by
  rcases hk with hk | hk
  ·exact hk ▸ h.los.1
  ·exact (h.st.lt k hk).1) h.lt.2.2.2
 exact ⟨hb,ho,.cons (h.sk.keep hbl (.of_fr hf (no _ (by decide) (by decide)))) hc (hr.keep hbl (.of_fr hf (no _ (by decide) (by decide)))),.cons hn h.ids,h.len,h.fam.keep hf (no _ (by decide) (by decide)),h.nd.keep hf (no _ (by decide) (by decide)),h.los⟩
theorem DRel.rows (h:DRel lo dd n0 nb N u S ats don f vl cs w) {i:Nat} (hi:i < N + 2) (hb:Bl w w1) (hg:w1.grownBy w2 (f i).ownBlock) :
  Bk w2 dd 143 #[f 0,vl]∧w2.ownsRow lo 147 2 vl S.length cs∧SK w2 lo n0 nb S cs∧NdM w2 n0 nb N f don∧Fr (fun k=>(f i).ownBlock=some k) w w2:=by
 have hf:=grow_fr hb hg
 have ho:=h.fam.own i (by rw [List.length_cons,h.len];omega)
 have no:∀ t,t≠3→∀ k,(f i).ownBlock=some k→Ty w k t→False:=fun t ht k hk hT=>hT.ne (own_ty ho hk) ht
 exact ⟨h.bd.fr hf fun hs=>no _ (by decide) _ hs h.bd.ty,own_fr h.st hf fun k hk hs=>no _ (by decide) k hs (own_ty h.st hk),h.sk.keep (below_fr hf (fun k hk=>(ho.lt k hk).1) h.lt.2.2.2) (.of_fr hf (no _ (by decide))),h.nd.keep hf (no _ (by decide)),hf⟩
theorem DRel.place (h:DRel lo dd n0 nb N u S ats don f vl cs w) {n:Nat} (hn:n < N + 1) {v2:Value} {x:Int} (hb:Bl w w1) (ho:w2.ownsRow lo 3 1 v2 ((ats.getD n []).length + 1) (ins (ats.getD n [] ++ [x]))) (hg:w1.grownBy w2 (f (n + 1)).ownBlock)
  (hl:v2.ownBlock=(f (n + 1)).ownBlock∨v2.ownBlock=some w1.heap.size) :
  DRel lo dd n0 nb N u S (Dv.addAll ats n [x]) don (setF f (n + 1) v2) vl cs (w2.setCell ⟨nblk n0 nb n,noff n + 1,none⟩ v2)∧Below lo w (w2.setCell ⟨nblk n0 nb n,noff n + 1,none⟩ v2):=by
 obtain ⟨r1,r2,r3,r4,r5⟩:=h.rows (i:=n + 1) (by omega) hb hg
 have hi:n + 1 < (u :: ats).length:=by rw [List.length_cons,h.len];omega
 have hF:=h.fam.grow hi hb ho hg hl
 have hT:Ty w2 (nblk n0 nb n) 61:=by
  obtain ⟨c0,cN,h0,hN,_⟩:=r4
  cases n with
  | zero=>exact h0.ty
  | succ n=>exact hN.ty
 have hf:Fr (fun k=>k=nblk n0 nb n) w2 (w2.setCell ⟨nblk n0 nb n,noff n + 1,none⟩ v2):=(Fr.refl _ w2).own _ _
 have no:∀ t,t≠61→∀ k,k=nblk n0 nb n→Ty w2 k t→False:=fun t ht k hk h'=>by subst hk;exact h'.ne hT ht
 have hlo:lo≤nblk n0 nb n:=by
  cases n with
  | zero=>exact h.los.2.1
  | succ n=>exact h.los.2.2
 have hlo2:lo≤w2.heap.size:=Nat.le_trans h.lt.2.2.2 r5.size
 refine ⟨⟨?_,own_fr r2 hf fun k hk hs=>no _ (by decide) k hs (own_ty r2 hk),r3.keep (below_fr hf (fun k hk=>hk ▸ hlo) hlo2) (.of_fr hf (no _ (by decide))),h.ids,by rw [Dv.addAll_len];exact h.len,hF.keep hf (no _ (by decide)),r4.put hn v2,h.los⟩,?_⟩
 ·rw [setF_ne _ _ (by omega)]
  exact r1.fr hf fun hs=>no _ (by decide) _ hs r1.ty
 ·exact Below.setCell (below_fr r5 (fun k hk=>((h.fam.own (n + 1) hi).lt k hk).1) h.lt.2.2.2) hlo _
theorem DRel.word (h:DRel lo dd n0 nb N u S ats don f vl cs w) {v2:Value} {x:Int} (hb:Bl w w1) (ho:w2.ownsRow lo 3 1 v2 (u.length + 1) (ins (u ++ [x]))) (hg:w1.grownBy w2 (f 0).ownBlock)
  (hl:v2.ownBlock=(f 0).ownBlock∨v2.ownBlock=some w1.heap.size) :
  DRel lo dd n0 nb N (u ++ [x]) S ats don (setF f 0 v2) vl cs (w2.setCell ⟨dd,0,none⟩ v2)∧Below lo w (w2.setCell ⟨dd,0,none⟩ v2):=by
 obtain ⟨r1,r2,r3,r4,r5⟩:=h.rows (i:=0) (by omega) hb hg
 have hi:0 < (u :: ats).length:=by rw [List.length_cons];omega
 have hF:=h.fam.grow hi hb ho hg hl
 have hf:Fr (fun k=>k=dd) w2 (w2.setCell ⟨dd,0,none⟩ v2):=(Fr.refl _ w2).own _ _
 have no:∀ t,t≠143→∀ k,k=dd→Ty w2 k t→False:=fun t ht k hk h'=>by subst hk;exact h'.ne r1.ty ht
 have hlo2:lo≤w2.heap.size:=Nat.le_trans h.lt.2.2.2 r5.size
 refine ⟨⟨?_,own_fr r2 hf fun k hk hs=>no _ (by decide) k hs (own_ty r2 hk),r3.keep (below_fr hf (fun k hk=>hk ▸ h.los.1) hlo2) (.of_fr hf (no _ (by decide))),h.ids,h.len,hF.keep hf (no _ (by decide)),?_,h.los⟩,?_⟩
 ·rw [setF_at];exact r1.put 0 v2
 ·obtain ⟨c0,cN,k1,k2,k3,k4,k5,k6,k7,k8⟩:=r4.keep hf (no _ (by decide))
  exact ⟨c0,cN,k1,k2,k3,k4,k5,by rw [setF_ne _ _ (by omega)];exact k6,fun n hn=>by rw [setF_ne _ _ (by omega)];exact k7 n hn,k8⟩
 ·exact Below.setCell (below_fr r5 (fun k hk=>((h.fam.own 0 hi).lt k hk).1) h.lt.2.2.2) h.los.1 _
theorem DRel.prod (h:DRel lo dd n0 nb N u S ats don f vl cs w) {i:Nat} (hi:i < N) (hd:don.length=i) (p:Int) :
  DRel lo dd n0 nb N u S ats (don ++ [p]) f vl cs (w.setCell ⟨nb,i * 2,none⟩ (.int .i64 p))∧Below lo w (w.setCell ⟨nb,i * 2,none⟩ (.int .i64 p)):=by
 have hT:Ty w nb 61:=by obtain ⟨c0,cN,h0,hN,_⟩:=h.nd;exact hN.ty
 have hf:Fr (fun k=>k=nb) w (w.setCell ⟨nb,i * 2,none⟩ (.int .i64 p)):=(Fr.refl _ w).own _ _
 have no:∀ t,t≠61→∀ k,k=nb→Ty w k t→False:=fun t ht k hk h'=>by subst hk;exact h'.ne hT ht
 exact ⟨⟨h.bd.fr hf fun hs=>no _ (by decide) _ hs h.bd.ty,own_fr h.st hf fun k hk hs=>no _ (by decide) k hs (own_ty h.st hk),h.sk.keep (below_fr hf (fun k hk=>hk ▸ h.los.2.2) h.lt.2.2.2) (.of_fr hf (no _ (by decide))),h.ids,h.len,h.fam.keep hf (no _ (by decide)),h.nd.prod hi hd p,h.los⟩,
  Below.setCell (Below.refl _ _) h.los.2.2 _⟩
end
end Go.Proofs.YtdfhhbncmdpoeaaGreat
namespace Go.Proofs.YtdfhhbncmdpoeaaGreat
open Go.RowKit
theorem rest_size:(Tryz.prog.info? 147).map (·.size)=some 2:=by kernel_rfl
theorem pop_none (dd:Nat) (vw:Value) (Al:Option Addr) (cl:Nat) (w:World) (hb:Bk w dd 143 #[vw,.slice Al 0 cl]) :
  Calls Tryz.prog 102 #[.pointer (some ⟨dd,1,none⟩)] w fun e w'=>e=.returned (.tuple #[.agg #[.pointer none,.slice none 0 0],.bool false])∧Bl w w':=by
 have HX1:Hid (Bk (w.alloc (.cells #[.pointer none,.slice none 0 0] 147)) w.heap.size 147 #[.pointer none,.slice none 0 0]):=Bk.new w _ _
 have c0:w.cell? ⟨dd,1,none⟩=some (.slice Al 0 cl):=hb.cell 1
 have l0:=hb.lt
 go_enter Tryz.func102,Tryz.ntmps102
 have x0:=HX1.out.cell 0
 have x1:=HX1.out.cell 1
 go_wp2_with fail
 try simp only [Exit.inBlock,Exit.then]
 refine bodyPost_ret (results_cell_st rfl _ _ w.heap.size _ #[.pointer none,.slice none 0 0] _ rfl HX1.out Tryz.underlying147 rfl rest_size) rfl ?_
 exact ⟨rfl,(Bl.refl w).alloc _⟩
theorem pop_some (dd lo n:Nat) (vw vl:Value) (P A:Option Addr) (m c:Nat) (cs:List Value) (w:World) (hb:Bk w dd 143 #[vw,vl]) (ho:w.ownsRow lo 147 2 vl (n + 1) (cs ++ [.pointer P,.slice A m c])) (hcs:cs.length=n * 2) (hn:n≤1000000) :
  Calls Tryz.prog 102 #[.pointer (some ⟨dd,1,none⟩)] w fun e w'=>e=.returned (.tuple #[.agg #[.pointer P,.slice A m c],.bool true])∧∃ vl',Bk w' dd 143 #[vw,vl']∧w'.ownsRow lo 147 2 vl' n cs∧vl'.ownBlock=vl.ownBlock∧Fr (fun k=>k=dd) w w':=by
 obtain ⟨g,cl,hv,_,l1⟩:=World.ownsRow.form ho (by omega)
 subst hv
 have hcl:n + 1≤cl:=by obtain ⟨_,_,hv,h⟩:=own_form ho;cases hv;exact h
 have hcm:cl≤maxLen:=by
  rcases ho.2 with ⟨_,h0⟩ | ⟨g',cap',cur',hv,_,_,_,h1,_,_⟩
  ·omega
  ·cases hv;exact h1
 have c0:w.cell? ⟨dd,1,none⟩=some (.slice (some ⟨g,0,none⟩) (n + 1) cl):=hb.cell 1
 have f0:w.frozen? ⟨dd,1,none⟩=false:=hb.free 1
 have c1:w.cell? ⟨g,n * 2,none⟩=some (.pointer P):=by
  rw [ho.cellAt (n * 2) (by omega),List.getElem?_append_right (by omega),hcs,Nat.sub_self];rfl
 have c2:w.cell? ⟨g,n * 2 + 1,none⟩=some (.slice A m c):=by
  rw [ho.cellAt (n * 2 + 1) (by omega),List.getElem?_append_right (by omega),hcs,Nat.add_sub_cancel_left];rfl
 have l0:=hb.lt
 have HB:=Lib.hid hb
 have HO:=Lib.hid (ownsRow_pop hcs ho)
 have i0:(0:Int)≤(n:Int):=by omega
 have i1:(n:Int) < ((n + 1:Nat):Int):=by omega
 have e1:(((n + 1:Nat):Int) - 1)=(n:Int):=by omega
 have e2:(n:Int).toNat=n:=by omega
 simp only [maxLen] at hcm
 clear hb ho
 go_enter Tryz.func102,Tryz.ntmps102
 go_wp2_with fail
 try simp only [Exit.inBlock,Exit.then]
 refine bodyPost_ret (results_cell_st rfl _ _ w.heap.size 147 #[.pointer P,.slice A m c] _ rfl ?hbk Tryz.underlying147 rfl rest_size) rfl ?_
 case hbk=>
  have h:=Bk.new (w.setCell ⟨dd,1,none⟩ (.slice (some ⟨g,0,none⟩) n cl)) 147 #[.pointer P,.slice A m c]
  rw [show (w.setCell ⟨dd,1,none⟩ (.slice (some ⟨g,0,none⟩) n cl)).heap.size=w.heap.size by simp [World.setCell]] at h
  exact h
 exact ⟨rfl,.slice (some ⟨g,0,none⟩) n cl,(HB.out.put 1 _).alloc _,(own_fr (S:=fun k=>k=dd) HO.out ((Fr.refl _ _).own 1 _) (fun k hv e=>HB.out.row HO.out (by decide) (by rw [hv,e]))).alloc _,rfl,((Fr.refl _ _).own 1 _).alloc _⟩
end Go.Proofs.YtdfhhbncmdpoeaaGreat
namespace Go.Proofs.YtdfhhbncmdpoeaaGreat
open Go.RowKit
theorem step_append_rd {P:Program} {w:World} {ops:Array Oper} {o:Oper} {a:Act} {K:Act→World→Prop} {Q:Exit→Act→World→Prop} {E:Prop} (hgd:o.guard=none) (s x:Operand) (t:TypeId)
  (ho:o.op=.call { callee:=.builtin .append,args:=#[s,x],argTypes:=#[t,t] })
  (base:Nat) (e:TypeId) (i:TypeInfo) (z:Value) (bytes:Nat) (ht:P.underlying t=some (.slice e)) (hi:P.info? e=some i) (hz:i.zero=some z)
  (hsize:i.size=1) (hby:i.bytes=bytes) (hzs:z.cells.size=1)
  (v:Value) (n:Nat) (xs:List Value) (hs:a.eval s=v) (hown:w.ownsRow base e 1 v n xs)
  (B:Nat) (A:Option Addr) (m c:Nat) (news:List Value) (hx:a.eval x=.slice A m c) (hr:Rd w B A news) (hm:news.length=m) (h1:∀ u ∈ news,u.oneCell'=true)
  (h63:n + m≤maxLen) (hbytes:(n + m) * bytes≤140737488355328) (hbase:base≤w.heap.size)
  (h:∀ v' w',w'.ownsRow base e 1 v' (n + m) (xs ++ news)→w.grownBy w' v.ownBlock→(v'.ownBlock=v.ownBlock∨v'.ownBlock=some w.heap.size)→K (a.put o.dst v') w') :
  if Region.wanted o (yielded ops a.tmps)=true then Oper.wp P o a w K Q else E:=by
 have hw:Region.wanted o (yielded ops a.tmps)=true:=by simp [Region.wanted,hgd]
 rw [if_pos hw]
 obtain ⟨v',w',hrun,h2,h3,h4⟩:=run_append_rd (P:=P) w base t o.type e i z bytes ht hi hz hsize hby hzs v n xs hown B A m c news hr hm h1 h63 hbytes hbase
 unfold Oper.wp execOp
 simp only [ho,resolve,invoke,builtin,Sem.run_bind,Sem.run_pure,Result.andThen_ok,List.map_toArray,List.map_cons,List.map_nil,hs,hx,hrun]
 exact h v' w' h2 h3 h4
end Go.Proofs.YtdfhhbncmdpoeaaGreat
namespace Go.Proofs.YtdfhhbncmdpoeaaGreat
open Go.RowKit
theorem below_bl {lo:Nat} {w w1 w2:World} (h:Below lo w w1) (hlo:lo≤w1.heap.size) (hb:Bl w1 w2):Below lo w w2:=h.trans (hb.mono hlo)
theorem NdM.tyB {w:World} {n0 nb N:Nat} {f:Nat→Value} {don:List Int} (h:NdM w n0 nb N f don) {n:Nat}:Ty w (nblk n0 nb n) 61:=by
 obtain ⟨c0,cN,h0,hN,_⟩:=h
 cases n with
 | zero=>exact h0.ty
 | succ n=>exact hN.ty
def NextPost (lo dd n0 nb N K:Nat) (u:List Int) (S:List (Nat × List Gr.Sy)) (ats:List (List Int)) (don:List Int) (w:World) (e:Ending) (w':World):Prop:=
 ∃ x u' S' ats',Dv.Nx u S ats x u' S' ats'∧e=.returned (.tuple #[.int .i64 (x.getD 0),.bool x.isSome])∧(∃ f vl cs,DRel lo dd n0 nb N u' S' ats' don f vl cs w')∧Dv.Bd K u' S' ats'∧Below lo w w'
theorem next_any (lo dd n0 nb N K:Nat) (u:List Int) (S:List (Nat × List Gr.Sy)) (ats:List (List Int)) (don:List Int) (w:World) (h:∃ f vl cs,DRel lo dd n0 nb N u S ats don f vl cs w) (hB:Dv.Bd K u S ats) (hK:K≤1000000) :
  Calls Tryz.prog 72 #[.pointer (some ⟨dd,0,none⟩)] w (NextPost lo dd n0 nb N K u S ats don w):=by
 obtain ⟨i1,hj,hy0,hy1,hy2⟩:=info_parts tp_int
 have HR0:=Lib.hid h;clear h
 have HB0:=Lib.hid hB;clear hB
 go_enter Tryz.func72,Tryz.ntmps72
 go_wp2_with fail
 go_loopg [] (Dv.todo S + 1) (fun g wr=>∃ (u':List Int) (S':List (Nat × List Gr.Sy)) (ats':List (List Int)),Dv.todo S' + 1=g∧Hid (∃ f vl cs,DRel lo dd n0 nb N u' S' ats' don f vl cs wr)∧Hid (∀ x u2 S2 a2,Dv.Nx u' S' ats' x u2 S2 a2→Dv.Nx u S ats x u2 S2 a2)∧Hid (Dv.Bd K u' S' ats')∧Hid (Below lo w wr))
 case atStart=>exact ⟨u,S,ats,rfl,HR0.out,fun _ _ _ _ h=>h,HB0.out,Below.refl _ _⟩
 case round=>
  obtain ⟨u',S',ats',hg,HR,HN,HB,HW⟩:=hrel
  obtain ⟨f,vl,cs,hd⟩:=HR.out
  clear HR
  cases S' with
  | nil=>
   obtain ⟨Al,cl,hv,_⟩:=own_form hd.st
   subst hv
   have HD:=Lib.hid hd;clear hd
   have HP:=Lib.hid (pop_none dd (f 0) Al cl wr HD.out.bd)
   go_wp2_with fail
   refine HP.out.mono ?_
   rintro e w2 ⟨rfl,hb2⟩
   have HB2:=Lib.hid hb2;clear hb2
   go_wp2_with fail
   go_ret2
   exact ⟨none,u',[],ats',HN.out _ _ _ _ .none,rfl,⟨f,_,cs,HD.out.bl (HB2.out.alloc _)⟩,HB.out,below_bl HW.out HD.out.lt.2.2.2 (HB2.out.alloc _)⟩
  | cons x S'=>
   obtain ⟨n,r⟩:=x
   obtain ⟨ds,A,c,hcs,hsk,hrc,hrd⟩:=hd.sk.inv
   subst hcs
   have hn:n < N + 1:=hd.ids.head
   have hT:Dv.todo ((n,r) :: S')=r.length + 1 + Dv.todo S':=rfl
   have hSl:S'.length≤1000000:=by have h1:=Dv.todo_len S';have h2:=HB.out.1;omega
   have HP:=Lib.hid (pop_some dd lo S'.length (f 0) vl (some ⟨nblk n0 nb n,noff n,none⟩) A r.length c ds wr hd.bd hd.st hsk.len hSl)
   have HD:=Lib.hid hd;clear hd
   go_wp2_with fail
   refine HP.out.mono ?_
   rintro e w2 ⟨rfl,vl2,hb2,ho2,hv2,hf2⟩
   have HD2:=Lib.hid (HD.out.cut hb2 ho2 hsk hf2)
   have HR2:=Lib.hid (hrd.keep (below_fr hf2 (fun k hk=>hk ▸ HD.out.los.1) HD.out.lt.2.2.2) (.of_fr hf2 fun k hk hT=>by subst hk;exact hT.ne HD.out.bd.ty (by decide)))
   have HW2:=Lib.hid (HW.out.trans (below_fr hf2 (fun k hk=>hk ▸ HD.out.los.1) HD.out.lt.2.2.2))
   have HVB:Hid (∀ k,vl2.ownBlock=some k→k < w2.heap.size):=fun k hk=>(ho2.lt k hk).2
   clear hb2 ho2 hv2 hf2 hsk hrd HP HW HD
   have HX3:Hid (Bk (w2.alloc (.cells #[.pointer (some ⟨nblk n0 nb n,noff n,none⟩),.slice A r.length c] 147)) w2.heap.size 147 #[.pointer (some ⟨nblk n0 nb n,noff n,none⟩),.slice A r.length c]):=Bk.new w2 _ _
   have hb3:Bl w2 (w2.alloc (.cells #[.pointer (some ⟨nblk n0 nb n,noff n,none⟩),.slice A r.length c] 147)):=(Bl.refl w2).alloc _
   have HD3:=Lib.hid (HD2.out.bl hb3)
   have HR3:=Lib.hid (HR2.out.bl HD2.out.lt.2.2.2 hb3)
   have HW3:=Lib.hid (below_bl HW2.out HD2.out.lt.2.2.2 hb3)
   clear hb3 HD2 HR2 HW2
   go_wp2_with fail
   generalize w2.alloc (.cells #[.pointer (some ⟨nblk n0 nb n,noff n,none⟩),.slice A r.length c] 147)=w3 at *
   generalize w2.heap.size=rb at *
   go_cut [] from 7 to 64 (fun wx=>∃ v,Hid (DRel lo dd n0 nb N u' S' (Dv.addAll ats' n [(u'.length:Int)]) don (setF f (n + 1) v) vl2 ds wx)∧Hid (Bk wx rb 147 #[.pointer (some ⟨nblk n0 nb n,noff n,none⟩),.slice A r.length c])∧Hid (RdS wx lo A (syRow r))∧Hid (Below lo w wx))
   case first=>
    obtain ⟨q1,q2,q3⟩:=HD3.out.nd.cell hn
    generalize hra:ats'.getD n []=ra at *
    obtain ⟨Aa,ca,ha0,ha1⟩:∃ A c,f (n + 1)=.slice A ra.length c∧ra.length≤c:=by
     have h:=own_form (HD3.out.fam.own (n + 1) (by rw [List.length_cons,HD3.out.len];omega))
     rw [List.getD_cons_succ,hra] at h
     exact h
    obtain ⟨Aw,cw,hw0,hw1⟩:∃ A c,f 0=.slice A u'.length c∧u'.length≤c:=own_form (HD3.out.fam.own 0 (by rw [List.length_cons];omega))
    have q4:w3.cell? ⟨dd,0,none⟩=some (.slice Aw u'.length cw):=(HD3.out.bd.cell 0).trans (by rw [hw0];rfl)
    have q7:=HD3.out.lt.1
    rw [ha0] at q1
    have q5:w3.cell? ⟨rb,0,none⟩=some (.pointer (some ⟨nblk n0 nb n,noff n,none⟩)):=HX3.out.cell 0
    have q8:rb < w3.heap.size:=HX3.out.lt
    have hla:ra.length≤1000000:=by have:=HB.out.2 n;rw [hra] at this;omega
    have hlu:u'.length≤1000000:=by have:=HB.out.1;omega
    have HB4:Hid (Bl w3 (w3.alloc (.cells #[.int .i64 (u'.length:Int)] 3)).drew):=((Bl.refl w3).alloc _).drew
    have HO4:Hid ((w3.alloc (.cells #[.int .i64 (u'.length:Int)] 3)).drew.ownsRow lo 3 1 (.slice Aa ra.length ca) ra.length (ins ra)):=by
     have h:=HD3.out.fam.own (n + 1) (by rw [List.length_cons,HD3.out.len];omega)
     rw [ha0,List.getD_cons_succ,hra] at h
     exact own_bl h HB4.out
    have HN4:Hid (Rd (w3.alloc (.cells #[.int .i64 (u'.length:Int)] 3)).drew (w3.heap.size + 1) (some ⟨w3.heap.size,0,none⟩) [.int .i64 (u'.length:Int)]):=rd_newB w3 3 #[.int .i64 (u'.length:Int)]
    have hlo4:lo≤(w3.alloc (.cells #[.int .i64 (u'.length:Int)] 3)).drew.heap.size:=Nat.le_trans HD3.out.lt.2.2.2 HB4.out.size
    have HF4:Hid (∀ (w5:World) (A5:Option Addr) (c5:Nat),w5.ownsRow lo 3 1 (.slice A5 (ra.length + 1) c5) (ra.length + 1) (ins ra ++ [.int .i64 (u'.length:Int)])→(w3.alloc (.cells #[.int .i64 (u'.length:Int)] 3)).drew.grownBy w5 (Value.slice Aa ra.length ca).ownBlock→((Value.slice A5 (ra.length + 1) c5).ownBlock=(Value.slice Aa ra.length ca).ownBlock∨(Value.slice A5 (ra.length + 1) c5).ownBlock=some (w3.alloc (.cells #[.int .i64 (u'.length:Int)] 3)).drew.heap.size)→
      (w5.cell? ⟨nblk n0 nb n,noff n + 1,none⟩=some (.slice Aa ra.length ca)∧w5.frozen? ⟨nblk n0 nb n,noff n + 1,none⟩=false∧nblk n0 nb n < w5.heap.size∧w5.cell? ⟨rb,0,none⟩=some (.pointer (some ⟨nblk n0 nb n,noff n,none⟩)))∧DRel lo dd n0 nb N u' S' (Dv.addAll ats' n [(u'.length:Int)]) don (setF f (n + 1) (.slice A5 (ra.length + 1) c5)) vl2 ds (w5.setCell ⟨nblk n0 nb n,noff n + 1,none⟩ (.slice A5 (ra.length + 1) c5))∧
      Bk (w5.setCell ⟨nblk n0 nb n,noff n + 1,none⟩ (.slice A5 (ra.length + 1) c5)) rb 147 #[.pointer (some ⟨nblk n0 nb n,noff n,none⟩),.slice A r.length c]∧RdS (w5.setCell ⟨nblk n0 nb n,noff n + 1,none⟩ (.slice A5 (ra.length + 1) c5)) lo A (syRow r)∧Below lo w (w5.setCell ⟨nblk n0 nb n,noff n + 1,none⟩ (.slice A5 (ra.length + 1) c5))):=by
     intro w5 A5 c5 hown hg5 hl5
     rw [← ha0] at hg5 hl5
     have hX:=HD3.out.place (x:=(u'.length:Int)) hn HB4.out (by rw [hra,ins_append];exact hown) hg5 hl5
     have hr5:=HD3.out.rows (i:=n + 1) (by omega) HB4.out hg5
     have hko:=HD3.out.fam.own (n + 1) (by rw [List.length_cons,HD3.out.len];omega)
     have hk:=hr5.2.2.2.1.cell hn
     rw [ha0] at hk
     have hT5:=hr5.2.2.2.1.tyB (n:=n)
     have hnlo:lo≤nblk n0 nb n:=by
      cases n with
      | zero=>exact HD3.out.los.2.1
      | succ n=>exact HD3.out.los.2.2
     have hX5:=HX3.out.fr hr5.2.2.2.2 (fun hs=>(own_ty hko hs).ne HX3.out.ty (by decide))
     have hR5:=HR3.out.keep (below_fr hr5.2.2.2.2 (fun k hk=>(hko.lt k hk).1) HD3.out.lt.2.2.2) (.of_fr hr5.2.2.2.2 (fun k hs hT=>(own_ty hko hs).ne hT (by decide)))
     exact ⟨⟨hk.1,hk.2.1,hk.2.2,hX5.cell 0⟩,hX.1,hX5.far (p:=⟨nblk n0 nb n,noff n + 1,none⟩) (fun e=>by have e:rb=nblk n0 nb n:=e;rw [← e] at hT5;exact hX5.ty.ne hT5 (by decide)) _,
      hR5.keep (below_fr ((Fr.refl (fun k=>k=nblk n0 nb n) w5).own (noff n + 1) _) (fun k hk=>hk ▸ hnlo) (Nat.le_trans HD3.out.lt.2.2.2 hr5.2.2.2.2.size)) (KeepT.of_fr (S:=fun k=>k=nblk n0 nb n) ((Fr.refl _ w5).own (noff n + 1) _) (fun k hk hT=>by subst hk;exact hT.ne hT5 (by decide))),HW3.out.trans hX.2⟩
    clear HD3 HX3 HR3 HW3 HB4 HN HB hg HVB hT
    go_region_law (first
     | (refine step_append_rd rfl (.tmp 22) (.tmp 28) 25 rfl lo 3 i1 (.int .i64 0) 8 Tryz.underlying25 hj hy0 hy1 hy2 rfl (.slice Aa ra.length ca) ra.length (ins ra) rfl HO4.out (w3.heap.size + 1) (some ⟨w3.heap.size,0,none⟩) 1 1 [.int .i64 (u'.length:Int)] rfl HN4.out rfl (fun u hu=>by simp at hu;subst hu;rfl) (by simp only [maxLen];omega) (by omega) hlo4 ?_;intro v2 w5 hown hg5 hl5;obtain ⟨A5,c5,hv5,hc5⟩:=own_form hown;subst hv5;have HX:=Lib.hid (HF4.out _ _ _ hown hg5 hl5);obtain ⟨k1,k2,k3,k4⟩:=HX.out.1;clear hown hg5 hl5 hc5)
     | fail)
    all_goals
     go_wp2_with fail
     go_meet
     exact ⟨_,HX.out.2.1,HX.out.2.2.1,HX.out.2.2.2.1,HX.out.2.2.2.2⟩
   case rest=>
   obtain ⟨v6,HD6,HX6,HR6,HW6⟩:=hcut
   clear HD3 HX3 HR3 HW3
   obtain ⟨w6,hw6⟩:∃ x,x=wc:=⟨_,rfl⟩
   subst hw6
   have x0:w6.cell? ⟨rb,0,none⟩=some (.pointer (some ⟨nblk n0 nb n,noff n,none⟩)):=HX6.out.cell 0
   have x1:w6.cell? ⟨rb,1,none⟩=some (.slice A r.length c):=HX6.out.cell 1
   cases r with
   | nil=>
    go_wp2_with fail
    go_roundg (Dv.todo S' + 1)
    case rel=>exact ⟨u',S',_,rfl,⟨_,_,_,HD6.out⟩,fun _ _ _ _ h=>HN.out _ _ _ _ (.pop h),HB.out.go (by simp only [List.length_nil] at hT;omega) (by omega),HW6.out⟩
    case measure=>simp only [List.length_nil] at hT;omega
   | cons s r'=>
    obtain ⟨sn,sv⟩:=s
    simp only [List.length_cons] at *
    obtain ⟨bs,os,hA,hcell⟩:=HR6.out.at_ (by rw [syRow_len];simp)
    subst hA
    have hcut:=HR6.out.sy_cut (k:=1) (cap:=c) (by rw [List.length_cons];exact hrc)
    have hsl:=fun (wx:World)=>run_slice_tail (P:=Tryz.prog) (t:=40) (e:=39) (size:=2) Tryz.underlying40 tp_size (some ⟨bs,os,none⟩) (r'.length + 1) c 1 1 rfl (by omega) wx
    rw [Nat.add_sub_cancel] at hsl
    generalize (if c=1 then (some ⟨bs,os,none⟩:Option Addr) else (some (⟨bs,os,none⟩:Addr)).map (·.add (1 * 2)))=Ay at hcut hsl
    have HC7:Hid (RdS w6.drew lo Ay (syRow r')):=hcut
    have HR7:Hid (RdS w6.drew lo (some ⟨bs,os,none⟩) (syRow (⟨sn,sv⟩ :: r'))):=HR6.out
    have HX7:Hid (Bk w6.drew rb 147 #[.pointer (some ⟨nblk n0 nb n,noff n,none⟩),.slice (some ⟨bs,os,none⟩) (r'.length + 1) c]):=HX6.out
    have HD7:=Lib.hid (HD6.out.bl (Bl.refl _).drew)
    have HW7:=Lib.hid (below_bl HW6.out HD6.out.lt.2.2.2 (Bl.refl _).drew)
    clear hcut hcell
    have i0:(0:Int) < ((r'.length + 1:Nat):Int):=by omega
    go_wp2_with fail
    go_still_tail 9,(by kernel_rfl)
    change wpList _ _ _ _ _ w6.drew
    clear x0 x1 HD6 HW6 HX6 HR6
    generalize w6.drew=w7 at *
    go_wp2_with fail
    refine (push_any dd lo S'.length (setF f (n + 1) v6 0) vl2 (some ⟨nblk n0 nb n,noff n,none⟩) Ay r'.length (c - 1) ds w7 HD7.out.bd HD7.out.st hSl HD7.out.lt.2.2.2).mono ?_
    rintro e w8 ⟨rfl,vl8,hb8,ho8,hf8⟩
    have HD8:=Lib.hid (HD7.out.more hn (by omega) HC7.out hb8 ho8 hf8)
    have HX8:=Lib.hid (HX7.out.fr hf8 (fun hs=>by
     rcases hs with hs | hs
     ·exact HX7.out.ty.ne (hs ▸ HD7.out.bd.ty) (by decide)
     ·exact absurd (HVB.out _ hs) (by omega)))
    have hbw8:=below_fr hf8 (fun k hk=>by
     rcases hk with hk | hk
     ·exact hk ▸ HD7.out.los.1
     ·exact (HD7.out.st.lt k hk).1) HD7.out.lt.2.2.2
    have HR8:=Lib.hid (HR7.out.keep hbw8 (.of_fr hf8 (fun k hs hT=>by
     rcases hs with hs | hs
     ·subst hs;exact hT.ne HD7.out.bd.ty (by decide)
     ·exact hT.ne (own_ty HD7.out.st hs) (by decide))))
    have HW8:=Lib.hid (HW7.out.trans hbw8)
    clear hb8 ho8 hf8 hbw8 HC7 HR7 HX7 HW7 HD7
    have x1:w8.cell? ⟨rb,1,none⟩=some (.slice (some ⟨bs,os,none⟩) (r'.length + 1) c):=HX8.out.cell 1
    obtain ⟨b2,o2,hA,hcell⟩:=HR8.out.at_ (by rw [syRow_len];simp)
    cases hA
    have y0:w8.cell? ⟨bs,os,none⟩=some (.bool sn):=hcell 0 _ rfl
    have y1:w8.cell? ⟨bs,os + 1,none⟩=some (.int .i64 sv):=hcell 1 _ rfl
    clear hcell
    have hb9:Bl w8 (w8.alloc (.cells #[.bool sn,.int .i64 sv] 39)):=(Bl.refl w8).alloc _
    have HD9:=Lib.hid (HD8.out.bl hb9)
    have HW9:=Lib.hid (below_bl HW8.out HD8.out.lt.2.2.2 hb9)
    have HS9:Hid (Bk (w8.alloc (.cells #[.bool sn,.int .i64 sv] 39)) w8.heap.size 39 #[.bool sn,.int .i64 sv]):=Bk.new w8 _ _
    clear hb9
    have hT2:Dv.todo ((n,r') :: S')=r'.length + 1 + Dv.todo S':=rfl
    cases sn with
    | true=>
     go_wp2_with fail
     go_ret2
     exact ⟨some sv,u',(n,r') :: S',_,HN.out _ _ _ _ (.non rfl),rfl,⟨_,_,_,HD9.out⟩,HB.out.go (by omega) (by omega),HW9.out⟩
    | false=>
     go_wp2_with fail
     generalize w8.alloc (.cells #[.bool false,.int .i64 sv] 39)=w9 at *
     have z0:w9.cell? ⟨w8.heap.size,1,none⟩=some (.int .i64 sv):=HS9.out.cell 1
     obtain ⟨Aw,cw,hw0,hw1⟩:∃ A c,setF f (n + 1) v6 0=.slice A u'.length c∧u'.length≤c:=own_form (HD9.out.fam.own 0 (by rw [List.length_cons];omega))
     have z1:w9.cell? ⟨dd,0,none⟩=some (.slice Aw u'.length cw):=(HD9.out.bd.cell 0).trans (by rw [hw0];rfl)
     have z2:dd < w9.heap.size:=HD9.out.lt.1
     have hlu:u'.length≤1000000:=by have:=HB.out.1;omega
     have HBA:Hid (Bl w9 (w9.alloc (.cells #[.int .i64 sv] 3)).drew):=((Bl.refl w9).alloc _).drew
     have HOA:Hid ((w9.alloc (.cells #[.int .i64 sv] 3)).drew.ownsRow lo 3 1 (.slice Aw u'.length cw) u'.length (ins u')):=by
      have h:=HD9.out.fam.own 0 (by rw [List.length_cons];omega)
      rw [hw0] at h
      exact own_bl h HBA.out
     have HNA:Hid (Rd (w9.alloc (.cells #[.int .i64 sv] 3)).drew (w9.heap.size + 1) (some ⟨w9.heap.size,0,none⟩) [.int .i64 sv]):=rd_newB w9 3 #[.int .i64 sv]
     have hloA:lo≤(w9.alloc (.cells #[.int .i64 sv] 3)).drew.heap.size:=Nat.le_trans HD9.out.lt.2.2.2 HBA.out.size
     clear HD8 HX8 HR8 HW8 x1 y0 y1
     go_region_law (first
      | (refine step_append_rd rfl (.tmp 58) (.tmp 61) 25 rfl lo 3 i1 (.int .i64 0) 8 Tryz.underlying25 hj hy0 hy1 hy2 rfl (.slice Aw u'.length cw) u'.length (ins u') rfl HOA.out (w9.heap.size + 1) (some ⟨w9.heap.size,0,none⟩) 1 1 [.int .i64 sv] rfl HNA.out rfl (fun u hu=>by simp at hu;subst hu;rfl) (by simp only [maxLen];omega) (by omega) hloA ?_;intro v2 wB hown hgB hlB;obtain ⟨AB,cB,hvB,hcB⟩:=own_form hown;subst hvB;rw [← hw0] at hgB hlB;have HX:=Lib.hid (HD9.out.word (x:=sv) HBA.out (by rw [ins_append];exact hown) hgB hlB);have hrB:=HD9.out.rows (i:=0) (by omega) HBA.out hgB;have k1:=hrB.1.cell 0;have k2:=hrB.1.free 0;have k3:=hrB.1.lt;clear hrB hown hgB hlB hcB)
      | fail)
     all_goals
      go_wp2_with fail
      go_roundg (Dv.todo ((n,r') :: S') + 1)
      case rel=>exact ⟨u' ++ [sv],(n,r') :: S',_,rfl,⟨_,_,_,HX.out.1⟩,fun _ _ _ _ h=>HN.out _ _ _ _ (.tok rfl h),HB.out.go (by omega) (by rw [List.length_append];exact Nat.le_refl _),HW9.out.trans HX.out.2⟩
      case measure=>omega
end Go.Proofs.YtdfhhbncmdpoeaaGreat
namespace Go.Proofs.YtdfhhbncmdpoeaaGreat
open Go.RowKit
def isOfB (ps:List Gr.Pr) (i y:Int):Bool:=decide (0≤i∧∃ p,ps[i.toNat]?=some p∧p.left=y)
theorem isof_any (t n s:Int) (A:Option Addr) (len c:Nat) (ps:List Gr.Pr) (i y:Int) (w:World) (B:Nat) (hlen:len=ps.length) (hr:Prs w B A ps) :
  Calls Tryz.prog 73 #[.agg #[.int .i64 t,.int .i64 n,.int .i64 s,.slice A len c],.int .i64 i,.int .i64 y] w fun e w'=>e=.returned (.bool (isOfB ps i y))∧Bl w w':=by
 have HL:=Lib.hid hlen;clear hlen
 have hb1:Bl w (w.alloc (.cells #[.int .i64 t,.int .i64 n,.int .i64 s,.slice A len c] 24)):=(Bl.refl w).alloc _
 have HB1:=Lib.hid hb1
 have HG1:Hid (Bk (w.alloc (.cells #[.int .i64 t,.int .i64 n,.int .i64 s,.slice A len c] 24)) w.heap.size 24 #[.int .i64 t,.int .i64 n,.int .i64 s,.slice A len c]):=Bk.new w _ _
 by_cases h0:i < 0
 ·have HX:Hid (isOfB ps i y=false):=decide_eq_false fun h=>by omega
  have hd:decide (0≤i)=false:=decide_eq_false (by omega)
  clear hr
  go_enter Tryz.func73,Tryz.ntmps73
  go_wp2_with fail
  go_ret
  exact ⟨by rw [HX.out];rfl,HB1.out⟩
 ·obtain ⟨q,rfl⟩:∃ q:Nat,i=(q:Int):=⟨i.toNat,by omega⟩
  have hd:decide (0≤(q:Int))=true:=decide_eq_true (by omega)
  by_cases h1:q < len
  ·obtain ⟨b,off,Ax,cx,rfl,hbB,hrx,hc0,hc1⟩:=hr.at_ (i:=q) (by rw [← HL.out];exact h1)
   have hx:ps[q]?=some (ps[q]'(by rw [← HL.out];exact h1)):=List.getElem?_eq_getElem (by rw [← HL.out];exact h1)
   have hX:isOfB ps q y=((ps[q]'(by rw [← HL.out];exact h1)).left == y):=by
    unfold isOfB
    rw [Int.toNat_natCast,hx]
    by_cases e:(ps[q]'(by rw [← HL.out];exact h1)).left=y
    ·rw [decide_eq_true ⟨by omega,_,rfl,e⟩];simp [e]
    ·rw [decide_eq_false (fun h=>by obtain ⟨_,p,hp,hl⟩:=h;cases hp;exact e hl)];simp [e]
   have HX:=Lib.hid hX;clear hX
   have h2:(q:Int) < (len:Int):=by omega
   have h3:(0:Int)≤(q:Int):=by omega
   have hc:(w.alloc (.cells #[.int .i64 t,.int .i64 n,.int .i64 s,.slice (some ⟨b,off,none⟩) len c] 24)).cell? ⟨b,off + q * 2,none⟩=some (.int .i64 (ps[q]'(by rw [← HL.out];exact h1)).left):=(Below.cell hb1 (World.block_lt_of_cell? _ _ hc0)).trans hc0
   generalize (ps[q]'(by rw [← HL.out];exact h1)).left=z at *
   have hbl:=World.block_lt_of_cell? _ _ hc0
   clear hr hrx hc1 hx
   go_enter Tryz.func73,Tryz.ntmps73
   go_wp2_with fail
   go_ret
   exact ⟨by rw [HX.out];rfl,HB1.out⟩
  ·have HX:Hid (isOfB ps q y=false):=decide_eq_false fun h=>by
    obtain ⟨_,p,hp,_⟩:=h
    rw [Int.toNat_natCast,List.getElem?_eq_none (by rw [← HL.out];omega)] at hp
    cases hp
   have h2:decide ((q:Int) < (len:Int))=false:=decide_eq_false (by omega)
   clear hr
   go_enter Tryz.func73,Tryz.ntmps73
   go_wp2_with fail
   go_ret
   exact ⟨by rw [HX.out];rfl,HB1.out⟩
end Go.Proofs.YtdfhhbncmdpoeaaGreat
