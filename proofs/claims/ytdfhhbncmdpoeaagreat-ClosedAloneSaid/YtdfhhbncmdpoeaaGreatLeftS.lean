/- A map of steps: what a step reads as, as a key; a map that tells of each step to which nonterminal it leads; how it is looked up. -/
import Derived.Test.YtdfhhbncmdpoeaaGreatLIs
import Derived.Test.YtdfhhbncmdpoeaaGreatLAll
import Derived.Test.YtdfhhbncmdpoeaaGreatGRS
import Derived.Test.YtdfhhbncmdpoeaaGreatPlainS
import Derived.Test.YtdfhhbncmdpoeaaGreatReachS
import Derived.Test.YtdfhhbncmdpoeaaGreatBaseS
import Derived.Test.YtdfhhbncmdpoeaaGreatRankS
import Derived.Maps.OwnSet
import Derived.DeepKeys4
import Derived.Maps.OwnOps
import Derived.Laws.BitsAllLaws
import Derived.Deep.LoopGhost
import Derived.Deep.RegionHeld3
import Derived.Deep.DeepCutAuto
set_option maxRecDepth 100000
set_option maxHeartbeats 8000000
namespace Go.Proofs.YtdfhhbncmdpoeaaGreat
open Go.RowKit
open Go.Maps (Keyed)
theorem st_laid:laidOutB Tryz.prog=true:=by kernel_rfl
theorem lst_row:(203:TypeId) < Tryz.prog.types.size:=of_decide_eq_true (by kernel_rfl)
theorem lst_wide:(match Tryz.prog.underlying 203 with | some (.array _ _) | some (.struct _)=>true | _=>false)=true:=by rw [Tryz.underlying203]
theorem lst_law:Keyed Tryz.prog 203:=Keyed.of_law (deep_law_laid st_laid (m:=2) (by omega) lst_row (by kernel_rfl) lst_wide)
theorem lst_cells:Tryz.prog.cellsOf 203=2:=by kernel_rfl
theorem st_int:Tryz.prog.cellsOf 3=1:=by kernel_rfl
theorem lst_keyType:Tryz.prog.keyType 203=true:=by kernel_rfl
theorem st_zero (w:World):(zeroValue 3).run Tryz.prog w=.ok (.int .i64 0) w:=by kernel_rfl
theorem own_some {w:World} {base m c:Nat} {A:Option Addr} {e:TypeId} {size:Nat} {xs:List Value} (h:w.ownsRow base e size (.slice A m c) m xs) (hm:0 < m):∃ g,A=some ⟨g,0,none⟩:=by
 rcases h.2 with ⟨_,h0⟩ | ⟨g,cap,cur,hv,_⟩
 ·omega
 ·injection hv with hv;exact ⟨g,hv⟩
def lstKey (x:Lf.Stp):Lit:=.string (keyBytes [.int .i64 x.1,.int .i64 x.2])
def Small (x:Lf.Stp):Prop:=x.1 < 9223372036854775808∧x.2 < 9223372036854775808
theorem wf_small {n:Nat} (h:n < 9223372036854775808):(Lit.int .i64 (n:Int)).wf=true:=by
 simp [Lit.wf,IntKind.min,IntKind.max,IntKind.bits,IntKind.signed];omega
theorem key_step {x:Lf.Stp} (h:Small x):keyOf Tryz.prog 203 (.agg #[.int .i64 (x.1:Int),.int .i64 (x.2:Int)])=some (lstKey x):=by
 obtain ⟨m,hm⟩:∃ m,Tryz.prog.types.size=m + 1:=⟨Tryz.prog.types.size - 1,by
  have:0 < Tryz.prog.types.size:=of_decide_eq_true (by kernel_rfl)
  omega⟩
 have w1:=wf_small h.1
 have w2:=wf_small h.2
 unfold keyOf
 simp only [Tryz.underlying203]
 rw [if_pos (by simp [lst_keyType,Value.formed,Tryz.underlying203,lst_cells]),hm]
 unfold Program.keyLits
 simp only [Tryz.underlying203,Value.cells]
 simp [lst_cells,st_int,Program.keyLits,Tryz.underlying3,w1,w2,lstKey]
theorem lstKey_inj {x y:Lf.Stp} (hx:Small x) (hy:Small y) (h:lstKey x=lstKey y):x=y:=by
 have h2:=key_step hy
 rw [← h] at h2
 have e:=lst_law.inj (key_step hx) h2
 injection e with e
 injection e with e
 obtain ⟨x1,x2⟩:=x
 obtain ⟨y1,y2⟩:=y
 simp at e
 rw [show x1=y1 by omega,show x2=y2 by omega]
def ahead (i k:Nat) (x:Lf.Stp):Bool:=decide (x.1 < i∨(x.1=i∧x.2 < k))
theorem ahead_zero (x:Lf.Stp):ahead 0 0 x=false:=decide_eq_false (by omega)
theorem ahead_put {i k:Nat} {x:Lf.Stp} (hne:x≠(i,k)):ahead i (k + 1) x=ahead i k x:=by
 apply decide_eq_decide.2
 obtain ⟨a,b⟩:=x
 show (a < i∨(a=i∧b < k + 1))↔(a < i∨(a=i∧b < k))
 have:¬ (a=i∧b=k):=fun h=>hne (by rw [h.1,h.2])
 omega
theorem ahead_at (i k:Nat):ahead i (k + 1) (i,k)=true:=decide_eq_true (.inr ⟨rfl,Nat.lt_succ_self k⟩)
def ToK (w:World) (b:Nat) (ps:List Gr.Pr) (nl:Nat→Bool) (i k:Nat):Prop:=
 ∃ (D:DataW Unit) (n:Nat),w.ownsMap Tryz.prog 203 (plainElem Tryz.prog 3) b n D∧n≤i * 8 + k∧
  (∀ x,Small x→Maps.has D (lstKey x)=(Lf.isStep ps nl x && ahead i k x))∧∀ x,Small x→(Lf.isStep ps nl x && ahead i k x)=true→D.atKey (lstKey x) (.lit (.int .i64 0))=.lit (.int .i64 (Lf.to ps x:Int))
def ToMap (w:World) (b:Nat) (ps:List Gr.Pr) (nl:Nat→Bool):Prop:=
 ∃ (D:DataW Unit) (n:Nat),w.ownsMap Tryz.prog 203 (plainElem Tryz.prog 3) b n D∧
  (∀ x,Small x→Maps.has D (lstKey x)=Lf.isStep ps nl x)∧∀ x,Small x→Lf.isStep ps nl x=true→D.atKey (lstKey x) (.lit (.int .i64 0))=.lit (.int .i64 (Lf.to ps x:Int))
section
variable {w w':World} {b:Nat} {ps:List Gr.Pr} {nl:Nat→Bool} {i k:Nat}
theorem ownsMap_bl {n:Nat} {D:DataW Unit} (h:w.ownsMap Tryz.prog 203 (plainElem Tryz.prog 3) b n D) (hb:Bl w w'):w'.ownsMap Tryz.prog 203 (plainElem Tryz.prog 3) b n D:=by
 have hlt:=h.lt
 obtain ⟨es,clock,h1,F,hs,hD⟩:=h
 exact ⟨es,clock,(hb.block b hlt).trans h1,F,hs,hD⟩
theorem ToK.bl (h:ToK w b ps nl i k) (hb:Bl w w'):ToK w' b ps nl i k:=by
 obtain ⟨D,n,h1,h2⟩:=h
 exact ⟨D,n,ownsMap_bl h1 hb,h2⟩
theorem ToK.lt (h:ToK w b ps nl i k):b < w.heap.size:=by obtain ⟨D,n,h1,_⟩:=h;exact h1.lt
theorem ToMap.bl (h:ToMap w b ps nl) (hb:Bl w w'):ToMap w' b ps nl:=by
 obtain ⟨D,n,h1,h2⟩:=h
 exact ⟨D,n,ownsMap_bl h1 hb,h2⟩
theorem ToK.begin_ (w:World) (ps:List Gr.Pr) (nl:Nat→Bool):ToK (w.alloc (.map #[] 0)) w.heap.size ps nl 0 0:=
 ⟨.map [],0,World.ownsMap_made _ _ _ _,Nat.zero_le _,fun x _=>by rw [ahead_zero,Bool.and_false];rfl,fun x _ h=>by rw [ahead_zero,Bool.and_false] at h;cases h⟩
theorem ToK.skip (h:ToK w b ps nl i k) (hk:k≤8) (hno:∀ k',k≤k'→Lf.isStep ps nl (i,k')=false):ToK w b ps nl (i + 1) 0:=by
 obtain ⟨D,n,h1,h2,h3,h4⟩:=h
 have e:∀ x,(Lf.isStep ps nl x && ahead (i + 1) 0 x)=(Lf.isStep ps nl x && ahead i k x):=by
  intro x
  by_cases hx:x.1=i∧k≤x.2
  ·have:Lf.isStep ps nl x=false:=by
    have h:=hno x.2 hx.2
    obtain ⟨a,b⟩:=x
    obtain ⟨e1,e2⟩:=hx
    simp only at e1
    rw [e1];exact h
   rw [this];rfl
  ·congr 1
   apply decide_eq_decide.2
   omega
 exact ⟨D,n,h1,by omega,fun x hx=>by rw [e];exact h3 x hx,fun x hx=>by rw [e];exact h4 x hx⟩
theorem step_small {x:Lf.Stp} (h60:ps.length≤60) (h8:∀ p ∈ ps,p.right.length≤8) (h:Lf.isStep ps nl x=true):x.1 < 60∧x.2 < 8:=by
 obtain ⟨p,s,h1,h2,_⟩:=Lf.step_some h
 have i1:x.1 < ps.length:=by
  rcases Nat.lt_or_ge x.1 ps.length with h | h
  ·exact h
  ·rw [List.getElem?_eq_none h] at h1;cases h1
 have i2:x.2 < p.right.length:=by
  rcases Nat.lt_or_ge x.2 p.right.length with h | h
  ·exact h
  ·rw [List.getElem?_eq_none h] at h2;cases h2
 have:=h8 p (List.mem_of_getElem? h1)
 omega
theorem small_step {x:Lf.Stp} (h60:ps.length≤60) (h8:∀ p ∈ ps,p.right.length≤8) (h:Lf.isStep ps nl x=true):Small x:=by
 have:=step_small h60 h8 h
 exact ⟨by omega,by omega⟩
theorem ToK.done (h:ToK w b ps nl ps.length 0):ToMap w b ps nl:=by
 obtain ⟨D,n,h1,h2,h3,h4⟩:=h
 have e:∀ x,(Lf.isStep ps nl x && ahead ps.length 0 x)=Lf.isStep ps nl x:=by
  intro x
  cases hs:Lf.isStep ps nl x with
  | false=>rfl
  | true=>
   obtain ⟨p,s,h5,_⟩:=Lf.step_some hs
   have:x.1 < ps.length:=by
    rcases Nat.lt_or_ge x.1 ps.length with h | h
    ·exact h
    ·rw [List.getElem?_eq_none h] at h5;cases h5
   rw [Bool.true_and]
   exact decide_eq_true (.inl this)
 exact ⟨D,n,h1,fun x hx=>by rw [h3 x hx,e],fun x hx hs=>h4 x hx (by rw [e];exact hs)⟩
theorem ToK.put (hs:Lf.isStep ps nl (i,k)=true) (hi:Small (i,k)) {n':Nat} {D D':DataW Unit} (hD:w'.ownsMap Tryz.prog 203 (plainElem Tryz.prog 3) b n' D') (hn:n'≤i * 8 + (k + 1))
  (he:D'=D.put (lstKey (i,k)) (.lit (.int .i64 (Lf.to ps (i,k):Int)))) (hm:Maps.IsMap D)
  (h3:∀ x,Small x→Maps.has D (lstKey x)=(Lf.isStep ps nl x && ahead i k x)) (h4:∀ x,Small x→(Lf.isStep ps nl x && ahead i k x)=true→D.atKey (lstKey x) (.lit (.int .i64 0))=.lit (.int .i64 (Lf.to ps x:Int))):ToK w' b ps nl i (k + 1):=by
 subst he
 have hk:WideAt.IsKeyLit (lstKey (i,k)):=trivial
 refine ⟨_,n',hD,hn,fun x hx=>?_,fun x hx hh=>?_⟩
 ·by_cases e:x=(i,k)
  ·subst e
   rw [Maps.has_put_same hm hk,hs,ahead_at];rfl
  ·rw [Maps.has_put_other (fun e2=>e (lstKey_inj hx hi e2)),h3 x hx,ahead_put e]
 ·by_cases e:x=(i,k)
  ·subst e
   rw [Maps.atKey_put_same hm hk]
  ·rw [ahead_put e] at hh
   rw [Maps.atKey_put_other (fun e2=>e (lstKey_inj hx hi e2))]
   exact h4 x hx hh
theorem ToMap.look (h:ToMap w b ps nl) {x:Lf.Stp} (hx:Small x) (hs:Lf.isStep ps nl x=true):(Instr.lookup 184 (.map (some b)) (.agg #[.int .i64 (x.1:Int),.int .i64 (x.2:Int)]) false).run Tryz.prog w=.ok (.int .i64 (Lf.to ps x:Int)) w:=by
 obtain ⟨D,n,h1,h2,h3⟩:=h
 obtain ⟨c,hrun,hat,_⟩:=h1.lookup_int lst_law Tryz.underlying184 Tryz.underlying3 (st_zero w) (key_step hx)
 rw [h3 x hx hs] at hat
 injection hat with hat
 injection hat with _ hat
 rw [hrun,← hat]
theorem ToMap.look_ok (h:ToMap w b ps nl) {x:Lf.Stp} (hx:Small x):∃ c:Int,(Instr.lookup 184 (.map (some b)) (.agg #[.int .i64 (x.1:Int),.int .i64 (x.2:Int)]) true).run Tryz.prog w=.ok (.tuple #[.int .i64 c,.bool (Lf.isStep ps nl x)]) w∧(Lf.isStep ps nl x=true→c=(Lf.to ps x:Int)):=by
 obtain ⟨D,n,h1,h2,h3⟩:=h
 obtain ⟨v,qs,hrun,hv⟩:=h1.look_ok lst_law Tryz.underlying184 (st_zero w) (plainElem_int Tryz.underlying3 (by decide)) (key_step hx)
 obtain ⟨c,rfl,hc,_⟩:=plainElem_int_inv Tryz.underlying3 hv
 have hc:=congrArg Prod.fst hc
 rw [h2 x hx] at hrun
 refine ⟨c,hrun,fun hs=>?_⟩
 have hc:D.atKey (lstKey x) (.lit (.int .i64 0))=.lit (.int .i64 c):=hc
 rw [h3 x hx hs] at hc
 injection hc with hc
 injection hc with _ hc
 exact hc.symm
end
theorem wpList_look {w:World} {b:Nat} {ps:List Gr.Pr} {nl:Nat→Bool} {ops:Array Oper} {rest:List Oper} {o:Oper} {a:Act} {Q:Exit→Act→World→Prop} (hg:o.guard=none) (m x:Operand) (hop:o.op=Op.lookup 184 m x false)
  (h:ToMap w b ps nl) (y:Lf.Stp) (hy:Small y) (hs:Lf.isStep ps nl y=true) (hm:a.eval m=.map (some b)) (hx:a.eval x=.agg #[.int .i64 (y.1:Int),.int .i64 (y.2:Int)])
  (hK:wpList Tryz.prog ops Q rest (a.put o.dst (.int .i64 (Lf.to ps y:Int))) w):wpList Tryz.prog ops Q (o :: rest) a w:=by
 refine wpList_plain hg fun K' hK'=>?_
 have hrun:=h.look hy hs
 unfold Oper.wp
 simp [execOp,hop,hm,hx,hrun,Result.andThen]
 exact hK' _ _ hK
theorem wpList_look_ok {w:World} {b:Nat} {ps:List Gr.Pr} {nl:Nat→Bool} {ops:Array Oper} {rest:List Oper} {o:Oper} {a:Act} {Q:Exit→Act→World→Prop} (hg:o.guard=none) (m x:Operand) (hop:o.op=Op.lookup 184 m x true)
  (h:ToMap w b ps nl) (y:Lf.Stp) (hy:Small y) (hm:a.eval m=.map (some b)) (hx:a.eval x=.agg #[.int .i64 (y.1:Int),.int .i64 (y.2:Int)])
  (hK:∀ c:Int,(Lf.isStep ps nl y=true→c=(Lf.to ps y:Int))→wpList Tryz.prog ops Q rest (a.put o.dst (.tuple #[.int .i64 c,.bool (Lf.isStep ps nl y)])) w):wpList Tryz.prog ops Q (o :: rest) a w:=by
 refine wpList_plain hg fun K' hK'=>?_
 obtain ⟨c,hrun,hc⟩:=h.look_ok hy
 unfold Oper.wp
 simp [execOp,hop,hm,hx,hrun,Result.andThen]
 exact hK' _ _ (hK c hc)
theorem wpList_step_put {w:World} {b i k m:Nat} {ps:List Gr.Pr} {nl:Nat→Bool} {ops:Array Oper} {rest:List Oper} {o:Oper} {a:Act} {Q:Exit→Act→World→Prop} (hg:o.guard=none) (mm x v:Operand) (hop:o.op=Op.mapUpdate 184 mm x v)
  (h:ToK w b ps nl i k) (h60:ps.length≤60) (h8:∀ p ∈ ps,p.right.length≤8) (hs:Lf.isStep ps nl (i,k)=true) (hto:Lf.to ps (i,k)=m) (hm:a.eval mm=.map (some b)) (hx:a.eval x=.agg #[.int .i64 (i:Int),.int .i64 (k:Int)]) (hv:a.eval v=.int .i64 (m:Int)) (hml:m < 9223372036854775808)
  (hK:∀ w',ToK w' b ps nl i (k + 1)→w.grownBy w' (some b)→wpList Tryz.prog ops Q rest (a.put o.dst undef) w'):wpList Tryz.prog ops Q (o :: rest) a w:=by
 have hsm:=small_step h60 h8 hs
 have hst:=step_small h60 h8 hs
 obtain ⟨D,n,h1,h2,h3,h4⟩:=h
 simp only at hst
 refine wpList_mapUpdate_own w hg mm x v _ hop _ _ lst_law Tryz.underlying184 (plainElem Tryz.prog 3) b n D hm h1 (by simp only [maxLen];omega) _ _ _ hx hv (key_step hsm) (.lit (.int .i64 (m:Int))) [] (plainElem_int Tryz.underlying3 (wf_small hml)) ?_
 intro w' hown hgrow
 exact hK w' (ToK.put (D:=D) hs hsm hown (by omega) (by rw [hto]) h1.isMap h3 h4) hgrow
end Go.Proofs.YtdfhhbncmdpoeaaGreat
namespace Go.Proofs.YtdfhhbncmdpoeaaGreat
open Go.RowKit
theorem step_info:(Tryz.prog.info? 203).map (fun i=>(i.zero,i.size,i.bytes))=some (some (.agg #[.int .i64 0,.int .i64 0]),2,16):=by kernel_rfl
namespace Lf
def outTo (ps:List Gr.Pr) (nl:Nat→Bool) (l:List Nat) (a:Nat):List Stp:=(l.take a).flatMap (stepsOf ps nl)
def outs (ps:List Gr.Pr) (nl:Nat→Bool) (m:Nat):List Stp:=(ofK ps (m:Int) ps.length).flatMap (stepsOf ps nl)
section
variable {ps:List Gr.Pr} {nl:Nat→Bool} {l:List Nat} {a m i:Nat}
theorem outTo_succ (ha:a < l.length):outTo ps nl l (a + 1)=outTo ps nl l a ++ stepsOf ps nl l[a]:=by
 unfold outTo
 rw [List.take_succ_eq_append_getElem ha,List.flatMap_append,List.flatMap_cons,List.flatMap_nil,List.append_nil]
theorem outs_is:outs ps nl m=outTo ps nl (ofK ps (m:Int) ps.length) (ofK ps (m:Int) ps.length).length:=by unfold outs outTo;rw [List.take_length]
theorem stepsOf_pre (hi:i < ps.length):stepsOf ps nl i=stPre ps nl i ps[i].right.length:=by
 unfold stepsOf stPre
 rw [List.getElem?_eq_getElem hi]
theorem outTo_len (h8:∀ p ∈ ps,p.right.length≤8) (hl:∀ x ∈ l,x < ps.length):∀ a,a≤l.length→(outTo ps nl l a).length≤8 * a
 | 0,_=>Nat.le_refl _
 | a + 1,ha=>by
  have ih:=outTo_len h8 hl a (by omega)
  have hx:=hl _ (List.getElem_mem (show a < l.length by omega))
  rw [outTo_succ (show a < l.length by omega),List.length_append,stepsOf_pre hx]
  have h1:=stPre_len (ps:=ps) (nl:=nl) (i:=l[a]'(show a < l.length by omega)) (ps[l[a]'(show a < l.length by omega)]'hx).right.length
  have h2:=h8 _ (List.getElem_mem hx)
  omega
theorem ofK_memL {ps:List Gr.Pr} {non:Int} {k i:Nat}:i ∈ ofK ps non k↔i < k∧∃ p,ps[i]?=some p∧p.left=non:=by
 unfold ofK
 rw [List.mem_filter,List.mem_range]
 constructor
 ·rintro ⟨h1,h2⟩
  refine ⟨h1,?_⟩
  cases e:ps[i]? with
  | none=>rw [e] at h2;cases h2
  | some p=>rw [e] at h2;exact ⟨p,rfl,of_decide_eq_true h2⟩
 ·rintro ⟨h1,p,h2,h3⟩
  refine ⟨h1,?_⟩
  rw [h2]
  exact decide_eq_true h3
theorem mem_outs (h0:∀ p ∈ ps,0≤p.left) {x:Stp}:x ∈ outs ps nl m↔isStep ps nl x=true∧frm ps x=m:=by
 unfold outs
 rw [List.mem_flatMap]
 constructor
 ·rintro ⟨i,hi,hx⟩
  obtain ⟨h1,p,h2,h3⟩:=ofK_memL.1 hi
  unfold stepsOf at hx
  rw [List.mem_filterMap] at hx
  obtain ⟨k,_,h⟩:=hx
  split at h
  ·rename_i hs
   injection h with h
   subst h
   refine ⟨hs,?_⟩
   unfold frm
   show (match ps[i]? with | none=>0 | some p=>p.left.toNat)=m
   rw [h2]
   show p.left.toNat=m
   omega
  ·cases h
 ·rintro ⟨hs,hf⟩
  have hm:x ∈ all ps nl:=mem_all.2 hs
  unfold all at hm
  rw [List.mem_flatMap] at hm
  obtain ⟨i,hi,hx⟩:=hm
  have hi:=List.mem_range.1 hi
  have e:x.1=i:=by
   unfold stepsOf at hx
   rw [List.mem_filterMap] at hx
   obtain ⟨k,_,h⟩:=hx
   split at h
   ·injection h with h;rw [← h]
   ·cases h
  refine ⟨i,ofK_memL.2 ⟨hi,ps[i],List.getElem?_eq_getElem hi,?_⟩,hx⟩
  unfold frm at hf
  rw [e,List.getElem?_eq_getElem hi] at hf
  have hf:ps[i].left.toNat=m:=hf
  have:=h0 _ (List.getElem_mem hi)
  omega
end
end Lf
theorem stepsOf_any (t n s:Int) (A:Option Addr) (len c:Nat) (ps:List Gr.Pr) (nl:Nat→Bool) (bm m:Nat) (w:World) (B:Nat) (hlen:len=ps.length) (hr:Prs w B A ps) (hB:B≤w.heap.size) (hok:okB ⟨t,n,s,ps⟩=true) (hmap:ToMap w bm ps nl) :
  Calls Tryz.prog 123 #[.agg #[.int .i64 t,.int .i64 n,.int .i64 s,.slice A len c],.map (some bm),.int .i64 (m:Int)] w fun e w'=>
   ∃ A' len' c',e=.returned (.slice A' len' c')∧len'=(Lf.outs ps nl m).length∧len'≤480∧w'.ownsRow w.heap.size 203 2 (.slice A' len' c') len' (stRow (Lf.outs ps nl m))∧Bl w w':=by
 obtain ⟨i0,hi,hz0,hz1,hz2⟩:=info_parts step_info
 have HL:=Lib.hid hlen;clear hlen
 have HP:Hid (∀ w',Bl w w'→Prs w' w'.heap.size A ps):=fun _ hb=>(hr.bl hB hb).more (Nat.le_trans hB hb.size)
 clear hr hB
 have HMp:=Lib.hid hmap;clear hmap
 obtain ⟨n1,n2,n3⟩:=ok_nons hok
 have hl60:len≤60:=by have:=HL.out;omega
 have HOs:=Lib.hid (Lf.outs_is (ps:=ps) (nl:=nl) (m:=m))
 have HMm:Hid (∀ x ∈ ofK ps (m:Int) ps.length,x < ps.length):=fun x hx=>(Lf.ofK_memL.1 hx).1
 have H8:Hid (∀ p ∈ ps,p.right.length≤8):=fun p hp=>by
  obtain ⟨j,hj,rfl⟩:=List.mem_iff_getElem.1 hp
  exact (ok_syms hok hj).2.1
 have hol:(ofK ps (m:Int) ps.length).length≤60:=Nat.le_trans (ofK_len ps (m:Int) ps.length) n3
 have HOl:=Lib.hid (fun a h=>Lf.outTo_len (nl:=nl) (l:=ofK ps (m:Int) ps.length) H8.out HMm.out a h)
 clear hok
 have HK0:Hid (Bk (w.alloc (.cells #[.int .i64 t,.int .i64 n,.int .i64 s,.slice A len c] 24)) w.heap.size 24 #[.int .i64 t,.int .i64 n,.int .i64 s,.slice A len c]):=Bk.new w _ _
 have HB0:Hid (Bl w (w.alloc (.cells #[.int .i64 t,.int .i64 n,.int .i64 s,.slice A len c] 24))):=(Bl.refl w).alloc _
 go_enter Tryz.func123,Tryz.ntmps123
 go_wp2_with fail
 refine (of_any t n s (m:Int) A len c ps _ _ HL.out (by omega) (HP.out _ HB0.out) (Nat.le_refl _)).mono ?_
 rintro e w1 ⟨Af,cf,rfl,hcf,hof,hbf⟩
 generalize ofK ps (m:Int) ps.length=l at *
 rw [ns_len] at *
 have HF1:=Lib.hid (RdT.of_own hof)
 have HR1:Hid (ORel w 203 2 w.heap.size 24 #[.int .i64 t,.int .i64 n,.int .i64 s,.slice A len c] 0 [] (.slice none 0 0) w1):=⟨World.ownsRow_nil _ _ _ _,HK0.out.bl hbf,HB0.out.trans hbf⟩
 clear hof hcf hbf HK0 HB0
 go_wp2_with fail
 go_loopw [7,18] (fun v i wr=>∃ k:Nat,k≤l.length∧i=.int .i64 k∧Hid (ORel w 203 2 w.heap.size 24 #[.int .i64 t,.int .i64 n,.int .i64 s,.slice A len c] (Lf.outTo ps nl l k).length (stRow (Lf.outTo ps nl l k)) v wr)∧Hid (RdT wr 3 Af (ins (ns l)))) (fun _ i _=>l.length - (intOf i).toNat)
 case atStart=>exact ⟨0,Nat.zero_le _,rfl,HR1.out,HF1.out⟩
 case round=>
  obtain ⟨k,hk,rfl,HR,HF⟩:=hrel
  by_cases hlt:k < l.length
  ·have HSuc:=Lib.hid (Lf.outTo_succ (ps:=ps) (nl:=nl) hlt)
   have HTl:=Lib.hid (HOl.out k hk)
   obtain ⟨bo,oo,rfl,hbo,f0⟩:=(HF.out.rd).int (j:=k) (by rw [ns_len];exact hlt)
   rw [show (ns l)[k]'(by rw [ns_len];exact hlt)=((l[k]:Nat):Int) by simp [ns]] at f0
   have hj:=HMm.out _ (List.getElem_mem hlt)
   generalize l[k]=i at *
   rw [Lf.stepsOf_pre hj] at HSuc
   have h8:=H8.out _ (List.getElem_mem hj)
   have g3:wr.cell? ⟨w.heap.size,3,none⟩=some (.slice A len c):=HR.out.bg.cell 3
   have glt:w.heap.size < wr.heap.size:=HR.out.bg.lt
   obtain ⟨b,off,Ax,cx,rfl,hbB,hrx,hc0,hc1⟩:=(HP.out _ HR.out.b).at_ hj
   have hi0:(0:Int)≤(i:Int):=by omega
   have hi1:(i:Int) < (len:Int):=by have:=HL.out;omega
   have hi60:i < 60:=by have:=HL.out;omega
   clear hrx hc0
   go_wp2_with fail
   clear g3 glt f0 hbo hc1 hbB
   go_loopw [7,29] (fun v i' wr=>∃ j:Nat,j≤ps[i].right.length∧i'=.int .i64 j∧Hid (ORel w 203 2 w.heap.size 24 #[.int .i64 t,.int .i64 n,.int .i64 s,.slice (some ⟨b,off,none⟩) len c] (Lf.outTo ps nl l k ++ Lf.stPre ps nl i j).length (stRow (Lf.outTo ps nl l k ++ Lf.stPre ps nl i j)) v wr)∧Hid (RdT wr 3 (some ⟨bo,oo,none⟩) (ins (ns l)))) (fun _ i' _=>ps[i].right.length - (intOf i').toNat)
   case atStart=>exact ⟨0,Nat.zero_le _,rfl,HR.out.is (by rw [Lf.stPre_zero,List.append_nil]) (by rw [Lf.stPre_zero,List.append_nil]),HF.out⟩
   case round=>
    obtain ⟨j,hjl,rfl,HRj,HFj⟩:=hrel
    by_cases hjt:j < ps[i].right.length
    ·have HYs:=Lib.hid (fun h=>Lf.stPre_yes (ps:=ps) (nl:=nl) (i:=i) (k:=j) h)
     have HNs:=Lib.hid (fun h=>Lf.stPre_no (ps:=ps) (nl:=nl) (i:=i) (k:=j) h)
     have HPl:=Lib.hid (Lf.stPre_len (ps:=ps) (nl:=nl) (i:=i) j)
     have HTo:=Lib.hid HTl.out
     have HSt:=Lib.hid (Bk.new wr 203 #[.int .i64 i,.int .i64 j])
     have HR6:=Lib.hid (HRj.out.alloc (.cells #[.int .i64 i,.int .i64 j] 203))
     have HF6:=Lib.hid (HFj.out.keep ((KeepT.refl _ _).alloc (.cells #[.int .i64 i,.int .i64 j] 203)))
     have HM6:=Lib.hid (HMp.out.bl HR6.out.b)
     have HSm:Hid (Small (i,j)):=⟨by show i < _;omega,by show j < _;omega⟩
     generalize Lf.outTo ps nl l k=lt at HRj HR6 HTo ⊢
     cases hst:Lf.isStep ps nl (i,j) with
     | false=>
      have HX:=Lib.hid (HR6.out.is (m:=(lt ++ Lf.stPre ps nl i (j + 1)).length) (ys:=stRow (lt ++ Lf.stPre ps nl i (j + 1))) (by rw [HNs.out hst]) (by rw [HNs.out hst]))
      go_wp2_with (at_lookup;refine wpList_look_ok rfl (.tmp 36) (.tmp 37) rfl HM6.out (i,j) HSm.out rfl rfl ?_;rw [hst];intro c5 _)
      go_roundw
      case rel=>exact ⟨j + 1,by omega,by go_num,HX.out,HF6.out⟩
      case measure=>simp [intOf];omega
     | true=>
      have HNx:=Lib.hid (HYs.out hst)
      generalize hlp:Lf.stPre ps nl i j=lp at *
      have hlq:(lt ++ lp).length≤500:=by
       have h1:lt.length≤8 * k:=HTo.out
       have h2:lp.length≤j:=HPl.out
       rw [List.length_append];omega
      have HLp:=Lib.hid hlp;clear hlp
      have hlen2:(lt ++ (lp ++ [(i,j)])).length=(lt ++ lp).length + 1:=by simp [List.length_append];omega
      have hrow2:stRow (lt ++ (lp ++ [(i,j)]))=stRow (lt ++ lp) ++ [.int .i64 i,.int .i64 j]:=by rw [← List.append_assoc,stRow_snoc]
      have HN2:=Lib.hid hlen2;have HW2:=Lib.hid hrow2
      clear hlen2 hrow2
      generalize (lt ++ lp).length=nn at *
      generalize stRow (lt ++ lp)=rw_ at *
      have HOw:=Lib.hid HR6.out.own
      have HMore:=Lib.hid (fun (w2:World) (v2:Value) (o:Obj) (m:Nat) (ys:List Value) ho hg=>HR6.out.more (w2:=w2) (v2:=v2) (o:=o) (m:=m) (ys:=ys) ho hg (by decide))
      have HKeep:=Lib.hid (fun (w2:World) (o:Obj) hg=>HF6.out.keep (HR6.out.rows (w2:=w2) (o:=o) hg (by decide)))
      have hsz:w.heap.size≤wr.heap.size:=HRj.out.b.size
      go_wp2_with (first
       | (at_lookup;refine wpList_look_ok rfl (.tmp 36) (.tmp 37) rfl HM6.out (i,j) HSm.out rfl rfl ?_;rw [hst];intro c5 _)
       | (at_builtin;refine wpList_append_own _ rfl (.tmp 42) (.tmp 44) 186 rfl w.heap.size 203 i0 (.agg #[.int .i64 0,.int .i64 0]) 2 16 Tryz.underlying186 hi hz0 hz1 hz2 rfl (by decide) _ _ _ rfl (HOw.out.alloc _) ⟨wr.heap.size + 1,0,none⟩ 1 1 [.int .i64 (i:Int),.int .i64 (j:Int)] rfl rfl (by have h:=cells_new (wr.alloc (.cells #[.int .i64 i,.int .i64 j] 203)) #[.int .i64 i,.int .i64 j] 203;rw [World.size_alloc] at h;exact h) (by simp [Value.oneCell']) (by simp only [maxLen];omega) (by omega) (by simp;omega) ?_;intro v2 w2 hown2 hg2 _;have HY:=Lib.hid (HMore.out _ _ _ _ _ hown2 hg2);have HZ:=Lib.hid (HKeep.out _ _ hg2);clear hown2 hg2))
      go_roundw
      case rel=>exact ⟨j + 1,by omega,by go_num,by rw [HNx.out];exact HY.out.is HN2.out HW2.out,HZ.out⟩
      case measure=>simp [intOf];omega
    ·have HX:=Lib.hid (HRj.out.is (m:=(Lf.outTo ps nl l (k + 1)).length) (ys:=stRow (Lf.outTo ps nl l (k + 1))) (by rw [HSuc.out,show j=ps[i].right.length by omega]) (by rw [HSuc.out,show j=ps[i].right.length by omega]))
     go_wp2_with fail
     go_roundw
     case rel=>exact ⟨k + 1,by omega,by go_num,HX.out,HFj.out⟩
     case measure=>simp [intOf];omega
  ·have hke:k=l.length:=by omega
   have HE:=Lib.hid (HR.out.is (m:=(Lf.outs ps nl m).length) (ys:=stRow (Lf.outs ps nl m)) (by rw [HOs.out,hke]) (by rw [HOs.out,hke]))
   have hle:(Lf.outs ps nl m).length≤480:=by
    have:=HOl.out l.length (Nat.le_refl _)
    rw [HOs.out];omega
   obtain ⟨Av,cv,hv,_⟩:=own_form HE.out.own
   subst hv
   clear hke HR
   go_wp2_with fail
   go_ret
   exact ⟨_,_,_,rfl,rfl,hle,HE.out.own,HE.out.b⟩
theorem clip_any (A:Option Addr) (len c:Nat) (w:World) (hc:len≤c):Calls Tryz.prog 124 #[.slice A len c] w fun e w'=>e=.returned (.slice A len len)∧w'=w:=by
 go_enter Tryz.func124,Tryz.ntmps124
 go_wp2_with fail
 go_ret
 exact ⟨rfl,rfl⟩
end Go.Proofs.YtdfhhbncmdpoeaaGreat
namespace Go.Proofs.YtdfhhbncmdpoeaaGreat
open Go.RowKit
def QRow (w:World):List Value→List (List Lf.Stp)→Prop
 | [],[]=>True
 | c :: cs,l :: ls=>(∃ A d,c=.slice A l.length d∧l.length≤d∧RdT w 203 A (stRow l)∧(l=[]→A=none))∧QRow w cs ls
 | [],_ :: _=>False
 | _ :: _,[]=>False
theorem QRow.keep {w w':World} (hk:KeepT 203 w w'):∀ {cs:List Value} {Q:List (List Lf.Stp)},QRow w cs Q→QRow w' cs Q
 | [],[],_=>trivial
 | _ :: _,_ :: _,⟨⟨A,d,h1,h2,h3,h4⟩,h⟩=>⟨⟨A,d,h1,h2,h3.keep hk,h4⟩,QRow.keep hk h⟩
 | [],_ :: _,h=>h.elim
 | _ :: _,[],h=>h.elim
theorem QRow.len {w:World}:∀ {cs:List Value} {Q:List (List Lf.Stp)},QRow w cs Q→cs.length=Q.length
 | [],[],_=>rfl
 | _ :: cs,_ :: Q,⟨_,h⟩=>by rw [List.length_cons,List.length_cons,QRow.len h]
 | [],_ :: _,h=>h.elim
 | _ :: _,[],h=>h.elim
theorem QRow.snoc {w:World} {l:List Lf.Stp} {A:Option Addr} {n d:Nat} (hn:n=l.length) (hd:n≤d) (hr:RdT w 203 A (stRow l)) (h0:l≠[]):∀ {cs:List Value} {Q:List (List Lf.Stp)},QRow w cs Q→QRow w (cs ++ [.slice A n d]) (Q ++ [l])
 | [],[],_=>by subst hn;exact ⟨⟨A,d,rfl,hd,hr,fun e=>absurd e h0⟩,trivial⟩
 | _ :: _,_ :: _,⟨h1,h⟩=>⟨h1,QRow.snoc hn hd hr h0 h⟩
 | [],_ :: _,h=>h.elim
 | _ :: _,[],h=>h.elim
theorem run_append_clip {P:Program} (w:World) (t ty e:TypeId) (i:TypeInfo) (z:Value) (size bytes:Nat) (ht:P.underlying t=some (.slice e)) (hi:P.info? e=some i) (hz:i.zero=some z)
  (hsize:i.size=size) (hby:i.bytes=bytes) (hzs:z.cells.size=size) (hpos:0 < size) (B:Nat) (A:Option Addr) (n:Nat) (olds:List Value) (hr:Rd w B A olds) (hlo:olds.length=n * size) (h0:n=0→A=none)
  (ad:Addr) (c:Nat) (news:List Value) (hl:news.length=1 * size) (hnews:∀ j u,news[j]?=some u→w.cell? (ad.add j)=some u) (h1:∀ u ∈ news,u.oneCell'=true)
  (h63:n + 1≤maxLen) (hbytes:(n + 1) * bytes≤140737488355328) :
  ∃ v' w',(Builtin.append_ #[t,t] ty #[.slice A n n,.slice (some ad) 1 c]).run P w=.ok v' w'∧w'.ownsRow w.heap.size e size v' (n + 1) (olds ++ news)∧w.grownBy w' none:=by
 rcases Nat.eq_zero_or_pos n with hn | hn
 ·have hA:=h0 hn
  subst hn hA
  have ho:olds=[]:=List.eq_nil_of_length_eq_zero (by rw [hlo];simp)
  subst ho
  obtain ⟨v',w',hrun,h2,h3,_⟩:=run_append_own (P:=P) w w.heap.size t ty e i z size bytes ht hi hz hsize hby hzs hpos (.slice none 0 0) 0 [] (World.ownsRow_nil _ _ _ _) ad 1 c news hl hnews h1 h63 hbytes (Nat.le_refl _)
  exact ⟨v',w',hrun,h2,h3⟩
 ·obtain ⟨b,off,rfl,_,hc⟩:=hr (by rw [hlo];exact Nat.mul_pos hn hpos)
  exact run_append_arg_grows (P:=P) w t ty e i z size bytes ht hi hz hsize hby hzs hpos ⟨b,off,none⟩ n n olds hlo (fun j u hu=>by rw [Addr.add_lit];exact hc j u hu) ad 1 c news hl hnews (by omega) h63 hbytes
theorem step_append_clip {P:Program} {w:World} {ops:Array Oper} {o:Oper} {a:Act} {K:Act→World→Prop} {Q:Exit→Act→World→Prop} {E:Prop} (hgd:o.guard=none) (s x:Operand) (t:TypeId)
  (ho:o.op=.call { callee:=.builtin .append,args:=#[s,x],argTypes:=#[t,t] })
  (e:TypeId) (i:TypeInfo) (z:Value) (size bytes:Nat) (ht:P.underlying t=some (.slice e)) (hi:P.info? e=some i) (hz:i.zero=some z)
  (hsize:i.size=size) (hby:i.bytes=bytes) (hzs:z.cells.size=size) (hpos:0 < size)
  (B:Nat) (A:Option Addr) (n:Nat) (olds:List Value) (hs:a.eval s=.slice A n n) (hr:Rd w B A olds) (hlo:olds.length=n * size) (h0:n=0→A=none)
  (ad:Addr) (c:Nat) (news:List Value) (hx:a.eval x=.slice (some ad) 1 c) (hl:news.length=1 * size) (hnews:∀ j u,news[j]?=some u→w.cell? (ad.add j)=some u) (h1:∀ u ∈ news,u.oneCell'=true)
  (h63:n + 1≤maxLen) (hbytes:(n + 1) * bytes≤140737488355328)
  (h:∀ v' w',w'.ownsRow w.heap.size e size v' (n + 1) (olds ++ news)→w.grownBy w' none→K (a.put o.dst v') w') :
  if Region.wanted o (yielded ops a.tmps)=true then Oper.wp P o a w K Q else E:=by
 have hw:Region.wanted o (yielded ops a.tmps)=true:=by simp [Region.wanted,hgd]
 rw [if_pos hw]
 obtain ⟨v',w',hrun,h2,h3⟩:=run_append_clip (P:=P) w t o.type e i z size bytes ht hi hz hsize hby hzs hpos B A n olds hr hlo h0 ad c news hl hnews h1 h63 hbytes
 unfold Oper.wp execOp
 simp only [ho,resolve,invoke,builtin,Sem.run_bind,Sem.run_pure,Result.andThen_ok,List.map_toArray,List.map_cons,List.map_nil,hs,hx,hrun]
 exact h v' w' h2 h3
theorem KeepT.win {w w':World} {base:Nat} {e t:TypeId} {v:Value} {xs:List Value} (hw:Win w base e v xs) (hg:w.grownBy w' v.ownBlock) (hne:e≠t):KeepT t w w':=fun b cs fr hb=>by
 refine (hg.block b (heap_lt hb) ?_).trans hb
 intro h1
 obtain ⟨g,off,cap,cur,rfl,_,hB,_⟩:=hw
 have:b=g:=by simpa [Value.ownBlock] using h1
 subst this
 unfold Bk at hB
 rw [hB] at hb
 injection hb with hb
 injection hb with _ h2
 exact hne h2
theorem bit_test {z:Nat} (k:Nat) (hz:z < 4294967296):bits .and .u32 ((z:Int) / 2 ^ k) 1=(((z.testBit k).toNat:Nat):Int):=by
 have e:(z:Int) / 2 ^ k=((z / 2 ^ k:Nat):Int):=by rw [Int.natCast_ediv,Int.natCast_pow];rfl
 have hl:z / 2 ^ k < 4294967296:=Nat.lt_of_le_of_lt (Nat.div_le_self _ _) hz
 have h1:=u32_and_nat (z / 2 ^ k) 1 hl (by decide)
 rw [e]
 rw [Nat.and_one_is_mod,Lf.bit_shift] at h1
 exact h1
theorem bit_put {z k:Nat} (hz:z < 4294967296) (hk:k < 32):bits .or .u32 (z:Int) ((2:Int) ^ k % 4294967296)=((z ||| 2 ^ k:Nat):Int):=by
 have h2:2 ^ k < 4294967296:=Nat.pow_lt_pow_right (a:=2) (m:=k) (n:=32) (by decide) hk
 have e:(2:Int) ^ k % 4294967296=((2 ^ k:Nat):Int):=by
  have e:(2:Int) ^ k=((2 ^ k:Nat):Int):=(Int.natCast_pow 2 k).symm
  rw [e]
  exact Int.emod_eq_of_lt (Int.natCast_nonneg _) (Int.ofNat_lt.2 h2)
 rw [e,u32_or_nat z (2 ^ k) hz h2]
end Go.Proofs.YtdfhhbncmdpoeaaGreat
namespace Go.Proofs.YtdfhhbncmdpoeaaGreat
open Go.RowKit
def WayPost (ps:List Gr.Pr) (nl:Nat→Bool) (m:Nat) (w:World) (e:Ending) (w':World):Prop:=
 ((¬ Lf.LeftRec ps nl m∧e=.returned (.slice none 0 0))∨
  ∃ (g cap:Nat) (l:List Lf.Stp),Lf.Way ps nl m l m∧l≠[]∧l.length≤25∧e=.returned (.slice (some ⟨g,0,none⟩) l.length cap)∧Rd w' w'.heap.size (some ⟨g,0,none⟩) (stRow l))∧Bl w w'
theorem ways_info:(Tryz.prog.info? 186).map (fun i=>(i.zero,i.size,i.bytes))=some (some (.slice none 0 0),1,24):=by kernel_rfl
theorem way_any (t n s:Int) (A:Option Addr) (len c:Nat) (ps:List Gr.Pr) (nl:Nat→Bool) (bm m:Nat) (w:World) (B:Nat) (hlen:len=ps.length) (hr:Prs w B A ps) (hB:B≤w.heap.size) (hok:okB ⟨t,n,s,ps⟩=true) (hm:m < n.toNat) (hmap:ToMap w bm ps nl) :
  Calls Tryz.prog 106 #[.agg #[.int .i64 t,.int .i64 n,.int .i64 s,.slice A len c],.map (some bm),.int .i64 (m:Int)] w (WayPost ps nl m w):=by
 obtain ⟨i0,hi,hz0,hz1,hz2⟩:=info_parts step_info
 obtain ⟨j0,gi,gz0,gz1,gz2⟩:=info_parts ways_info
 have HL:=Lib.hid hlen;clear hlen
 have HP:Hid (∀ w',Bl w w'→Prs w' w'.heap.size A ps):=fun _ hb=>(hr.bl hB hb).more (Nat.le_trans hB hb.size)
 clear hr hB
 have HMp:=Lib.hid hmap;clear hmap
 have HOK:=Lib.hid hok
 obtain ⟨n1,n2,n3⟩:=ok_nons hok
 obtain ⟨N,rfl⟩:∃ N:Nat,n=(N:Int):=⟨n.toNat,by omega⟩
 have hmN:m < N:=by omega
 have h8:∀ p ∈ ps,p.right.length≤8:=fun p hp=>by
  obtain ⟨j,hj,rfl⟩:=List.mem_iff_getElem.1 hp
  exact (ok_syms hok hj).2.1
 have h0:∀ p ∈ ps,0≤p.left:=fun p hp=>by
  obtain ⟨j,hj,rfl⟩:=List.mem_iff_getElem.1 hp
  exact (ok_syms hok hj).1.1
 have HSm:Hid (∀ x,Lf.isStep ps nl x=true→Small x):=fun x hx=>small_step n3 h8 hx
 have HTo:Hid (∀ x,Lf.isStep ps nl x=true→Lf.to ps x < N):=fun x hx=>(Lf.step_nums (g:=⟨t,(N:Int),s,ps⟩) ((okB_iff _).1 hok) hx).2
 have HOu:Hid (∀ a x,x ∈ Lf.outs ps nl a↔Lf.isStep ps nl x=true∧Lf.frm ps x=a):=fun a x=>Lf.mem_outs h0
 clear hok hm h8 h0 n1
 have HK0:Hid (Bk ((w.alloc (.cells #[.int .i64 t,.int .i64 N,.int .i64 s,.slice A len c] 24)).alloc (.cells #[.slice none 0 0] 186)) w.heap.size 24 #[.int .i64 t,.int .i64 N,.int .i64 s,.slice A len c]):=(Bk.new w _ _).alloc _
 have HB0:Hid (Bl w ((w.alloc (.cells #[.int .i64 t,.int .i64 N,.int .i64 s,.slice A len c] 24)).alloc (.cells #[.slice none 0 0] 186))):=((Bl.refl w).alloc _).alloc _
 have HW0:Hid (Win ((w.alloc (.cells #[.int .i64 t,.int .i64 N,.int .i64 s,.slice A len c] 24)).alloc (.cells #[.slice none 0 0] 186)) (w.heap.size + 1) 186 (.slice (some ⟨w.heap.size + 1,0,none⟩) 1 1) [.slice none 0 0]):=by
  have h:=Win.one (base:=w.heap.size + 1) (w.alloc (.cells #[.int .i64 t,.int .i64 N,.int .i64 s,.slice A len c] 24)) 186 (.slice none 0 0) (by simp)
  rw [World.size_alloc] at h
  exact h
 have HQ0:Hid (QRow ((w.alloc (.cells #[.int .i64 t,.int .i64 N,.int .i64 s,.slice A len c] 24)).alloc (.cells #[.slice none 0 0] 186)) [.slice none 0 0] [[]]):=⟨⟨none,0,rfl,Nat.le_refl _,RdT.nil,fun _=>rfl⟩,trivial⟩
 have HF0:Hid (Lf.Bfs ps nl m none [[]] (fun _=>false)):=Lf.Bfs.begin_
 have hz:(0:Nat).testBit=fun _=>false:=by funext k;exact Nat.zero_testBit k
 have HU0:Hid (2 * Lf.unmet N (0:Nat).testBit + 1≤49):=by have:=Lf.unmet_le N (0:Nat).testBit;show _≤_;omega
 have HN0:Hid (∀ l ∈ ([[]]:List (List Lf.Stp)),l.length + Lf.unmet N (0:Nat).testBit≤N):=fun l hl=>by rw [List.mem_singleton.1 hl];have:=Lf.unmet_le N (0:Nat).testBit;show 0 + _≤_;omega
 rw [← hz] at HF0
 clear hz
 go_enter Tryz.func106,Tryz.ntmps106
 go_wp2_with fail
 go_loopg [7,8] 49 (fun g v u wr=>∃ (Q:List (List Lf.Stp)) (cs:List Value) (Aq:Option Addr) (lq cq z:Nat),v=.slice Aq lq cq∧u=.int .u32 (z:Int)∧Hid (z < 4294967296)∧Hid (Lf.Bfs ps nl m none Q z.testBit)∧Hid (Win wr (w.heap.size + 1) 186 (.slice Aq lq cq) cs)∧Hid (QRow wr cs Q)∧
  Hid (2 * Lf.unmet N z.testBit + Q.length≤g∧g≤49)∧Hid (∀ l ∈ Q,l.length + Lf.unmet N z.testBit≤N)∧Hid (Bk wr w.heap.size 24 #[.int .i64 t,.int .i64 N,.int .i64 s,.slice A len c])∧Hid (Bl w wr))
 case atStart=>exact ⟨[[]],_,_,_,_,0,rfl,rfl,(show 0 < 4294967296 by decide),HF0.out,HW0.out,HQ0.out,⟨HU0.out,Nat.le_refl _⟩,HN0.out,HK0.out,HB0.out⟩
 case round=>
  obtain ⟨Q,cs,Aq,lq,cq,z,rfl,rfl,HZ,HF,HW,HQ,HG,HN,HK,HB⟩:=hrel
  cases Q with
  | nil=>
   obtain rfl:cs=[]:=List.eq_nil_of_length_eq_zero HQ.out.len
   have hz:lq=0:=by
    obtain ⟨g',off,cap,cu,he,_⟩:=HW.out
    cases he
    rfl
   subst hz
   have HX:=Lib.hid (Lf.Bfs.none_left HF.out)
   go_wp2_with fail
   go_ret
   exact ⟨.inl ⟨HX.out,rfl⟩,HB.out⟩
  | cons l Q=>
   obtain ⟨c0,cs,rfl⟩:∃ c0 r,cs=c0 :: r:=by
    cases cs with
    | nil=>exact HQ.out.elim
    | cons c0 r=>exact ⟨c0,r,rfl⟩
   obtain ⟨⟨A0,d0,rfl,hd0,hr0,ha0⟩,hq0⟩:=HQ.out
   obtain ⟨hf0,hw0⟩:=HF.out.pop
   have hW:=HW.out
   obtain ⟨gq,oq,cap,hv,hc,hgl,hcap⟩:=Win.head hW
   cases hv
   have HWp:=Lib.hid (Win.pop hW)
   have hlN:=HN.out l (by simp)
   have HN1:Hid (∀ l ∈ Q,l.length + Lf.unmet N z.testBit≤N):=fun x hx=>HN.out x (by simp [hx])
   have hqn:=hq0.len
   have HG1:Hid (2 * Lf.unmet N z.testBit + (Q.length + 1)≤gk∧gk≤49):=HG.out
   generalize hAp:(if cq=1 then (⟨gq,oq,none⟩:Addr) else ⟨gq,oq + 1,none⟩)=Ap at HWp
   have hsl:(Instr.slice 204 (.slice (some ⟨gq,oq,none⟩) (cs.length + 1) cq) (some (.int .i64 1)) none none).run Tryz.prog wr=.ok (.slice (some Ap) cs.length (cq - 1)) wr:=by
    have h:=run_slice_tail (P:=Tryz.prog) (t:=204) (e:=186) (size:=1) Tryz.underlying204 (by kernel_rfl) (some ⟨gq,oq,none⟩) (cs.length + 1) cq 1 1 rfl (by omega) wr
    rw [h,← hAp]
    congr 2
    split <;> rfl
   have HD0:=Lib.hid hd0;have HR0:=Lib.hid hr0;have HA0:=Lib.hid ha0;have HQ1:=Lib.hid hq0;have HF1:=Lib.hid hf0;have HWy:=Lib.hid hw0
   have HQn:=Lib.hid hqn
   clear hd0 hr0 ha0 hq0 hf0 hw0 hW HW HQ HF HN HG hAp hqn
   have hn1:(0:Int) < ((cs.length + 1:Nat):Int):=by omega
   have hn2:(0:Int) < (cs.length:Int) + 1:=by omega
   have HFin:Hid (∀ x,l[l.length - 1]?=some x→Lf.fin ps m l=Lf.to ps x):=fun x hx=>by unfold Lf.fin;rw [List.getLast?_eq_getElem?,hx]
   have HEmp:Hid (l.length=0→l=[]):=List.eq_nil_of_length_eq_zero
   generalize hll:l.length=ll at *
   have HLl:=Lib.hid hll;clear hll
   have k0:wr.cell? ⟨w.heap.size,0,none⟩=some (.int .i64 t):=HK.out.cell 0
   have k1:wr.cell? ⟨w.heap.size,1,none⟩=some (.int .i64 (N:Int)):=HK.out.cell 1
   have k2:wr.cell? ⟨w.heap.size,2,none⟩=some (.int .i64 s):=HK.out.cell 2
   have k3:wr.cell? ⟨w.heap.size,3,none⟩=some (.slice A len c):=HK.out.cell 3
   have klt:w.heap.size < wr.heap.size:=HK.out.lt
   have HMr:=Lib.hid (HMp.out.bl HB.out)
   have way1:∀ (a:Nat),Lf.fin ps m l=a→Calls Tryz.prog 123 #[.agg #[.int .i64 t,.int .i64 N,.int .i64 s,.slice A len c],.map (some bm),.int .i64 (a:Int)] wr fun e w'=>
     ∃ (S:List Lf.Stp) (A':Option Addr) (ln c':Nat),e=.returned (.slice A' ln c')∧Hid (ln=S.length)∧Hid (∀ x,x ∈ S↔Lf.isStep ps nl x=true∧Lf.frm ps x=Lf.fin ps m l)∧ln≤480∧Hid (RdT w' 203 A' (stRow S))∧Hid (Bl wr w'):=by
    intro a ha
    refine (stepsOf_any t N s A len c ps nl bm a _ _ HL.out (HP.out _ HB.out) (Nat.le_refl _) HOK.out HMr.out).mono ?_
    rintro e w1 ⟨A1,ln1,c1,rfl,hn1,h480,ho1,hb1⟩
    exact ⟨_,A1,ln1,c1,rfl,hn1,by rw [ha];exact HOu.out a,h480,RdT.of_own ho1,hb1⟩
   have HWay:=Lib.hid way1
   clear way1
   go_upto_if 24 with fail
   go_cut [10] (fun s10 wx=>s10=.int .i64 (Lf.fin ps m l:Nat)∧wx=wr)
   case first=>
    cases ll with
    | zero=>
     have HXf:Hid (Lf.fin ps m l=m):=by rw [HEmp.out rfl];rfl
     go_wp2_with fail
     go_meet
     exact ⟨by rw [HXf.out],rfl⟩
    | succ k=>
     have hkl:k < l.length:=by have:=HLl.out;omega
     obtain ⟨b0,o0,rfl,hb0,q0,q1⟩:=HR0.out.rd.stp hkl
     have HXs:=Lib.hid (Lf.way_steps HWy.out _ (List.getElem_mem hkl))
     have HXf:Hid (Lf.fin ps m l=Lf.to ps l[k]):=HFin.out _ (List.getElem?_eq_getElem hkl)
     have HXm:=Lib.hid (HSm.out _ HXs.out)
     generalize l[k]=x at *
     obtain ⟨xp,xd⟩:=x
     simp only at q0 q1
     have hk1:(0:Int) < ((k + 1:Nat):Int):=by omega
     go_wp2_with (at_lookup;refine wpList_look rfl (.tmp 25) (.tmp 31) rfl HMr.out (xp,xd) HXm.out HXs.out rfl rfl ?_)
     go_meet
     exact ⟨by rw [HXf.out],rfl⟩
   case rest=>
    obtain ⟨rfl,rfl⟩:=hcut
    have HA1:Hid (ll=0→A0=none):=fun h=>HA0.out (HEmp.out h)
    clear HFin HEmp HA0 HMr
    go_wp2_with fail
    refine (HWay.out _ rfl).mono ?_
    rintro e w1 ⟨S,A1,ln1,c1,rfl,HSl,HS,h480,HRs,HB1⟩
    have HK1:=Lib.hid (HK.out.bl HB1.out)
    have HBw1:=Lib.hid (HB.out.trans HB1.out)
    have HW1:=Lib.hid (HWp.out.bl HB1.out)
    have HQ2:=Lib.hid (HQ1.out.keep (.of_bl HB1.out))
    have HR1:=Lib.hid (HR0.out.keep (.of_bl HB1.out))
    clear k0 k1 k2 k3 klt HWay HB HK HWp HQ1 HR0 HB1
    obtain ⟨G,hG⟩:∃ G,G=gk:=⟨gk,rfl⟩
    rw [← hG] at HG1
    go_wp2_with fail
    go_loopg [7,8,40] ln1 (fun g v u i wy=>∃ (Q:List (List Lf.Stp)) (cs:List Value) (Aq:Option Addr) (lq cq z j:Nat),j + g=ln1∧v=.slice Aq lq cq∧u=.int .u32 (z:Int)∧i=.int .i64 (j:Int)∧Hid (z < 4294967296)∧Hid (Lf.Bfs ps nl m (some (Lf.fin ps m l)) Q z.testBit)∧
     Hid (∀ (i:Nat) (h:i < S.length),i < j→Lf.Met ps m z.testBit S[i])∧Hid (Win wy (w.heap.size + 1) 186 (.slice Aq lq cq) cs)∧Hid (QRow wy cs Q)∧Hid (2 * Lf.unmet N z.testBit + (Q.length + 1)≤G∧G≤49)∧Hid (∀ l ∈ Q,l.length + Lf.unmet N z.testBit≤N)∧Hid (l.length + Lf.unmet N z.testBit≤N)∧Hid (Bl w wy)∧Hid (KeepT 203 w1 wy)∧Hid (Bk wy w.heap.size 24 #[.int .i64 t,.int .i64 N,.int .i64 s,.slice A len c]))
    case atStart=>exact ⟨Q,cs,_,_,_,z,0,by omega,rfl,rfl,rfl,HZ.out,HF1.out,fun i h hi=>absurd hi (Nat.not_lt_zero i),HW1.out,HQ2.out,HG1.out,HN1.out,(by rw [HLl.out];exact hlN),HBw1.out,KeepT.refl _ _,HK1.out⟩
    case round=>
     obtain ⟨Q,cs,Aq,lq,cq,z,j,hjg,rfl,rfl,rfl,HZ,HF,HMt,HW,HQ,HG,HN,HlN,HBy,HKt,HKy⟩:=hrel
     cases gk with
     | zero=>
      have hjz:¬ ((j:Int) < (ln1:Int)):=by omega
      have HX:=Lib.hid (HF.out.close (fun x h1 h2=>by
       have hx:x ∈ S:=(HS.out x).2 ⟨h1,h2⟩
       obtain ⟨i,hi,rfl⟩:=List.mem_iff_getElem.1 hx
       exact HMt.out i hi (by have:=HSl.out;omega)))
      go_wp2_with fail
      go_roundg (2 * Lf.unmet N z.testBit + Q.length)
      case measure=>have h:=HG.out;omega
      case rel=>exact ⟨Q,cs,_,_,_,z,rfl,rfl,HZ.out,HX.out,HW.out,HQ.out,⟨Nat.le_refl _,by have h:=HG.out;omega⟩,HN.out,HKy.out,HBy.out⟩
     | succ g=>
      have hjl:j < ln1:=by omega
      have hjz:(j:Int) < (ln1:Int):=by omega
      have hjS:j < S.length:=by have:=HSl.out;omega
      have HMy:=Lib.hid (HMp.out.bl HBy.out)
      have HRy:=Lib.hid (HR1.out.keep HKt.out)
      obtain ⟨bs,os,rfl,hbs,p0,p1⟩:=(HRs.out.keep HKt.out).rd.stp hjS
      have hx:=(HS.out S[j]).1 (List.getElem_mem hjS)
      have HWy2:Hid (Lf.Way ps nl m (l ++ [S[j]]) (Lf.to ps S[j])):=Lf.way_snoc HWy.out hx.1 hx.2
      have HXs2:=Lib.hid hx.1
      have HXm2:=Lib.hid (HSm.out _ hx.1)
      have hxN:=HTo.out _ hx.1
      have HMn:Hid (∀ (been:Nat→Bool),(∀ (i:Nat) (h:i < S.length),i < j→Lf.Met ps m been S[i])→Lf.Met ps m been S[j]→∀ (i:Nat) (h:i < S.length),i < j + 1→Lf.Met ps m been S[i]):=fun been h1 h2 i h h3=>by
       rcases Nat.lt_or_ge i j with h4 | h4
       ·exact h1 i h h4
       ·obtain rfl:i=j:=by omega
        exact h2
      generalize S[j]=y at *
      obtain ⟨yp,yd⟩:=y
      simp only at p0 p1
      clear hx hjS
      generalize htx:Lf.to ps (yp,yd)=tx at *
      have HTx:=Lib.hid htx
      have HSt:=Lib.hid (Bk.new wr 203 #[.int .i64 yp,.int .i64 yd])
      have HBs:Hid (Bl wr (wr.alloc (.cells #[.int .i64 yp,.int .i64 yd] 203))):=(Bl.refl wr).alloc _
      clear htx
      have HPut:Hid (tx≠m→z.testBit tx=false→∃ z2:Nat,Hid (bits .or .u32 (z:Int) ((2:Int) ^ tx % 4294967296)=(z2:Int))∧Hid (z2 < 4294967296)∧Hid (Lf.Bfs ps nl m (some (Lf.fin ps m l)) (Q ++ [l ++ [(yp,yd)]]) z2.testBit)∧
        Hid (∀ (i:Nat) (h:i < S.length),i < j + 1→Lf.Met ps m z2.testBit S[i])∧Hid (∀ x ∈ Q ++ [l ++ [(yp,yd)]],x.length + Lf.unmet N z2.testBit≤N)∧Hid (l.length + Lf.unmet N z2.testBit≤N)∧Hid (2 * Lf.unmet N z2.testBit + ((Q ++ [l ++ [(yp,yd)]]).length + 1)≤G∧G≤49)):=by
       intro htm hbit
       have hBn:∀ k,(z ||| 2 ^ tx).testBit k=(z.testBit k || decide (k=tx)):=Lf.bit_or z tx
       have hUn:Lf.unmet N (z ||| 2 ^ tx).testBit < Lf.unmet N z.testBit:=Lf.unmet_lt hxN hbit hBn
       have h1:=HlN.out
       have h2:=HG.out
       refine ⟨z ||| 2 ^ tx,bit_put HZ.out (by omega),Lf.bit_lt HZ.out (by omega),HF.out.push (by rw [HTx.out];exact HWy2.out) (by rw [HTx.out];exact hBn),
        HMn.out (z ||| 2 ^ tx).testBit (fun i h h2=>⟨(HMt.out i h h2).1,by rw [hBn,(HMt.out i h h2).2];rfl⟩) ⟨by rw [HTx.out];exact htm,by rw [HTx.out,hBn,decide_eq_true rfl,Bool.or_true]⟩,?_,?_,?_,h2.2⟩
       ·intro x hx
        rcases List.mem_append.1 hx with hx | hx
        ·have:=HN.out x hx;omega
        ·rw [List.mem_singleton.1 hx,List.length_append]
         show l.length + 1 + _≤_
         omega
       ·show _≤_;omega
       ·rw [List.length_append];show _ + (_ + 1 + 1)≤_;omega
      go_upto_region 10 with fail
      go_cut [13] (fun s13 wx=>∃ (g3 d3:Nat),s13=.slice (some ⟨g3,0,none⟩) (ll + 1) d3∧Hid (RdT wx 203 (some ⟨g3,0,none⟩) (stRow (l ++ [(yp,yd)])))∧Hid (ll + 1≤d3)∧Hid (Bl wr wx)∧Hid (Bk wx wr.heap.size 203 #[.int .i64 yp,.int .i64 yd]))
      case first=>
       have tk1:True:=trivial
       have HCn:Hid (∀ j u,[Value.int .i64 (yp:Int),.int .i64 (yd:Int)][j]?=some u→((wr.alloc (.cells #[.int .i64 yp,.int .i64 yd] 203)).drew.alloc (.cells #[.int .i64 yp,.int .i64 yd] 203)).cell? ((⟨wr.heap.size + 1,0,none⟩:Addr).add j)=some u):=by
        have h:=cells_new (wr.alloc (.cells #[.int .i64 yp,.int .i64 yd] 203)).drew #[.int .i64 yp,.int .i64 yd] 203
        have e:(wr.alloc (.cells #[.int .i64 yp,.int .i64 yd] 203)).drew.heap.size=wr.heap.size + 1:=World.size_alloc _ _
        rw [e] at h
        exact h
       have HRc:=Lib.hid (HRy.out.keep (.of_bl ((HBs.out.drew).alloc (.cells #[.int .i64 yp,.int .i64 yd] 203))))
       have HBc:=Lib.hid ((HBs.out.drew).alloc (.cells #[.int .i64 yp,.int .i64 yd] 203))
       have HSc:=Lib.hid ((HSt.out.drew).alloc (.cells #[.int .i64 yp,.int .i64 yd] 203))
       have hln:ll≤100:=by have:=HlN.out;rw [HLl.out] at this;omega
       go_region_held3 (fun w'=>w'.cell? ⟨wr.heap.size,0,none⟩=some (.int .i64 yp)∧w'.cell? ⟨wr.heap.size,1,none⟩=some (.int .i64 yd)) (first | exact ⟨HSt.out.cell 0,HSt.out.cell 1⟩ | exact ⟨HSt.out.drew.cell 0,HSt.out.drew.cell 1⟩ | exact ⟨HS3.out.cell 0,HS3.out.cell 1⟩ | exact ⟨HSc.out.cell 0,HSc.out.cell 1⟩) (first
        | (go_at_call 124;have _t:=tk1;((with_reducible refine (clip_any _ _ d0 _ HD0.out).mono ?_);rintro e v2 ⟨rfl,rfl⟩;clear tk1))
        | (refine step_append_clip rfl (.tmp 45) (.tmp 47) 186 rfl 203 i0 (.agg #[.int .i64 0,.int .i64 0]) 2 16 Tryz.underlying186 hi hz0 hz1 hz2 rfl (by decide) _ _ _ (stRow l) rfl HRc.out.rd ((stRow_len _).trans (by rw [HLl.out])) HA1.out ⟨wr.heap.size + 1,0,none⟩ 1 [.int .i64 yp,.int .i64 yd] rfl rfl HCn.out (by simp [Value.oneCell']) (by simp only [maxLen];omega) (by omega) ?_;intro v3 x2 hown2 hg2;obtain ⟨A3,d3,hv3,hd3⟩:=own_form hown2;subst hv3;have HO3:=Lib.hid hown2;have HD3:=Lib.hid hd3;have HB3:=Lib.hid (HBc.out.grown hg2 (fun k hk=>by cases hk));have HS3:=Lib.hid (HSc.out.grown hg2 (by simp));clear hown2 hg2 hd3)
        | fail)
       all_goals
        obtain ⟨g3,rfl⟩:=own_some HO3.out (by omega)
        go_wp2_with fail
        go_meet
        exact ⟨g3,d3,rfl,(by rw [stRow_snoc];exact RdT.of_own HO3.out),HD3.out,HB3.out,HS3.out⟩
      case rest=>
       obtain ⟨g3,d3,rfl,HR3,HD3,HB3,HS3⟩:=hcut
       have HMx:=Lib.hid (HMy.out.bl HB3.out)
       have HW3:=Lib.hid (HW.out.bl HB3.out)
       have HQ3:=Lib.hid (HQ.out.keep (.of_bl HB3.out))
       have HBw3:=Lib.hid (HBy.out.trans HB3.out)
       have HKt3:=Lib.hid (HKt.out.bl HB3.out)
       have HK3:=Lib.hid (HKy.out.bl HB3.out)
       have s0:wc.cell? ⟨wr.heap.size,0,none⟩=some (.int .i64 (yp:Int)):=HS3.out.cell 0
       have s1:wc.cell? ⟨wr.heap.size,1,none⟩=some (.int .i64 (yd:Int)):=HS3.out.cell 1
       have slt:wr.heap.size < wc.heap.size:=HS3.out.lt
       have hxm:=HXm2.out
       by_cases htm:tx=m
       ·have HBk:Hid (Lf.Way ps nl m (l ++ [(yp,yd)]) m):=by have h:=HWy2.out;rw [htm] at h;exact h
        go_wp2_with (at_lookup;refine wpList_look rfl (.tmp 49) (.tmp 50) rfl HMx.out (yp,yd) HXm2.out HXs2.out rfl rfl ?_;rw [HTx.out,htm])
        go_ret
        exact ⟨.inr ⟨g3,d3,l ++ [(yp,yd)],HBk.out,by simp,by have:=HlN.out;rw [List.length_append];show _ + 1≤25;omega,by simp [HLl.out],HR3.out.rd⟩,HBw3.out⟩
       ·have hq:(((tx:Nat):Int) == (m:Int))=false:=by simp;omega
        have HZl:=HZ.out
        cases hbit:z.testBit tx with
        | true=>
         have hbt:bits .and .u32 ((z:Int) / 2 ^ tx) 1=1:=by rw [bit_test tx HZl,hbit];rfl
         have HX:=Lib.hid (HMn.out z.testBit HMt.out ⟨by rw [HTx.out];exact htm,by rw [HTx.out];exact hbit⟩)
         clear hbit htm HZl
         go_wp2_with (at_lookup;first | (refine wpList_look rfl (.tmp 49) (.tmp 50) rfl HMx.out (yp,yd) HXm2.out HXs2.out rfl rfl ?_;rw [HTx.out]) | (refine wpList_look rfl (.tmp 56) (.tmp 57) rfl HMx.out (yp,yd) HXm2.out HXs2.out rfl rfl ?_;rw [HTx.out]))
         go_roundg g
         case measure=>omega
         case rel=>exact ⟨Q,cs,_,_,_,z,j + 1,by omega,rfl,rfl,by go_num,HZ.out,HF.out,HX.out,HW3.out,HQ3.out,HG.out,HN.out,HlN.out,HBw3.out,HKt3.out,HK3.out⟩
        | false=>
         have hbt:bits .and .u32 ((z:Int) / 2 ^ tx) 1=0:=by rw [bit_test tx HZl,hbit];rfl
         obtain ⟨z2,HOr,HZ2,HF2,HX,HNew,HLn2,HGn⟩:=HPut.out htm hbit
         have HQl:Hid (cs.length≤100):=by have h1:=HQ3.out.len;have h2:=HG.out;show _≤_;omega
         clear hbit htm HZl HPut
         have HWa:Hid (Win (wc.alloc (.cells #[.slice (some ⟨g3,0,none⟩) (ll + 1) d3] 186)) (w.heap.size + 1) 186 (.slice Aq lq cq) cs):=HW3.out.bl ((Bl.refl wc).alloc _)
         have HCe:Hid (∀ j' u,[Value.slice (some ⟨g3,0,none⟩) (ll + 1) d3][j']?=some u→(wc.alloc (.cells #[.slice (some ⟨g3,0,none⟩) (ll + 1) d3] 186)).cell? ((⟨wc.heap.size,0,none⟩:Addr).add j')=some u):=cell_one_new wc _ _
         have HSz:Hid (w.heap.size + 1≤(wc.alloc (.cells #[.slice (some ⟨g3,0,none⟩) (ll + 1) d3] 186)).heap.size):=by have h1:=HBw3.out.size;have h2:=HK3.out.lt;rw [World.size_alloc];show _≤_;omega
         have HBa:Hid (Bl w (wc.alloc (.cells #[.slice (some ⟨g3,0,none⟩) (ll + 1) d3] 186))):=HBw3.out.alloc _
         have HKa:=Lib.hid (HK3.out.alloc (.cells #[.slice (some ⟨g3,0,none⟩) (ll + 1) d3] 186))
         have HTa:Hid (KeepT 203 wc (wc.alloc (.cells #[.slice (some ⟨g3,0,none⟩) (ll + 1) d3] 186))):=(KeepT.refl _ _).alloc _
         obtain ⟨gw,ow,cw,cuw,hvw,_⟩:=HW3.out
         cases hvw
         go_wp2_with (first
          | (at_lookup;first | (refine wpList_look rfl (.tmp 49) (.tmp 50) rfl HMx.out (yp,yd) HXm2.out HXs2.out rfl rfl ?_;rw [HTx.out]) | (refine wpList_look rfl (.tmp 56) (.tmp 57) rfl HMx.out (yp,yd) HXm2.out HXs2.out rfl rfl ?_;rw [HTx.out]) | (refine wpList_look rfl (.tmp 63) (.tmp 64) rfl HMx.out (yp,yd) HXm2.out HXs2.out rfl rfl ?_;rw [HTx.out]))
          | (at_builtin;(refine wpList_append_win _ rfl (.tmp 68) (.tmp 70) 204 rfl (w.heap.size + 1) 186 j0 (.slice none 0 0) 24 Tryz.underlying204 gi gz0 gz1 gz2 rfl _ cs rfl HWa.out ⟨wc.heap.size,0,none⟩ 1 (.slice (some ⟨g3,0,none⟩) (ll + 1) d3) rfl HCe.out rfl (by have:=HQl.out;simp only [maxLen];omega) (by have:=HQl.out;omega) HSz.out ?_;intro v7 w7 hw7 hg7;have HW7:=Lib.hid hw7;have HB7:=Lib.hid (HBa.out.grown hg7 (fun k hk=>by have:=(HWa.out.lt k hk).1;omega));have HT7:=Lib.hid (HTa.out.trans (KeepT.win HWa.out hg7 (by decide)));have HK7:=Lib.hid (HKa.out.grown hg7 (fun e=>HWa.out.apart HKa.out (by decide) e.symm));obtain ⟨g7,o7,c7,cs7,he7,_⟩:=hw7;subst he7;clear hg7)))
         have HQn2:Hid (QRow w7 (cs ++ [Value.slice (some ⟨g3,0,none⟩) (ll + 1) d3]) (Q ++ [l ++ [(yp,yd)]])):=(HQ3.out.keep HT7.out).snoc (by simp [HLl.out]) HD3.out (HR3.out.keep HT7.out) (by simp)
         have HW8:Hid (Win w7 (w.heap.size + 1) 186 (.slice (some ⟨g7,o7,none⟩) (cs.length + 1) c7) (cs ++ [Value.slice (some ⟨g3,0,none⟩) (ll + 1) d3])):=by have h:=HW7.out;rw [List.length_append] at h;exact h
         go_roundg g
         case measure=>omega
         case rel=>exact ⟨Q ++ [l ++ [(yp,yd)]],cs ++ [Value.slice (some (⟨g3,0,none⟩:Addr)) (ll + 1) d3],_,_,_,z2,j + 1,by omega,rfl,by rw [← HOr.out],by go_num,HZ2.out,HF2.out,HX.out,HW8.out,HQn2.out,HGn.out,HNew.out,HLn2.out,HB7.out,HKt3.out.trans HT7.out,HK7.out⟩
end Go.Proofs.YtdfhhbncmdpoeaaGreat
namespace Go.Proofs.YtdfhhbncmdpoeaaGreat
open Go.RowKit
structure SRel (w0:World) (ps:List Gr.Pr) (nl:Nat→Bool) (gf ln cn:Nat) (cur:Rk.Fs) (i k:Nat) (w:World):Prop where
 own:w.ownsRow (w0.heap.size + 2) 73 2 (.slice (some ⟨gf,0,none⟩) ln cn) ln (fcRow (fz cur))
 len_:cur.length=ln
 map:ToK w (w0.heap.size + 1) ps nl i k
 b:Bl w0 w
section
variable {w0 w w2:World} {ps:List Gr.Pr} {nl:Nat→Bool} {gf ln cn i k:Nat} {cur:Rk.Fs}
theorem SRel.bl_ (h:SRel w0 ps nl gf ln cn cur i k w) (hb:Bl w w2):SRel w0 ps nl gf ln cn cur i k w2:=⟨own_bl h.own hb,h.len_,h.map.bl hb,h.b.trans hb⟩
theorem SRel.alloc (h:SRel w0 ps nl gf ln cn cur i k w) (o:Obj):SRel w0 ps nl gf ln cn cur i k (w.alloc o):=h.bl_ ((Bl.refl w).alloc o)
theorem SRel.put (h:SRel w0 ps nl gf ln cn cur i k w) (hk:ToK w2 (w0.heap.size + 1) ps nl i (k + 1)) (hg:w.grownBy w2 (some (w0.heap.size + 1))):SRel w0 ps nl gf ln cn cur i (k + 1) w2:=
 ⟨h.own.kept hg (.inr fun e=>by have:=(h.own.lt _ e).1;omega),h.len_,hk,h.b.grown hg fun j hj=>by injection hj with hj;omega⟩
theorem SRel.skip (h:SRel w0 ps nl gf ln cn cur i k w) (hk:k≤8) (hno:∀ k',k≤k'→Lf.isStep ps nl (i,k')=false):SRel w0 ps nl gf ln cn cur (i + 1) 0 w:=⟨h.own,h.len_,h.map.skip hk hno,h.b⟩
theorem SRel.rank (h:SRel w0 ps nl gf ln cn cur i k w) {m:Nat} (hm:m < ln):w.cell? ⟨gf,m * 2,none⟩=some (.int .i64 (Rk.rk cur m:Int)):=by
 have hl:m < (fz cur).length:=by rw [fz_len,h.len_];exact hm
 have e:=(fcRow_at (fz cur) m hl).1
 rw [fz_rank] at e
 exact (h.own.cellAt _ (by omega)).trans e
theorem SRel.glt (h:SRel w0 ps nl gf ln cn cur i k w):gf < w.heap.size:=(h.own.lt gf rfl).2
end
theorem isStep_out {ps:List Gr.Pr} {nl:Nat→Bool} {i k:Nat} (hi:i < ps.length) (hk:ps[i].right.length≤k):Lf.isStep ps nl (i,k)=false:=by
 unfold Lf.isStep
 rw [List.getElem?_eq_getElem hi]
 dsimp only
 rw [List.getElem?_eq_none hk]
theorem isStep_behind {ps:List Gr.Pr} {nl:Nat→Bool} {i j:Nat} (hi:i < ps.length) (hj:j < ps[i].right.length) (h:(ps[i].right[j].non && nl ps[i].right[j].n.toNat)=false) {k:Nat} (hk:j < k):Lf.isStep ps nl (i,k)=false:=by
 rcases Nat.lt_or_ge k ps[i].right.length with hl | hl
 ·rw [isStep_at hi hl,allNull_no hk (by omega) h,Bool.and_false]
 ·exact isStep_out hi hl
theorem steps_any (t n s:Int) (A:Option Addr) (len c:Nat) (ps:List Gr.Pr) (w:World) (B:Nat) (hlen:len=ps.length) (hr:Prs w B A ps) (hB:B≤w.heap.size) (hok:okB ⟨t,n,s,ps⟩=true) :
  Calls Tryz.prog 105 #[.agg #[.int .i64 t,.int .i64 n,.int .i64 s,.slice A len c]] w fun e w'=>
   ∃ b:Nat,e=.returned (.map (some b))∧w.heap.size≤b∧ToMap w' b ps (Fi.nulls ⟨t,n,s,ps⟩)∧Bl w w':=by
 have HL:=Lib.hid hlen;clear hlen
 have HA:=Lib.hid hr;clear hr
 obtain ⟨n1,n2,n3⟩:=ok_nons hok
 obtain ⟨N,rfl⟩:∃ N:Nat,n=(N:Int):=⟨n.toNat,by omega⟩
 have hl60:len≤60:=by have:=HL.out;omega
 have HOK:=Lib.hid hok
 have HYes:Hid (factsOf false ⟨t,(N:Int),s,ps⟩=fz (Rk.ranks false ps N)):=factsOf_ok (terms:=false) hok
 have HRl:Hid ((Rk.ranks false ps N).length=N):=Rk.ranks_length false ps N
 have HNl:Hid (∀ m,Fi.nulls ⟨t,(N:Int),s,ps⟩ m=decide (Rk.rk (Rk.ranks false ps N) m≠0)):=fun _=>rfl
 have H8:Hid (∀ p ∈ ps,p.right.length≤8):=fun p hp=>by
  obtain ⟨j,hj,rfl⟩:=List.mem_iff_getElem.1 hp
  exact (ok_syms hok hj).2.1
 clear hok
 generalize Fi.nulls ⟨t,(N:Int),s,ps⟩=nl at HNl ⊢
 have HG0:=Lib.hid ((Bk.new w 24 #[.int .i64 t,.int .i64 N,.int .i64 s,.slice A len c]).alloc (.map #[] 0))
 have HB0:Hid (Bl w ((w.alloc (.cells #[.int .i64 t,.int .i64 N,.int .i64 s,.slice A len c] 24)).alloc (.map #[] 0))):=((Bl.refl w).alloc _).alloc _
 have HM0:Hid (ToK ((w.alloc (.cells #[.int .i64 t,.int .i64 N,.int .i64 s,.slice A len c] 24)).alloc (.map #[] 0)) (w.heap.size + 1) ps nl 0 0):=by
  have h:=ToK.begin_ (w.alloc (.cells #[.int .i64 t,.int .i64 N,.int .i64 s,.slice A len c] 24)) ps nl
  rw [World.size_alloc] at h
  exact h
 have HS0:Hid (((w.alloc (.cells #[.int .i64 t,.int .i64 N,.int .i64 s,.slice A len c] 24)).alloc (.map #[] 0)).heap.size=w.heap.size + 2):=by simp [Hid]
 have hmm:=@run_makeMap Tryz.prog
 go_enter Tryz.func105,Tryz.ntmps105
 go_wp2_with fail
 refine (nullable_new t N s A len c ps _ B HL.out (by omega) (HA.out.bl hB HB0.out) (Nat.le_trans hB HB0.out.size)).mono ?_
 intro e w1 h
 obtain ⟨Af,cf,he,hof,hbf⟩:=h.lit (k:=N) HYes.out (by rw [fz_len];exact HRl.out)
 subst he
 rw [HS0.out] at hof
 obtain ⟨gf,rfl⟩:=own_some hof (by omega)
 have HR1:Hid (SRel w ps nl gf N cf (Rk.ranks false ps N) 0 0 w1):=⟨hof,HRl.out,HM0.out.bl hbf,HB0.out.trans hbf⟩
 have HK1:=Lib.hid (HG0.out.bl hbf)
 clear h hof hbf HB0 HM0 HG0 HS0
 have g3:w1.cell? ⟨w.heap.size,3,none⟩=some (.slice A len c):=HK1.out.cell 3
 have glt:w.heap.size < w1.heap.size:=HK1.out.lt
 go_wp2_with fail
 clear g3 glt HK1
 go_loopw [15] (fun i wr=>∃ k:Nat,k≤len∧i=.int .i64 k∧Hid (SRel w ps nl gf N cf (Rk.ranks false ps N) k 0 wr)) (fun i _=>len - (intOf i).toNat)
 case atStart=>exact ⟨0,Nat.zero_le _,rfl,HR1.out⟩
 case round=>
  obtain ⟨k,hk,rfl,HR⟩:=hrel
  by_cases hlt:k < len
  ·have hj:k < ps.length:=by have:=HL.out;omega
   obtain ⟨b,off,Ax,cx,rfl,hbB,hrx,hc0,hc1⟩:=(HA.out.bl hB HR.out.b).at_ hj
   have hBr:B≤wr.heap.size:=Nat.le_trans hB HR.out.b.size
   obtain ⟨_,o3,o4⟩:=ok_syms HOK.out hj
   have HSy:Hid (∀ x ∈ ps[k].right,x.non=true→0≤x.n∧x.n < (N:Int)):=o4
   have HRX:=Lib.hid hrx
   have HAt:=Lib.hid (fun (j:Nat) (h:j < ps[k].right.length)=>isStep_at (nl:=nl) hj h)
   have HTo:=Lib.hid (fun (j:Nat) (h:j < ps[k].right.length)=>to_at (k:=j) hj h)
   have HOut:=Lib.hid (fun (j:Nat) (h:ps[k].right.length≤j)=>isStep_out (nl:=nl) hj h)
   have HBe:=Lib.hid (fun (j:Nat) (h:j < ps[k].right.length) h2 (k':Nat) h3=>isStep_behind (nl:=nl) (k:=k') hj h h2 h3)
   have h8:ps[k].right.length≤8:=o3
   have HR6:=Lib.hid (HR.out.alloc (.cells #[.int .i64 ps[k].left,.slice Ax ps[k].right.length cx] 42))
   have HBx:Hid (Bl wr (wr.alloc (.cells #[.int .i64 ps[k].left,.slice Ax ps[k].right.length cx] 42))):=(Bl.refl wr).alloc _
   clear hrx o3 o4
   generalize ps[k].left=left at *
   generalize ps[k].right=right at *
   clear hj
   go_wp2_with fail
   go_loopw [23] (fun i wy=>∃ j:Nat,j≤right.length∧i=.int .i64 j∧Hid (Fi.allNull nl (right.take j)=true)∧Hid (SRel w ps nl gf N cf (Rk.ranks false ps N) k j wy)∧Hid (Fr (fun q=>q=w.heap.size + 1) wr wy)) (fun i _=>right.length - (intOf i).toNat)
   case atStart=>exact ⟨0,Nat.zero_le _,rfl,rfl,HR6.out,Fr.of_bl HBx.out⟩
   case round=>
    obtain ⟨j,hjl,rfl,HN,HRj,HF⟩:=hrel
    by_cases hjt:j < right.length
    ·obtain ⟨b2,off2,rfl,hb2,q0,q1⟩:=(HRX.out.fr hBr HF.out (HRX.out.notin fun k hk=>by omega)).sym hjt
     have HSj:=Lib.hid (HSy.out _ (List.getElem_mem hjt))
     have HA1:=Lib.hid (HAt.out j hjt)
     have HT1:=Lib.hid (HTo.out j hjt)
     have HB1:=Lib.hid (HBe.out j hjt)
     have HN1:=Lib.hid (allNull_succ (nl:=nl) hjt)
     have hbw:b2 < wr.heap.size:=Nat.lt_of_lt_of_le hb2 (Nat.le_trans hBr HF.out.size)
     rw [HN.out] at HA1 HN1
     generalize right[j]=y at *
     obtain ⟨yb,yn⟩:=y
     simp only at q0 q1
     cases yb with
     | false=>
      have HX:=Lib.hid ((HRj.out.alloc (.cells #[.bool false,.int .i64 yn] 39)).skip (by omega) fun k' hk'=>by
       rcases Nat.lt_or_ge j k' with h | h
       ·exact HB1.out rfl k' h
       ·obtain rfl:k'=j:=by omega
        exact HA1.out)
      go_wp2_with fail
      go_roundw
      case rel=>exact ⟨k + 1,by omega,by go_num,HX.out⟩
      case measure=>simp [intOf];omega
     | true=>
      obtain ⟨m,hme,hmN⟩:∃ m:Nat,yn=(m:Int)∧m < N:=by
       have:=HSj.out rfl
       exact ⟨yn.toNat,by simp only at this;omega,by simp only at this;omega⟩
      subst hme
      have HSt:Hid (Lf.isStep ps nl (k,j)=true):=HA1.out
      have HTm:Hid (Lf.to ps (k,j)=m):=HT1.out
      have HX:=Lib.hid (HRj.out.alloc (.cells #[.bool true,.int .i64 m] 39))
      have HKs:=Lib.hid (Bk.new wr 39 #[.bool true,.int .i64 m])
      have HFx:=Lib.hid (HF.out.alloc (.cells #[.bool true,.int .i64 m] 39))
      have hml:=HRj.out.map.lt
      have HRk:Hid (nl m=decide (Rk.rk (Rk.ranks false ps N) m≠0)):=HNl.out m
      have hm0:(0:Int)≤(m:Int):=by omega
      have hm1:(m:Int) < (N:Int):=by omega
      have HRa:=Lib.hid (fun (i k:Nat) (w':World) (h:SRel w ps nl gf N cf (Rk.ranks false ps N) i k w')=>h.rank hmN)
      generalize Rk.rk (Rk.ranks false ps N) m=x at HRk HRa
      by_cases hx:x=0
      ·subst hx
       have HNo:Hid (nl m=false):=by rw [HRk.out];rfl
       go_wp2_with (at_mapUpdate;refine wpList_step_put rfl (.tmp 31) (.tmp 34) (.tmp 36) rfl HX.out.map (by have:=HL.out;omega) H8.out HSt.out HTm.out rfl rfl rfl (by omega) ?_;intro w5 hk5 hg5;have HR5:=Lib.hid (HX.out.put hk5 hg5);have HK5:=Lib.hid (HKs.out.grown hg5 (by intro e;injection e with e;omega));have q5:w5.cell? ⟨wr.heap.size,1,none⟩=some (.int .i64 (m:Int)):=HK5.out.cell 1;have r5:=HRa.out _ _ _ HR5.out;have l5:wr.heap.size < w5.heap.size:=HK5.out.lt;have l6:gf < w5.heap.size:=HR5.out.glt;clear hk5 hg5)
       have HY:=Lib.hid (HR5.out.skip (by omega) fun k' hk'=>HB1.out (by rw [Bool.true_and];exact HNo.out) k' (by omega))
       go_roundw
       case rel=>exact ⟨k + 1,by omega,by go_num,HY.out⟩
       case measure=>simp [intOf];omega
      ·have hq:((x:Int) == 0)=false:=by simp;omega
       have HYe:Hid (nl m=true):=by rw [HRk.out];exact decide_eq_true hx
       have HN2:Hid (Fi.allNull nl (right.take (j + 1))=true):=by rw [HN1.out];exact HYe.out
       clear hx HRk
       generalize (x:Int)=xi at hq HRa
       go_wp2_with (at_mapUpdate;refine wpList_step_put rfl (.tmp 31) (.tmp 34) (.tmp 36) rfl HX.out.map (by have:=HL.out;omega) H8.out HSt.out HTm.out rfl rfl rfl (by omega) ?_;intro w5 hk5 hg5;have HR5:=Lib.hid (HX.out.put hk5 hg5);have HK5:=Lib.hid (HKs.out.grown hg5 (by intro e;injection e with e;omega));have HF5:=Lib.hid (HFx.out.grown hg5 (by intro k hk _;injection hk with hk;omega));have q5:w5.cell? ⟨wr.heap.size,1,none⟩=some (.int .i64 (m:Int)):=HK5.out.cell 1;have r5:=HRa.out _ _ _ HR5.out;have l5:wr.heap.size < w5.heap.size:=HK5.out.lt;have l6:gf < w5.heap.size:=HR5.out.glt;clear hk5 hg5)
       go_roundw
       case rel=>exact ⟨j + 1,by omega,by go_num,HN2.out,HR5.out,HF5.out⟩
       case measure=>simp [intOf];omega
    ·have HX:=Lib.hid (HRj.out.skip (by omega) fun k' hk'=>HOut.out k' (by omega))
     go_wp2_with fail
     go_roundw
     case rel=>exact ⟨k + 1,by omega,by go_num,HX.out⟩
     case measure=>simp [intOf];omega
  ·have hke:k=ps.length:=by have:=HL.out;omega
   subst hke
   go_wp2_with fail
   go_ret
   exact ⟨_,rfl,by omega,HR.out.map.done,HR.out.b⟩
end Go.Proofs.YtdfhhbncmdpoeaaGreat
