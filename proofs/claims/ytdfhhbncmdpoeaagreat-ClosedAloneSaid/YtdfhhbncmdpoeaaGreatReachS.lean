/- A window of a row of the call's own: a slice that is cut from the front and appended to (a list of who is next), of elements of one cell. No program is named here. -/
import Derived.Test.YtdfhhbncmdpoeaaGreatBaseS
import Derived.Test.YtdfhhbncmdpoeaaGreatFactS
import Derived.Test.YtdfhhbncmdpoeaaGreatListS
import Derived.Test.YtdfhhbncmdpoeaaGreatGRS
import Derived.ArgAppend
import Derived.Deep.LoopGhost
import Derived.RegionTactic
import Derived.Deep.QuietTactic
import Derived.BigQuiet
set_option maxRecDepth 100000
set_option maxHeartbeats 4000000
namespace Go.Proofs.YtdfhhbncmdpoeaaGreat
open Go.RowKit
def Win (w:World) (base:Nat) (e:TypeId) (v:Value) (xs:List Value):Prop:=
 ∃ g off cap cur,v=.slice (some ⟨g,off,none⟩) xs.length cap∧base≤g∧Bk w g e cur∧xs.length≤cap∧cap≤maxLen∧off + cap≤cur.size∧∀ j u,xs[j]?=some u→cur[off + j]?=some u
section
variable {w w':World} {base:Nat} {e:TypeId} {v:Value} {xs:List Value}
theorem Win.one (w:World) (e:TypeId) (u:Value) (hb:base≤w.heap.size):Win (w.alloc (.cells #[u] e)) base e (.slice (some ⟨w.heap.size,0,none⟩) 1 1) [u]:=
 ⟨w.heap.size,0,1,#[u],rfl,hb,Bk.new w e #[u],Nat.le_refl _,by simp [maxLen],Nat.le_refl _,fun j u' hu=>by
  cases j with
  | zero=>simpa using hu
  | succ j=>simp at hu⟩
theorem Win.fr {S:Nat→Prop} (h:Win w base e v xs) (hf:Fr S w w') (hS:∀ k,v.ownBlock=some k→¬ S k):Win w' base e v xs:=by
 obtain ⟨g,off,cap,cur,rfl,hb,hk,rest⟩:=h
 exact ⟨g,off,cap,cur,rfl,hb,hk.fr hf (hS g rfl),rest⟩
theorem Win.bl (h:Win w base e v xs) (hb:Bl w w'):Win w' base e v xs:=h.fr (S:=fun _=>False) (Fr.of_bl hb) fun _ _ h=>h
theorem Win.lt (h:Win w base e v xs):∀ k,v.ownBlock=some k→base≤k∧k < w.heap.size:=by
 intro k hk
 obtain ⟨g,off,cap,cur,rfl,hb,hB,_⟩:=h
 have:g=k:=by simpa [Value.ownBlock] using hk
 subst this
 exact ⟨hb,hB.lt⟩
theorem Win.apart (h:Win w base e v xs) {g:Nat} {t:TypeId} {cs:Array Value} (hk:Bk w g t cs) (hne:e≠t):v.ownBlock≠some g:=by
 intro he
 obtain ⟨g',off,cap,cur,rfl,hb,hB,_⟩:=h
 have:g'=g:=by simpa [Value.ownBlock] using he
 subst this
 exact Bk.apart hB hk hne rfl
theorem Win.head {u:Value} {r:List Value} (h:Win w base e v (u :: r)):∃ g off cap,v=.slice (some ⟨g,off,none⟩) (r.length + 1) cap∧w.cell? ⟨g,off,none⟩=some u∧g < w.heap.size∧1≤cap:=by
 obtain ⟨g,off,cap,cur,rfl,hb,hB,h1,h2,h3,h4⟩:=h
 refine ⟨g,off,cap,rfl,?_,hB.lt,by simp at h1;omega⟩
 rw [hB.cell]
 exact h4 0 u rfl
theorem Win.pop {u:Value} {r:List Value} {g off n cap:Nat} (h:Win w base e (.slice (some ⟨g,off,none⟩) n cap) (u :: r)) :
  Win w base e (.slice (some (if cap=1 then ⟨g,off,none⟩ else ⟨g,off + 1,none⟩)) r.length (cap - 1)) r:=by
 obtain ⟨g',off',cap',cur,he,hb,hB,h1,h2,h3,h4⟩:=h
 cases he
 simp only [List.length_cons] at h1
 by_cases hc:cap=1
 ·subst hc
  have hr:r=[]:=List.eq_nil_of_length_eq_zero (by omega)
  subst hr
  exact ⟨g,off,0,cur,rfl,hb,hB,Nat.le_refl _,Nat.zero_le _,by omega,by simp⟩
 ·rw [if_neg hc]
  exact ⟨g,off + 1,cap - 1,cur,rfl,hb,hB,by omega,by omega,by omega,fun j x hx=>by rw [Nat.add_assoc,Nat.add_comm 1 j];exact h4 (j + 1) x hx⟩
end
theorem run_append_win {P:Program} (w:World) (base:Nat) (t ty e:TypeId) (i:TypeInfo) (z:Value) (bytes:Nat) (ht:P.underlying t=some (.slice e)) (hi:P.info? e=some i) (hz:i.zero=some z)
  (hsize:i.size=1) (hby:i.bytes=bytes) (hzs:z.cells.size=1) (v:Value) (xs:List Value) (hw:Win w base e v xs)
  (ad:Addr) (c:Nat) (u:Value) (hnews:∀ j x,[u][j]?=some x→w.cell? (ad.add j)=some x) (h1:u.oneCell'=true)
  (h63:xs.length + 1≤maxLen) (hbytes:(xs.length + 1) * bytes≤140737488355328) (hbase:base≤w.heap.size) :
  ∃ v' w',(Builtin.append_ #[t,t] ty #[v,.slice (some ad) 1 c]).run P w=.ok v' w'∧Win w' base e v' (xs ++ [u])∧w.grownBy w' v.ownBlock:=by
 obtain ⟨g,off,cap,cur,rfl,hb,hB,h2,h3,h4,h5⟩:=hw
 by_cases hroom:xs.length + 1≤cap
 ·have hin:off + xs.length < cur.size:=by omega
  have hr:=run_append_room_cells (P:=P) w t ty e i ht hi g off xs.length cap ad 1 c [u] (by rw [hsize];rfl) hnews (fun x hx=>by simp at hx;subst hx;exact h1) hroom
   (fun j hj=>by
    have:j=0:=by simp at hj;omega
    subst this
    rw [hB.cell,hsize,Nat.mul_one,Nat.add_zero,Array.getElem?_eq_getElem hin];rfl)
   (fun j _=>hB.free _)
  rw [hsize,Nat.mul_one] at hr
  have hfr:Fr (fun k=>k=g) w (w.setCell ⟨g,off + xs.length,none⟩ u):=(Fr.refl _ w).own _ _
  refine ⟨_,_,hr,⟨g,off,cap,cur.setIfInBounds (off + xs.length) u,by simp,hb,hB.put _ _,by simp;omega,h3,by simp;omega,?_⟩,?_⟩
  ·intro j x hx
   rw [Array.getElem?_setIfInBounds]
   by_cases hj:j < xs.length
   ·rw [if_neg (by omega)]
    rw [List.getElem?_append_left hj] at hx
    exact h5 j x hx
   ·rw [List.getElem?_append_right (by omega)] at hx
    have hj0:j - xs.length=0:=by
     rcases Nat.eq_zero_or_pos (j - xs.length) with h | h
     ·exact h
     ·rw [List.getElem?_eq_none (by simp;omega)] at hx;cases hx
    rw [hj0] at hx
    rw [if_pos (by omega),if_pos (by omega)]
    simpa using hx
  ·exact ⟨hfr.os,hfr.tape,hfr.output,hfr.size,fun k hk hne=>hfr.block k hk (fun e=>hne (by rw [e];rfl))⟩
 ·obtain ⟨v',w',hr,r1,r2⟩:=run_append_arg_grows (P:=P) w t ty e i z 1 bytes ht hi hz hsize hby hzs (by decide) ⟨g,off,none⟩ xs.length cap xs (by omega)
   (fun j x hx=>by rw [Addr.add_lit,hB.cell];exact h5 j x hx) ad 1 c [u] rfl hnews (by omega) h63 hbytes
  refine ⟨v',w',hr,?_,⟨r2.os,r2.tape,r2.output,r2.size,fun k hk _=>r2.block k hk (by simp)⟩⟩
  rcases r1.2 with ⟨_,h0⟩ | ⟨g',cap',cur',rfl,hb',hg',hn,hm,hs,ht'⟩
  ·omega
  ·refine ⟨g',0,cap',cur',by simp,Nat.le_trans hbase hb',hg',by simpa using hn,hm,by omega,fun j x hx=>?_⟩
   rw [Nat.zero_add,← Array.getElem?_toList]
   rw [← ht',List.getElem?_take] at hx
   split at hx
   ·exact hx
   ·cases hx
theorem wpList_append_win {P:Program} (w:World) {ops:Array Oper} {rest:List Oper} {o:Oper} {a:Act} {Q:Exit→Act→World→Prop} (hgd:o.guard=none) (s x:Operand) (t:TypeId)
  (ho:o.op=.call { callee:=.builtin .append,args:=#[s,x],argTypes:=#[t,t] })
  (base:Nat) (e:TypeId) (i:TypeInfo) (z:Value) (bytes:Nat) (ht:P.underlying t=some (.slice e)) (hi:P.info? e=some i) (hz:i.zero=some z)
  (hsize:i.size=1) (hby:i.bytes=bytes) (hzs:z.cells.size=1) (v:Value) (xs:List Value) (hs:a.eval s=v) (hw:Win w base e v xs)
  (ad:Addr) (c:Nat) (u:Value) (hx:a.eval x=.slice (some ad) 1 c) (hnews:∀ j x,[u][j]?=some x→w.cell? (ad.add j)=some x) (h1:u.oneCell'=true)
  (h63:xs.length + 1≤maxLen) (hbytes:(xs.length + 1) * bytes≤140737488355328) (hbase:base≤w.heap.size)
  (h:∀ v' w',Win w' base e v' (xs ++ [u])→w.grownBy w' v.ownBlock→wpList P ops Q rest (a.put o.dst v') w'):wpList P ops Q (o :: rest) a w:=
 wpList_plain hgd fun _ hK=>by
  obtain ⟨v',w',hrun,h2,h3⟩:=run_append_win (P:=P) w base t o.type e i z bytes ht hi hz hsize hby hzs v xs hw ad c u hnews h1 h63 hbytes hbase
  unfold Oper.wp execOp
  simp only [ho,resolve,invoke,builtin,Sem.run_bind,Sem.run_pure,Result.andThen_ok,List.map_toArray,List.map_cons,List.map_nil,hs,hx,hrun]
  exact hK _ _ (h v' w' h2 h3)
end Go.Proofs.YtdfhhbncmdpoeaaGreat
namespace Go.Proofs.YtdfhhbncmdpoeaaGreat
open Go.RowKit
structure ERel (t n s:Int) (A:Option Addr) (len c nons cf gg gl gf:Nat) (w0:World) (cur:Rk.Fs) (w:World):Prop where
 bg:Bk w gg 24 #[.int .i64 t,.int .i64 n,.int .i64 s,.slice A len c]
 bl:Bk w gl 70 #[.slice (some ⟨gf,0,none⟩) nons cf]
 own:w.ownsRow w0.heap.size 73 2 (.slice (some ⟨gf,0,none⟩) nons cf) nons (fcRow (fz cur))
 len_:cur.length=nons
 b:Bl w0 w
section
variable {t n s:Int} {A:Option Addr} {len c nons cf gg gl gf:Nat} {w0:World} {cur cur':Rk.Fs} {w w':World}
theorem ERel.bl_ (h:ERel t n s A len c nons cf gg gl gf w0 cur w) (hb:Bl w w'):ERel t n s A len c nons cf gg gl gf w0 cur w':=
 ⟨h.bg.bl hb,h.bl.bl hb,own_bl h.own hb,h.len_,h.b.trans hb⟩
theorem ERel.alloc (h:ERel t n s A len c nons cf gg gl gf w0 cur w) (o:Obj):ERel t n s A len c nons cf gg gl gf w0 cur (w.alloc o):=h.bl_ ((Bl.refl w).alloc o)
theorem ERel.rank (h:ERel t n s A len c nons cf gg gl gf w0 cur w) {m:Nat} (hm:m < nons):w.cell? ⟨gf,m * 2,none⟩=some (.int .i64 (Rk.rk cur m:Int)):=by
 have hl:m < (fz cur).length:=by rw [fz_len,h.len_];exact hm
 have e:=(fcRow_at (fz cur) m hl).1
 rw [fz_rank] at e
 exact (h.own.cellAt _ (by omega)).trans e
theorem ERel.free (h:ERel t n s A len c nons cf gg gl gf w0 cur w) (j:Nat):w.frozen? ⟨gf,j,none⟩=false:=h.own.frozenAt j
theorem ERel.glt (h:ERel t n s A len c nons cf gg gl gf w0 cur w):gf < w.heap.size:=(h.own.lt gf rfl).2
theorem ERel.isSome (h:ERel t n s A len c nons cf gg gl gf w0 cur w) {j:Nat} (hj:j < nons * 2):∃ u,w.cell? ⟨gf,j,none⟩=some u:=by
 have hl:j < (fcRow (fz cur)).length:=by rw [fcRow_len,fz_len,h.len_];exact hj
 exact ⟨_,(h.own.cellAt j hj).trans (List.getElem?_eq_getElem hl)⟩
theorem ERel.put (h:ERel t n s A len c nons cf gg gl gf w0 cur w) {m r i:Nat} :
  ERel t n s A len c nons cf gg gl gf w0 (cur.set m (r,i)) ((w.setCell ⟨gf,m * 2,none⟩ (.int .i64 r)).setCell ⟨gf,m * 2 + 1,none⟩ (.int .i64 i)):=by
 have hfr:Fr (fun k=>k=gf) w ((w.setCell ⟨gf,m * 2,none⟩ (.int .i64 r)).setCell ⟨gf,m * 2 + 1,none⟩ (.int .i64 i)):=((Fr.refl _ w).own _ _).own _ _
 have ne:∀ {g:Nat} {ty:TypeId} {cs:Array Value},Bk w g ty cs→73≠ty→¬ g=gf:=fun hk hne e=>hk.row h.own hne (by rw [e];rfl)
 have h1:=(h.own.stored (m * 2) (.int .i64 r)).1
 have h2:=(h1.stored (m * 2 + 1) (.int .i64 i)).1
 have hlow:=(h.own.lt gf rfl).1
 refine ⟨h.bg.fr hfr (ne h.bg (by decide)),h.bl.fr hfr (ne h.bl (by decide)),?_,by rw [List.length_set];exact h.len_,h.b.fr hfr fun k hk e=>by omega⟩
 rw [fz_set,fcRow_set]
 exact h2
theorem ERel.row_ne (h:ERel t n s A len c nons cf gg gl gf w0 cur w) {g:Nat} {cs:Array Value} {ty:TypeId} (hb:Bk w g ty cs) (hne:73≠ty):g≠gf:=fun e=>hb.row h.own hne (by rw [e];rfl)
end
theorem opn_any (t n s:Int) (A:Option Addr) (len c nons cf gg gl gf:Nat) (w0:World) (cur:Rk.Fs) (sb:Bool) (sn:Int) (w:World)
  (hk:ERel t n s A len c nons cf gg gl gf w0 cur w) (hs:sb=true→0≤sn∧sn < (nons:Int)) :
  Calls Tryz.prog 104 #[.agg #[.bool sb,.int .i64 sn],.pointer (some ⟨gl,0,none⟩)] w fun e w'=>e=.returned (.bool (Rc.opn cur ⟨sb,sn⟩))∧Bl w w':=by
 have HB:Hid (Bl w (w.alloc (.cells #[.bool sb,.int .i64 sn] 39))):=(Bl.refl w).alloc _
 have HK:=Lib.hid (hk.alloc (.cells #[.bool sb,.int .i64 sn] 39))
 cases sb with
 | false=>
  clear hk
  go_enter Tryz.func104,Tryz.ntmps104
  go_wp2_with fail
  go_ret
  exact ⟨rfl,HB.out⟩
 | true=>
  obtain ⟨h1,h2⟩:=hs rfl
  obtain ⟨m,rfl⟩:∃ m:Nat,sn=(m:Int):=⟨sn.toNat,by omega⟩
  have hm:m < nons:=by omega
  have hmm:(0:Int)≤(m:Int):=by omega
  have kk0:w.cell? ⟨gl,0,none⟩=some (.slice (some ⟨gf,0,none⟩) nons cf):=hk.bl.cell 0
  have klt:gl < w.heap.size:=hk.bl.lt
  have klt2:gf < w.heap.size:=hk.glt
  have kr:=hk.rank hm
  have HV:Hid (Rc.opn cur ⟨true,(m:Int)⟩=decide ((Rk.rk cur m:Int)=0)):=by
   unfold Rc.opn
   simp only [Bool.true_and,Int.toNat_natCast]
   exact decide_eq_decide.2 (by omega)
  generalize (Rk.rk cur m:Int)=x at kr HV
  clear hk h1 h2 hs
  by_cases hx:x=0
  ·have HV2:Hid (Rc.opn cur ⟨true,(m:Int)⟩=true):=by rw [HV.out];exact decide_eq_true hx
   subst hx
   go_enter Tryz.func104,Tryz.ntmps104
   go_wp2_with fail
   go_ret
   exact ⟨by rw [HV2.out];rfl,HB.out⟩
  ·have hq:(x == 0)=false:=by simpa using hx
   have HV2:Hid (Rc.opn cur ⟨true,(m:Int)⟩=false):=by rw [HV.out];exact decide_eq_false hx
   clear hx
   go_enter Tryz.func104,Tryz.ntmps104
   go_wp2_with fail
   go_ret
   exact ⟨by rw [HV2.out];rfl,HB.out⟩
def Found (cur:Rk.Fs) (right:List Gr.Sy) (r:Int):Prop:=(r < 0∧∀ s ∈ right,Rc.opn cur s=false)∨∃ j:Nat,r=(j:Int)∧∃ h:j < right.length,Rc.opn cur right[j]=true
theorem indexf_any (t n s:Int) (A:Option Addr) (len c nons cf gg gl gf:Nat) (w0:World) (cur:Rk.Fs) (Ax:Option Addr) (lx cx:Nat) (right:List Gr.Sy) (w:World) (B:Nat)
  (hk:ERel t n s A len c nons cf gg gl gf w0 cur w) (hl:lx=right.length) (hmax:lx≤9223372036854775807) (hr:Rd w B Ax (syRow right)) (hB:B≤w.heap.size)
  (hs:∀ x ∈ right,x.non=true→0≤x.n∧x.n < (nons:Int)) :
  Calls Tryz.prog 103 #[.slice Ax lx cx,.func (.func 104) #[] #[.pointer (some ⟨gl,0,none⟩)]] w fun e w'=>∃ r:Int,e=.returned (.int .i64 r)∧Found cur right r∧Bl w w':=by
 have HL:=Lib.hid hl;clear hl
 have HA:=Lib.hid hr;clear hr
 have HK:=Lib.hid hk;clear hk
 have HS:=Lib.hid hs;clear hs
 go_enter Tryz.func103,Tryz.ntmps103
 go_wp2_with fail
 go_loopw [8] (fun i wr=>∃ k:Nat,k≤lx∧i=.int .i64 k∧Hid (∀ x ∈ right.take k,Rc.opn cur x=false)∧Hid (Bl w wr)) (fun i _=>lx - (intOf i).toNat)
 case atStart=>exact ⟨0,Nat.zero_le _,rfl,by simp [Hid],Bl.refl w⟩
 case round=>
  obtain ⟨k,hk,rfl,HT,HB⟩:=hrel
  by_cases hlt:k < lx
  ·have hj:k < right.length:=by have:=HL.out;omega
   obtain ⟨b,off,rfl,hbB,q0,q1⟩:=(HA.out.bl hB HB.out).sym hj
   have HGood:=Lib.hid (all_snoc hj HT.out)
   have HSk:=Lib.hid (HS.out _ (List.getElem_mem hj))
   have HF:Hid (Rc.opn cur right[k]=true→Found cur right (k:Int)):=fun h=>.inr ⟨k,rfl,hj,h⟩
   have HC:=Lib.hid (fun (hs:right[k].non=true→0≤right[k].n∧right[k].n < (nons:Int))=>opn_any t n s A len c nons cf gg gl gf w0 cur right[k].non right[k].n wr (HK.out.bl_ HB.out) hs)
   have HC:=Lib.hid (HC.out HSk.out)
   have HE:Hid (Rc.opn cur ⟨right[k].non,right[k].n⟩=Rc.opn cur right[k]):=rfl
   generalize right[k]=y at *
   obtain ⟨yb,yn⟩:=y
   simp only at q0 q1
   clear hj
   go_wp2_with fail
   refine HC.out.mono ?_
   rintro e w1 ⟨rfl,hb1⟩
   have HB1:=Lib.hid (HB.out.trans hb1);clear hb1 HC
   cases hv:Rc.opn cur ⟨yb,yn⟩ with
   | true=>
    have HX:=Lib.hid (HF.out hv)
    clear hv
    go_wp2_with fail
    go_ret
    exact ⟨_,rfl,HX.out,HB1.out⟩
   | false=>
    have HX:=Lib.hid (HGood.out hv)
    clear hv
    go_wp2_with fail
    go_roundw
    case rel=>exact ⟨k + 1,by omega,by go_num,HX.out,HB1.out⟩
    case measure=>simp [intOf];omega
  ·go_wp2_with fail
   go_ret
   refine ⟨-1,rfl,.inl ⟨by decide,?_⟩,HB.out⟩
   have h:=HT.out
   rw [List.take_of_length_le (by have:=HL.out;omega)] at h
   exact h
end Go.Proofs.YtdfhhbncmdpoeaaGreat
namespace Go.Proofs.YtdfhhbncmdpoeaaGreat
open Go.RowKit
theorem int_info:(Tryz.prog.info? 3).map (fun i=>(i.zero,i.size,i.bytes))=some (some (.int .i64 0),1,8):=by kernel_rfl
def reachOf (g:Gr.Gm):List Fc:=if okB g then fz (Rc.reach g.prods g.nons.toNat g.start.toNat) else []
theorem reachOf_no {g:Gr.Gm} (h:okB g=false):reachOf g=[]:=by unfold reachOf;rw [if_neg (by rw [h];decide)]
theorem reachOf_ok {g:Gr.Gm} (h:okB g=true):reachOf g=fz (Rc.reach g.prods g.nons.toNat g.start.toNat):=by unfold reachOf;rw [if_pos h]
theorem reachOf_len {g:Gr.Gm} (h:okB g=true):(reachOf g).length=g.nons.toNat:=by rw [reachOf_ok h,fz_len,Rc.reach_length]
theorem ok_start {t n s:Int} {ps:List Gr.Pr} (h:okB ⟨t,n,s,ps⟩=true):0≤s∧s < n:=by
 obtain ⟨_,_,_,_,h5,h6,_⟩:=(okB_iff _).1 h
 exact ⟨h5,h6⟩
theorem set_same {l:List Value} {i:Nat} {u:Value} (h:l[i]?=some u):l.set i u=l:=by
 apply List.ext_getElem?
 intro j
 rw [List.getElem?_set]
 split
 ·rename_i e;subst e
  have:i < l.length:=by
   rcases Nat.lt_or_ge i l.length with h1 | h1
   ·exact h1
   ·rw [List.getElem?_eq_none h1] at h;cases h
  rw [if_pos this,h]
 ·rfl
theorem fz_base {N s:Nat} (hs:s < N):fcRow (fz (Rc.base N s))=(fcRow (fz (Rk.zeros N))).set (s * 2) (.int .i64 1):=by
 have e:Rc.base N s=(Rk.zeros N).set s (1,0):=rfl
 rw [e,fz_set,fcRow_set]
 apply set_same
 have hl:s < (fz (Rk.zeros N)).length:=by rw [fz_len];unfold Rk.zeros;rw [List.length_replicate];exact hs
 rw [List.getElem?_set,if_neg (by omega),(fcRow_at _ s hl).2,fz_prod,Rk.zeros_getD]
section
variable {t n s:Int} {A:Option Addr} {len c nons cf gg gl gf:Nat} {w0:World} {cur:Rk.Fs} {w w':World}
theorem ERel.start (ho:w.ownsRow w0.heap.size 73 2 (.slice (some ⟨gf,0,none⟩) nons cf) nons (madeCells (Value.cells (.agg #[.int .i64 0,.int .i64 0])) (nons * 2)).toList)
  (hg:Bk w gg 24 #[.int .i64 t,.int .i64 n,.int .i64 s,.slice A len c]) (hb:Bl w0 w) :
  ERel t n s A len c nons cf gg w.heap.size gf w0 (Rk.zeros nons) (w.alloc (.cells #[.slice (some ⟨gf,0,none⟩) nons cf] 70)):=
 ⟨hg.alloc _,Bk.new _ _ _,by rw [fz_zeros];exact ho.alloc _,by unfold Rk.zeros;rw [List.length_replicate],hb.alloc _⟩
theorem ERel.base {st:Nat} (ps:List Gr.Pr) (h:ERel t n s A len c nons cf gg gl gf w0 (Rk.zeros nons) w) (hs:st < nons):ERel t n s A len c nons cf gg gl gf w0 (Rc.rounds' ps nons st 0) (w.setCell ⟨gf,st * 2,none⟩ (.int .i64 1)):=by
 have hfr:Fr (fun k=>k=gf) w (w.setCell ⟨gf,st * 2,none⟩ (.int .i64 1)):=(Fr.refl _ w).own _ _
 have h1:=(h.own.stored (st * 2) (.int .i64 1)).1
 have hlow:=(h.own.lt gf rfl).1
 refine ⟨h.bg.fr hfr (h.row_ne h.bg (by decide)),h.bl.fr hfr (h.row_ne h.bl (by decide)),?_,Rc.rounds'_length _ _,h.b.fr hfr fun k hk e=>by omega⟩
 show World.ownsRow _ _ _ _ _ _ (fcRow (fz (Rc.base nons st)))
 rw [fz_base hs]
 exact h1
theorem ERel.win_ne (h:ERel t n s A len c nons cf gg gl gf w0 cur w) {v:Value} {xs:List Value} (hw:Win w w0.heap.size 3 v xs):v.ownBlock≠some gf:=by
 intro e
 obtain ⟨g',off,cap,cs,rfl,_,hB,_⟩:=hw
 have:g'=gf:=by simpa [Value.ownBlock] using e
 subst this
 exact hB.row h.own (by decide) rfl
theorem ERel.grown (h:ERel t n s A len c nons cf gg gl gf w0 cur w) {v:Value} {xs:List Value} (hw:Win w w0.heap.size 3 v xs) (hg:w.grownBy w' v.ownBlock):ERel t n s A len c nons cf gg gl gf w0 cur w':=
 ⟨h.bg.grown hg (fun e=>hw.apart h.bg (by decide) e.symm),h.bl.grown hg (fun e=>hw.apart h.bl (by decide) e.symm),h.own.kept hg (.inr fun e=>h.win_ne hw e.symm),h.len_,h.b.grown hg fun k hk=>(hw.lt k hk).1⟩
theorem Win.put {v:Value} {xs:List Value} (hw:Win w w0.heap.size 3 v xs) (h:ERel t n s A len c nons cf gg gl gf w0 cur w) {m m':Nat} {x y:Value} :
  Win ((w.setCell ⟨gf,m,none⟩ x).setCell ⟨gf,m',none⟩ y) w0.heap.size 3 v xs:=
 hw.fr (S:=fun k=>k=gf) (((Fr.refl _ w).own _ _).own _ _) fun k hk e=>h.win_ne hw (by rw [hk,e])
end
theorem reach_new (t n s:Int) (A:Option Addr) (len c:Nat) (ps:List Gr.Pr) (w:World) (B:Nat) (hlen:len=ps.length) (hmax:len≤9223372036854775807) (hr:Prs w B A ps) (hB:B≤w.heap.size) :
  Calls Tryz.prog 78 #[.agg #[.int .i64 t,.int .i64 n,.int .i64 s,.slice A len c]] w (FNew (reachOf ⟨t,n,s,ps⟩) w):=by
 obtain ⟨i0,hi,hz0,hz1,hz2⟩:=info_parts fact_info
 obtain ⟨j0,gi,gz0,gz1,gz2⟩:=info_parts int_info
 have HL:=Lib.hid hlen;clear hlen
 have HA:=Lib.hid hr;clear hr
 have HBx:Hid (Bl w (w.alloc (.cells #[.int .i64 t,.int .i64 n,.int .i64 s,.slice A len c] 24))):=(Bl.refl w).alloc _
 have HGx:Hid (Bk (w.alloc (.cells #[.int .i64 t,.int .i64 n,.int .i64 s,.slice A len c] 24)) w.heap.size 24 #[.int .i64 t,.int .i64 n,.int .i64 s,.slice A len c]):=Bk.new w _ _
 have hmf:∀ (fn:Fn) (first cap:Array Value) (w:World),(Instr.makeFunc fn first cap).run Tryz.prog w=.ok (.func fn first cap) w:=fun _ _ _ _=>rfl
 go_enter Tryz.func78,Tryz.ntmps78
 go_wp2_with fail
 go_step3
 go_wp2_with fail
 refine (right_any t n s A len c ps _ B HL.out hmax (HA.out.bl hB HBx.out) (Nat.le_trans hB HBx.out.size)).mono ?_
 rintro e w1 ⟨rfl,hb1⟩
 have HB1:=Lib.hid (HBx.out.trans hb1)
 have HG1:=Lib.hid (HGx.out.bl hb1)
 clear hb1
 cases hok:okB ⟨t,n,s,ps⟩ with
 | false=>
  have HNo:=Lib.hid (reachOf_no hok)
  clear hok
  go_wp2_with fail
  try rw [Exit.noGoto_ret]
  go_ret
  exact ⟨none,0,0,rfl,by rw [HNo.out];rfl,by rw [HNo.out];exact World.ownsRow_nil _ _ _ _,HB1.out⟩
 | true=>
  obtain ⟨n1,n2,n3⟩:=ok_nons hok
  obtain ⟨s1,s2⟩:=ok_start hok
  have hl60:len≤60:=by have:=HL.out;omega
  obtain ⟨N,rfl⟩:∃ N:Nat,n=(N:Int):=⟨n.toNat,by omega⟩
  obtain ⟨st,rfl⟩:∃ st:Nat,s=(st:Int):=⟨s.toNat,by omega⟩
  have hst:st < N:=by omega
  have HST:=Lib.hid hst
  have HYes:=Lib.hid (reachOf_ok hok)
  have HOK:=Lib.hid hok
  clear hok
  have g1:w1.cell? ⟨w.heap.size,1,none⟩=some (.int .i64 (N:Int)):=HG1.out.cell 1
  have g2:w1.cell? ⟨w.heap.size,2,none⟩=some (.int .i64 (st:Int)):=HG1.out.cell 2
  have glt:w.heap.size < w1.heap.size:=HG1.out.lt
  go_wp2_with (
   refine wpList_make_full _ rfl (.tmp 14) (.tmp 14) 70 rfl w.heap.size 73 i0 (.agg #[.int .i64 0,.int .i64 0]) 2 Tryz.underlying70 hi hz0 hz1 .i64 .i64 (N:Int) (N:Int) N rfl rfl rfl rfl (by rw [hz2];omega) (by simp only [maxLen];omega) (by omega) ?_
   intro w2 hown2 hg2
   have HG2:=Lib.hid (HG1.out.grown hg2 (by simp))
   have HB2:=Lib.hid (HB1.out.grown hg2 (by simp))
   have HK:=Lib.hid (ERel.start hown2 HG2.out HB2.out)
   clear hown2 hg2 g1 g2 glt HG1 HB1 HBx HGx
   have k0:(w2.alloc (.cells #[.slice (some ⟨w1.heap.size,0,none⟩) N N] 70)).cell? ⟨w2.heap.size,0,none⟩=some (.slice (some ⟨w1.heap.size,0,none⟩) N N):=HK.out.bl.cell 0
   have k2:(w2.alloc (.cells #[.slice (some ⟨w1.heap.size,0,none⟩) N N] 70)).cell? ⟨w.heap.size,2,none⟩=some (.int .i64 (st:Int)):=HK.out.bg.cell 2
   have klt1:w.heap.size < w2.heap.size:=HG2.out.lt
   have klt2:w1.heap.size < (w2.alloc (.cells #[.slice (some ⟨w1.heap.size,0,none⟩) N N] 70)).heap.size:=HK.out.glt
   have kf:=HK.out.free (st * 2)
   obtain ⟨u0,ku⟩:=HK.out.isSome (j:=st * 2) (by omega)
   have HKb:=Lib.hid (HK.out.base ps hst)
   have g2a:((w2.alloc (.cells #[.slice (some ⟨w1.heap.size,0,none⟩) N N] 70)).setCell ⟨w1.heap.size,st * 2,none⟩ (.int .i64 1)).cell? ⟨w.heap.size,2,none⟩=some (.int .i64 (st:Int)):=HKb.out.bg.cell 2)
  clear k0 k2 klt1 klt2 kf ku g2a
  have HW0:Hid (Win (((w2.alloc (.cells #[.slice (some ⟨w1.heap.size,0,none⟩) N N] 70)).setCell ⟨w1.heap.size,st * 2,none⟩ (.int .i64 1)).alloc (.cells #[.int .i64 st] 3)) w.heap.size 3 (.slice (some ⟨w2.heap.size + 1,0,none⟩) 1 1) [.int .i64 st]):=by
   have h:=Win.one (base:=w.heap.size) ((w2.alloc (.cells #[.slice (some ⟨w1.heap.size,0,none⟩) N N] 70)).setCell ⟨w1.heap.size,st * 2,none⟩ (.int .i64 1)) 3 (.int .i64 st) HKb.out.b.size
   have e:((w2.alloc (.cells #[.slice (some ⟨w1.heap.size,0,none⟩) N N] 70)).setCell ⟨w1.heap.size,st * 2,none⟩ (.int .i64 1)).heap.size=w2.heap.size + 1:=by simp [World.setCell]
   rw [e] at h
   exact h
  have HK0:=Lib.hid (HKb.out.alloc (.cells #[.int .i64 st] 3))
  have HQ0:=Lib.hid (Rc.Que.begin_ (ps:=ps) hst)
  have HG0:Hid (2 * Rc.left N (Rc.rounds' ps N st 0) + 1≤2 * N + 1∧2 * N + 1≤100):=⟨by have:=Rk.cnt_le N (fun n=>decide (Rk.rk (Rc.rounds' ps N st 0) n=0));show 2 * Rk.cnt N _ + 1≤_;omega,by omega⟩
  go_step3
  go_wp2_with fail
  go_loopg [4] (2 * N + 1) (fun g v wr=>∃ (k:Nat) (a b L:List Nat) (cur:Rk.Fs) (Aq:Option Addr) (lq cq:Nat),v=.slice Aq lq cq∧Hid (a ++ b=L)∧Hid (Rc.Que ps N st k cur a b)∧
   Hid (ERel t N st A len c N N w.heap.size w2.heap.size w1.heap.size w cur wr)∧Hid (Win wr w.heap.size 3 (.slice Aq lq cq) (ins (ns L)))∧Hid (2 * Rc.left N cur + L.length≤g∧g≤100))
  case atStart=>exact ⟨0,[st],[],[st],Rc.rounds' ps N st 0,_,_,_,rfl,rfl,HQ0.out,HK0.out,HW0.out,HG0.out⟩
  case round=>
   obtain ⟨k0,a0,b0,L,cur,Aq,lq,cq,rfl,HE,HQ,HK,HW,HG⟩:=hrel
   have kk0:wr.cell? ⟨w2.heap.size,0,none⟩=some (.slice (some ⟨w1.heap.size,0,none⟩) N N):=HK.out.bl.cell 0
   have klt:w2.heap.size < wr.heap.size:=HK.out.bl.lt
   have klt2:w1.heap.size < wr.heap.size:=HK.out.glt
   cases L with
   | nil=>
    have HX:=Lib.hid (HQ.out.empty hst HE.out rfl)
    have hz:lq=0:=by
     obtain ⟨g',off,cap,cs,he,_⟩:=HW.out
     cases he
     rfl
    subst hz
    go_wp2_with fail
    try rw [Exit.noGoto_ret]
    go_ret
    refine ⟨_,N,N,rfl,?_,?_,HK.out.b⟩
    ·rw [HYes.out,fz_len,Rc.reach_length];simp
    ·rw [HYes.out]
     have h:=HK.out.own
     rw [HX.out] at h
     simpa using h
   | cons x q=>
    obtain ⟨k,a,b,hq,hqe⟩:=HQ.out.front hst HE.out
    have hxk:=hq.old x (by simp)
    have hkN:=hq.small hst
    have hxN:x < N:=hxk.1
    have hW:=HW.out
    obtain ⟨gq,oq,cap,hv,hc,hgl,hcap⟩:=Win.head (u:=.int .i64 (x:Int)) (r:=ins (ns q)) hW
    have hnq:(ins (ns q)).length=q.length:=by rw [ins_len,ns_len]
    rw [hnq] at hv
    cases hv
    generalize hnn:q.length=nL at *
    have kr:=HK.out.rank hxN
    rw [hxk.2] at kr
    have HQ1:=Lib.hid hq
    have HQE:=Lib.hid hqe
    have HNQ:=Lib.hid hnn
    clear hq hqe hnn hW hnq hxk HE HQ
    have hx0:(0:Int)≤(x:Int):=by omega
    have hx1:(x:Int) < (N:Int):=by omega
    have hn1:(0:Int) < ((nL + 1:Nat):Int):=by omega
    have hn2:(0:Int) < (nL:Int) + 1:=by omega
    go_wp2_with fail
    go_quiet (fail)
    have HD:Hid (Bl wr (wr.drewN nq)):=(Bl.refl wr).drewN _
    generalize wr.drewN nq=wd at HD ⊢
    have HKd:=Lib.hid (HK.out.bl_ HD.out)
    have HWd:=Lib.hid (HW.out.bl HD.out)
    clear HK HW HD hc hgl hx0 hx1 hn1 hn2 kr kk0 klt klt2
    have g3:wd.cell? ⟨w.heap.size,3,none⟩=some (.slice A len c):=HKd.out.bg.cell 3
    have glt:w.heap.size < wd.heap.size:=HKd.out.bg.lt
    go_wp2_with fail
    clear g3 glt
    go_loopg [4,37] len (fun g v i wy=>∃ j:Nat,j + g=len∧v=.slice (some ⟨gq,oq,none⟩) (nL + 1) cq∧i=.int .i64 j∧Hid (Rc.Clear ps cur (k + 1) j)∧Hid (Bl wd wy))
    case atStart=>exact ⟨0,by omega,rfl,rfl,Rc.Clear.zero,Bl.refl _⟩
    case round=>
     obtain ⟨j,hjg,rfl,rfl,HC,HBy⟩:=hrel
     have HKy:=Lib.hid (HKd.out.bl_ HBy.out)
     have HWy:=Lib.hid (HWd.out.bl HBy.out)
     cases gk with
     | zero=>
      have hjz:¬ ((j:Int) < (len:Int)):=by omega
      have HQP:Hid (Rc.Que ps N st k cur a b):=HQ1.out.pop (by
       have h:=HC.out
       rwa [show j=ps.length by have:=HL.out;omega] at h)
      have HWP:=Lib.hid (Win.pop (u:=.int .i64 (x:Int)) (r:=ins (ns q)) HWy.out)
      have hn1:(1:Int)≤((nL + 1:Nat):Int):=by omega
      have hn2:(1:Int)≤(nL:Int) + 1:=by omega
      by_cases hq1:cq=1
      ·subst hq1
       go_wp2_with fail
       go_roundg (2 * Rc.left N cur + q.length)
       case measure=>have h:=HG.out;simp at h;omega
       case rel=>exact ⟨k,a,b,q,cur,_,_,_,by go_num,HQE.out.symm,HQP.out,HKy.out,by have h:=HWP.out;simp only [if_true,ins_len,ns_len,HNQ.out] at h;exact h,⟨Nat.le_refl _,by have h:=HG.out;simp at h;omega⟩⟩
      ·go_wp2_with fail
       go_roundg (2 * Rc.left N cur + q.length)
       case measure=>have h:=HG.out;simp at h;omega
       case rel=>exact ⟨k,a,b,q,cur,_,_,_,by go_num,HQE.out.symm,HQP.out,HKy.out,by have h:=HWP.out;rw [if_neg hq1,ins_len,ns_len,HNQ.out] at h;exact h,⟨Nat.le_refl _,by have h:=HG.out;simp at h;omega⟩⟩
     | succ g=>
      have hjl:j < len:=by omega
      have hjz:(j:Int) < (len:Int):=by omega
      have hj:j < ps.length:=by have:=HL.out;omega
      have hbw:=HKy.out.b
      have hBw:B≤wr.heap.size:=Nat.le_trans hB hbw.size
      obtain ⟨b',off,Ax,cx,rfl,hbB,hrx,hc0,hc1⟩:=(HA.out.bl hB hbw).at_ hj
      obtain ⟨⟨o1,o2⟩,o3,o4⟩:=ok_syms HOK.out hj
      obtain ⟨m,hme,hmlt⟩:∃ m:Nat,ps[j].left=(m:Int)∧m < N:=⟨ps[j].left.toNat,by omega,by omega⟩
      have HS:Hid (∀ x ∈ ps[j].right,x.non=true→0≤x.n∧x.n < (N:Int)):=o4
      have HNo:=Lib.hid (fun h=>HC.out.succ hj h)
      have HPut:Hid (∀ (i:Nat) (hi:i < ps[j].right.length) (ny:Nat),Rk.rk cur m=k + 1→ps[j].right[i]=⟨true,(ny:Int)⟩→ny < N→Rk.rk cur ny=0→Rc.Que ps N st k (cur.set ny (k + 2,j)) (x :: a) (b ++ [ny])):=fun i hi ny h1 h2 h3 h4=>by
       refine HQ1.out.put hj (by rw [hme,Int.toNat_natCast];exact h1) ?_ h3 h4 HC.out (by simp)
       unfold Rc.stands
       rw [List.any_eq_true]
       exact ⟨_,List.getElem_mem hi,by rw [h2];simp⟩
      have HRX:=Lib.hid hrx
      have hme2:ps[j].left.toNat=m:=by omega
      rw [hme] at hc0
      rw [hme2] at HNo
      have hpl:ps[j].right.length≤8:=o3
      clear hrx o1 o2 o3 o4 hme hme2 hbw
      generalize ps[j].right=right at *
      clear hj
      have HAl:=Lib.hid (HKy.out.alloc (.cells #[.int .i64 m,.slice Ax right.length cx] 42))
      have HPb:=Lib.hid (Bk.new wr 42 #[.int .i64 m,.slice Ax right.length cx])
      have glt0:w2.heap.size < wr.heap.size:=HKy.out.bl.lt
      go_wp2_with fail
      refine (indexf_any t N st _ len c N N w.heap.size w2.heap.size w1.heap.size w cur Ax right.length cx right _ (wr.heap.size + 1) HAl.out rfl (by omega) ((HRX.out.alloc hBw _).more (by omega)) (by simp) HS.out).mono ?_
      rintro e w5 ⟨r,rfl,hf,hb5⟩
      have HF:=Lib.hid hf
      have HK5:=Lib.hid (HAl.out.bl_ hb5)
      have HP5:=Lib.hid (HPb.out.bl hb5)
      have HB5:Hid (Bl wr w5):=((Bl.refl wr).alloc _).trans hb5
      clear hb5 hf hc0 hc1 glt0
      have kk0:w5.cell? ⟨w2.heap.size,0,none⟩=some (.slice (some ⟨w1.heap.size,0,none⟩) N N):=HK5.out.bl.cell 0
      have kp0:w5.cell? ⟨wr.heap.size,0,none⟩=some (.int .i64 m):=HP5.out.cell 0
      have kp1:w5.cell? ⟨wr.heap.size,1,none⟩=some (.slice Ax right.length cx):=HP5.out.cell 1
      have klt1:w2.heap.size < w5.heap.size:=HK5.out.bl.lt
      have klt2:w1.heap.size < w5.heap.size:=HK5.out.glt
      have klt3:wr.heap.size < w5.heap.size:=HP5.out.lt
      have kr:=HK5.out.rank hmlt
      by_cases hrk:Rk.rk cur m=k + 1
      ·rw [hrk] at kr
       rcases HF.out with ⟨hneg,hall⟩ | ⟨i,rfl,hir,ho⟩
       ·have HX:=Lib.hid (HNo.out (.inr hall))
        have hr0:¬ (0≤r):=by omega
        clear hall hneg HF
        go_wp2_with fail
        go_roundg g
        case measure=>omega
        case rel=>exact ⟨j + 1,by omega,rfl,by go_num,HX.out,HBy.out.trans HB5.out⟩
       ·have hiz:(0:Int)≤(i:Int):=by omega
        have hiz2:(i:Int) < (right.length:Int):=by omega
        obtain ⟨bx,ox,rfl,hbx,q0,q1⟩:=(HRX.out.bl hBw HB5.out).sym hir
        obtain ⟨ny,hny,hnyN,hny0⟩:∃ ny:Nat,right[i]=⟨true,(ny:Int)⟩∧ny < N∧Rk.rk cur ny=0:=by
         have h1:=HS.out _ (List.getElem_mem hir)
         revert ho h1
         generalize right[i]=y
         obtain ⟨yb,yn⟩:=y
         intro ho h1
         unfold Rc.opn at ho
         rw [Bool.and_eq_true,decide_eq_true_eq] at ho
         obtain ⟨e1,e2⟩:=ho
         simp only at e1 e2 h1
         subst e1
         obtain ⟨h2,h3⟩:=h1 rfl
         exact ⟨yn.toNat,by rw [Int.toNat_of_nonneg h2],by omega,e2⟩
        have HQ5:=Lib.hid (HPut.out i hir ny hrk hny hnyN hny0)
        have HLt:Hid (Rc.left N (cur.set ny (k + 2,j)) < Rc.left N cur):=Rc.left_set HQ1.out.len hnyN hny0 (by omega)
        rw [hny] at q1
        have hnz:(0:Int)≤(ny:Int):=by omega
        have hnz2:(ny:Int) < (N:Int):=by omega
        have kf0:=HK5.out.free (ny * 2)
        have kf1:=HK5.out.free (ny * 2 + 1)
        obtain ⟨v0,ku0⟩:=HK5.out.isSome (j:=ny * 2) (by omega)
        obtain ⟨v1,ku1⟩:=HK5.out.isSome (j:=ny * 2 + 1) (by omega)
        have HKp:Hid (ERel t N st (some ⟨b',off,none⟩) len c N N w.heap.size w2.heap.size w1.heap.size w (cur.set ny (k + 2,j)) (((w5.setCell ⟨w1.heap.size,ny * 2,none⟩ (.int .i64 ((k:Int) + 1 + 1))).setCell ⟨w1.heap.size,ny * 2 + 1,none⟩ (.int .i64 j)).alloc (.cells #[.int .i64 ny] 3))):=by
         have h:=(HK5.out.put (m:=ny) (r:=k + 2) (i:=j)).alloc (.cells #[.int .i64 ny] 3)
         rw [show ((k + 2:Nat):Int)=(k:Int) + 1 + 1 by omega] at h
         exact h
        have HWp:Hid (Win (((w5.setCell ⟨w1.heap.size,ny * 2,none⟩ (.int .i64 ((k:Int) + 1 + 1))).setCell ⟨w1.heap.size,ny * 2 + 1,none⟩ (.int .i64 j)).alloc (.cells #[.int .i64 ny] 3)) w.heap.size 3 (.slice (some ⟨gq,oq,none⟩) (nL + 1) cq) (ins (ns (x :: q)))):=
         (Win.put (HWy.out.bl HB5.out) HK5.out).bl ((Bl.refl _).alloc _)
        have HN6:Hid (∀ j' u,[Value.int .i64 (ny:Int)][j']?=some u→(((w5.setCell ⟨w1.heap.size,ny * 2,none⟩ (.int .i64 ((k:Int) + 1 + 1))).setCell ⟨w1.heap.size,ny * 2 + 1,none⟩ (.int .i64 j)).alloc (.cells #[.int .i64 ny] 3)).cell? ((⟨w5.heap.size,0,none⟩:Addr).add j')=some u):=by
         have h:=cell_one_new ((w5.setCell ⟨w1.heap.size,ny * 2,none⟩ (.int .i64 ((k:Int) + 1 + 1))).setCell ⟨w1.heap.size,ny * 2 + 1,none⟩ (.int .i64 j)) (.int .i64 ny) 3
         have e:((w5.setCell ⟨w1.heap.size,ny * 2,none⟩ (.int .i64 ((k:Int) + 1 + 1))).setCell ⟨w1.heap.size,ny * 2 + 1,none⟩ (.int .i64 j)).heap.size=w5.heap.size:=by simp [World.setCell]
         rw [e] at h
         exact h
        have hql:(ins (ns (x :: q))).length≤100:=by rw [ins_len,ns_len];have:=HG.out;omega
        have HQL:=Lib.hid hql
        clear HF ho hny hny0 hql
        go_wp2_with (at_builtin;go_loud (refine wpList_append_win _ rfl (.tmp 71) (.tmp 73) 25 rfl w.heap.size 3 j0 (.int .i64 0) 8 Tryz.underlying25 gi gz0 gz1 gz2 rfl _ (ins (ns (x :: q))) rfl HWp.out ⟨w5.heap.size,0,none⟩ 1 (.int .i64 ny) rfl HN6.out rfl (by have:=HQL.out;simp only [maxLen];omega) (by have:=HQL.out;omega) HKp.out.b.size ?_;intro v7 w7 hw7 hg7;have HK7:=Lib.hid (HKp.out.grown HWp.out hg7);have HW7:Hid (Win w7 w.heap.size 3 v7 (ins (ns (x :: q ++ [ny])))):=(by have e:ins (ns (x :: q ++ [ny]))=ins (ns (x :: q)) ++ [.int .i64 (ny:Int)]:=(by simp [ins,ns]);rw [e];exact hw7);obtain ⟨g7,o7,c7,cs7,he7,_⟩:=hw7;subst he7;clear hg7))
        go_roundg (2 * Rc.left N (cur.set ny (k + 2,j)) + (x :: q ++ [ny]).length)
        case measure=>have h:=HG.out;have h2:=HLt.out;simp at h ⊢;omega
        case rel=>exact ⟨k,x :: a,b ++ [ny],x :: q ++ [ny],cur.set ny (k + 2,j),_,_,_,rfl,by rw [HQE.out];simp [Hid],HQ5.out,HK7.out,(by have h:=HW7.out;rw [List.length_append] at h;exact h),⟨Nat.le_refl _,by have h:=HG.out;have h2:=HLt.out;simp at h ⊢;omega⟩⟩
      ·have hq:(((Rk.rk cur m:Nat):Int) == (k:Int) + 1)=false:=by simp;omega
       have HX:=Lib.hid (HNo.out (.inl hrk))
       clear hrk HF
       generalize Rk.rk cur m=xm at kr hq
       go_wp2_with fail
       go_roundg g
       case measure=>omega
       case rel=>exact ⟨j + 1,by omega,rfl,by go_num,HX.out,HBy.out.trans HB5.out⟩
end Go.Proofs.YtdfhhbncmdpoeaaGreat
