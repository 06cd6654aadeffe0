/- Maps that keep what is new: which keys stand in them; items as keys. -/
import Derived.Test.YtdfhhbncmdpoeaaGreatPlainS
import Derived.Test.YtdfhhbncmdpoeaaGreatRows
import Derived.Test.YtdfhhbncmdpoeaaGreatBaseS
import Derived.Maps.OwnSet
import Derived.Maps.OwnOps
import Derived.DeepKeys4
import Derived.ArgAppend
import Derived.Deep.DeepAppendRoom
set_option maxRecDepth 100000
namespace Go.Proofs.YtdfhhbncmdpoeaaGreat
open Go.RowKit
open Go.Maps (Keyed)
theorem plainElem_bool_inv {P:Program} {e:TypeId} (he:P.underlying e=some .bool) {v:Value} {z:DataW Unit × List MemPlace} (h:plainElem P e v=some z):∃ b,v=.bool b∧z=(.lit (.bool b),[]):=by
 unfold plainElem at h
 rw [he] at h
 cases v <;> simp at h
 exact ⟨_,rfl,h.symm⟩
def newB {α:Type} [DecidableEq α] (l:List α) (x:α):Bool:=!decide (x ∈ l)
theorem newB_yes {α:Type} [DecidableEq α] {l:List α} {x:α} (h:x ∉ l):newB l x=true:=by unfold newB;rw [decide_eq_false h];rfl
theorem newB_no {α:Type} [DecidableEq α] {l:List α} {x:α} (h:x ∈ l):newB l x=false:=by unfold newB;rw [decide_eq_true h];rfl
def MapS {α:Type} [DecidableEq α] (kt:TypeId) (kl:α→Lit) (ok:α→Prop) (w:World) (b:Nat) (l:List α):Prop:=
 ∃ (D:DataW Unit) (n:Nat),w.ownsMap Tryz.prog kt (plainElem Tryz.prog 4) b n D∧n≤l.length∧∀ x,ok x→D.atKey (kl x) (.lit (.bool false))=.lit (.bool (decide (x ∈ l)))
section
variable {α:Type} [DecidableEq α] {kt:TypeId} {kl:α→Lit} {ok:α→Prop} {w w':World} {b:Nat} {l:List α}
theorem MapS.lt (h:MapS kt kl ok w b l):b < w.heap.size:=by obtain ⟨D,n,h1,_⟩:=h;exact h1.lt
theorem MapS.of_block (h:MapS kt kl ok w b l) (e:w'.heap[b]?=w.heap[b]?):MapS kt kl ok w' b l:=by
 obtain ⟨D,n,⟨es,clock,h1,h2⟩,h3⟩:=h
 exact ⟨D,n,⟨es,clock,e.trans h1,h2⟩,h3⟩
theorem MapS.bl (h:MapS kt kl ok w b l) (hb:Bl w w'):MapS kt kl ok w' b l:=h.of_block (hb.block b h.lt)
theorem MapS.fr {S:Nat→Prop} (h:MapS kt kl ok w b l) (hf:Fr S w w') (hn:¬ S b):MapS kt kl ok w' b l:=h.of_block (hf.block b h.lt hn)
theorem MapS.new (w:World):MapS kt kl ok (w.alloc (.map #[] 0)) w.heap.size []:=⟨.map [],0,World.ownsMap_made _ _ _ _,Nat.le_refl _,fun _ _=>rfl⟩
theorem MapS.apart (h:MapS kt kl ok w b l) {g:Nat} {t:TypeId} {cs:Array Value} (hg:Bk w g t cs):b≠g:=by
 rintro rfl
 obtain ⟨D,n,⟨es,clock,h1,_⟩,_⟩:=h
 unfold Bk at hg
 rw [h1] at hg;cases hg
theorem MapS.row (h:MapS kt kl ok w b l) {base n size:Nat} {e:TypeId} {v:Value} {xs:List Value} (ho:w.ownsRow base e size v n xs):v.ownBlock≠some b:=by
 rcases ho.2 with ⟨rfl,_⟩ | ⟨g',cap,cur,rfl,_,hh,_⟩
 ·simp [Value.ownBlock]
 ·intro he
  have:g'=b:=by simpa [Value.ownBlock] using he
  subst this
  exact h.apart (t:=e) (cs:=cur) hh rfl
theorem bool_zero (w:World):(zeroValue 4).run Tryz.prog w=.ok (.bool false) w:=by kernel_rfl
theorem MapS.look {t:TypeId} (h:MapS kt kl ok w b l) (K:Keyed Tryz.prog kt) (ht:Tryz.prog.underlying t=some (.map kt 4)) {x:α} (hx:ok x) {v:Value} (hk:keyOf Tryz.prog kt v=some (kl x)) :
  (Instr.lookup t (.map (some b)) v false).run Tryz.prog w=.ok (.bool (decide (x ∈ l))) w:=by
 obtain ⟨D,n,h1,_,h3⟩:=h
 obtain ⟨z,ps,hrun,hz⟩:=h1.lookup K ht (bool_zero w) (plainElem_bool Tryz.underlying4 false) hk
 obtain ⟨c,rfl,hc⟩:=plainElem_bool_inv Tryz.underlying4 hz
 rw [h3 x hx] at hc
 injection hc with hc
 injection hc with hc
 injection hc with hc
 rw [hrun,hc]
theorem MapS.store {t:TypeId} (h:MapS kt kl ok w b l) (K:Keyed Tryz.prog kt) (ht:Tryz.prog.underlying t=some (.map kt 4)) (hl:l.length < maxLen) {x:α} (hx:ok x) (hn:x ∉ l) {v:Value} (hk:keyOf Tryz.prog kt v=some (kl x))
  (hi:∀ y,ok y→kl y=kl x→y=x) (hlit:WideAt.IsKeyLit (kl x)) :
  ∃ w',(Instr.mapUpdate t (.map (some b)) v (.bool true)).run Tryz.prog w=.ok () w'∧MapS kt kl ok w' b (l ++ [x])∧w.grownBy w' (some b):=by
 obtain ⟨D,n,h1,h2,h3⟩:=h
 obtain ⟨w',hrun,r1,r2⟩:=h1.update K ht (by omega) hk (plainElem_bool Tryz.underlying4 true)
 refine ⟨w',hrun,⟨_,_,r1,by rw [List.length_append];show _≤_ + 1;omega,fun y hy=>?_⟩,r2⟩
 by_cases e:y=x
 ·subst e
  rw [Maps.atKey_put_same h1.isMap hlit]
  simp
 ·rw [Maps.atKey_put_other (fun e2=>e (hi y hy e2)),h3 y hy]
  simp [e]
end
theorem wpList_lookS {α:Type} [DecidableEq α] {kt:TypeId} {kl:α→Lit} {ok:α→Prop} {w:World} {b:Nat} {l:List α} {ops:Array Oper} {rest:List Oper} {o:Oper} {a:Act} {Q:Exit→Act→World→Prop} (hg:o.guard=none) (m x:Operand) (t:TypeId) (hop:o.op=Op.lookup t m x false)
  (h:MapS kt kl ok w b l) (K:Keyed Tryz.prog kt) (ht:Tryz.prog.underlying t=some (.map kt 4)) (y:α) (hy:ok y) (hm:a.eval m=.map (some b)) (hk:keyOf Tryz.prog kt (a.eval x)=some (kl y))
  (hK:wpList Tryz.prog ops Q rest (a.put o.dst (.bool (decide (y ∈ l)))) w):wpList Tryz.prog ops Q (o :: rest) a w:=by
 refine wpList_plain hg fun K' hK'=>?_
 have hrun:=h.look K ht hy hk
 unfold Oper.wp
 simp [execOp,hop,hm,hrun,Result.andThen]
 exact hK' _ _ hK
theorem wpList_lookS_yes {α:Type} [DecidableEq α] {kt:TypeId} {kl:α→Lit} {ok:α→Prop} {w:World} {b:Nat} {l:List α} {ops:Array Oper} {rest:List Oper} {o:Oper} {a:Act} {Q:Exit→Act→World→Prop} (hg:o.guard=none) (m x:Operand) (t:TypeId) (hop:o.op=Op.lookup t m x false)
  (h:MapS kt kl ok w b l) (K:Keyed Tryz.prog kt) (ht:Tryz.prog.underlying t=some (.map kt 4)) (y:α) (hy:ok y) (hl:y ∈ l) (hm:a.eval m=.map (some b)) (hk:keyOf Tryz.prog kt (a.eval x)=some (kl y))
  (hK:wpList Tryz.prog ops Q rest (a.put o.dst (.bool true)) w):wpList Tryz.prog ops Q (o :: rest) a w:=
 wpList_lookS hg m x t hop h K ht y hy hm hk (by rw [decide_eq_true hl];exact hK)
theorem wpList_lookS_no {α:Type} [DecidableEq α] {kt:TypeId} {kl:α→Lit} {ok:α→Prop} {w:World} {b:Nat} {l:List α} {ops:Array Oper} {rest:List Oper} {o:Oper} {a:Act} {Q:Exit→Act→World→Prop} (hg:o.guard=none) (m x:Operand) (t:TypeId) (hop:o.op=Op.lookup t m x false)
  (h:MapS kt kl ok w b l) (K:Keyed Tryz.prog kt) (ht:Tryz.prog.underlying t=some (.map kt 4)) (y:α) (hy:ok y) (hl:y ∉ l) (hm:a.eval m=.map (some b)) (hk:keyOf Tryz.prog kt (a.eval x)=some (kl y))
  (hK:wpList Tryz.prog ops Q rest (a.put o.dst (.bool false)) w):wpList Tryz.prog ops Q (o :: rest) a w:=
 wpList_lookS hg m x t hop h K ht y hy hm hk (by rw [decide_eq_false hl];exact hK)
theorem wpList_storeS {α:Type} [DecidableEq α] {kt:TypeId} {kl:α→Lit} {ok:α→Prop} {w:World} {b:Nat} {l:List α} {ops:Array Oper} {rest:List Oper} {o:Oper} {a:Act} {Q:Exit→Act→World→Prop} (hg:o.guard=none) (m x v:Operand) (t:TypeId) (hop:o.op=Op.mapUpdate t m x v)
  (h:MapS kt kl ok w b l) (K:Keyed Tryz.prog kt) (ht:Tryz.prog.underlying t=some (.map kt 4)) (hl:l.length < maxLen) (y:α) (hy:ok y) (hn:y ∉ l) (hm:a.eval m=.map (some b)) (hk:keyOf Tryz.prog kt (a.eval x)=some (kl y)) (hv:a.eval v=.bool true)
  (hi:∀ z,ok z→kl z=kl y→z=y) (hlit:WideAt.IsKeyLit (kl y))
  (hK:∀ w',MapS kt kl ok w' b (l ++ [y])→w.grownBy w' (some b)→wpList Tryz.prog ops Q rest (a.put o.dst undef) w'):wpList Tryz.prog ops Q (o :: rest) a w:=by
 refine wpList_plain hg fun K' hK'=>?_
 obtain ⟨w',hrun,r1,r2⟩:=h.store K ht hl hy hn hk hi hlit
 unfold Oper.wp
 simp [execOp,hop,hm,hv,hrun,Result.andThen]
 exact hK' _ _ (hK w' r1 r2)
theorem ch_laid:laidOutB Tryz.prog=true:=by kernel_rfl
theorem im_row:(44:TypeId) < Tryz.prog.types.size:=of_decide_eq_true (by kernel_rfl)
theorem im_wide:(match Tryz.prog.underlying 44 with | some (.array _ _) | some (.struct _)=>true | _=>false)=true:=by rw [Tryz.underlying44]
theorem im_law:Keyed Tryz.prog 44:=Keyed.of_law (deep_law_laid ch_laid (m:=2) (by omega) im_row (by kernel_rfl) im_wide)
theorem im_cells:Tryz.prog.cellsOf 44=3:=by kernel_rfl
theorem im_int:Tryz.prog.cellsOf 3=1:=by kernel_rfl
theorem im_keyType:Tryz.prog.keyType 44=true:=by kernel_rfl
def imc (x:Ch.Im):List Value:=[.int .i64 (x.prod:Int),.int .i64 (x.dot:Int),.int .i64 (x.frm:Int)]
def imv (x:Ch.Im):Value:=.agg #[.int .i64 (x.prod:Int),.int .i64 (x.dot:Int),.int .i64 (x.frm:Int)]
def imKey (x:Ch.Im):Lit:=.string (keyBytes [.int .i64 (x.prod:Int),.int .i64 (x.dot:Int),.int .i64 (x.frm:Int)])
def imOk (x:Ch.Im):Prop:=x.prod < 1000000∧x.dot < 1000000∧x.frm < 1000000
theorem wf_ch {n:Int} (h0:0≤n) (h:n < 1000000):(Lit.int .i64 n).wf=true:=by
 simp [Lit.wf,IntKind.min,IntKind.max,IntKind.bits,IntKind.signed];omega
theorem key_item {x:Ch.Im} (h:imOk x):keyOf Tryz.prog 44 (imv x)=some (imKey x):=by
 obtain ⟨m,hm⟩:∃ m,Tryz.prog.types.size=m + 1:=⟨Tryz.prog.types.size - 1,by
  have:0 < Tryz.prog.types.size:=of_decide_eq_true (by kernel_rfl)
  omega⟩
 have w1:=wf_ch (n:=(x.prod:Int)) (by omega) (by have:=h.1;omega)
 have w2:=wf_ch (n:=(x.dot:Int)) (by omega) (by have:=h.2.1;omega)
 have w3:=wf_ch (n:=(x.frm:Int)) (by omega) (by have:=h.2.2;omega)
 unfold keyOf imv
 simp only [Tryz.underlying44]
 rw [if_pos (by simp [im_keyType,Value.formed,Tryz.underlying44,im_cells]),hm]
 unfold Program.keyLits
 simp only [Tryz.underlying44,Value.cells]
 simp [im_cells,im_int,Program.keyLits,Tryz.underlying3,w1,w2,w3,imKey]
theorem imKey_inj {x y:Ch.Im} (hx:imOk x) (hy:imOk y) (h:imKey x=imKey y):x=y:=by
 have h2:=key_item hy
 rw [← h] at h2
 have e:=im_law.inj (key_item hx) h2
 unfold imv at e
 injection e with e
 injection e with e
 obtain ⟨x1,x2,x3⟩:=x
 obtain ⟨y1,y2,y3⟩:=y
 simp at e
 rw [show x1=y1 by omega,show x2=y2 by omega,show x3=y3 by omega]
def IMap (w:World) (b:Nat) (l:List Ch.Im):Prop:=MapS 44 imKey imOk w b l
end Go.Proofs.YtdfhhbncmdpoeaaGreat
namespace Go.Proofs.YtdfhhbncmdpoeaaGreat
open Go.RowKit
open Ch (St)
def Wv (t:TypeId) (w:World) (g N:Nat) (V:Nat→Value):Prop:=∃ cs:Array Value,Bk w g t cs∧N≤cs.size∧∀ i,i < N→cs[i]?=some (V i)
section
variable {t:TypeId} {w w':World} {g N:Nat} {V:Nat→Value}
theorem Wv.lt (h:Wv t w g N V):g < w.heap.size:=by obtain ⟨cs,h1,_⟩:=h;exact h1.lt
theorem Wv.cell (h:Wv t w g N V) {i:Nat} (hi:i < N):w.cell? ⟨g,i,none⟩=some (V i):=by
 obtain ⟨cs,h1,_,h3⟩:=h
 rw [h1.cell,h3 i hi]
theorem Wv.bl (h:Wv t w g N V) (hb:Bl w w'):Wv t w' g N V:=by obtain ⟨cs,h1,h2⟩:=h;exact ⟨cs,h1.bl hb,h2⟩
theorem Wv.fr {S:Nat→Prop} (h:Wv t w g N V) (hf:Fr S w w') (hg:¬ S g):Wv t w' g N V:=by obtain ⟨cs,h1,h2⟩:=h;exact ⟨cs,h1.fr hf hg,h2⟩
theorem Wv.put (h:Wv t w g N V) {i:Nat} (hi:i < N) (v:Value):Wv t (w.setCell ⟨g,i,none⟩ v) g N (Ch.upd V i v):=by
 obtain ⟨cs,h1,h2,h3⟩:=h
 refine ⟨_,h1.put i v,by rw [Array.size_setIfInBounds];exact h2,fun j hj=>?_⟩
 by_cases e:j=i
 ·subst e
  rw [Ch.upd_same,Array.getElem?_setIfInBounds_self_of_lt (by omega)]
 ·rw [Ch.upd_other _ _ e,Array.getElem?_setIfInBounds_ne (Ne.symm e)]
  exact h3 j hj
end
theorem imc_len (x:Ch.Im):(imc x).length=3:=rfl
theorem imc_one (x:Ch.Im):∀ u ∈ imc x,u.oneCell'=true:=by
 intro u hu
 simp [imc] at hu
 rcases hu with rfl | rfl | rfl <;> rfl
def imRow (l:List Ch.Im):List Value:=rowN imc l
theorem imRow_len (l:List Ch.Im):(imRow l).length=l.length * 3:=rowN_len imc_len l
theorem imRow_snoc (l:List Ch.Im) (x:Ch.Im):imRow (l ++ [x])=imRow l ++ imc x:=rowN_snoc l x
theorem imRow_append (l m:List Ch.Im):imRow (l ++ m)=imRow l ++ imRow m:=rowN_append l m
theorem imRow_at (l:List Ch.Im) {i:Nat} (h:i < l.length):(imRow l)[i * 3]?=some (.int .i64 (l[i].prod:Int))∧(imRow l)[i * 3 + 1]?=some (.int .i64 (l[i].dot:Int))∧(imRow l)[i * 3 + 2]?=some (.int .i64 (l[i].frm:Int)):=
 ⟨(rowN_at imc_len l i 0 h (by decide)).trans rfl,(rowN_at imc_len l i 1 h (by decide)).trans rfl,(rowN_at imc_len l i 2 h (by decide)).trans rfl⟩
theorem Rd.item {w:World} {B:Nat} {A:Option Addr} {l:List Ch.Im} (h:Rd w B A (imRow l)) {i:Nat} (hi:i < l.length):∃ b off,A=some ⟨b,off,none⟩∧b < B∧w.cell? ⟨b,off + i * 3,none⟩=some (.int .i64 (l[i].prod:Int))∧
  w.cell? ⟨b,off + i * 3 + 1,none⟩=some (.int .i64 (l[i].dot:Int))∧w.cell? ⟨b,off + i * 3 + 2,none⟩=some (.int .i64 (l[i].frm:Int)):=by
 obtain ⟨b,off,e,hb,hc⟩:=h (by rw [imRow_len];omega)
 obtain ⟨h0,h1,h2⟩:=imRow_at l hi
 exact ⟨b,off,e,hb,hc _ _ h0,hc _ _ h1,hc _ _ h2⟩
theorem rd_ownN {w:World} {base n c size:Nat} {A:Option Addr} {e:TypeId} {xs:List Value} (h:w.ownsRow base e size (.slice A n c) n xs):Rd w w.heap.size A xs:=by
 rcases h.2 with ⟨hv,rfl⟩ | ⟨g,cap,cur,hv,_,hg,_,_,_,_⟩
 ·have:xs=[]:=List.eq_nil_of_length_eq_zero (by simpa using h.1)
  subst this;exact Rd.nil
 ·have hA:A=some ⟨g,0,none⟩:=by injection hv
  subst hA
  intro _
  have hlt:g < w.heap.size:=(h.lt g rfl).2
  refine ⟨g,0,rfl,hlt,fun j u hu=>?_⟩
  have:=h.cells (g:=g) rfl j u hu
  rw [Addr.add_lit] at this
  exact this
theorem run_append_keep {P:Program} (w:World) (base:Nat) (t ty e:TypeId) (i:TypeInfo) (z:Value) (size bytes:Nat) (ht:P.underlying t=some (.slice e)) (hi:P.info? e=some i) (hz:i.zero=some z)
  (hsize:i.size=size) (hby:i.bytes=bytes) (hzs:z.cells.size=size) (hsz:0 < size)
  (v:Value) (n:Nat) (xs:List Value) (hown:w.ownsRow base e size v n xs)
  (ad:Addr) (c:Nat) (news:List Value) (hl:news.length=1 * size) (hnews:∀ j u,news[j]?=some u→w.cell? (ad.add j)=some u) (h1:∀ u ∈ news,u.oneCell'=true)
  (h63:n + 1≤maxLen) (hbytes:(n + 1) * bytes≤140737488355328) (hbase:base≤w.heap.size) :
  ∃ v' w',(Builtin.append_ #[t,t] ty #[v,.slice (some ad) 1 c]).run P w=.ok v' w'∧w'.ownsRow base e size v' (n + 1) (xs ++ news)∧w.grownBy w' v.ownBlock∧
   ((v'.ownBlock=v.ownBlock∧v.ownBlock≠none)∨(w.grownBy w' none∧∀ k,v'.ownBlock=some k→w.heap.size≤k)):=by
 have low:∀ {v':Value} {w':World},w'.ownsRow w.heap.size e size v' (n + 1) (xs ++ news)→w'.ownsRow base e size v' (n + 1) (xs ++ news)∧∀ k,v'.ownBlock=some k→w.heap.size≤k:=fun h=>
  ⟨own_base h fun k hk=>Nat.le_trans hbase (h.lt k hk).1,fun k hk=>(h.lt k hk).1⟩
 rcases hown.2 with ⟨rfl,rfl⟩ | ⟨g,cap,cur,rfl,hbg,hg,hnc,hcm,hcs,htake⟩
 ·have hx:xs=[]:=List.eq_nil_of_length_eq_zero (by simpa using hown.1)
  subst hx
  obtain ⟨v',w',hr,h2,h3,_⟩:=run_append_own (P:=P) w w.heap.size t ty e i z size bytes ht hi hz hsize hby hzs hsz (.slice none 0 0) 0 [] (World.ownsRow_nil _ _ _ _) ad 1 c news hl hnews h1 h63 hbytes (Nat.le_refl _)
  exact ⟨v',w',hr,(low h2).1,h3,.inr ⟨h3,(low h2).2⟩⟩
 ·by_cases hroom:n + 1≤cap
  ·obtain ⟨w',hr,h2,h3⟩:=run_append_own_spare (P:=P) w base t ty e i size ht hi hsize g n cap xs hown ad 1 c news hl hnews h1 hroom
   exact ⟨_,w',hr,h2,h3,.inl ⟨rfl,by simp [Value.ownBlock]⟩⟩
  ·obtain ⟨v',w',hr,h2,h3⟩:=run_append_arg_grows (P:=P) w t ty e i z size bytes ht hi hz hsize hby hzs hsz ⟨g,0,none⟩ n cap xs hown.1 (hown.cells (g:=g) rfl) ad 1 c news hl hnews (by omega) h63 hbytes
   exact ⟨v',w',hr,(low h2).1,⟨h3.os,h3.tape,h3.output,h3.size,fun k hk _=>h3.block k hk (by simp)⟩,.inr ⟨h3,(low h2).2⟩⟩
theorem step_append_keep {P:Program} {w:World} {ops:Array Oper} {o:Oper} {a:Act} {K:Act→World→Prop} {Q:Exit→Act→World→Prop} {E:Prop} (hgd:o.guard=none) (s x:Operand) (t:TypeId)
  (ho:o.op=.call { callee:=.builtin .append,args:=#[s,x],argTypes:=#[t,t] })
  (base:Nat) (e:TypeId) (i:TypeInfo) (z:Value) (size bytes:Nat) (ht:P.underlying t=some (.slice e)) (hi:P.info? e=some i) (hz:i.zero=some z)
  (hsize:i.size=size) (hby:i.bytes=bytes) (hzs:z.cells.size=size) (hpos:0 < size)
  (v:Value) (n:Nat) (xs:List Value) (hs:a.eval s=v) (hown:w.ownsRow base e size v n xs)
  (ad:Addr) (c:Nat) (news:List Value) (hx:a.eval x=.slice (some ad) 1 c) (hl:news.length=1 * size) (hnews:∀ j u,news[j]?=some u→w.cell? (ad.add j)=some u) (h1:∀ u ∈ news,u.oneCell'=true)
  (h63:n + 1≤maxLen) (hbytes:(n + 1) * bytes≤140737488355328) (hbase:base≤w.heap.size)
  (h:∀ v' w',w'.ownsRow base e size v' (n + 1) (xs ++ news)→w.grownBy w' v.ownBlock→((v'.ownBlock=v.ownBlock∧v.ownBlock≠none)∨(w.grownBy w' none∧∀ k,v'.ownBlock=some k→w.heap.size≤k))→K (a.put o.dst v') w') :
  if Region.wanted o (yielded ops a.tmps)=true then Oper.wp P o a w K Q else E:=by
 have hw:Region.wanted o (yielded ops a.tmps)=true:=by simp [Region.wanted,hgd]
 rw [if_pos hw]
 obtain ⟨v',w',hrun,h2,h3,h4⟩:=run_append_keep (P:=P) w base t o.type e i z size bytes ht hi hz hsize hby hzs hpos v n xs hown ad c news hl hnews h1 h63 hbytes hbase
 unfold Oper.wp execOp
 simp only [ho,resolve,invoke,builtin,Sem.run_bind,Sem.run_pure,Result.andThen_ok,List.map_toArray,List.map_cons,List.map_nil,hs,hx,hrun]
 exact h v' w' h2 h3 h4
theorem wpList_append_keep {P:Program} (w:World) {ops:Array Oper} {rest:List Oper} {o:Oper} {a:Act} {Q:Exit→Act→World→Prop} (hgd:o.guard=none) (s x:Operand) (t:TypeId)
  (ho:o.op=.call { callee:=.builtin .append,args:=#[s,x],argTypes:=#[t,t] })
  (base:Nat) (e:TypeId) (i:TypeInfo) (z:Value) (size bytes:Nat) (ht:P.underlying t=some (.slice e)) (hi:P.info? e=some i) (hz:i.zero=some z)
  (hsize:i.size=size) (hby:i.bytes=bytes) (hzs:z.cells.size=size) (hpos:0 < size)
  (v:Value) (n:Nat) (xs:List Value) (hs:a.eval s=v) (hown:w.ownsRow base e size v n xs)
  (ad:Addr) (c:Nat) (news:List Value) (hx:a.eval x=.slice (some ad) 1 c) (hl:news.length=1 * size) (hnews:∀ j u,news[j]?=some u→w.cell? (ad.add j)=some u) (h1:∀ u ∈ news,u.oneCell'=true)
  (h63:n + 1≤maxLen) (hbytes:(n + 1) * bytes≤140737488355328) (hbase:base≤w.heap.size)
  (h:∀ v' w',w'.ownsRow base e size v' (n + 1) (xs ++ news)→w.grownBy w' v.ownBlock→((v'.ownBlock=v.ownBlock∧v.ownBlock≠none)∨(w.grownBy w' none∧∀ k,v'.ownBlock=some k→w.heap.size≤k))→wpList P ops Q rest (a.put o.dst v') w'):wpList P ops Q (o :: rest) a w:=
 wpList_plain hgd fun _ hK=>by
  obtain ⟨v',w',hrun,h2,h3,h4⟩:=run_append_keep (P:=P) w base t o.type e i z size bytes ht hi hz hsize hby hzs hpos v n xs hown ad c news hl hnews h1 h63 hbytes hbase
  unfold Oper.wp execOp
  simp only [ho,resolve,invoke,builtin,Sem.run_bind,Sem.run_pure,Result.andThen_ok,List.map_toArray,List.map_cons,List.map_nil,hs,hx,hrun]
  exact hK _ _ (h v' w' h2 h3 h4)
end Go.Proofs.YtdfhhbncmdpoeaaGreat
namespace Go.Proofs.YtdfhhbncmdpoeaaGreat
open Go.RowKit
theorem wpList_build_none {P:Program} {ops:Array Oper} {rest:List Oper} {o:Oper} {a:Act} {w:World} {Q:Exit→Act→World→Prop} (hgd:o.guard=none) (ty:TypeId) (ho:o.op=.build ty #[]) (Z:Array Value)
  (hrun:∀ w,(Instr.build ty (#[]:Array (Nat × Value))).run P w=.ok (.agg Z) w)
  (h:wpList P ops Q rest (a.put o.dst (.agg Z)) w):wpList P ops Q (o :: rest) a w:=
 wpList_plain hgd fun K hK=>by
  unfold Oper.wp execOp
  simp only [ho,List.map_toArray,List.map_nil,hrun,Sem.run_bind,Result.andThen_ok]
  exact hK _ _ h
theorem results_cell_one {fn:Func} {p:Tmp} {ty:TypeId} (h:fn.results=#[.cell p ty]) (tmps:Array Value) (P:Program) (w:World) :
  (results fn tmps).run P w=((asAddr (tmps.getD p undef)).run P w).andThen fun a w₁=>(loadVar ty a).run P w₁:=by
 simp only [results,h]
 simp [Result.andThen]
theorem results_row {P:Program} {fn:Func} {p:Tmp} {ty:TypeId} (h:fn.results=#[.cell p ty]) (tmps:Array Value) (w:World) (b:Nat) (t:TypeId) (cs:Array Value) (d:TypeDesc)
  (hp:tmps.getD p undef=.pointer (some ⟨b,0,none⟩)) (hb:Bk w b t cs) (hu:P.underlying ty=some d) (hd:(match d with | .struct _ | .array _ _=>true | _=>false)=true) (hi:(P.info? ty).map (·.size)=some cs.size) :
  (results fn tmps).run P w=.ok (.agg cs) w:=by
 have hrun:=run_loadVar_row (P:=P) w b t ty cs (0,0) _ hb hu hd hi
 rw [results_cell_one h,hp]
 simp [asAddr,hrun,Result.andThen]
end Go.Proofs.YtdfhhbncmdpoeaaGreat
