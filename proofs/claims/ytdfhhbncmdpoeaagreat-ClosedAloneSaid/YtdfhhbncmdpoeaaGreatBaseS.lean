/- Words for memory, for walks over slices of one-cell elements: a slice that reads as a list, nil let in. No program is named here. -/
import Derived.Test.YtdfhhbncmdpoeaaGreatRows
import Derived.Test.YtdfhhbncmdpoeaaGreatPlainR
import Derived.WalkKit
import Derived.WalkSpells
import Derived.Deep.Draws
import Derived.Maps.AppendAt
import Derived.Deep.AppendLies
import Derived.Lib.Hide
import Derived.Laws.Rows
import Derived.Lib.OwnKind
import Derived.OwnWalk
import Derived.Laws.ResultCell
import Derived.Deep.RegionLaw
import Derived.Laws.Slices
import Derived.ProofKit
import Derived.Deep.Slices
import Derived.ChangeSlices
set_option maxRecDepth 100000
namespace Go.Proofs.YtdfhhbncmdpoeaaGreat
open Go.RowKit
def Rd (w:World) (B:Nat) (A:Option Addr) (xs:List Value):Prop:=
 0 < xs.length→∃ b off,A=some ⟨b,off,none⟩∧b < B∧∀ j u,xs[j]?=some u→w.cell? ⟨b,off + j,none⟩=some u
def Bl (w w':World):Prop:=Below w.heap.size w w'
theorem Bl.refl (w:World):Bl w w:=Below.refl _ _
theorem Bl.trans {a b c:World} (h:Bl a b) (k:Bl b c):Bl a c:=Below.trans h (Below.mono k h.size)
theorem Bl.alloc {a b:World} (h:Bl a b) (o:Obj):Bl a (b.alloc o):=Below.alloc h h.size o
theorem Bl.drew {a b:World} (h:Bl a b):Bl a b.drew:=Below.drew h
theorem Bl.drewN {a b:World} (h:Bl a b) (n:Nat):Bl a (b.drewN n):=⟨h.os,h.tape,h.output,h.size,h.block⟩
theorem Rd.bl {w w':World} {B:Nat} {A:Option Addr} {xs:List Value} (h:Rd w B A xs) (hB:B≤w.heap.size) (hb:Bl w w'):Rd w' B A xs:=fun hn=>by
 obtain ⟨b,off,e,hlt,hc⟩:=h hn
 exact ⟨b,off,e,hlt,fun j u hu=>(Below.cell hb (p:=⟨b,off + j,none⟩) (by show b < _;omega)).trans (hc j u hu)⟩
theorem Bl.grown {a b c:World} {row:Option Nat} (h:Bl a b) (hg:b.grownBy c row) (hr:∀ k,row=some k→a.heap.size≤k):Bl a c:=Below.grown h hg h.size hr
theorem one_new (w:World) (x:Value) (t:TypeId):∀ j u,[x][j]?=some u→(w.alloc (.cells #[x] t)).cell? ((⟨w.heap.size,0,none⟩:Addr).add j)=some u:=by
 intro j u hu
 cases j with
 | succ j=>simp at hu
 | zero=>
  have:x=u:=by simpa using hu
  subst this
  exact (cell_of_row _ _ 0 _ _ _ (heap_alloc_new w (.cells #[x] t))).trans rfl
section
variable {w w':World} {B B':Nat} {A:Option Addr} {xs:List Value}
theorem Rd.nil:Rd w B A []:=fun h=>absurd h (by simp)
theorem Rd.keep (h:Rd w B A xs) (hk:∀ p:Addr,p.block < B→w'.cell? p=w.cell? p):Rd w' B A xs:=fun hn=>by
 obtain ⟨b,off,e,hb,hc⟩:=h hn
 exact ⟨b,off,e,hb,fun j u hu=>(hk _ hb).trans (hc j u hu)⟩
theorem Rd.more (h:Rd w B A xs) (hB:B≤B'):Rd w B' A xs:=fun hn=>by
 obtain ⟨b,off,e,hb,hc⟩:=h hn
 exact ⟨b,off,e,by omega,hc⟩
theorem Rd.below (h:Rd w B A xs) (hb:Below B w w'):Rd w' B A xs:=h.keep fun _ hp=>hb.cell hp
theorem Rd.alloc (h:Rd w B A xs) (hB:B≤w.heap.size) (o:Obj):Rd (w.alloc o) B A xs:=h.keep fun p hp=>World.cell?_alloc_lt w o p (by omega)
theorem Rd.own {base n c:Nat} {e:TypeId} (h:w.ownsRow base e 1 (.slice A n c) n xs):Rd w w.heap.size A xs:=by
 rcases h.2 with ⟨hv,rfl⟩ | ⟨g,cap,cur,hv,_,hg,_,_,_,_⟩
 ·have:xs=[]:=List.eq_nil_of_length_eq_zero (by simpa using h.1)
  subst this;exact Rd.nil
 ·have hA:A=some ⟨g,0,none⟩:=by injection hv
  subst hA
  intro _
  have hlt:g < w.heap.size:=(h.lt g rfl).2
  refine ⟨g,0,rfl,hlt,fun j u hu=>?_⟩
  have:=h.cells (g:=g) rfl j u hu
  unfold Addr.add at this
  split at this
  ·rename_i hj;subst hj;simpa using this
  ·simpa using this
theorem Rd.take (h:Rd w B A xs) (k:Nat):Rd w B A (xs.take k):=fun hn=>by
 obtain ⟨b,off,e,hb,hc⟩:=h (by simp at hn;omega)
 refine ⟨b,off,e,hb,fun j u hu=>hc j u ?_⟩
 rw [List.getElem?_take] at hu
 split at hu
 ·exact hu
 ·cases hu
end
theorem run_append_rd {P:Program} (w:World) (base:Nat) (t ty e:TypeId) (i:TypeInfo) (z:Value) (bytes:Nat) (ht:P.underlying t=some (.slice e)) (hi:P.info? e=some i) (hz:i.zero=some z)
  (hsize:i.size=1) (hby:i.bytes=bytes) (hzs:z.cells.size=1) (v:Value) (n:Nat) (xs:List Value) (hown:w.ownsRow base e 1 v n xs)
  (B:Nat) (A:Option Addr) (m c:Nat) (news:List Value) (hr:Rd w B A news) (hm:news.length=m) (h1:∀ u ∈ news,u.oneCell'=true)
  (h63:n + m≤maxLen) (hbytes:(n + m) * bytes≤140737488355328) (hbase:base≤w.heap.size) :
  ∃ v' w',(Builtin.append_ #[t,t] ty #[v,.slice A m c]).run P w=.ok v' w'∧w'.ownsRow base e 1 v' (n + m) (xs ++ news)∧w.grownBy w' v.ownBlock∧
   (v'.ownBlock=v.ownBlock∨v'.ownBlock=some w.heap.size):=by
 cases A with
 | none=>
  have hn:news=[]:=by
   cases news with
   | nil=>rfl
   | cons x r=>obtain ⟨_,_,h,_⟩:=hr (by simp);cases h
  subst hn
  obtain rfl:m=0:=by simpa using hm.symm
  refine ⟨v,w,?_,by simpa using hown,World.grownBy.refl w _,.inl rfl⟩
  rcases hown.2 with ⟨rfl,rfl⟩ | ⟨g,cap,cur,rfl,_,_,hnc,_⟩
  ·simp [Builtin.append_,run_underlying ht,sizeOf,typeInfo,hi,Builtin.lenOf,Builtin.firstCells]
  ·simp [Builtin.append_,run_underlying ht,sizeOf,typeInfo,hi,Builtin.lenOf,Builtin.firstCells,hnc,storeCells]
 | some ad=>
  have hc:∀ j u,news[j]?=some u→w.cell? (ad.add j)=some u:=by
   intro j u hu
   have hpos:0 < news.length:=by
    rcases Nat.lt_or_ge j news.length with h | h
    ·omega
    ·rw [List.getElem?_eq_none h] at hu;cases hu
   obtain ⟨b,off,h,_,hcell⟩:=hr hpos
   injection h with h
   subst h
   have e:(⟨b,off,none⟩:Addr).add j=⟨b,off + j,none⟩:=by unfold Addr.add;split <;> simp_all
   rw [e];exact hcell j u hu
  obtain ⟨v',w',hrun,h2,h3,_,h5⟩:=run_append_own_at (P:=P) w base t ty e i z 1 bytes ht hi hz hsize hby hzs (by decide) v n xs hown ad m c news (by omega) hc h1 h63 hbytes hbase
  exact ⟨v',w',hrun,h2,h3,h5⟩
theorem own_slice {w:World} {base:Nat} {e:TypeId} {v:Value} {n:Nat} {xs:List Value} (h:w.ownsRow base e 1 v n xs):∃ A c,v=.slice A n c∧n≤c:=by
 rcases h.2 with ⟨rfl,rfl⟩ | ⟨g,cap,cur,rfl,_,_,hnc,_⟩
 ·exact ⟨_,_,rfl,Nat.le_refl _⟩
 ·exact ⟨_,_,rfl,hnc⟩
end Go.Proofs.YtdfhhbncmdpoeaaGreat
namespace Go.Proofs.YtdfhhbncmdpoeaaGreat
open Go.RowKit
structure Fr (S:Nat→Prop) (w w':World):Prop where
 os:w'.os=w.os
 tape:w'.tape=w.tape
 output:w'.output=w.output
 size:w.heap.size≤w'.heap.size
 block:∀ k,k < w.heap.size→¬ S k→w'.heap[k]?=w.heap[k]?
section
variable {S T:Nat→Prop} {a b c:World}
theorem Fr.refl (S:Nat→Prop) (w:World):Fr S w w:=⟨rfl,rfl,rfl,Nat.le_refl _,fun _ _ _=>rfl⟩
theorem Fr.trans (h:Fr S a b) (k:Fr T b c) (hT:∀ i,i < a.heap.size→T i→S i):Fr S a c:=
 ⟨k.os.trans h.os,k.tape.trans h.tape,k.output.trans h.output,Nat.le_trans h.size k.size,fun i hi hn=>
  (k.block i (Nat.lt_of_lt_of_le hi h.size) (fun ht=>hn (hT i hi ht))).trans (h.block i hi hn)⟩
theorem Fr.same (h:Fr S a b) (k:Fr S b c):Fr S a c:=h.trans k fun _ _ h=>h
theorem Fr.mono (h:Fr S a b) (hT:∀ i,i < a.heap.size→S i→T i):Fr T a b:=⟨h.os,h.tape,h.output,h.size,fun i hi hn=>h.block i hi fun hs=>hn (hT i hi hs)⟩
theorem Fr.drewN (h:Fr S a b) (n:Nat):Fr S a (b.drewN n):=⟨h.os,h.tape,h.output,h.size,h.block⟩
theorem Fr.drew (h:Fr S a b):Fr S a b.drew:=⟨h.os,h.tape,h.output,h.size,h.block⟩
theorem Fr.alloc (h:Fr S a b) (o:Obj):Fr S a (b.alloc o):=
 ⟨h.os,h.tape,h.output,Nat.le_trans h.size (by simp),fun i hi hn=>(Below.heap_alloc b o i (Nat.lt_of_lt_of_le hi h.size)).trans (h.block i hi hn)⟩
theorem Fr.setCell (h:Fr S a b) {p:Addr} (hp:S p.block∨a.heap.size≤p.block) (u:Value):Fr S a (b.setCell p u):=
 ⟨h.os,h.tape,h.output,by simpa [World.setCell] using h.size,fun i hi hn=>(Below.heap_setCell b p u i (by
  rintro rfl
  rcases hp with hp | hp
  ·exact hn hp
  ·omega)).trans (h.block i hi hn)⟩
theorem Fr.own {g:Nat} (h:Fr (fun k=>k=g) a b) (o:Nat) (u:Value):Fr (fun k=>k=g) a (b.setCell ⟨g,o,none⟩ u):=h.setCell (p:=⟨g,o,none⟩) (.inl rfl) u
theorem Fr.grown (h:Fr S a b) {row:Option Nat} (hg:b.grownBy c row) (hr:∀ k,row=some k→k < a.heap.size→S k):Fr S a c:=
 ⟨hg.os.trans h.os,hg.tape.trans h.tape,hg.output.trans h.output,Nat.le_trans h.size hg.size,fun i hi hn=>
  (hg.block i (Nat.lt_of_lt_of_le hi h.size) (fun e=>hn (hr i e.symm hi))).trans (h.block i hi hn)⟩
theorem Fr.of_bl (h:Bl a b):Fr S a b:=⟨h.os,h.tape,h.output,h.size,fun i hi _=>h.block i hi⟩
theorem Fr.after (h:Fr S a b) (k:Bl b c):Fr S a c:=h.trans (Fr.of_bl (S:=fun _=>False) k) fun _ _ h=>h.elim
theorem Fr.bl (h:Fr S a b) (hS:∀ i,i < a.heap.size→¬ S i):Bl a b:=⟨h.os,h.tape,h.output,h.size,fun i hi=>h.block i hi (hS i hi)⟩
theorem Bl.fr (h:Bl a b) (k:Fr S b c) (hS:∀ i,i < a.heap.size→¬ S i):Bl a c:=
 ((Fr.of_bl (S:=fun _=>False) h).trans k fun i hi hs=>(hS i hi hs).elim).bl fun _ _ h=>h
theorem Fr.cell (h:Fr S a b) {p:Addr} (hp:p.block < a.heap.size) (hn:¬ S p.block):b.cell? p=a.cell? p:=World.cell?_of_block (h.block p.block hp hn)
end
theorem Bl.undrew {w w':World} (h:Bl w.drew w'):Bl w w':=⟨h.os,h.tape,h.output,h.size,h.block⟩
theorem Bl.undrewN {w w':World} {n:Nat} (h:Bl (w.drewN n) w'):Bl w w':=⟨h.os,h.tape,h.output,h.size,h.block⟩
theorem Fr.undrew {S:Nat→Prop} {w w':World} (h:Fr S w.drew w'):Fr S w w':=⟨h.os,h.tape,h.output,h.size,h.block⟩
def Bk (w:World) (g:Nat) (t:TypeId) (cs:Array Value):Prop:=w.heap[g]?=some (.cells cs t (0,0))
section
variable {w w':World} {g:Nat} {t:TypeId} {cs:Array Value}
theorem Bk.lt (h:Bk w g t cs):g < w.heap.size:=by
 unfold Bk at h
 rcases Nat.lt_or_ge g w.heap.size with hl | hl
 ·exact hl
 ·rw [Array.getElem?_eq_none hl] at h;cases h
theorem Bk.cell (h:Bk w g t cs) (i:Nat):w.cell? ⟨g,i,none⟩=cs[i]?:=cell_of_row w g i cs t (0,0) h
theorem Bk.free (h:Bk w g t cs) (i:Nat):w.frozen? ⟨g,i,none⟩=false:=by
 unfold Bk at h
 simp [World.frozen?,h]
theorem Bk.new (w:World) (t:TypeId) (cs:Array Value):Bk (w.alloc (.cells cs t)) w.heap.size t cs:=heap_alloc_new w _
theorem Bk.drewN (h:Bk w g t cs) (n:Nat):Bk (w.drewN n) g t cs:=h
theorem Bk.drew (h:Bk w g t cs):Bk w.drew g t cs:=h
theorem Bk.alloc (h:Bk w g t cs) (o:Obj):Bk (w.alloc o) g t cs:=(Below.heap_alloc w o g h.lt).trans h
theorem Bk.put (h:Bk w g t cs) (i:Nat) (u:Value):Bk (w.setCell ⟨g,i,none⟩ u) g t (cs.setIfInBounds i u):=by
 unfold Bk at h ⊢
 simp [World.setCell,Array.getElem?_modify,h]
theorem Bk.far (h:Bk w g t cs) {p:Addr} (hp:g≠p.block) (u:Value):Bk (w.setCell p u) g t cs:=(Below.heap_setCell w p u g hp).trans h
theorem Bk.fr {S:Nat→Prop} (h:Bk w g t cs) (hf:Fr S w w') (hg:¬ S g):Bk w' g t cs:=(hf.block g h.lt hg).trans h
theorem Bk.bl (h:Bk w g t cs) (hb:Bl w w'):Bk w' g t cs:=(hb.block g h.lt).trans h
theorem Bk.grown {row:Option Nat} (h:Bk w g t cs) (hb:w.grownBy w' row) (hg:some g≠row):Bk w' g t cs:=(hb.block g h.lt hg).trans h
theorem Bk.apart {g':Nat} {t':TypeId} {cs':Array Value} (h:Bk w g t cs) (h':Bk w g' t' cs') (hne:t≠t'):g≠g':=by
 rintro rfl
 unfold Bk at h h'
 rw [h] at h'
 injection h' with h'
 injection h' with _ ht
 exact hne ht
theorem Bk.row {base n size:Nat} {e:TypeId} {v:Value} {xs:List Value} (hg:Bk w g t cs) (h:w.ownsRow base e size v n xs) (hne:e≠t):v.ownBlock≠some g:=by
 rcases h.2 with ⟨rfl,_⟩ | ⟨g',cap,cur,rfl,_,hh,_⟩
 ·simp [Value.ownBlock]
 ·intro he
  have:g'=g:=by simpa [Value.ownBlock] using he
  subst this
  exact Bk.apart (t:=e) hh hg hne rfl
end
section
variable {w w':World} {S:Nat→Prop} {base n size:Nat} {e:TypeId} {v:Value} {xs:List Value} {B:Nat} {A:Option Addr}
theorem own_fr (h:w.ownsRow base e size v n xs) (hf:Fr S w w') (hv:∀ k,v.ownBlock=some k→¬ S k):w'.ownsRow base e size v n xs:=by
 rcases h.2 with ⟨rfl,rfl⟩ | ⟨g,cap,cur,rfl,hb,hg,h1,h2,h3,h4⟩
 ·exact ⟨h.1,.inl ⟨rfl,rfl⟩⟩
 ·have hlt:g < w.heap.size:=(h.lt g rfl).2
  exact ⟨h.1,.inr ⟨g,cap,cur,rfl,hb,(hf.block g hlt (hv g rfl)).trans hg,h1,h2,h3,h4⟩⟩
theorem own_bl (h:w.ownsRow base e size v n xs) (hb:Bl w w'):w'.ownsRow base e size v n xs:=own_fr (S:=fun _=>False) h (Fr.of_bl hb) fun _ _ h=>h
theorem own_form (h:w.ownsRow base e size v n xs):∃ A c,v=.slice A n c∧n≤c:=by
 rcases h.2 with ⟨rfl,rfl⟩ | ⟨g,cap,cur,rfl,_,_,hnc,_⟩
 ·exact ⟨_,_,rfl,Nat.le_refl _⟩
 ·exact ⟨_,_,rfl,hnc⟩
theorem own_base {b':Nat} (h:w.ownsRow base e size v n xs) (hb:∀ k,v.ownBlock=some k→b'≤k):w.ownsRow b' e size v n xs:=by
 rcases h.2 with ⟨rfl,rfl⟩ | ⟨g,cap,cur,rfl,_,hg,h1,h2,h3,h4⟩
 ·exact ⟨h.1,.inl ⟨rfl,rfl⟩⟩
 ·exact ⟨h.1,.inr ⟨g,cap,cur,rfl,hb g rfl,hg,h1,h2,h3,h4⟩⟩
theorem Rd.fr (h:Rd w B A xs) (hB:B≤w.heap.size) (hf:Fr S w w') (hS:∀ b off,A=some ⟨b,off,none⟩→0 < xs.length→¬ S b):Rd w' B A xs:=fun hn=>by
 obtain ⟨b,off,e,hb,hc⟩:=h hn
 exact ⟨b,off,e,hb,fun j u hu=>(hf.cell (p:=⟨b,off + j,none⟩) (by show b < _;omega) (hS b off e hn)).trans (hc j u hu)⟩
theorem Rd.notin (h:Rd w B A xs) (hS:∀ k,S k→B≤k):∀ b off,A=some ⟨b,off,none⟩→0 < xs.length→¬ S b:=fun b off e hn hs=>by
 obtain ⟨b',off',e',hb,_⟩:=h hn
 rw [e'] at e
 injection e with e
 injection e with e1
 have:=hS b hs
 omega
end
def ins (l:List Int):List Value:=l.map (Value.int .i64)
theorem ins_len (l:List Int):(ins l).length=l.length:=by simp [ins]
theorem ins_at (l:List Int) (j:Nat) (h:j < l.length):(ins l)[j]?=some (.int .i64 l[j]):=by simp [ins,h]
theorem ins_append (l r:List Int):ins (l ++ r)=ins l ++ ins r:=by simp [ins]
theorem Rd.int {w:World} {B:Nat} {A:Option Addr} {l:List Int} (h:Rd w B A (ins l)) {j:Nat} (hj:j < l.length):∃ b off,A=some ⟨b,off,none⟩∧b < B∧w.cell? ⟨b,off + j,none⟩=some (.int .i64 l[j]):=by
 obtain ⟨b,off,e,hb,hc⟩:=h (by rw [ins_len];omega)
 exact ⟨b,off,e,hb,hc j _ (ins_at l j hj)⟩
def ns (l:List Nat):List Int:=l.map fun n:Nat=>(n:Int)
theorem ns_len (l:List Nat):(ns l).length=l.length:=by simp [ns]
theorem ns_append (l r:List Nat):ns (l ++ r)=ns l ++ ns r:=by simp [ns]
theorem ns_inj {l r:List Nat} (h:ns l=ns r):l=r:=by
 induction l generalizing r with
 | nil=>cases r with
  | nil=>rfl
  | cons a r=>simp [ns] at h
 | cons a l ih=>cases r with
  | nil=>simp [ns] at h
  | cons b r=>
   simp only [ns,List.map_cons,List.cons.injEq] at h
   rw [ih h.2,show a=b by omega]
end Go.Proofs.YtdfhhbncmdpoeaaGreat
namespace Go.Proofs.YtdfhhbncmdpoeaaGreat
open Go.RowKit
def rowN {α:Type} (f:α→List Value) (l:List α):List Value:=l.flatMap f
section
variable {α:Type} {f:α→List Value} {m:Nat}
theorem rowN_cons (x:α) (l:List α):rowN f (x :: l)=f x ++ rowN f l:=rfl
theorem rowN_append (a b:List α):rowN f (a ++ b)=rowN f a ++ rowN f b:=by simp [rowN]
theorem rowN_snoc (a:List α) (x:α):rowN f (a ++ [x])=rowN f a ++ f x:=by simp [rowN]
theorem rowN_len (hf:∀ x,(f x).length=m) (l:List α):(rowN f l).length=l.length * m:=by
 induction l with
 | nil=>simp [rowN]
 | cons x l ih=>rw [rowN_cons,List.length_append,hf,ih,List.length_cons,Nat.succ_mul];omega
theorem rowN_at (hf:∀ x,(f x).length=m):∀ (l:List α) (i j:Nat) (h:i < l.length),j < m→(rowN f l)[i * m + j]?=(f l[i])[j]?
 | [],_,_,h,_=>by simp at h
 | x :: l,0,j,_,hj=>by
  rw [rowN_cons,Nat.zero_mul,Nat.zero_add,List.getElem?_append_left (by rw [hf];exact hj)]
  rfl
 | x :: l,i + 1,j,h,hj=>by
  have ih:=rowN_at hf l i j (by simpa using h) hj
  rw [rowN_cons,List.getElem?_append_right (by rw [hf,Nat.succ_mul];omega),hf,Nat.succ_mul,show i * m + m + j - m=i * m + j by omega]
  exact ih
theorem rowN_one (hf:∀ x,∀ u ∈ f x,u.oneCell'=true) (l:List α):∀ u ∈ rowN f l,u.oneCell'=true:=by
 intro u hu
 obtain ⟨x,_,hx⟩:=List.mem_flatMap.1 hu
 exact hf x u hx
theorem Rd.thing {w:World} {B:Nat} {A:Option Addr} {l:List α} (hf:∀ x,(f x).length=m) (hm:0 < m) (h:Rd w B A (rowN f l)) {i:Nat} (hi:i < l.length) :
  ∃ b off,A=some ⟨b,off,none⟩∧b < B∧∀ j u,(f l[i])[j]?=some u→w.cell? ⟨b,off + i * m + j,none⟩=some u:=by
 obtain ⟨b,off,e,hb,hc⟩:=h (by rw [rowN_len hf];exact Nat.mul_pos (by omega) hm)
 refine ⟨b,off,e,hb,fun j u hu=>?_⟩
 have hj:j < m:=by
  rcases Nat.lt_or_ge j m with h | h
  ·exact h
  ·rw [List.getElem?_eq_none (by rw [hf];exact h)] at hu;cases hu
 rw [Nat.add_assoc]
 exact hc (i * m + j) u (by rw [rowN_at hf l i j hi hj];exact hu)
end
end Go.Proofs.YtdfhhbncmdpoeaaGreat
namespace Go.Proofs.YtdfhhbncmdpoeaaGreat
open Go.RowKit
def RdT (w:World) (t:TypeId) (A:Option Addr) (xs:List Value):Prop:=
 0 < xs.length→∃ b off cs fr,A=some ⟨b,off,none⟩∧w.heap[b]?=some (.cells cs t fr)∧∀ j u,xs[j]?=some u→w.cell? ⟨b,off + j,none⟩=some u
def KeepT (t:TypeId) (w w':World):Prop:=∀ (b:Nat) (cs:Array Value) (fr:Nat × Nat),w.heap[b]?=some (.cells cs t fr)→w'.heap[b]?=some (.cells cs t fr)
theorem heap_lt {w:World} {b:Nat} {o:Obj} (h:w.heap[b]?=some o):b < w.heap.size:=by
 rcases Nat.lt_or_ge b w.heap.size with hl | hl
 ·exact hl
 ·rw [Array.getElem?_eq_none hl] at h;cases h
section
variable {t e:TypeId} {w w' w2:World}
theorem KeepT.refl (t:TypeId) (w:World):KeepT t w w:=fun _ _ _ h=>h
theorem KeepT.trans (h:KeepT t w w') (k:KeepT t w' w2):KeepT t w w2:=fun b cs fr hb=>k b cs fr (h b cs fr hb)
theorem KeepT.of_bl (h:Bl w w'):KeepT t w w':=fun b _ _ hb=>(h.block b (heap_lt hb)).trans hb
theorem KeepT.bl (h:KeepT t w w') (k:Bl w' w2):KeepT t w w2:=h.trans (.of_bl k)
theorem KeepT.alloc (h:KeepT t w w') (o:Obj):KeepT t w (w'.alloc o):=h.bl ((Bl.refl w').alloc o)
theorem KeepT.put {base size n c g j:Nat} {xs:List Value} (ho:w.ownsRow base e size (.slice (some ⟨g,0,none⟩) n c) n xs) (hne:e≠t) (u:Value):KeepT t w (w.setCell ⟨g,j,none⟩ u):=fun b cs fr hb=>by
 obtain ⟨c2,f2,hg⟩:=Go.Lib.ownsRow_kind ho g rfl
 refine (Below.heap_setCell w ⟨g,j,none⟩ u b ?_).trans hb
 intro (e2:b=g)
 subst e2
 rw [hg] at hb
 injection hb with hb
 injection hb with _ h2
 exact hne h2
theorem KeepT.put_bk {g j:Nat} {cs:Array Value} (ho:Bk w g e cs) (hne:e≠t) (u:Value):KeepT t w (w.setCell ⟨g,j,none⟩ u):=fun b ds fr hb=>by
 refine (Below.heap_setCell w ⟨g,j,none⟩ u b ?_).trans hb
 intro (e2:b=g)
 subst e2
 unfold Bk at ho
 rw [ho] at hb
 injection hb with hb
 injection hb with _ h2
 exact hne h2
theorem KeepT.grown {base size n:Nat} {v:Value} {xs:List Value} (ho:w.ownsRow base e size v n xs) (hg:w.grownBy w' v.ownBlock) (hne:e≠t):KeepT t w w':=fun b cs fr hb=>by
 refine (hg.block b (heap_lt hb) ?_).trans hb
 intro h1
 obtain ⟨c2,f2,hk⟩:=Go.Lib.ownsRow_kind ho b h1.symm
 rw [hk] at hb
 injection hb with hb
 injection hb with _ h2
 exact hne h2
end
section
variable {t:TypeId} {w w':World} {A:Option Addr} {xs:List Value}
theorem RdT.nil:RdT w t A []:=fun h=>absurd h (by simp)
theorem RdT.keep (h:RdT w t A xs) (hk:KeepT t w w'):RdT w' t A xs:=fun hn=>by
 obtain ⟨b,off,cs,fr,e,hb,hc⟩:=h hn
 have hb':=hk b cs fr hb
 exact ⟨b,off,cs,fr,e,hb',fun j u hu=>(World.cell?_of_block (hb'.trans hb.symm)).trans (hc j u hu)⟩
theorem RdT.rd (h:RdT w t A xs):Rd w w.heap.size A xs:=fun hn=>by
 obtain ⟨b,off,cs,fr,e,hb,hc⟩:=h hn
 exact ⟨b,off,e,heap_lt hb,hc⟩
theorem RdT.of_own {base size n c:Nat} (h:w.ownsRow base t size (.slice A n c) n xs):RdT w t A xs:=by
 rcases h.2 with ⟨hv,rfl⟩ | ⟨g,cap,cur,hv,_,hg,_,_,_,_⟩
 ·have:xs=[]:=List.eq_nil_of_length_eq_zero (by simpa using h.1)
  subst this;exact RdT.nil
 ·have hA:A=some ⟨g,0,none⟩:=by injection hv
  subst hA
  intro _
  refine ⟨g,0,_,_,rfl,hg,fun j u hu=>?_⟩
  have:=h.cells (g:=g) rfl j u hu
  unfold Addr.add at this
  split at this
  ·rename_i hj;subst hj;simpa using this
  ·simpa using this
end
def RowsT {α:Type} (w:World) (t:TypeId) (f:α→List Value) (cs:List Value) (rs:List (List α)):Prop:=
 cs.length=rs.length∧∀ i,i < rs.length→∃ A c,cs[i]?=some (.slice A (rs.getD i []).length c)∧(rs.getD i []).length≤c∧RdT w t A (rowN f (rs.getD i []))
section
variable {α:Type} {t:TypeId} {f:α→List Value} {w w':World} {cs:List Value} {rs:List (List α)}
theorem RowsT.keep (h:RowsT w t f cs rs) (hk:KeepT t w w'):RowsT w' t f cs rs:=⟨h.1,fun i hi=>by
 obtain ⟨A,c,h1,h2,h3⟩:=h.2 i hi
 exact ⟨A,c,h1,h2,h3.keep hk⟩⟩
theorem RowsT.nils (n:Nat):RowsT w t f (List.replicate n (.slice none 0 0)) (List.replicate n []):=by
 refine ⟨by simp,fun i hi=>?_⟩
 have hi':i < n:=by simpa using hi
 have e:(List.replicate n ([]:List α)).getD i []=[]:=by rw [List.getD_eq_getElem?_getD,List.getElem?_replicate,if_pos hi'];rfl
 rw [e]
 exact ⟨none,0,by rw [List.getElem?_replicate,if_pos hi'];rfl,Nat.le_refl _,RdT.nil⟩
theorem RowsT.set (h:RowsT w t f cs rs) {i:Nat} {r:List α} {A:Option Addr} {n c:Nat} (hn:n=r.length) (hc:n≤c) (hr:RdT w t A (rowN f r)):RowsT w t f (cs.set i (.slice A n c)) (rs.set i r):=by
 subst hn
 refine ⟨by rw [List.length_set,List.length_set];exact h.1,fun k hk=>?_⟩
 rw [List.length_set] at hk
 by_cases e:i=k
 ·subst e
  have e2:(rs.set i r).getD i []=r:=by rw [List.getD_eq_getElem?_getD,List.getElem?_set,if_pos rfl,if_pos hk];rfl
  rw [e2]
  exact ⟨A,c,by rw [List.getElem?_set,if_pos rfl,if_pos (by rw [h.1];exact hk)],hc,hr⟩
 ·have e2:(rs.set i r).getD k []=rs.getD k []:=by rw [List.getD_eq_getElem?_getD,List.getD_eq_getElem?_getD,List.getElem?_set,if_neg e]
  rw [e2,List.getElem?_set,if_neg e]
  exact h.2 k hk
theorem rowsT_one (h:RowsT w t f cs rs):∀ u ∈ cs,u.oneCell'=true:=fun u hu=>by
 obtain ⟨i,hi,rfl⟩:=List.mem_iff_getElem.1 hu
 obtain ⟨A,c,h1,_,_⟩:=h.2 i (by rw [← h.1];exact hi)
 rw [List.getElem?_eq_getElem hi] at h1
 injection h1 with h1
 rw [h1];rfl
end
theorem made_nils (n:Nat):(madeCells (Value.cells (.slice none 0 0)) (n * 1)).toList=List.replicate n (.slice none 0 0):=by
 have hc:Value.cells (.slice none 0 0)=#[.slice none 0 0]:=by rfl
 rw [hc,toList_madeCells_one,Nat.mul_one]
structure ORel (w0:World) (e:TypeId) (size gg:Nat) (gt:TypeId) (G:Array Value) (n:Nat) (xs:List Value) (v:Value) (w:World):Prop where
 own:w.ownsRow w0.heap.size e size v n xs
 bg:Bk w gg gt G
 b:Bl w0 w
section
variable {w0 w w' w2:World} {e gt:TypeId} {size gg n:Nat} {G:Array Value} {xs:List Value} {v v2:Value} {o:Obj}
theorem ORel.bl_ (h:ORel w0 e size gg gt G n xs v w) (hb:Bl w w'):ORel w0 e size gg gt G n xs v w':=⟨own_bl h.own hb,h.bg.bl hb,h.b.trans hb⟩
theorem ORel.alloc (h:ORel w0 e size gg gt G n xs v w) (o:Obj):ORel w0 e size gg gt G n xs v (w.alloc o):=h.bl_ ((Bl.refl w).alloc o)
theorem ORel.is {m:Nat} {ys:List Value} (h:ORel w0 e size gg gt G n xs v w) (hm:m=n) (e1:ys=xs):ORel w0 e size gg gt G m ys v w:=by subst hm e1;exact h
theorem ORel.more {m:Nat} {ys:List Value} (h:ORel w0 e size gg gt G n xs v w) (ho:w2.ownsRow w0.heap.size e size v2 m ys) (hg:(w.alloc o).grownBy w2 v.ownBlock) (hne:e≠gt):ORel w0 e size gg gt G m ys v2 w2:=
 ⟨ho,(h.bg.alloc o).grown hg fun e2=>h.bg.row h.own hne e2.symm,(h.b.alloc o).grown hg fun k hk=>(h.own.lt k hk).1⟩
theorem ORel.rows {t:TypeId} (h:ORel w0 e size gg gt G n xs v w) (hg:(w.alloc o).grownBy w2 v.ownBlock) (hne:e≠t):KeepT t w w2:=
 ((KeepT.refl t w).alloc o).trans (.grown (h.own.alloc o) hg hne)
end
theorem cells_new (w:World) (cs:Array Value) (t:TypeId):∀ j v,cs.toList[j]?=some v→(w.alloc (.cells cs t)).cell? ((⟨w.heap.size,0,none⟩:Addr).add j)=some v:=by
 intro j v hv
 exact World.news_of_block (cs:=cs) (t:=t) (fr:=(0,0)) (heap_alloc_new w _) j v hv
def TabT {α:Type} (w:World) (base:Nat) (te tl:TypeId) (f:α→List Value) (g N c:Nat) (tbl:List (List α)):Prop:=
 ∃ cs,w.ownsRow base tl 1 (.slice (some ⟨g,0,none⟩) N c) N cs∧RowsT w te f cs tbl∧tbl.length=N
section
variable {α:Type} {w w' w2:World} {base:Nat} {te tl:TypeId} {f:α→List Value} {g N c:Nat} {tbl:List (List α)}
theorem TabT.bl (h:TabT w base te tl f g N c tbl) (hb:Bl w w'):TabT w' base te tl f g N c tbl:=by
 obtain ⟨cs,h1,h2,h3⟩:=h
 exact ⟨cs,own_bl h1 hb,h2.keep (.of_bl hb),h3⟩
theorem TabT.len (h:TabT w base te tl f g N c tbl):tbl.length=N:=by
 obtain ⟨_,_,_,h3⟩:=h
 exact h3
theorem TabT.read (h:TabT w base te tl f g N c tbl) {m:Nat} (hm:m < N):∃ A d,w.cell? ⟨g,m,none⟩=some (.slice A (tbl.getD m []).length d)∧(tbl.getD m []).length≤d∧RdT w te A (rowN f (tbl.getD m [])):=by
 obtain ⟨cs,h1,h2,h3⟩:=h
 obtain ⟨A,d,h4,h5,h6⟩:=h2.2 m (by omega)
 exact ⟨A,d,(h1.cellAt m (by omega)).trans h4,h5,h6⟩
theorem TabT.free (h:TabT w base te tl f g N c tbl) (j:Nat):w.frozen? ⟨g,j,none⟩=false:=by
 obtain ⟨cs,h1,_,_⟩:=h
 exact h1.frozenAt j
theorem TabT.glt (h:TabT w base te tl f g N c tbl):base≤g∧g < w.heap.size:=by
 obtain ⟨cs,h1,_,_⟩:=h
 exact h1.lt g rfl
theorem TabT.put (h:TabT w base te tl f g N c tbl) (hne:tl≠te) {m:Nat} {A:Option Addr} {k d:Nat} {r:List α} (hk:k=r.length) (hd:k≤d) (hr:RdT w te A (rowN f r)) :
  TabT (w.setCell ⟨g,m,none⟩ (.slice A k d)) base te tl f g N c (tbl.set m r):=by
 obtain ⟨cs,h1,h2,h3⟩:=h
 have hkp:=KeepT.put (t:=te) (j:=m) h1 hne (.slice A k d)
 exact ⟨cs.set m (.slice A k d),(h1.stored m _).1,(h2.keep hkp).set hk hd (hr.keep hkp),by rw [List.length_set];exact h3⟩
theorem TabT.other {g2 N2 c2:Nat} {tb2:List (List α)} (h:TabT w base te tl f g N c tbl) (h2:TabT w base te tl f g2 N2 c2 tb2) (hg:g≠g2) (hne:tl≠te) (m:Nat) (u:Value):TabT (w.setCell ⟨g2,m,none⟩ u) base te tl f g N c tbl:=by
 obtain ⟨cs,h1,h2',h3⟩:=h
 obtain ⟨ds,k1,_,_⟩:=h2
 refine ⟨cs,own_fr h1 ((Fr.refl (fun k=>k=g2) w).own m u) (fun k hk e=>hg ?_),h2'.keep (KeepT.put k1 hne u),h3⟩
 have:g=k:=by simpa [Value.ownBlock] using hk
 omega
theorem TabT.made (h:w.ownsRow base tl 1 (.slice (some ⟨g,0,none⟩) N c) N (madeCells (Value.cells (.slice none 0 0)) (N * 1)).toList):TabT w base te tl f g N c (List.replicate N []):=by
 rw [made_nils] at h
 exact ⟨_,h,RowsT.nils N,List.length_replicate⟩
theorem TabT.row_bk (h:TabT w base te tl f g N c tbl) {gg:Nat} {t:TypeId} {G:Array Value} (hb:Bk w gg t G) (hne:tl≠t):gg≠g:=by
 obtain ⟨cs,h1,_,_⟩:=h
 intro e
 exact hb.row h1 hne (by rw [e];rfl)
end
end Go.Proofs.YtdfhhbncmdpoeaaGreat
namespace Go.Proofs.YtdfhhbncmdpoeaaGreat
open Go.RowKit
def Ty (w:World) (k:Nat) (t:TypeId):Prop:=∃ cs fr,w.heap[k]?=some (.cells cs t fr)
section
variable {w w':World} {k:Nat} {t t' e:TypeId}
theorem Ty.ne (h:Ty w k t) (h':Ty w k t') (hne:t≠t'):False:=by
 obtain ⟨cs,fr,h⟩:=h
 obtain ⟨cs',fr',h'⟩:=h'
 rw [h] at h'
 injection h' with h'
 injection h' with _ ht
 exact hne ht
theorem Bk.ty {cs:Array Value} (h:Bk w k t cs):Ty w k t:=⟨cs,_,h⟩
theorem own_ty {base size n:Nat} {v:Value} {xs:List Value} (h:w.ownsRow base e size v n xs) (hk:v.ownBlock=some k):Ty w k e:=Go.Lib.ownsRow_kind h k hk
theorem KeepT.of_fr {S:Nat→Prop} (hf:Fr S w w') (hS:∀ k,S k→Ty w k t→False):KeepT t w w':=fun b cs fr hb=>(hf.block b (heap_lt hb) fun hs=>hS b hs ⟨cs,fr,hb⟩).trans hb
end
theorem rd_newB (w:World) (t:TypeId) (cs:Array Value):Rd (w.alloc (.cells cs t)) (w.heap.size + 1) (some ⟨w.heap.size,0,none⟩) cs.toList:=fun _=>⟨w.heap.size,0,rfl,Nat.lt_succ_self _,fun j u hu=>by
 rw [Nat.zero_add]
 rw [Bk.cell (Bk.new w t cs) j,← Array.getElem?_toList]
 exact hu⟩
end Go.Proofs.YtdfhhbncmdpoeaaGreat
namespace Go.Proofs.YtdfhhbncmdpoeaaGreat
open Go.RowKit
theorem results_cell_st {P:Program} {fn:Func} {p u:Tmp} {ty:TypeId} (h:fn.results=#[.cell p ty,.tmp u]) (tmps:Array Value) (w:World) (g:Nat) (t:TypeId) (cs:Array Value) (d:TypeDesc)
  (hp:tmps.getD p undef=.pointer (some ⟨g,0,none⟩)) (hb:Bk w g t cs) (hu:P.underlying ty=some d) (hd:(match d with | .struct _ | .array _ _=>true | _=>false)=true) (hi:(P.info? ty).map (·.size)=some cs.size) :
  (results fn tmps).run P w=.ok (.tuple #[.agg cs,tmps.getD u undef]) w:=by
 rw [results_cell_tmp h,hp]
 have hrun:=run_loadVar_row (P:=P) w g t ty cs (0,0) d hb hu hd hi
 simp [asAddr,hrun,Result.andThen]
end Go.Proofs.YtdfhhbncmdpoeaaGreat
namespace Go.Proofs.YtdfhhbncmdpoeaaGreat
open Go.RowKit
theorem run_append_rdN {P:Program} (w:World) (base:Nat) (t ty e:TypeId) (i:TypeInfo) (z:Value) (size bytes:Nat) (ht:P.underlying t=some (.slice e)) (hi:P.info? e=some i) (hz:i.zero=some z)
  (hsize:i.size=size) (hby:i.bytes=bytes) (hzs:z.cells.size=size) (hpos:0 < size) (v:Value) (n:Nat) (xs:List Value) (hown:w.ownsRow base e size v n xs)
  (B:Nat) (A:Option Addr) (m c:Nat) (news:List Value) (hr:Rd w B A news) (hm:news.length=m * size) (h1:∀ u ∈ news,u.oneCell'=true)
  (h63:n + m≤maxLen) (hbytes:(n + m) * bytes≤140737488355328) (hbase:base≤w.heap.size) :
  ∃ v' w',(Builtin.append_ #[t,t] ty #[v,.slice A m c]).run P w=.ok v' w'∧w'.ownsRow base e size v' (n + m) (xs ++ news)∧w.grownBy w' v.ownBlock:=by
 cases A with
 | none=>
  have hn:news=[]:=by
   cases news with
   | nil=>rfl
   | cons x r=>obtain ⟨_,_,h,_⟩:=hr (by simp);cases h
  subst hn
  obtain rfl:m=0:=by
   rcases Nat.mul_eq_zero.1 hm.symm with h | h
   ·exact h
   ·omega
  refine ⟨v,w,?_,by simpa using hown,World.grownBy.refl w _⟩
  rcases hown.2 with ⟨rfl,rfl⟩ | ⟨g,cap,cur,rfl,_,_,hnc,_⟩
  ·simp [Builtin.append_,run_underlying ht,sizeOf,typeInfo,hi,Builtin.lenOf,Builtin.firstCells]
  ·simp [Builtin.append_,run_underlying ht,sizeOf,typeInfo,hi,Builtin.lenOf,Builtin.firstCells,hnc,storeCells]
 | some ad=>
  have hc:∀ j u,news[j]?=some u→w.cell? (ad.add j)=some u:=by
   intro j u hu
   have hpos:0 < news.length:=by
    rcases Nat.lt_or_ge j news.length with h | h
    ·omega
    ·rw [List.getElem?_eq_none h] at hu;cases hu
   obtain ⟨b,off,h,_,hcell⟩:=hr hpos
   injection h with h
   subst h
   have e:(⟨b,off,none⟩:Addr).add j=⟨b,off + j,none⟩:=by unfold Addr.add;split <;> simp_all
   rw [e];exact hcell j u hu
  obtain ⟨v',w',hrun,h2,h3,_⟩:=run_append_own (P:=P) w base t ty e i z size bytes ht hi hz hsize hby hzs hpos v n xs hown ad m c news hm hc h1 h63 hbytes hbase
  exact ⟨v',w',hrun,h2,h3⟩
theorem step_append_rdN {P:Program} {w:World} {ops:Array Oper} {o:Oper} {a:Act} {K:Act→World→Prop} {Q:Exit→Act→World→Prop} {E:Prop} (hgd:o.guard=none) (s x:Operand) (t:TypeId)
  (ho:o.op=.call { callee:=.builtin .append,args:=#[s,x],argTypes:=#[t,t] })
  (base:Nat) (e:TypeId) (i:TypeInfo) (z:Value) (size bytes:Nat) (ht:P.underlying t=some (.slice e)) (hi:P.info? e=some i) (hz:i.zero=some z)
  (hsize:i.size=size) (hby:i.bytes=bytes) (hzs:z.cells.size=size) (hpos:0 < size)
  (v:Value) (n:Nat) (xs:List Value) (hs:a.eval s=v) (hown:w.ownsRow base e size v n xs)
  (B:Nat) (A:Option Addr) (m c:Nat) (news:List Value) (hx:a.eval x=.slice A m c) (hr:Rd w B A news) (hm:news.length=m * size) (h1:∀ u ∈ news,u.oneCell'=true)
  (h63:n + m≤maxLen) (hbytes:(n + m) * bytes≤140737488355328) (hbase:base≤w.heap.size)
  (h:∀ v' w',w'.ownsRow base e size v' (n + m) (xs ++ news)→w.grownBy w' v.ownBlock→K (a.put o.dst v') w') :
  if Region.wanted o (yielded ops a.tmps)=true then Oper.wp P o a w K Q else E:=by
 have hw:Region.wanted o (yielded ops a.tmps)=true:=by simp [Region.wanted,hgd]
 rw [if_pos hw]
 obtain ⟨v',w',hrun,h2,h3⟩:=run_append_rdN (P:=P) w base t o.type e i z size bytes ht hi hz hsize hby hzs hpos v n xs hown B A m c news hr hm h1 h63 hbytes hbase
 unfold Oper.wp execOp
 simp only [ho,resolve,invoke,builtin,Sem.run_bind,Sem.run_pure,Result.andThen_ok,List.map_toArray,List.map_cons,List.map_nil,hs,hx,hrun]
 exact h v' w' h2 h3
theorem run_slice_head {P:Program} {t e:TypeId} {size:Nat} (ht:P.underlying t=some (.slice e)) (hz:(P.info? e).map (·.size)=some size) (A:Option Addr) (len cap k:Nat) (x:Int) (hx:x=(k:Int)) (hk:k≤cap) (w:World) :
  (Instr.slice t (.slice A len cap) none (some (.int .i64 x)) none).run P w=.ok (.slice A k cap) w:=by
 subst hx
 have ht':P.underlying t=some (.slice (P.elem t)):=by simp [Program.elem,ht]
 have he:P.elem t=e:=by simp [Program.elem,ht]
 rw [run_slice_h w t _ _ _ ht' .i64 _ (by omega) (by omega),he]
 have hs:(Go.sizeOf e).run P w=.ok size w:=by
  cases hi:P.info? e with
  | none=>rw [hi] at hz;cases hz
  | some i=>rw [hi] at hz;injection hz with hz;rw [← hz];simp [Go.sizeOf,run_typeInfo w hi]
 rw [hs]
 have h0:∀ b:Addr,b.add 0=b:=fun b=>by simp [Addr.add]
 have hA:A.map (fun x=>x.add (0 * size))=A:=by
  cases A with
  | none=>rfl
  | some b=>simp [Nat.zero_mul,h0]
 simp only [Result.andThen_ok,sliced,hA,Int.toNat_natCast,Nat.sub_zero]
 split <;> rfl
end Go.Proofs.YtdfhhbncmdpoeaaGreat
namespace Go.Proofs.YtdfhhbncmdpoeaaGreat
open Go.RowKit
def row2 {α:Type} (f g:α→Value) (l:List α):List Value:=l.flatMap fun x=>[f x,g x]
section
variable {α:Type} {f g:α→Value}
theorem row2_cons (x:α) (l:List α):row2 f g (x :: l)=f x :: g x :: row2 f g l:=rfl
theorem row2_append (a b:List α):row2 f g (a ++ b)=row2 f g a ++ row2 f g b:=by simp [row2]
theorem row2_len (l:List α):(row2 f g l).length=l.length * 2:=by
 induction l with
 | nil=>rfl
 | cons x l ih=>rw [row2_cons,List.length_cons,List.length_cons,ih,List.length_cons];omega
theorem row2_at:∀ (l:List α) (i:Nat) (h:i < l.length),(row2 f g l)[i * 2]?=some (f l[i])∧(row2 f g l)[i * 2 + 1]?=some (g l[i])
 | [],_,h=>by simp at h
 | x :: l,0,_=>⟨rfl,rfl⟩
 | x :: l,i + 1,h=>by
  have ih:=row2_at l i (by simpa using h)
  rw [row2_cons,show (i + 1) * 2=i * 2 + 1 + 1 by omega]
  exact ih
theorem row2_one (l:List α) (hf:∀ x,(f x).oneCell'=true) (hg:∀ x,(g x).oneCell'=true):∀ u ∈ row2 f g l,u.oneCell'=true:=by
 intro u hu
 obtain ⟨x,_,hx⟩:=List.mem_flatMap.1 hu
 simp only [List.mem_cons,List.not_mem_nil,or_false] at hx
 rcases hx with rfl | rfl
 ·exact hf x
 ·exact hg x
theorem Rd.two {w:World} {B:Nat} {A:Option Addr} {l:List α} (h:Rd w B A (row2 f g l)) {i:Nat} (hi:i < l.length) :
  ∃ b off,A=some ⟨b,off,none⟩∧b < B∧w.cell? ⟨b,off + i * 2,none⟩=some (f l[i])∧w.cell? ⟨b,off + i * 2 + 1,none⟩=some (g l[i]):=by
 obtain ⟨b,off,e,hb,hc⟩:=h (by rw [row2_len];omega)
 have h2:=row2_at (f:=f) (g:=g) l i hi
 exact ⟨b,off,e,hb,hc _ _ h2.1,by rw [Nat.add_assoc];exact hc _ _ h2.2⟩
end
def syRow:List Gr.Sy→List Value:=row2 (fun s=>.bool s.non) (fun s=>.int .i64 s.n)
theorem syRow_len (l:List Gr.Sy):(syRow l).length=l.length * 2:=row2_len l
theorem syRow_append (a b:List Gr.Sy):syRow (a ++ b)=syRow a ++ syRow b:=row2_append a b
theorem syRow_one (l:List Gr.Sy):∀ u ∈ syRow l,u.oneCell'=true:=row2_one l (fun _=>rfl) (fun _=>rfl)
theorem Rd.sym {w:World} {B:Nat} {A:Option Addr} {l:List Gr.Sy} (h:Rd w B A (syRow l)) {i:Nat} (hi:i < l.length) :
  ∃ b off,A=some ⟨b,off,none⟩∧b < B∧w.cell? ⟨b,off + i * 2,none⟩=some (.bool l[i].non)∧w.cell? ⟨b,off + i * 2 + 1,none⟩=some (.int .i64 l[i].n):=Rd.two h hi
structure Ph where
 left:Int
 right:List Gr.Sy
 at_:Option Addr
 cap:Nat
def Ph.pr (h:Ph):Gr.Pr:=⟨h.left,h.right⟩
def phRow:List Ph→List Value:=row2 (fun h=>.int .i64 h.left) (fun h=>.slice h.at_ h.right.length h.cap)
def Prs (w:World) (B:Nat) (A:Option Addr) (ps:List Gr.Pr):Prop:=
 ∃ hs:List Ph,ps=hs.map Ph.pr∧Rd w B A (phRow hs)∧∀ h ∈ hs,Rd w B h.at_ (syRow h.right)
section
variable {w w':World} {B B':Nat} {A:Option Addr} {ps:List Gr.Pr}
theorem Prs.keep (h:Prs w B A ps) (hk:∀ A xs,Rd w B A xs→Rd w' B' A xs):Prs w' B' A ps:=by
 obtain ⟨hs,e,h1,h2⟩:=h
 exact ⟨hs,e,hk _ _ h1,fun x hx=>hk _ _ (h2 x hx)⟩
theorem Prs.bl (h:Prs w B A ps) (hB:B≤w.heap.size) (hb:Bl w w'):Prs w' B A ps:=h.keep fun _ _ h=>h.bl hB hb
theorem Prs.below (h:Prs w B A ps) (hb:Below B w w'):Prs w' B A ps:=h.keep fun _ _ h=>h.below hb
theorem Prs.more (h:Prs w B A ps) (hB:B≤B'):Prs w B' A ps:=h.keep fun _ _ h=>h.more hB
theorem Prs.at_ (h:Prs w B A ps) {i:Nat} (hi:i < ps.length):∃ b off Ax c,A=some ⟨b,off,none⟩∧b < B∧Rd w B Ax (syRow ps[i].right)∧
  w.cell? ⟨b,off + i * 2,none⟩=some (.int .i64 ps[i].left)∧w.cell? ⟨b,off + i * 2 + 1,none⟩=some (.slice Ax ps[i].right.length c):=by
 obtain ⟨hs,rfl,h1,h2⟩:=h
 have hi':i < hs.length:=by simpa using hi
 obtain ⟨b,off,e,hb,c0,c1⟩:=Rd.two h1 hi'
 refine ⟨b,off,hs[i].at_,hs[i].cap,e,hb,?_,?_,?_⟩
 ·have:=h2 _ (List.getElem_mem hi')
  simpa [Ph.pr] using this
 ·simpa [Ph.pr] using c0
 ·simpa [Ph.pr] using c1
end
def belowB (n m:Int):Bool:=decide (0≤n∧n < m)
def okSyB (t n:Int) (s:Gr.Sy):Bool:=belowB s.n (if s.non then n else t)
def okPrB (t n:Int) (p:Gr.Pr):Bool:=decide (0≤p.left∧p.left < n∧p.right.length≤8) && p.right.all (okSyB t n)
def okB (g:Gr.Gm):Bool:=decide (0≤g.terms∧g.terms≤16∧1≤g.nons∧g.nons≤24∧0≤g.start∧g.start < g.nons∧g.prods.length≤60) && g.prods.all (okPrB g.terms g.nons)
theorem belowB_iff (n m:Int):belowB n m=true↔0≤n∧n < m:=by simp [belowB]
theorem belowB_no {n m:Int} (h:n < 0∨m≤n):belowB n m=false:=by
 rw [Bool.eq_false_iff];intro e;have:=(belowB_iff n m).1 e;omega
theorem okSyB_iff (g:Gr.Gm) (s:Gr.Sy):okSyB g.terms g.nons s=true↔Gr.okSy g s:=by
 unfold okSyB Gr.okSy
 rw [belowB_iff]
 cases s.non <;> simp
theorem okPrB_iff (g:Gr.Gm) (p:Gr.Pr):okPrB g.terms g.nons p=true↔Gr.okPr g p:=by
 unfold okPrB Gr.okPr
 simp only [Bool.and_eq_true,decide_eq_true_eq,List.all_eq_true,okSyB_iff,and_assoc]
theorem okB_iff (g:Gr.Gm):okB g=true↔Gr.Ok g:=by
 unfold okB Gr.Ok
 simp only [Bool.and_eq_true,decide_eq_true_eq,List.all_eq_true,okPrB_iff,and_assoc]
section
variable {t n s:Int} {ps:List Gr.Pr}
theorem okB_no (h:t < 0∨16 < t∨n < 1∨24 < n∨s < 0∨n≤s∨60 < ps.length):okB ⟨t,n,s,ps⟩=false:=by
 rw [Bool.eq_false_iff]
 intro e
 obtain ⟨h1,h2,h3,h4,h5,h6,h7,_⟩:=(okB_iff _).1 e
 simp only at h1 h2 h3 h4 h5 h6 h7
 omega
theorem okB_one {k:Nat} (hk:k < ps.length) (h:okPrB t n ps[k]=false):okB ⟨t,n,s,ps⟩=false:=by
 rw [Bool.eq_false_iff]
 intro e
 unfold okB at e
 simp only [Bool.and_eq_true,List.all_eq_true] at e
 have:=e.2 _ (List.getElem_mem hk)
 rw [h] at this;cases this
theorem okB_all (h1:0≤t) (h2:t≤16) (h3:1≤n) (h4:n≤24) (h5:0≤s) (h6:s < n) (h7:ps.length≤60) (h:∀ p ∈ ps,okPrB t n p=true):okB ⟨t,n,s,ps⟩=true:=by
 unfold okB
 simp only [Bool.and_eq_true,decide_eq_true_eq,List.all_eq_true]
 exact ⟨⟨h1,h2,h3,h4,h5,h6,h7⟩,h⟩
theorem okPrB_no {l:Int} {ss:List Gr.Sy} (h:l < 0∨n≤l∨8 < ss.length):okPrB t n ⟨l,ss⟩=false:=by
 unfold okPrB
 rw [decide_eq_false (by simp only;omega)];rfl
theorem okPrB_one {l:Int} {ss:List Gr.Sy} {k:Nat} (hk:k < ss.length) (h:okSyB t n ss[k]=false):okPrB t n ⟨l,ss⟩=false:=by
 rw [Bool.eq_false_iff]
 intro e
 unfold okPrB at e
 simp only [Bool.and_eq_true,List.all_eq_true] at e
 have:=e.2 _ (List.getElem_mem hk)
 rw [h] at this;cases this
theorem okPrB_all {l:Int} {ss:List Gr.Sy} (h1:0≤l) (h2:l < n) (h3:ss.length≤8) (h:∀ s ∈ ss,okSyB t n s=true):okPrB t n ⟨l,ss⟩=true:=by
 unfold okPrB
 simp only [Bool.and_eq_true,decide_eq_true_eq,List.all_eq_true]
 exact ⟨⟨h1,h2,h3⟩,h⟩
end
theorem all_snoc {α:Type} {P:α→Prop} {l:List α} {k:Nat} (h:k < l.length) (ha:∀ x ∈ l.take k,P x) (hx:P l[k]):∀ x ∈ l.take (k + 1),P x:=by
 intro x hm
 rw [List.take_succ_eq_append_getElem h] at hm
 rcases List.mem_append.1 hm with h1 | h1
 ·exact ha x h1
 ·simp at h1;rw [h1];exact hx
end Go.Proofs.YtdfhhbncmdpoeaaGreat
namespace Go.Proofs.YtdfhhbncmdpoeaaGreat
open Go.ChangeShapes Go.WideShapes Go.RowKit Go.Deep
section
variable {H:Type} {enc:TypeId × Value→H} {w:World} {spare:Nat→Bool} {held:Bool}
theorem open_sym {fuel:Nat} {cs:List Value} {y:DataW H × List MemPlace} (h:DataW.trod enc Tryz.prog w 0 spare held fuel 39 cs=some y) :
  ∃ x:Gr.Sy,cs=[.bool x.non,.int .i64 x.n]:=by
 obtain ⟨xs,n,_,_,hlen,hxl,hf⟩:=DataW.trod_struct Tryz.underlying39 h
 have h2:Tryz.prog.cellsOf 39=2:=by kernel_rfl
 rw [h2] at hlen
 match cs,hlen with
 | [c0,c1],_=>
  have e4:Tryz.prog.cellsOf 4=1:=by kernel_rfl
  have e3:Tryz.prog.cellsOf 3=1:=by kernel_rfl
  match xs,hxl with
  | [y0,y1],_=>
   have h0:=hf 0 _ rfl
   have h1:=hf 1 _ rfl
   simp [e3,e4] at h0 h1
   obtain ⟨b,hb,_⟩:=DataW.trod_bool Tryz.underlying4 h0
   obtain ⟨m,hm,_,_⟩:=DataW.trod_int Tryz.underlying3 h1
   injection hb with hb _
   injection hm with hm _
   subst hb hm
   exact ⟨⟨b,m⟩,rfl⟩
theorem rd_two {α:Type} {f g:α→Value} {a:Addr} {len:Nat} (key:∀ i,i < len→∃ x:α,w.cell? (a.add (i * 2))=some (f x)∧w.cell? ((a.add (i * 2)).add 1)=some (g x)) :
  ∃ xs:List α,xs.length=len∧Rd w w.heap.size (some a) (row2 f g xs):=by
 have hf:=Classical.skolem.1 fun i:Fin len=>key i i.2
 obtain ⟨X,hX⟩:=hf
 refine ⟨List.ofFn X,by simp,?_⟩
 intro hn
 rw [row2_len,List.length_ofFn] at hn
 obtain ⟨h0,_⟩:=hX ⟨0,by omega⟩
 obtain ⟨b,off,spot⟩:=a
 have hspot:spot=none:=by simpa [Addr.add] using World.cell?_spot h0
 subst hspot
 refine ⟨b,off,rfl,by have:=World.block_lt_of_cell? w _ h0;simpa [Addr.add] using this,fun j u hu=>?_⟩
 have e:∀ j,(⟨b,off,none⟩:Addr).add j=⟨b,off + j,none⟩:=fun j=>by unfold Addr.add;split <;> simp_all
 have e':∀ o j,(⟨b,o,none⟩:Addr).add j=⟨b,o + j,none⟩:=fun o j=>by unfold Addr.add;split <;> simp_all
 have hj:j < len * 2:=by
  rcases Nat.lt_or_ge j (len * 2) with h | h
  ·exact h
  ·rw [List.getElem?_eq_none (by rw [row2_len,List.length_ofFn];exact h)] at hu;cases hu
 have hi:j / 2 < len:=by omega
 obtain ⟨q0,q1⟩:=hX ⟨j / 2,hi⟩
 have r:=row2_at (f:=f) (g:=g) (List.ofFn X) (j / 2) (by rw [List.length_ofFn];exact hi)
 rw [List.getElem_ofFn] at r
 rw [e] at q0 q1
 rw [e'] at q1
 rcases Nat.mod_two_eq_zero_or_one j with hm | hm
 ·have ej:j=j / 2 * 2:=by omega
  rw [ej] at hu ⊢
  rw [r.1] at hu
  rw [← hu]
  exact q0
 ·have ej:j=j / 2 * 2 + 1:=by omega
  rw [ej] at hu ⊢
  rw [r.2] at hu
  rw [← hu,← Nat.add_assoc]
  exact q1
end
end Go.Proofs.YtdfhhbncmdpoeaaGreat
namespace Go.Proofs.YtdfhhbncmdpoeaaGreat
open Go.ChangeShapes Go.WideShapes Go.RowKit Go.Deep
def PrsC (w:World) (B:Nat) (A:Option Addr) (ps:List Gr.Pr):Prop:=
 ∃ hs:List Ph,ps=hs.map Ph.pr∧Rd w B A (phRow hs)∧∀ h ∈ hs,Rd w B h.at_ (syRow h.right)∧h.right.length≤h.cap∧h.cap≤maxLen
section
variable {w w':World} {B B':Nat} {A:Option Addr} {ps:List Gr.Pr}
theorem PrsC.prs (h:PrsC w B A ps):Prs w B A ps:=by
 obtain ⟨hs,e,h1,h2⟩:=h
 exact ⟨hs,e,h1,fun x hx=>(h2 x hx).1⟩
theorem PrsC.nil:PrsC w B A []:=⟨[],rfl,Rd.nil,by simp⟩
theorem PrsC.keep (h:PrsC w B A ps) (hk:∀ A xs,Rd w B A xs→Rd w' B' A xs):PrsC w' B' A ps:=by
 obtain ⟨hs,e,h1,h2⟩:=h
 exact ⟨hs,e,hk _ _ h1,fun x hx=>⟨hk _ _ (h2 x hx).1,(h2 x hx).2⟩⟩
theorem PrsC.bl (h:PrsC w B A ps) (hB:B≤w.heap.size) (hb:Bl w w'):PrsC w' B A ps:=h.keep fun _ _ h=>h.bl hB hb
theorem PrsC.more (h:PrsC w B A ps) (hB:B≤B'):PrsC w B' A ps:=h.keep fun _ _ h=>h.more hB
theorem PrsC.at_ (h:PrsC w B A ps) {i:Nat} (hi:i < ps.length):∃ b off Ax c,A=some ⟨b,off,none⟩∧b < B∧Rd w B Ax (syRow ps[i].right)∧
  w.cell? ⟨b,off + i * 2,none⟩=some (.int .i64 ps[i].left)∧w.cell? ⟨b,off + i * 2 + 1,none⟩=some (.slice Ax ps[i].right.length c)∧ps[i].right.length≤c∧c≤maxLen:=by
 obtain ⟨hs,rfl,h1,h2⟩:=h
 have hi':i < hs.length:=by simpa using hi
 obtain ⟨b,off,e,hb,c0,c1⟩:=Rd.two h1 hi'
 have:=h2 _ (List.getElem_mem hi')
 refine ⟨b,off,hs[i].at_,hs[i].cap,e,hb,?_,?_,?_,?_⟩
 ·simpa [Ph.pr] using this.1
 ·simpa [Ph.pr] using c0
 ·simpa [Ph.pr] using c1
 ·simpa [Ph.pr] using this.2
end
theorem Rd.sy_cut {w:World} {B:Nat} {A:Option Addr} {l:List Gr.Sy} (h:Rd w B A (syRow l)) {k cap:Nat} (hc:l.length≤cap):Rd w B (if cap=k then A else A.map (·.add (k * 2))) (syRow (l.drop k)):=fun hn=>by
 rw [syRow_len,List.length_drop] at hn
 obtain ⟨b,off,e,hb,hcell⟩:=h (by rw [syRow_len];omega)
 rw [if_neg (by omega)]
 refine ⟨b,off + k * 2,?_,hb,fun j u hu=>?_⟩
 ·subst e
  simp only [Option.map_some,Addr.add]
  split
  ·rename_i h0;rw [h0];rfl
  ·rfl
 ·rw [Nat.add_assoc]
  refine hcell (k * 2 + j) u ?_
  have e2:l=l.take k ++ l.drop k:=(List.take_append_drop k l).symm
  rw [e2,syRow_append,List.getElem?_append_right (by rw [syRow_len,List.length_take];omega),syRow_len,List.length_take,show k * 2 + j - min k l.length * 2=j by omega]
  exact hu
theorem run_slice_tail {P:Program} {t e:TypeId} {size:Nat} (ht:P.underlying t=some (.slice e)) (hz:(P.info? e).map (·.size)=some size) (A:Option Addr) (len cap l:Nat) (x:Int) (hx:x=(l:Int)) (hl:l≤len) (w:World) :
  (Instr.slice t (.slice A len cap) (some (.int .i64 x)) none none).run P w=.ok (.slice (if cap=l then A else A.map (·.add (l * size))) (len - l) (cap - l)) w:=by
 subst hx
 have ht':P.underlying t=some (.slice (P.elem t)):=by simp [Program.elem,ht]
 have he:P.elem t=e:=by simp [Program.elem,ht]
 rw [run_slice_l w t _ _ _ ht' .i64 _ (by omega) (by omega),he]
 have hs:(Go.sizeOf e).run P w=.ok size w:=by
  cases hi:P.info? e with
  | none=>rw [hi] at hz;cases hz
  | some i=>rw [hi] at hz;injection hz with hz;rw [← hz];simp [Go.sizeOf,run_typeInfo w hi]
 rw [hs]
 simp [Result.andThen,sliced]
section
variable {H:Type} {enc:TypeId × Value→H} {w:World} {spare:Nat→Bool} {held:Bool}
theorem open_symsC {fuel:Nat} {v:Value} {x:DataW H × List MemPlace} (h:DataW.trod enc Tryz.prog w 0 spare held fuel 40 [v]=some x) :
  ∃ (A:Option Addr) (l:List Gr.Sy) (c:Nat),v=.slice A l.length c∧Rd w w.heap.size A (syRow l)∧l.length≤c∧c≤maxLen:=by
 rcases open_slice Tryz.underlying40 h with ⟨hcs,_⟩ | ⟨a,len',cap',m,n,D,Pl,hcs,_,hl,hm,hmm,_,hi⟩
 ·injection hcs with hcs _
  subst hcs
  exact ⟨none,[],0,rfl,Rd.nil,Nat.zero_le _,Nat.zero_le _⟩
 ·injection hcs with hcs _
  subst hcs
  have h2:Tryz.prog.cellsOf 39=2:=by kernel_rfl
  rw [h2] at hi
  have hlm:len'≤m:=by rw [hmm];split <;> omega
  have key:∀ i,i < len'→∃ x:Gr.Sy,w.cell? (a.add (i * 2))=some (.bool x.non)∧w.cell? ((a.add (i * 2)).add 1)=some (.int .i64 x.n):=by
   intro i hil
   obtain ⟨cs',hc,ht⟩:=hi i (by omega)
   obtain ⟨x,rfl⟩:=open_sym ht
   obtain ⟨_,_,hat⟩:=World.cells?_some hc
   have a0:=hat 0 (by omega)
   rw [show ∀ b:Addr,b.add 0=b from fun b=>by simp [Addr.add]] at a0
   exact ⟨x,a0,hat 1 (by omega)⟩
  obtain ⟨xs,hxl,hr⟩:=rd_two key
  subst hxl
  exact ⟨some a,xs,cap',rfl,hr,hl,hm⟩
theorem open_prodC {fuel:Nat} {cs:List Value} {y:DataW H × List MemPlace} (h:DataW.trod enc Tryz.prog w 0 spare held fuel 42 cs=some y) :
  ∃ x:Ph,cs=[.int .i64 x.left,.slice x.at_ x.right.length x.cap]∧Rd w w.heap.size x.at_ (syRow x.right)∧x.right.length≤x.cap∧x.cap≤maxLen:=by
 obtain ⟨xs,n,_,_,hlen,hxl,hf⟩:=DataW.trod_struct Tryz.underlying42 h
 have h2:Tryz.prog.cellsOf 42=2:=by kernel_rfl
 rw [h2] at hlen
 match cs,hlen with
 | [c0,c1],_=>
  have e4:Tryz.prog.cellsOf 40=1:=by kernel_rfl
  have e3:Tryz.prog.cellsOf 3=1:=by kernel_rfl
  match xs,hxl with
  | [y0,y1],_=>
   have h0:=hf 0 _ rfl
   have h1:=hf 1 _ rfl
   simp [e3,e4] at h0 h1
   obtain ⟨m,hm,_,_⟩:=DataW.trod_int Tryz.underlying3 h0
   obtain ⟨A,l,c,rfl,hr,hc,hcm⟩:=open_symsC h1
   injection hm with hm _
   subst hm
   exact ⟨⟨m,l,A,c⟩,rfl,hr,hc,hcm⟩
theorem open_prodsC {fuel:Nat} {v:Value} {x:DataW H × List MemPlace} (h:DataW.trod enc Tryz.prog w 0 spare held fuel 22 [v]=some x) :
  ∃ (A:Option Addr) (l:List Gr.Pr) (c:Nat),v=.slice A l.length c∧PrsC w w.heap.size A l∧l.length≤maxLen:=by
 rcases open_slice Tryz.underlying22 h with ⟨hcs,_⟩ | ⟨a,len',cap',m,n,D,Pl,hcs,_,hl,hm,hmm,_,hi⟩
 ·injection hcs with hcs _
  subst hcs
  exact ⟨none,[],0,rfl,PrsC.nil,Nat.zero_le _⟩
 ·injection hcs with hcs _
  subst hcs
  have h2:Tryz.prog.cellsOf 42=2:=by kernel_rfl
  rw [h2] at hi
  have hlm:len'≤m:=by rw [hmm];split <;> omega
  have key:∀ i,i < len'→∃ x : { x:Ph // Rd w w.heap.size x.at_ (syRow x.right)∧x.right.length≤x.cap∧x.cap≤maxLen },w.cell? (a.add (i * 2))=some (.int .i64 x.1.left)∧w.cell? ((a.add (i * 2)).add 1)=some (.slice x.1.at_ x.1.right.length x.1.cap):=by
   intro i hil
   obtain ⟨cs',hc,ht⟩:=hi i (by omega)
   obtain ⟨x,rfl,hr⟩:=open_prodC ht
   obtain ⟨_,_,hat⟩:=World.cells?_some hc
   have a0:=hat 0 (by omega)
   rw [show ∀ b:Addr,b.add 0=b from fun b=>by simp [Addr.add]] at a0
   exact ⟨⟨x,hr⟩,a0,hat 1 (by omega)⟩
  obtain ⟨xs,hxl,hr⟩:=rd_two key
  subst hxl
  refine ⟨some a,(xs.map Subtype.val).map Ph.pr,cap',by simp,⟨xs.map Subtype.val,rfl,?_,?_⟩,by simpa using Nat.le_trans hl hm⟩
  ·have e:phRow (xs.map Subtype.val)=row2 (fun x : { x:Ph // Rd w w.heap.size x.at_ (syRow x.right)∧x.right.length≤x.cap∧x.cap≤maxLen }=>Value.int .i64 x.1.left) (fun x=>.slice x.1.at_ x.1.right.length x.1.cap) xs:=by
    unfold phRow row2
    rw [List.flatMap_map]
   rw [e]
   exact hr
  ·intro x hx
   obtain ⟨y,_,rfl⟩:=List.mem_map.1 hx
   exact y.2
theorem open_gramC {cs:Array Value} {d:DataW H} {p:List MemPlace} (h:DataW.Trod enc Tryz.prog w 0 spare held 24 (.agg cs) d p) :
  ∃ (t n s:Int) (A:Option Addr) (c:Nat) (ps:List Gr.Pr),cs=#[.int .i64 t,.int .i64 n,.int .i64 s,.slice A ps.length c]∧PrsC w w.heap.size A ps∧ps.length≤maxLen:=by
 obtain ⟨fuel,hf⟩:=h
 obtain ⟨xs,n,_,_,hlen,hxl,hf⟩:=DataW.trod_struct Tryz.underlying24 hf
 have h4:Tryz.prog.cellsOf 24=4:=by kernel_rfl
 rw [h4] at hlen
 obtain ⟨cl⟩:=cs
 have hlen:cl.length=4:=by simpa [Value.cells] using hlen
 match cl,hlen with
 | [c0,c1,c2,c3],_=>
  have e3:Tryz.prog.cellsOf 3=1:=by kernel_rfl
  have e22:Tryz.prog.cellsOf 22=1:=by kernel_rfl
  match xs,hxl with
  | [y0,y1,y2,y3],_=>
   have h0:=hf 0 _ rfl
   have h1:=hf 1 _ rfl
   have h2:=hf 2 _ rfl
   have h3:=hf 3 _ rfl
   simp [e3,e22,Value.cells] at h0 h1 h2 h3
   obtain ⟨t,ht,_,_⟩:=DataW.trod_int Tryz.underlying3 h0
   obtain ⟨m,hm,_,_⟩:=DataW.trod_int Tryz.underlying3 h1
   obtain ⟨s,hs,_,_⟩:=DataW.trod_int Tryz.underlying3 h2
   obtain ⟨A,l,c,rfl,hr,hl⟩:=open_prodsC h3
   injection ht with ht _
   injection hm with hm _
   injection hs with hs _
   subst ht hm hs
   exact ⟨t,m,s,A,c,l,rfl,hr,hl⟩
end
end Go.Proofs.YtdfhhbncmdpoeaaGreat
namespace Go.Proofs.YtdfhhbncmdpoeaaGreat
open Go.ChangeShapes Go.WideShapes Go.RowKit Go.Deep
theorem drd_ints {w:World} {x:Addr} {len:Nat} {zs:List Int} (hl:len≤zs.length) (hc:∀ i,i < zs.length→w.cell? (x.add i)=some (.int .i64 (zs.getD i 0))):Rd w w.heap.size (some x) (ins (zs.take len)):=by
 intro hn
 rw [ins_len,List.length_take] at hn
 obtain ⟨b,off,spot⟩:=x
 have hc0:=hc 0 (by omega)
 have hspot:spot=none:=by simpa [Addr.add] using World.cell?_spot hc0
 subst hspot
 refine ⟨b,off,rfl,World.block_lt_of_cell? w _ hc0,fun j u hu=>?_⟩
 have hj:j < len:=by
  rcases Nat.lt_or_ge j len with h | h
  ·exact h
  ·rw [List.getElem?_eq_none (by rw [ins_len,List.length_take];omega)] at hu;cases hu
 have h1:=hc j (by omega)
 have e:(⟨b,off,none⟩:Addr).add j=⟨b,off + j,none⟩:=by unfold Addr.add;split <;> simp_all
 rw [e] at h1
 rw [h1]
 have hzj:zs[j]?=some (zs[j]'(by omega)):=List.getElem?_eq_getElem (by omega)
 simp [ins,hj,hzj] at hu
 rw [← hu,List.getD_eq_getElem?_getD,hzj]
 rfl
section
variable {H:Type} {enc:TypeId × Value→H} {w:World} {spare:Nat→Bool} {held:Bool}
theorem dopen_ints {A:Option Addr} {len cap:Nat} {d:DataW H} {p:List MemPlace} (h:DataW.Trod enc Tryz.prog w 0 (fun _=>true) held 25 (.slice A len cap) d p) :
  ∃ l:List Int,len=l.length∧Rd w w.heap.size A (ins l)∧len≤cap∧cap≤maxLen:=by
 obtain ⟨fuel,hf⟩:=h
 rcases open_ints Tryz.underlying25 Tryz.underlying3 (by kernel_rfl) hf with ⟨hcs,_⟩ | ⟨a,l,c,zs,hcs,_,hl,hm,hz,_,hcell,hwz⟩
 ·simp [Value.cells] at hcs
  obtain ⟨rfl,rfl,rfl⟩:=hcs
  exact ⟨[],rfl,Rd.nil,Nat.le_refl _,Nat.zero_le _⟩
 ·simp [Value.cells] at hcs
  obtain ⟨rfl,rfl,rfl⟩:=hcs
  have hlz:len≤zs.length:=by rw [hz];split <;> omega
  have e:(zs.take len).length=len:=by rw [List.length_take];omega
  exact ⟨zs.take len,e.symm,drd_ints hlz hcell,hl,hm⟩
end
end Go.Proofs.YtdfhhbncmdpoeaaGreat
