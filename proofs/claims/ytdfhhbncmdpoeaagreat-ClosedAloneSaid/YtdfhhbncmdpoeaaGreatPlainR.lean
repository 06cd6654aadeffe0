/- Plain facts, one chapter behind the other: numbers' bytes, writing and reading, grammars, what comes of symbols, rounds, ranks, sets of terminals, reach, ways at the left. No program is named here. -/
namespace Go.Proofs.YtdfhhbncmdpoeaaGreat.Vy
section
variable {l:List Nat} {k:Nat}
end
end Go.Proofs.YtdfhhbncmdpoeaaGreat.Vy
namespace Go.Proofs.YtdfhhbncmdpoeaaGreat.Wr
end Go.Proofs.YtdfhhbncmdpoeaaGreat.Wr
namespace Go.Proofs.YtdfhhbncmdpoeaaGreat.Gr
structure Sy where
 non:Bool
 n:Int
structure Pr where
 left:Int
 right:List Sy
structure Gm where
 terms:Int
 nons:Int
 start:Int
 prods:List Pr
def okSy (g:Gm) (s:Sy):Prop:=0≤s.n∧(s.non=true→s.n < g.nons)∧(s.non=false→s.n < g.terms)
def okPr (g:Gm) (p:Pr):Prop:=0≤p.left∧p.left < g.nons∧p.right.length≤8∧∀ s ∈ p.right,okSy g s
def Ok (g:Gm):Prop:=0≤g.terms∧g.terms≤16∧1≤g.nons∧g.nons≤24∧0≤g.start∧g.start < g.nons∧g.prods.length≤60∧∀ p ∈ g.prods,okPr g p
end Go.Proofs.YtdfhhbncmdpoeaaGreat.Gr
namespace Go.Proofs.YtdfhhbncmdpoeaaGreat.Cf
open Gr (Sy Pr Gm okSy okPr Ok)
inductive Cm (g:Gm):List Sy→List Int→Prop
 | nil:Cm g [] []
 | tok {s:Sy} {l:List Sy} {w:List Int}:s.non=false→Cm g l w→Cm g (s :: l) (s.n :: w)
 | non {s:Sy} {l:List Sy} {u v:List Int} {p:Pr}:s.non=true→p ∈ g.prods→p.left=s.n→Cm g p.right u→Cm g l v→Cm g (s :: l) (u ++ v)
theorem Cm.append {g:Gm} {l:List Sy} {u:List Int} (h:Cm g l u) {m:List Sy} {v:List Int} (hm:Cm g m v):Cm g (l ++ m) (u ++ v):=by
 induction h with
 | nil=>exact hm
 | tok hs _ ih=>exact .tok hs ih
 | non hs hp hl hr _ _ ih2=>rw [List.append_assoc];exact .non hs hp hl hr ih2
theorem Cm.nil_inv {g:Gm} {w:List Int} (h:Cm g [] w):w=[]:=by cases h;rfl
theorem Cm.tok_inv {g:Gm} {s:Sy} {l:List Sy} {w:List Int} (h:Cm g (s :: l) w) (hs:s.non=false):∃ v,w=s.n :: v∧Cm g l v:=by
 cases h with
 | tok _ h=>exact ⟨_,rfl,h⟩
 | non h1=>rw [hs] at h1;exact absurd h1 (by decide)
theorem Cm.non_inv {g:Gm} {s:Sy} {l:List Sy} {w:List Int} (h:Cm g (s :: l) w) (hs:s.non=true):∃ p u v,w=u ++ v∧p ∈ g.prods∧p.left=s.n∧Cm g p.right u∧Cm g l v:=by
 cases h with
 | tok h1=>rw [hs] at h1;exact absurd h1 (by decide)
 | non _ hp hl hr h=>exact ⟨_,_,_,rfl,hp,hl,hr,h⟩
theorem Cm.split {g:Gm}:∀ {l m:List Sy} {w:List Int},Cm g (l ++ m) w→∃ u v,w=u ++ v∧Cm g l u∧Cm g m v
 | [],_,w,h=>⟨[],w,rfl,.nil,h⟩
 | s :: l,m,w,h=>by
  rw [List.cons_append] at h
  cases e:s.non with
  | false=>
   obtain ⟨v,rfl,hv⟩:=h.tok_inv e
   obtain ⟨u1,v1,rfl,h1,h2⟩:=Cm.split hv
   exact ⟨s.n :: u1,v1,rfl,.tok e h1,h2⟩
  | true=>
   obtain ⟨p,u,v,rfl,hp,hl,hr,hv⟩:=h.non_inv e
   obtain ⟨u1,v1,rfl,h1,h2⟩:=Cm.split hv
   exact ⟨u ++ u1,v1,by rw [List.append_assoc],.non e hp hl hr h1,h2⟩
theorem Cm.one {g:Gm} {n:Int} {w:List Int}:Cm g [⟨true,n⟩] w↔∃ p ∈ g.prods,p.left=n∧Cm g p.right w:=by
 constructor
 ·intro h
  obtain ⟨p,u,v,rfl,hp,hl,hr,hv⟩:=h.non_inv rfl
  rw [hv.nil_inv,List.append_nil]
  exact ⟨p,hp,hl,hr⟩
 ·rintro ⟨p,hp,hl,hr⟩
  have:=Cm.non (s:=⟨true,n⟩) rfl hp hl hr .nil
  rwa [List.append_nil] at this
theorem Cm.cons {g:Gm} {s:Sy} {l:List Sy} {w:List Int}:Cm g (s :: l) w↔∃ u v,w=u ++ v∧Cm g [s] u∧Cm g l v:=by
 constructor
 ·intro h;exact Cm.split (l:=[s]) h
 ·rintro ⟨u,v,rfl,h1,h2⟩;exact h1.append h2
theorem Cm.token {g:Gm} {n:Int} {w:List Int}:Cm g [⟨false,n⟩] w↔w=[n]:=by
 constructor
 ·intro h
  obtain ⟨v,rfl,hv⟩:=h.tok_inv rfl
  rw [hv.nil_inv]
 ·rintro rfl;exact .tok (s:=⟨false,n⟩) rfl .nil
def part (w:List Int) (a b:Nat):List Int:=(w.take b).drop a
theorem part_self (w:List Int) (a:Nat):part w a a=[]:=by
 unfold part
 apply List.drop_eq_nil_of_le
 simp;omega
theorem part_length {w:List Int} {a b:Nat} (hb:b≤w.length):(part w a b).length=b - a:=by
 unfold part;rw [List.length_drop,List.length_take,Nat.min_eq_left hb]
theorem part_append (w:List Int) {a c b:Nat} (h1:a≤c) (h2:c≤b):part w a c ++ part w c b=part w a b:=by
 apply List.ext_getElem?
 intro i
 unfold part
 rw [List.getElem?_append]
 simp only [List.length_drop,List.length_take,List.getElem?_drop,List.getElem?_take]
 by_cases hw:c≤w.length
 ·rw [Nat.min_eq_left hw]
  split
  ·rw [if_pos (by omega),if_pos (by omega)]
  ·rw [show c + (i - (c - a))=a + i by omega]
 ·split
  ·split <;> split <;> first | rfl | omega
  ·have e1:w[c + (i - (min c w.length - a))]?=none:=List.getElem?_eq_none (by omega)
   have e2:w[a + i]?=none:=List.getElem?_eq_none (by omega)
   rw [e1,e2]
   simp
theorem part_zero (w:List Int) (b:Nat):part w 0 b=w.take b:=rfl
theorem part_one {w:List Int} {a:Nat} {x:Int} (h:w[a]?=some x):part w a (a + 1)=[x]:=by
 unfold part
 have hl:a < w.length:=by
  rcases Nat.lt_or_ge a w.length with h1 | h1
  ·exact h1
  ·rw [List.getElem?_eq_none h1] at h;exact absurd h (by simp)
 rw [List.take_add_one,h]
 simp [Nat.min_eq_left (Nat.le_of_lt hl)]
theorem part_cons {w:List Int} {a b:Nat} {x:Int} {r:List Int} (hb:b≤w.length) (h:part w a b=x :: r):w[a]?=some x∧part w (a + 1) b=r∧a < b:=by
 have hab:a < b:=by
  rcases Nat.lt_or_ge a b with h1 | h1
  ·exact h1
  ·have:(part w a b).length=0:=by rw [part_length hb];omega
   rw [h] at this;simp at this
 have e:w[a]?=some w[a]:=List.getElem?_eq_getElem (by omega)
 have e2:=part_append w (a:=a) (c:=a + 1) (b:=b) (by omega) (by omega)
 rw [part_one e,h] at e2
 have e3:[w[a]] ++ part w (a + 1) b=w[a] :: part w (a + 1) b:=rfl
 rw [e3] at e2
 injection e2 with e4 e5
 rw [e,e4]
 exact ⟨rfl,e5,hab⟩
theorem part_split {w:List Int} {a b:Nat} {u v:List Int} (hab:a≤b) (hb:b≤w.length) (h:part w a b=u ++ v):∃ c,a≤c∧c≤b∧part w a c=u∧part w c b=v:=by
 have hl:(part w a b).length=u.length + v.length:=by rw [h,List.length_append]
 rw [part_length hb] at hl
 have e:=part_append w (a:=a) (c:=a + u.length) (b:=b) (by omega) (by omega)
 rw [h] at e
 have e1:(part w a (a + u.length)).length=u.length:=by rw [part_length (by omega)];omega
 have:=List.append_inj e e1
 exact ⟨a + u.length,by omega,by omega,this.1,this.2⟩
abbrev Tb:=Nat→Nat→Nat→Bool
def sym (T:Tb) (w:List Int) (s:Sy) (a b:Nat):Bool:=if s.non then T s.n.toNat a b else decide (w[a]?=some s.n∧b=a + 1)
def Ch (T:Tb) (w:List Int):List Sy→Nat→Nat→Prop
 | [],a,b=>a=b
 | s :: l,a,b=>∃ c,a≤c∧c≤w.length∧sym T w s a c=true∧Ch T w l c b
theorem Ch.le {T:Tb} {w:List Int}:∀ {l:List Sy} {a b:Nat},Ch T w l a b→a≤b
 | [],a,b,h=>by have h:a=b:=h;omega
 | s :: l,a,b,⟨c,h1,_,_,h4⟩=>by have:=Ch.le h4;omega
theorem Ch.le_len {T:Tb} {w:List Int}:∀ {l:List Sy} {a b:Nat},a≤w.length→Ch T w l a b→b≤w.length
 | [],a,b,h0,h=>by have h:a=b:=h;omega
 | s :: l,a,b,_,⟨c,_,h2,_,h4⟩=>Ch.le_len h2 h4
def Sound (g:Gm) (w:List Int) (T:Tb):Prop:=∀ n a b,T n a b=true→a≤b∧b≤w.length∧Cm g [⟨true,(n:Int)⟩] (part w a b)
def Closed (g:Gm) (w:List Int) (T:Tb):Prop:=∀ p ∈ g.prods,∀ a b,a≤w.length→Ch T w p.right a b→T p.left.toNat a b=true
def Pos (l:List Sy):Prop:=∀ s ∈ l,0≤s.n
theorem sound_sym {g:Gm} {w:List Int} {T:Tb} (hT:Sound g w T) {s:Sy} (hs:0≤s.n) {a b:Nat} (h:sym T w s a b=true):a≤b∧b≤w.length∧Cm g [s] (part w a b):=by
 obtain ⟨k,n⟩:=s
 have hs:0≤n:=hs
 have en:((n.toNat:Nat):Int)=n:=Int.toNat_of_nonneg hs
 unfold sym at h
 cases k with
 | true=>
  have h:T n.toNat a b=true:=h
  have:=hT _ _ _ h
  rw [en] at this
  exact this
 | false=>
  have h:decide (w[a]?=some n∧b=a + 1)=true:=h
  obtain ⟨h1,rfl⟩:=of_decide_eq_true h
  have hl:a < w.length:=by
   rcases Nat.lt_or_ge a w.length with h2 | h2
   ·exact h2
   ·rw [List.getElem?_eq_none h2] at h1;exact absurd h1 (by simp)
  exact ⟨by omega,by omega,by rw [part_one h1];exact Cm.token.mpr rfl⟩
theorem sound_ch {g:Gm} {w:List Int} {T:Tb} (hT:Sound g w T):∀ {l:List Sy},Pos l→∀ {a b:Nat},a≤w.length→Ch T w l a b→Cm g l (part w a b)
 | [],_,a,b,_,h=>by
  have h:a=b:=h
  subst h
  rw [part_self];exact .nil
 | s :: l,hp,a,b,ha,⟨c,h1,h2,h3,h4⟩=>by
  have e:=(sound_sym hT (hp s (List.mem_cons_self ..)) h3).2.2
  have r:=sound_ch hT (fun x hx=>hp x (List.mem_cons_of_mem _ hx)) h2 h4
  rw [← part_append w h1 h4.le]
  exact e.append r
theorem sound_put {g:Gm} {w:List Int} {T:Tb} (hT:Sound g w T) {p:Pr} (hp:p ∈ g.prods) (h0:0≤p.left) (hr:Pos p.right) {a b:Nat} (ha:a≤w.length) (h:Ch T w p.right a b) :
  a≤b∧b≤w.length∧Cm g [⟨true,((p.left.toNat:Nat):Int)⟩] (part w a b):=by
 refine ⟨h.le,h.le_len ha,?_⟩
 rw [Int.toNat_of_nonneg h0]
 exact Cm.one.mpr ⟨p,hp,rfl,sound_ch hT hr ha h⟩
theorem closed_all {g:Gm} {w:List Int} {T:Tb} (hT:Closed g w T) {l:List Sy} {u:List Int} (h:Cm g l u):∀ {a b:Nat},a≤b→b≤w.length→part w a b=u→Ch T w l a b:=by
 induction h with
 | nil=>
  intro a b hab hb e
  have:=part_length (a:=a) hb
  rw [e] at this
  have:b - a=0:=this.symm
  show a=b
  omega
 | @tok s l v hs _ ih=>
  intro a b hab hb e
  obtain ⟨h1,h2,h3⟩:=part_cons hb e
  refine ⟨a + 1,by omega,by omega,?_,ih (by omega) hb h2⟩
  unfold sym
  rw [if_neg (by rw [hs];decide)]
  exact decide_eq_true ⟨h1,rfl⟩
 | @non s l u v p hs hp hl hr _ ih1 ih2=>
  intro a b hab hb e
  obtain ⟨c,h1,h2,h3,h4⟩:=part_split hab hb e
  refine ⟨c,h1,by omega,?_,ih2 h2 hb h4⟩
  unfold sym
  rw [if_pos hs,← hl]
  exact hT p hp a c (by omega) (ih1 h1 (by omega) h3)
theorem table {g:Gm} {w:List Int} {T:Tb} (hs:Sound g w T) (hc:Closed g w T) (n:Nat) {a b:Nat} (hab:a≤b) (hb:b≤w.length):T n a b=true↔Cm g [⟨true,(n:Int)⟩] (part w a b):=by
 constructor
 ·intro h;exact (hs n a b h).2.2
 ·intro h
  obtain ⟨c,h1,h2,h3,h4⟩:=closed_all hc h hab hb rfl
  have h4:c=b:=h4
  subst h4
  unfold sym at h3
  have e:(((n:Nat):Int)).toNat=n:=Int.toNat_natCast n
  rw [if_pos rfl] at h3
  have h3:T ((n:Int)).toNat a c=true:=h3
  rwa [e] at h3
theorem ok_pos {g:Gm} (hg:Ok g) {p:Pr} (hp:p ∈ g.prods):0≤p.left∧Pos p.right:=by
 obtain ⟨_,_,_,_,_,_,_,h⟩:=hg
 exact ⟨(h p hp).1,fun s hs=>((h p hp).2.2.2 s hs).1⟩
end Go.Proofs.YtdfhhbncmdpoeaaGreat.Cf
namespace Go.Proofs.YtdfhhbncmdpoeaaGreat.Rk
def cnt (N:Nat) (f:Nat→Bool):Nat:=(List.range N).countP f
theorem cnt_le (N:Nat) (f:Nat→Bool):cnt N f≤N:=by
 have:=List.countP_le_length (p:=f) (l:=List.range N)
 rw [List.length_range] at this
 exact this
theorem cnt_succ (N:Nat) (f:Nat→Bool):cnt (N + 1) f=cnt N f + (if f N=true then 1 else 0):=by
 unfold cnt
 rw [List.range_succ,List.countP_append]
 congr 1
 rw [List.countP_cons,List.countP_nil,Nat.zero_add]
theorem cnt_mono {f g:Nat→Bool}:∀ N,(∀ n,n < N→f n=true→g n=true)→cnt N f≤cnt N g
 | 0,_=>Nat.le_refl _
 | N + 1,h=>by
  rw [cnt_succ,cnt_succ]
  have:=cnt_mono N (fun n hn=>h n (by omega))
  by_cases e:f N=true
  ·rw [if_pos e,if_pos (h N (by omega) e)];omega
  ·rw [if_neg e];omega
theorem cnt_lt {f g:Nat→Bool}:∀ N,(∀ n,n < N→f n=true→g n=true)→∀ m,m < N→f m=false→g m=true→cnt N f < cnt N g
 | 0,_,m,hm,_,_=>absurd hm (by omega)
 | N + 1,h,m,hm,hf,hg=>by
  rw [cnt_succ,cnt_succ]
  have h0:=cnt_mono N (fun n hn=>h n (by omega))
  by_cases e:m=N
  ·subst e
   rw [if_pos hg,if_neg (by rw [hf];decide)];omega
  ·have:=cnt_lt N (fun n hn=>h n (by omega)) m (by omega) hf hg
   by_cases e:f N=true
   ·rw [if_pos e,if_pos (h N (by omega) e)];omega
   ·rw [if_neg e];omega
theorem cnt_pos {f:Nat→Bool} {N m:Nat} (hm:m < N) (h:f m=true):1≤cnt N f:=by
 have:=cnt_lt (f:=fun _=>false) (g:=f) N (fun _ _ h=>absurd h (by decide)) m hm rfl h
 omega
theorem settle (N c:Nat) (s:Nat→Nat→Bool) (h0:c≤cnt N (s 0)) (mono:∀ k n,n < N→s k n=true→s (k + 1) n=true)
  (stab:∀ k,(∀ n,n < N→s (k + 1) n=s k n)→∀ n,n < N→s (k + 2) n=s (k + 1) n):∀ k,N≤k + c→∀ n,n < N→s (k + 1) n=s k n:=by
 have grow:∀ k,(∀ n,n < N→s (k + 1) n=s k n)∨cnt N (s k) < cnt N (s (k + 1)):=by
  intro k
  by_cases h:∀ n,n < N→s (k + 1) n=s k n
  ·exact .inl h
  ·right
   obtain ⟨m,hm⟩:=Classical.not_forall.mp h
   obtain ⟨h1,h2⟩:=Classical.not_imp.mp hm
   cases e:s k m with
   | true=>exact absurd (by rw [e];exact mono k m h1 e) h2
   | false=>
    cases e2:s (k + 1) m with
    | false=>exact absurd (by rw [e,e2]) h2
    | true=>exact cnt_lt N (mono k) m h1 e e2
 have stay:∀ j,(∀ n,n < N→s (j + 1) n=s j n)→∀ i,∀ n,n < N→s (j + i + 1) n=s (j + i) n:=by
  intro j hj i
  induction i with
  | zero=>exact hj
  | succ i ih=>exact stab (j + i) ih
 have early:∀ k,(∃ j,j≤k∧∀ n,n < N→s (j + 1) n=s j n)∨k + 1 + c≤cnt N (s (k + 1)):=by
  intro k
  induction k with
  | zero=>
   rcases grow 0 with h | h
   ·exact .inl ⟨0,Nat.le_refl _,h⟩
   ·right;show 0 + 1 + c≤cnt N (s 1);have h:cnt N (s 0) < cnt N (s 1):=h;omega
  | succ k ih=>
   rcases ih with ⟨j,hj,h⟩ | ih
   ·exact .inl ⟨j,by omega,h⟩
   ·rcases grow (k + 1) with h | h
    ·exact .inl ⟨k + 1,Nat.le_refl _,h⟩
    ·right;have h:cnt N (s (k + 1)) < cnt N (s (k + 1 + 1)):=h;omega
 intro k hk n hn
 rcases early k with ⟨j,hj,h⟩ | h
 ·have:=stay j h (k - j) n hn
  rwa [show j + (k - j)=k by omega] at this
 ·have:=cnt_le N (s (k + 1));omega
abbrev Fs:=List (Nat × Nat)
def rk (l:Fs) (n:Nat):Nat:=(l.getD n (0,0)).1
theorem rk_out {l:Fs} {n:Nat} (h:l.length≤n):rk l n=0:=by
 unfold rk;rw [List.getD_eq_getElem?_getD,List.getElem?_eq_none h];rfl
theorem rk_lt {l:Fs} {n:Nat} (h:rk l n≠0):n < l.length:=by
 rcases Nat.lt_or_ge n l.length with h1 | h1
 ·exact h1
 ·exact absurd (rk_out h1) h
theorem ext_getD {a b:Fs} (hl:a.length=b.length) (h:∀ n,n < a.length→a.getD n (0,0)=b.getD n (0,0)):a=b:=by
 apply List.ext_getElem hl
 intro n h1 h2
 have:=h n h1
 rw [List.getD_eq_getElem?_getD,List.getD_eq_getElem?_getD,List.getElem?_eq_getElem h1,List.getElem?_eq_getElem h2] at this
 exact this
abbrev Pick:=Fs→Nat→Nat→Option Nat
def next (pk:Pick) (l:Fs) (r n:Nat) (f:Nat × Nat):Nat × Nat:=
 if f.1≠0 then f else match pk l r n with
  | some i=>(r,i)
  | none=>f
def round (pk:Pick) (l:Fs) (r:Nat):Fs:=l.mapIdx (next pk l r)
def rounds (pk:Pick) (base:Fs) (b:Nat):Nat→Fs
 | 0=>base
 | k + 1=>round pk (rounds pk base b k) (b + k + 1)
theorem rounds_succ (pk:Pick) (base:Fs) (b k:Nat):rounds pk base b (k + 1)=round pk (rounds pk base b k) (b + k + 1):=rfl
theorem round_length (pk:Pick) (l:Fs) (r:Nat):(round pk l r).length=l.length:=List.length_mapIdx ..
theorem rounds_length (pk:Pick) (base:Fs) (b:Nat):∀ k,(rounds pk base b k).length=base.length
 | 0=>rfl
 | k + 1=>by rw [rounds_succ,round_length];exact rounds_length pk base b k
theorem getD_round (pk:Pick) (l:Fs) (r n:Nat) (hn:n < l.length):(round pk l r).getD n (0,0)=next pk l r n (l.getD n (0,0)):=by
 unfold round
 rw [List.getD_eq_getElem?_getD,List.getD_eq_getElem?_getD,List.getElem?_mapIdx,List.getElem?_eq_getElem hn]
 rfl
theorem next_keep {pk:Pick} {l:Fs} {r n:Nat} {f:Nat × Nat} (h:f.1≠0):next pk l r n f=f:=by unfold next;rw [if_pos h]
theorem next_some {pk:Pick} {l:Fs} {r n i:Nat} {f:Nat × Nat} (h:f.1=0) (hp:pk l r n=some i):next pk l r n f=(r,i):=by
 unfold next;rw [if_neg (by omega),hp]
theorem next_none {pk:Pick} {l:Fs} {r n:Nat} {f:Nat × Nat} (hp:pk l r n=none):next pk l r n f=f:=by
 unfold next;rw [hp];split <;> rfl
section
variable (pk:Pick) (base:Fs) (b:Nat)
theorem keep_succ {k n:Nat} (h:rk (rounds pk base b k) n≠0):(rounds pk base b (k + 1)).getD n (0,0)=(rounds pk base b k).getD n (0,0):=by
 rw [rounds_succ,getD_round _ _ _ _ (rk_lt h)]
 exact next_keep h
theorem keep {k n:Nat} (h:rk (rounds pk base b k) n≠0):∀ i,(rounds pk base b (k + i)).getD n (0,0)=(rounds pk base b k).getD n (0,0)
 | 0=>rfl
 | i + 1=>by
  have e:=keep h i
  have h2:rk (rounds pk base b (k + i)) n≠0:=by unfold rk;rw [e];exact h
  have:=keep_succ pk base b h2
  rw [e] at this
  exact this
theorem keep_rk {k j n:Nat} (hkj:k≤j) (h:rk (rounds pk base b k) n≠0):rk (rounds pk base b j) n=rk (rounds pk base b k) n:=by
 have:=keep pk base b h (j - k)
 rw [show k + (j - k)=j by omega] at this
 unfold rk
 rw [this]
theorem rk_le (hb:∀ n,rk base n≤b):∀ k n,rk (rounds pk base b k) n≤b + k
 | 0,n=>hb n
 | k + 1,n=>by
  have ih:=rk_le hb k n
  rcases Nat.lt_or_ge n (rounds pk base b k).length with h | h
  ·unfold rk at ih ⊢
   rw [rounds_succ,getD_round _ _ _ _ h]
   by_cases h1:((rounds pk base b k).getD n (0,0)).1=0
   ·cases e:pk (rounds pk base b k) (b + k + 1) n with
    | some i=>rw [next_some h1 e];exact Nat.le_refl _
    | none=>rw [next_none e];omega
   ·rw [next_keep h1];omega
  ·rw [rk_out (by rw [rounds_succ,round_length];exact h)];omega
theorem new_rk {k n:Nat} (h0:rk (rounds pk base b k) n=0) (h1:rk (rounds pk base b (k + 1)) n≠0) :
  ∃ i,pk (rounds pk base b k) (b + k + 1) n=some i∧(rounds pk base b (k + 1)).getD n (0,0)=(b + k + 1,i):=by
 have hn:=rk_lt h1
 rw [rounds_length] at hn
 have e:=getD_round pk (rounds pk base b k) (b + k + 1) n (by rw [rounds_length];exact hn)
 cases ep:pk (rounds pk base b k) (b + k + 1) n with
 | some i=>exact ⟨i,rfl,by rw [rounds_succ,e,next_some h0 ep]⟩
 | none=>
  rw [next_none ep] at e
  exact absurd (show rk (rounds pk base b (k + 1)) n=0 by unfold rk;rw [rounds_succ,e];exact h0) h1
theorem got {k n i:Nat} (hn:n < base.length) (hp:pk (rounds pk base b k) (b + k + 1) n=some i):rk (rounds pk base b (k + 1)) n≠0:=by
 by_cases h0:rk (rounds pk base b k) n=0
 ·have e:=getD_round pk (rounds pk base b k) (b + k + 1) n (by rw [rounds_length];exact hn)
  rw [next_some h0 hp] at e
  unfold rk
  rw [rounds_succ,e]
  simp
 ·rw [keep_rk pk base b (Nat.le_succ k) h0];exact h0
theorem early (hb:∀ n,rk base n≤b):∀ k n j,rk (rounds pk base b k) n=b + j + 1→(∀ i,i≤j→rk (rounds pk base b i) n=0)∧∀ i,j < i→(rounds pk base b i).getD n (0,0)=(rounds pk base b k).getD n (0,0)
 | 0,n,j,h=>by have:rk base n=b + j + 1:=h;have:=hb n;omega
 | k + 1,n,j,h=>by
  by_cases h0:rk (rounds pk base b k) n=0
  ·obtain ⟨i,_,e⟩:=new_rk pk base b h0 (by rw [h];omega)
   have er:b + j + 1=b + k + 1:=by rw [← h];unfold rk;rw [e]
   obtain rfl:j=k:=by omega
   constructor
   ·intro i hi
    by_cases h3:rk (rounds pk base b i) n=0
    ·exact h3
    ·have:=keep_rk pk base b (show i≤j by omega) h3
     rw [h0] at this;exact absurd this.symm h3
   ·intro i hi
    have:=keep pk base b (k:=j + 1) (n:=n) (by rw [h];omega) (i - (j + 1))
    rw [show j + 1 + (i - (j + 1))=i by omega] at this
    exact this
  ·have e:=keep_succ pk base b h0
   have h2:rk (rounds pk base b k) n=b + j + 1:=by rw [← h];unfold rk;rw [e]
   rw [e]
   exact early hb k n j h2
theorem there (hb:∀ n,rk base n≤b):∀ {k j n:Nat},rk (rounds pk base b k) n≠0→rk (rounds pk base b k) n≤b + j→(rounds pk base b j).getD n (0,0)=(rounds pk base b k).getD n (0,0):=by
 intro k j n h0 hj
 rcases Nat.lt_or_ge b (rk (rounds pk base b k) n) with h | h
 ·have:=(early pk base b hb k n (rk (rounds pk base b k) n - b - 1) (by omega)).2 j (by omega)
  exact this
 ·-- a rank of the base
  have key:∀ k,rk (rounds pk base b k) n≠0→rk (rounds pk base b k) n≤b→rk base n≠0:=by
   intro k
   induction k with
   | zero=>intro h _;exact h
   | succ k ih=>
    intro h1 h2
    by_cases h3:rk (rounds pk base b k) n=0
    ·obtain ⟨i,_,e⟩:=new_rk pk base b h3 h1
     unfold rk at h2
     rw [e] at h2
     have h2:b + k + 1≤b:=h2
     omega
    ·have e:=keep_rk pk base b (Nat.le_succ k) h3
     exact ih h3 (by have e:rk (rounds pk base b (k + 1)) n=_:=e;omega)
  have hbase:=key k h0 h
  have e1:=keep pk base b (k:=0) (n:=n) hbase k
  have e2:=keep pk base b (k:=0) (n:=n) hbase j
  rw [Nat.zero_add] at e1 e2
  rw [e1,e2]
theorem stable {k:Nat} (h:∀ n,n < base.length→decide (rk (rounds pk base b (k + 1)) n≠0)=decide (rk (rounds pk base b k) n≠0)):rounds pk base b (k + 1)=rounds pk base b k:=by
 apply ext_getD (by rw [rounds_length,rounds_length])
 intro n h1
 rw [rounds_length] at h1
 have hn:=h n h1
 by_cases h3:rk (rounds pk base b k) n=0
 ·have h4:rk (rounds pk base b (k + 1)) n=0:=by
   by_cases h4:rk (rounds pk base b (k + 1)) n=0
   ·exact h4
   ·rw [decide_eq_true h4,decide_eq_false (by omega)] at hn;exact absurd hn (by decide)
  rw [rounds_succ,getD_round _ _ _ _ (by rw [rounds_length];exact h1)]
  cases ep:pk (rounds pk base b k) (b + k + 1) n with
  | none=>exact next_none ep
  | some i=>exact absurd h4 (got pk base b h1 ep)
 ·exact keep_succ pk base b h3
theorem none_of {k:Nat} (h:rounds pk base b (k + 1)=rounds pk base b k) {n:Nat} (hn:n < base.length) (h0:rk (rounds pk base b k) n=0):pk (rounds pk base b k) (b + k + 1) n=none:=by
 cases ep:pk (rounds pk base b k) (b + k + 1) n with
 | none=>rfl
 | some i=>exact absurd (by rw [h];exact h0) (got pk base b hn ep)
theorem stable_on (hb:∀ n,rk base n≤b) (hpk:∀ l r r' n,(∀ m,rk l m < r)→r≤r'→pk l r n=none→pk l r' n=none)
  {k:Nat} (h:rounds pk base b (k + 1)=rounds pk base b k):∀ i,rounds pk base b (k + i)=rounds pk base b k
 | 0=>rfl
 | i + 1=>by
  have ih:=stable_on hb hpk h i
  show round pk (rounds pk base b (k + i)) (b + (k + i) + 1)=_
  rw [ih]
  have hl:=rounds_length pk base b k
  apply ext_getD (by rw [round_length])
  intro n hn
  rw [round_length,hl] at hn
  rw [getD_round pk _ _ _ (by rw [hl];exact hn)]
  by_cases h4:rk (rounds pk base b k) n=0
  ·apply next_none
   apply hpk _ (b + k + 1) _ _ _ (by omega) (none_of pk base b h hn h4)
   intro m
   have:=rk_le pk base b hb k m
   omega
  ·exact next_keep h4
theorem settled (hb:∀ n,rk base n≤b) (hpk:∀ l r r' n,(∀ m,rk l m < r)→r≤r'→pk l r n=none→pk l r' n=none)
  {c:Nat} (hc:c≤cnt base.length (fun n=>decide (rk base n≠0))):∀ k,base.length≤k + c→rounds pk base b (k + 1)=rounds pk base b k:=by
 intro k hk
 apply stable pk base b
 apply settle base.length c (fun k n=>decide (rk (rounds pk base b k) n≠0)) hc _ _ k hk
 ·intro k n hn h
  have h:=of_decide_eq_true h
  apply decide_eq_true
  rw [keep_rk pk base b (Nat.le_succ k) h]
  exact h
 ·intro k h n hn
  have e1:=stable pk base b h
  have e2:=stable_on pk base b hb hpk e1 2
  show decide (rk (rounds pk base b (k + 2)) n≠0)=decide (rk (rounds pk base b (k + 1)) n≠0)
  rw [e2,e1]
theorem settled_on (hb:∀ n,rk base n≤b) (hpk:∀ l r r' n,(∀ m,rk l m < r)→r≤r'→pk l r n=none→pk l r' n=none)
  {c:Nat} (hc:c≤cnt base.length (fun n=>decide (rk base n≠0))) {j k:Nat} (hj:base.length≤j + c) (hk:j≤k):rounds pk base b k=rounds pk base b j:=by
 have:=stable_on pk base b hb hpk (settled pk base b hb hpk hc j hj) (k - j)
 rwa [show j + (k - j)=k by omega] at this
theorem zero (hz:∀ n,rk base n=0→base.getD n (0,0)=(0,0)):∀ k n,rk (rounds pk base b k) n=0→(rounds pk base b k).getD n (0,0)=(0,0)
 | 0,n,h=>hz n h
 | k + 1,n,h=>by
  have h0:rk (rounds pk base b k) n=0:=by
   by_cases h0:rk (rounds pk base b k) n=0
   ·exact h0
   ·rw [keep_rk pk base b (Nat.le_succ k) h0] at h;exact h
  have ih:=zero hz k n h0
  rcases Nat.lt_or_ge n base.length with hn | hn
  ·cases ep:pk (rounds pk base b k) (b + k + 1) n with
   | none=>
    rw [rounds_succ,getD_round pk _ _ n (by rw [rounds_length];exact hn),next_none ep,ih]
   | some i=>exact absurd h (got pk base b hn ep)
  ·rw [List.getD_eq_getElem?_getD,List.getElem?_eq_none (by rw [rounds_length];exact hn)];rfl
end
end Go.Proofs.YtdfhhbncmdpoeaaGreat.Rk
namespace Go.Proofs.YtdfhhbncmdpoeaaGreat.Rk
open Gr (Sy Pr Gm okSy okPr Ok)
def okS (terms:Bool) (l:Fs) (r:Nat) (s:Sy):Bool:=if s.non then decide (rk l s.n.toNat≠0∧rk l s.n.toNat < r) else terms
def below (terms:Bool) (l:Fs) (r:Nat) (p:Pr):Bool:=p.right.all (okS terms l r)
def pick (terms:Bool) (ps:List Pr):Pick:=fun l r n=>ps.findIdx? fun p=>decide (p.left=(n:Int)) && below terms l r p
def zeros (nons:Nat):Fs:=List.replicate nons (0,0)
theorem zeros_getD (nons n:Nat):(zeros nons).getD n (0,0)=(0,0):=by
 unfold zeros
 rw [List.getD_eq_getElem?_getD,List.getElem?_replicate]
 split <;> rfl
theorem rk_zeros (nons n:Nat):rk (zeros nons) n=0:=by unfold rk;rw [zeros_getD]
theorem zeros_le (nons:Nat):∀ n,rk (zeros nons) n≤0:=fun n=>by rw [rk_zeros];exact Nat.le_refl _
theorem zeros_length (nons:Nat):(zeros nons).length=nons:=List.length_replicate ..
def rounds' (terms:Bool) (ps:List Pr) (nons k:Nat):Fs:=rounds (pick terms ps) (zeros nons) 0 k
def ranks (terms:Bool) (ps:List Pr) (nons:Nat):Fs:=rounds' terms ps nons nons
section
variable (terms:Bool) (ps:List Pr) (nons:Nat)
theorem okS_more {l:Fs} {r r':Nat} (h:∀ n,rk l n < r) (hr:r≤r') (s:Sy):okS terms l r' s=okS terms l r s:=by
 unfold okS
 split
 ·have:=h s.n.toNat
  congr 1
  apply propext
  constructor
  ·rintro ⟨h1,_⟩;exact ⟨h1,this⟩
  ·rintro ⟨h1,_⟩;exact ⟨h1,by omega⟩
 ·rfl
theorem pick_more {l:Fs} {r r' n:Nat} (h:∀ n,rk l n < r) (hr:r≤r'):pick terms ps l r' n=pick terms ps l r n:=by
 unfold pick below
 congr 1
 funext p
 congr 1
 apply congrArg (p.right.all)
 funext s
 exact okS_more terms h hr s
theorem pick_none (l:Fs) (r r' n:Nat) (h:∀ m,rk l m < r) (hr:r≤r') (hp:pick terms ps l r n=none):pick terms ps l r' n=none:=by
 rw [pick_more terms ps h hr];exact hp
theorem ranks_length:(ranks terms ps nons).length=nons:=by unfold ranks rounds';rw [rounds_length,zeros_length]
theorem rounds'_length (k:Nat):(rounds' terms ps nons k).length=nons:=by unfold rounds';rw [rounds_length,zeros_length]
theorem settled':∀ k,nons≤k→rounds' terms ps nons k=ranks terms ps nons:=by
 intro k hk
 exact settled_on (pick terms ps) (zeros nons) 0 (zeros_le nons) (pick_none terms ps) (Nat.zero_le _) (j:=nons) (by rw [zeros_length];omega) hk
theorem ranks_of {k:Nat} (h:rounds' terms ps nons (k + 1)=rounds' terms ps nons k):rounds' terms ps nons k=ranks terms ps nons:=by
 rcases Nat.lt_or_ge k nons with h1 | h1
 ·have:=stable_on (pick terms ps) (zeros nons) 0 (zeros_le nons) (pick_none terms ps) h (nons - k)
  rw [show k + (nons - k)=nons by omega] at this
  exact this.symm
 ·exact settled' terms ps nons k h1
theorem rank_le (n:Nat):rk (ranks terms ps nons) n≤nons:=by
 have:=rk_le (pick terms ps) (zeros nons) 0 (zeros_le nons) nons n
 unfold ranks rounds'
 omega
theorem pick_some (ps:List Pr) (terms:Bool) {l:Fs} {r n i:Nat} (h:pick terms ps l r n=some i):∃ p,ps[i]?=some p∧p.left=(n:Int)∧(∀ s ∈ p.right,okS terms l r s=true)∧
  ∀ j q,j < i→ps[j]?=some q→q.left=(n:Int)→below terms l r q=false:=by
 unfold pick at h
 rw [List.findIdx?_eq_some_iff_getElem] at h
 obtain ⟨hi,h1,h2⟩:=h
 rw [Bool.and_eq_true,decide_eq_true_eq] at h1
 refine ⟨ps[i],List.getElem?_eq_getElem hi,h1.1,List.all_eq_true.mp h1.2,?_⟩
 intro j q hj hq hl
 have hjl:j < ps.length:=by omega
 rw [List.getElem?_eq_getElem hjl] at hq
 injection hq with hq
 have:=h2 j hj
 rw [hq] at this
 rw [decide_eq_true hl,Bool.true_and] at this
 simpa using this
theorem shown (n:Nat) (h:rk (ranks terms ps nons) n≠0):∃ p,ps[((ranks terms ps nons).getD n (0,0)).2]?=some p∧p.left=(n:Int)∧∀ s ∈ p.right,okS terms (ranks terms ps nons) (rk (ranks terms ps nons) n) s=true:=by
 obtain ⟨k,er⟩:∃ k,rk (ranks terms ps nons) n=0 + k + 1:=⟨rk (ranks terms ps nons) n - 1,by omega⟩
 have e1:=early (pick terms ps) (zeros nons) 0 (zeros_le nons) nons n k er
 have h0:=e1.1 k (Nat.le_refl _)
 have e2:=e1.2 (k + 1) (by omega)
 have h1:rk (rounds (pick terms ps) (zeros nons) 0 (k + 1)) n≠0:=by unfold rk;rw [e2];exact h
 obtain ⟨i,hp,e3⟩:=new_rk (pick terms ps) (zeros nons) 0 h0 h1
 obtain ⟨p,hi,hl,hs,_⟩:=pick_some ps terms hp
 have e4:(ranks terms ps nons).getD n (0,0)=(0 + k + 1,i):=by unfold ranks rounds';rw [← e2];exact e3
 rw [e4]
 refine ⟨p,hi,hl,?_⟩
 intro s hsm
 rw [er]
 have:=hs s hsm
 unfold okS at this ⊢
 split
 ·rename_i hn
  rw [if_pos hn] at this
  obtain ⟨h3,h4⟩:=of_decide_eq_true this
  have hle:k≤nons:=by have:=rank_le terms ps nons n;omega
  have:=keep_rk (pick terms ps) (zeros nons) 0 hle h3
  apply decide_eq_true
  show rk (rounds (pick terms ps) (zeros nons) 0 nons) s.n.toNat≠0∧rk (rounds (pick terms ps) (zeros nons) 0 nons) s.n.toNat < 0 + k + 1
  rw [this]
  exact ⟨h3,h4⟩
 ·rename_i hn
  rw [if_neg hn] at this
  exact this
theorem closed_at {p:Pr} (hp:p ∈ ps) {n:Nat} (hl:p.left=(n:Int)) (hn:n < nons) {r:Nat} (h:∀ s ∈ p.right,okS terms (ranks terms ps nons) (r + 1) s=true) :
  rk (ranks terms ps nons) n≠0∧rk (ranks terms ps nons) n≤r + 1:=by
 have hb:below terms (rounds' terms ps nons r) (0 + r + 1) p=true:=by
  apply List.all_eq_true.mpr
  intro s hs
  have:=h s hs
  unfold okS at this ⊢
  split
  ·rename_i hn
   rw [if_pos hn] at this
   obtain ⟨h3,h4⟩:=of_decide_eq_true this
   have e:=there (pick terms ps) (zeros nons) 0 (zeros_le nons) (k:=nons) (j:=r) h3 (by show rk (ranks terms ps nons) _≤0 + r;omega)
   have e2:rk (rounds' terms ps nons r) s.n.toNat=rk (ranks terms ps nons) s.n.toNat:=by unfold rk rounds';rw [e];rfl
   rw [e2]
   exact decide_eq_true ⟨h3,by omega⟩
  ·rename_i hn
   rw [if_neg hn] at this
   exact this
 have key:rk (rounds (pick terms ps) (zeros nons) 0 (r + 1)) n≠0:=by
  cases ep:pick terms ps (rounds (pick terms ps) (zeros nons) 0 r) (0 + r + 1) n with
  | none=>
   unfold pick at ep
   rw [List.findIdx?_eq_none_iff] at ep
   have:=ep p hp
   have hb:below terms (rounds (fun l r n=>ps.findIdx? fun p=>decide (p.left=(n:Int)) && below terms l r p) (zeros nons) 0 r) (0 + r + 1) p=true:=hb
   rw [hb,decide_eq_true hl] at this
   exact absurd this (by decide)
  | some i=>exact got (pick terms ps) (zeros nons) 0 (by rw [zeros_length];exact hn) ep
 have hle:=rk_le (pick terms ps) (zeros nons) 0 (zeros_le nons) (r + 1) n
 have e:rk (ranks terms ps nons) n=rk (rounds (pick terms ps) (zeros nons) 0 (r + 1)) n:=by
  rcases Nat.lt_or_ge nons (r + 1) with h1 | h1
  ·rw [← settled' terms ps nons (r + 1) (by omega)];rfl
  ·exact keep_rk (pick terms ps) (zeros nons) 0 h1 key
 rw [e]
 exact ⟨key,by omega⟩
theorem closed {p:Pr} (hp:p ∈ ps) {n:Nat} (hl:p.left=(n:Int)) (hn:n < nons) (h:∀ s ∈ p.right,(s.non=true→rk (ranks terms ps nons) s.n.toNat≠0)∧(s.non=false→terms=true)) :
  rk (ranks terms ps nons) n≠0:=by
 refine (closed_at terms ps nons hp hl hn (r:=nons) ?_).1
 intro s hs
 obtain ⟨h1,h2⟩:=h s hs
 unfold okS
 cases e:s.non with
 | true=>
  rw [if_pos rfl]
  have:=rank_le terms ps nons s.n.toNat
  exact decide_eq_true ⟨h1 e,by omega⟩
 | false=>rw [if_neg (by decide)];exact h2 e
end
section
variable {g:Gm}
open Cf (Cm Pos)
theorem cm_ranks (hg:Ok g) {l:List Sy} {w:List Int} (h:Cm g l w):∀ s ∈ l,s.non=true→rk (ranks true g.prods g.nons.toNat) s.n.toNat≠0:=by
 induction h with
 | nil=>intro s hs;exact absurd hs (by simp)
 | tok hs _ ih=>
  intro x hx hn
  rcases List.mem_cons.mp hx with rfl | hx
  ·rw [hs] at hn;exact absurd hn (by decide)
  ·exact ih x hx hn
 | @non s l u v p hs hp hl hr _ ih1 ih2=>
  intro x hx hn
  rcases List.mem_cons.mp hx with rfl | hx
  ·have hok:=hg.2.2.2.2.2.2.2 p hp
   have h0:0≤p.left:=hok.1
   have h1:p.left < g.nons:=hok.2.1
   have e:p.left=((x.n.toNat:Nat):Int):=by rw [← hl,Int.toNat_of_nonneg h0]
   refine closed true g.prods g.nons.toNat hp e (by omega) ?_
   intro s hs
   exact ⟨ih1 s hs,fun _=>rfl⟩
  ·exact ih2 x hx hn
theorem ranks_cm (hg:Ok g) (terms:Bool):∀ (m:Nat) (n:Nat),rk (ranks terms g.prods g.nons.toNat) n≠0→rk (ranks terms g.prods g.nons.toNat) n≤m→∃ w,Cm g [⟨true,(n:Int)⟩] w∧(terms=false→w=[])
 | 0,n,h0,hm=>by omega
 | m + 1,n,h0,hm=>by
  obtain ⟨p,hi,hl,hs⟩:=shown terms g.prods g.nons.toNat n h0
  have hp:p ∈ g.prods:=List.mem_of_getElem? hi
  have hpos:=(Cf.ok_pos hg hp).2
  have all:∀ l:List Sy,(∀ s ∈ l,s ∈ p.right)→∃ w,Cm g l w∧(terms=false→w=[]):=by
   intro l
   induction l with
   | nil=>intro _;exact ⟨[],.nil,fun _=>rfl⟩
   | cons s l ih=>
    intro hl
    obtain ⟨v,hv,hv0⟩:=ih (fun x hx=>hl x (List.mem_cons_of_mem _ hx))
    have hsm:=hl s (List.mem_cons_self ..)
    have hso:=hs s hsm
    unfold okS at hso
    cases e:s.non with
    | true=>
     rw [if_pos e] at hso
     obtain ⟨h3,h4⟩:=of_decide_eq_true hso
     obtain ⟨u,hu,hu0⟩:=ranks_cm hg terms m s.n.toNat h3 (by omega)
     rw [Int.toNat_of_nonneg (hpos s hsm)] at hu
     have es:s=⟨true,s.n⟩:=by rw [← e]
     refine ⟨u ++ v,?_,?_⟩
     ·have:=hu.append hv
      rw [← es] at this
      exact this
     ·intro ht;rw [hu0 ht,hv0 ht];rfl
    | false=>
     rw [if_neg (by rw [e];decide)] at hso
     exact ⟨s.n :: v,.tok e hv,fun ht=>by rw [ht] at hso;exact absurd hso (by decide)⟩
  obtain ⟨w,hw,hw0⟩:=all p.right (fun _ h=>h)
  exact ⟨w,Cm.one.mpr ⟨p,hp,hl,hw⟩,hw0⟩
theorem some_iff (hg:Ok g) (n:Nat):rk (ranks true g.prods g.nons.toNat) n≠0↔∃ w,Cm g [⟨true,(n:Int)⟩] w:=by
 constructor
 ·intro h
  obtain ⟨w,hw,_⟩:=ranks_cm hg true _ n h (Nat.le_refl _)
  exact ⟨w,hw⟩
 ·rintro ⟨w,h⟩
  have:=cm_ranks hg h _ (List.mem_cons_self ..) rfl
  have e:(((n:Nat):Int)).toNat=n:=Int.toNat_natCast n
  rwa [e] at this
end
end Go.Proofs.YtdfhhbncmdpoeaaGreat.Rk
namespace Go.Proofs.YtdfhhbncmdpoeaaGreat.Fi
open Gr (Sy Pr Gm okSy okPr Ok)
open Cf (Cm)
def allNull (nl:Nat→Bool) (l:List Sy):Bool:=l.all fun s=>s.non && nl s.n.toNat
theorem ok_nums {g:Gm} (hg:Ok g) {p:Pr} (hp:p ∈ g.prods):p.left.toNat < g.nons.toNat∧(∀ s ∈ p.right,s.non=true→s.n.toNat < g.nons.toNat)∧∀ s ∈ p.right,s.non=false→0≤s.n∧s.n < g.terms:=by
 have h:=hg.2.2.2.2.2.2.2 p hp
 have h0:=h.1
 have h1:=h.2.1
 refine ⟨by omega,?_,?_⟩
 ·intro s hs hn
  have h2:=h.2.2.2 s hs
  have h3:=h2.2.1 hn
  have h4:=h2.1
  omega
 ·intro s hs hn
  have h2:=h.2.2.2 s hs
  exact ⟨h2.1,h2.2.2 hn⟩
def nulls (g:Gm) (n:Nat):Bool:=decide (Rk.rk (Rk.ranks false g.prods g.nons.toNat) n≠0)
end Go.Proofs.YtdfhhbncmdpoeaaGreat.Fi
namespace Go.Proofs.YtdfhhbncmdpoeaaGreat.Rc
open Gr (Sy Pr Gm okSy okPr Ok)
open Rk (Fs Pick rk rounds)
def stands (p:Pr) (n:Nat):Bool:=p.right.any fun s=>s.non && decide (s.n=(n:Int))
def pick (ps:List Pr):Pick:=fun l r n=>ps.findIdx? fun p=>stands p n && decide (rk l p.left.toNat + 1=r)
def base (nons start:Nat):Fs:=(List.replicate nons (0,0)).set start (1,0)
theorem base_length (nons start:Nat):(base nons start).length=nons:=by unfold base;rw [List.length_set,List.length_replicate]
theorem base_getD {nons start:Nat} (n:Nat) (hs:start < nons):(base nons start).getD n (0,0)=if n=start then (1,0) else (0,0):=by
 unfold base
 rw [List.getD_eq_getElem?_getD,List.getElem?_set]
 by_cases h:start=n
 ·subst h
  rw [if_pos rfl,if_pos rfl,if_pos (by rw [List.length_replicate];exact hs)]
  rfl
 ·rw [if_neg h,if_neg (fun e=>h e.symm),List.getElem?_replicate]
  split <;> rfl
theorem base_rk {nons start:Nat} (n:Nat) (hs:start < nons):rk (base nons start) n=if n=start then 1 else 0:=by
 unfold rk
 rw [base_getD n hs]
 split <;> rfl
theorem base_le {nons start:Nat} (hs:start < nons):∀ n,rk (base nons start) n≤1:=by
 intro n
 rw [base_rk n hs]
 split <;> omega
theorem pick_none (ps:List Pr) (l:Fs) (r r' n:Nat) (h:∀ m,rk l m < r) (hr:r≤r') (hp:pick ps l r n=none):pick ps l r' n=none:=by
 unfold pick at hp ⊢
 rw [List.findIdx?_eq_none_iff] at hp ⊢
 intro p hm
 have h1:=hp p hm
 by_cases e:r=r'
 ·subst e;exact h1
 ·have:=h p.left.toNat
  rw [decide_eq_false (by omega),Bool.and_false]
def rounds' (ps:List Pr) (nons start k:Nat):Fs:=rounds (pick ps) (base nons start) 1 k
def reach (ps:List Pr) (nons start:Nat):Fs:=rounds' ps nons start (nons - 1)
section
variable (ps:List Pr) {nons start:Nat} (hs:start < nons)
include hs
omit hs in
theorem rounds'_length (k:Nat):(rounds' ps nons start k).length=nons:=by unfold rounds';rw [Rk.rounds_length,base_length]
omit hs in
theorem reach_length:(reach ps nons start).length=nons:=rounds'_length ps _
theorem settled' {k:Nat} (hk:nons≤k + 1):rounds' ps nons start k=reach ps nons start:=by
 refine Rk.settled_on (pick ps) (base nons start) 1 (base_le hs) (pick_none ps) (c:=1) ?_ (j:=nons - 1) (by rw [base_length];omega) (by omega)
 rw [base_length]
 apply Rk.cnt_pos hs
 rw [base_rk _ hs,if_pos rfl]
 rfl
theorem reach_of {k:Nat} (h:rounds' ps nons start (k + 1)=rounds' ps nons start k):rounds' ps nons start k=reach ps nons start:=by
 rcases Nat.lt_or_ge (k + 1) nons with h1 | h1
 ·have:=Rk.stable_on (pick ps) (base nons start) 1 (base_le hs) (pick_none ps) h (nons - 1 - k)
  rw [show k + (nons - 1 - k)=nons - 1 by omega] at this
  exact this.symm
 ·exact settled' ps hs h1
theorem rank_le (n:Nat):rk (reach ps nons start) n≤nons:=by
 have:=Rk.rk_le (pick ps) (base nons start) 1 (base_le hs) (nons - 1) n
 unfold reach rounds'
 omega
end
end Go.Proofs.YtdfhhbncmdpoeaaGreat.Rc
namespace Go.Proofs.YtdfhhbncmdpoeaaGreat.Lf
open Gr (Sy Pr Gm okSy okPr Ok)
open Rk (Fs Pick rk rounds)
abbrev Stp:=Nat × Nat
def isStep (ps:List Pr) (nl:Nat→Bool) (x:Stp):Bool:=match ps[x.1]? with
 | none=>false
 | some p=>match p.right[x.2]? with
  | none=>false
  | some s=>s.non && Fi.allNull nl (p.right.take x.2)
def frm (ps:List Pr) (x:Stp):Nat:=match ps[x.1]? with
 | none=>0
 | some p=>p.left.toNat
def to (ps:List Pr) (x:Stp):Nat:=match ps[x.1]? with
 | none=>0
 | some p=>match p.right[x.2]? with
  | none=>0
  | some s=>s.n.toNat
def stepsOf (ps:List Pr) (nl:Nat→Bool) (i:Nat):List Stp:=(List.range (match ps[i]? with | none=>0 | some p=>p.right.length)).filterMap fun k=>if isStep ps nl (i,k) then some (i,k) else none
def all (ps:List Pr) (nl:Nat→Bool):List Stp:=(List.range ps.length).flatMap (stepsOf ps nl)
theorem mem_all {ps:List Pr} {nl:Nat→Bool} {x:Stp}:x ∈ all ps nl↔isStep ps nl x=true:=by
 unfold all
 rw [List.mem_flatMap]
 constructor
 ·rintro ⟨i,_,h⟩
  unfold stepsOf at h
  rw [List.mem_filterMap] at h
  obtain ⟨k,_,h⟩:=h
  split at h
  ·rename_i h1
   injection h with h
   rw [← h];exact h1
  ·exact absurd h (by simp)
 ·intro h
  obtain ⟨i,k⟩:=x
  have h0:=h
  unfold isStep at h0
  have h0:(match ps[i]? with | none=>false | some p=>match p.right[k]? with | none=>false | some s=>s.non && Fi.allNull nl (p.right.take k))=true:=h0
  cases e:ps[i]? with
  | none=>rw [e] at h0;exact absurd h0 (by simp)
  | some p=>
   rw [e] at h0
   have h0:(match p.right[k]? with | none=>false | some s=>s.non && Fi.allNull nl (p.right.take k))=true:=h0
   cases e2:p.right[k]? with
   | none=>rw [e2] at h0;exact absurd h0 (by simp)
   | some s=>
    have hi:i < ps.length:=by
     rcases Nat.lt_or_ge i ps.length with h1 | h1
     ·exact h1
     ·rw [List.getElem?_eq_none h1] at e;exact absurd e (by simp)
    have hk:k < p.right.length:=by
     rcases Nat.lt_or_ge k p.right.length with h1 | h1
     ·exact h1
     ·rw [List.getElem?_eq_none h1] at e2;exact absurd e2 (by simp)
    refine ⟨i,List.mem_range.mpr hi,?_⟩
    unfold stepsOf
    rw [List.mem_filterMap]
    refine ⟨k,?_,by rw [if_pos h]⟩
    rw [e]
    exact List.mem_range.mpr hk
theorem step_some {ps:List Pr} {nl:Nat→Bool} {x:Stp} (h:isStep ps nl x=true):∃ p s,ps[x.1]?=some p∧p.right[x.2]?=some s∧s.non=true∧Fi.allNull nl (p.right.take x.2)=true∧frm ps x=p.left.toNat∧to ps x=s.n.toNat:=by
 unfold isStep at h
 cases e:ps[x.1]? with
 | none=>rw [e] at h;exact absurd h (by simp)
 | some p=>
  rw [e] at h
  have h:(match p.right[x.2]? with | none=>false | some s=>s.non && Fi.allNull nl (p.right.take x.2))=true:=h
  cases e2:p.right[x.2]? with
  | none=>rw [e2] at h;exact absurd h (by simp)
  | some s=>
   rw [e2] at h
   have h:(s.non && Fi.allNull nl (p.right.take x.2))=true:=h
   rw [Bool.and_eq_true] at h
   refine ⟨p,s,rfl,e2,h.1,h.2,?_,?_⟩
   ·unfold frm;rw [e]
   ·unfold to;rw [e]
    show (match p.right[x.2]? with | none=>0 | some s=>s.n.toNat)=_
    rw [e2]
theorem step_nums {g:Gm} (hg:Ok g) {nl:Nat→Bool} {x:Stp} (h:isStep g.prods nl x=true):frm g.prods x < g.nons.toNat∧to g.prods x < g.nons.toNat:=by
 obtain ⟨p,s,h1,h2,h3,_,h5,h6⟩:=step_some h
 have hp:=List.mem_of_getElem? h1
 obtain ⟨h7,h8,_⟩:=Fi.ok_nums hg hp
 rw [h5,h6]
 exact ⟨h7,h8 s (List.mem_of_getElem? h2) h3⟩
def Way (ps:List Pr) (nl:Nat→Bool):Nat→List Stp→Nat→Prop
 | a,[],b=>a=b
 | a,x :: l,b=>isStep ps nl x=true∧frm ps x=a∧Way ps nl (to ps x) l b
def LeftRec (ps:List Pr) (nl:Nat→Bool) (n:Nat):Prop:=∃ l,l≠[]∧Way ps nl n l n
def pick (ps:List Pr) (nl:Nat→Bool) (b:Nat):Pick:=fun l r n=>(all ps nl).findIdx? fun x=>decide (frm ps x=n) && (if r=1 then decide (to ps x=b) else decide (rk l (to ps x) + 1=r))
theorem pick_some {ps:List Pr} {nl:Nat→Bool} {b:Nat} {l:Fs} {r n i:Nat} (h:pick ps nl b l r n=some i):∃ x,(all ps nl)[i]?=some x∧isStep ps nl x=true∧frm ps x=n∧(r=1→to ps x=b)∧(r≠1→rk l (to ps x) + 1=r):=by
 unfold pick at h
 rw [List.findIdx?_eq_some_iff_getElem] at h
 obtain ⟨hi,h1,_⟩:=h
 rw [Bool.and_eq_true,decide_eq_true_eq] at h1
 refine ⟨(all ps nl)[i],List.getElem?_eq_getElem hi,mem_all.mp (List.getElem_mem hi),h1.1,?_,?_⟩
 ·intro e;have h2:=h1.2;rw [if_pos e] at h2;exact of_decide_eq_true h2
 ·intro e;have h2:=h1.2;rw [if_neg e] at h2;exact of_decide_eq_true h2
theorem pick_none (ps:List Pr) (nl:Nat→Bool) (b:Nat) (l:Fs) (r r' n:Nat) (h:∀ m,rk l m < r) (hr:r≤r') (hp:pick ps nl b l r n=none):pick ps nl b l r' n=none:=by
 unfold pick at hp ⊢
 rw [List.findIdx?_eq_none_iff] at hp ⊢
 intro x hx
 by_cases e:r=r'
 ·subst e;exact hp x hx
 ·have:=h (to ps x)
  rw [if_neg (show ¬ r'=1 by omega),decide_eq_false (show ¬ rk l (to ps x) + 1=r' by omega),Bool.and_false]
def rounds' (ps:List Pr) (nl:Nat→Bool) (nons b k:Nat):Fs:=rounds (pick ps nl b) (Rk.zeros nons) 0 k
def dist (ps:List Pr) (nl:Nat→Bool) (nons b:Nat):Fs:=rounds' ps nl nons b nons
section
variable (ps:List Pr) (nl:Nat→Bool) (nons b:Nat)
theorem settled' {k:Nat} (hk:nons≤k):rounds' ps nl nons b k=dist ps nl nons b:=
 Rk.settled_on (pick ps nl b) (Rk.zeros nons) 0 (Rk.zeros_le nons) (pick_none ps nl b) (Nat.zero_le _) (j:=nons) (by rw [Rk.zeros_length];omega) hk
theorem dist_le (n:Nat):rk (dist ps nl nons b) n≤nons:=by
 have:=Rk.rk_le (pick ps nl b) (Rk.zeros nons) 0 (Rk.zeros_le nons) nons n
 unfold dist rounds';omega
theorem shown {n:Nat} (h:rk (dist ps nl nons b) n≠0):∃ x,(all ps nl)[((dist ps nl nons b).getD n (0,0)).2]?=some x∧isStep ps nl x=true∧frm ps x=n∧
  ((rk (dist ps nl nons b) n=1∧to ps x=b)∨(rk (dist ps nl nons b) (to ps x)≠0∧rk (dist ps nl nons b) (to ps x) + 1=rk (dist ps nl nons b) n)):=by
 obtain ⟨k,er⟩:∃ k,rk (dist ps nl nons b) n=0 + k + 1:=⟨rk (dist ps nl nons b) n - 1,by omega⟩
 have e1:=Rk.early (pick ps nl b) (Rk.zeros nons) 0 (Rk.zeros_le nons) nons n k er
 have h0:=e1.1 k (Nat.le_refl _)
 have e2:=e1.2 (k + 1) (by omega)
 have h1:rk (rounds (pick ps nl b) (Rk.zeros nons) 0 (k + 1)) n≠0:=by unfold rk;rw [e2];exact h
 obtain ⟨i,hp,e3⟩:=Rk.new_rk (pick ps nl b) (Rk.zeros nons) 0 h0 h1
 obtain ⟨x,hi,hst,hf,hr1,hr2⟩:=pick_some hp
 have e4:(dist ps nl nons b).getD n (0,0)=(0 + k + 1,i):=by unfold dist rounds';rw [← e2];exact e3
 rw [e4]
 refine ⟨x,hi,hst,hf,?_⟩
 rw [er]
 by_cases hk:k=0
 ·subst hk
  exact .inl ⟨rfl,hr1 rfl⟩
 ·right
  have h5:=hr2 (by omega)
  have hle:k≤nons:=by have:=dist_le ps nl nons b n;omega
  have hne:rk (rounds (pick ps nl b) (Rk.zeros nons) 0 k) (to ps x)≠0:=by omega
  have:=Rk.keep_rk (pick ps nl b) (Rk.zeros nons) 0 hle hne
  have e5:rk (dist ps nl nons b) (to ps x)=rk (rounds (pick ps nl b) (Rk.zeros nons) 0 k) (to ps x):=this
  rw [e5]
  exact ⟨hne,h5⟩
theorem one_at {x:Stp} (hx:isStep ps nl x=true) (hn:frm ps x < nons) {r:Nat} (h:r=0∧to ps x=b∨rk (dist ps nl nons b) (to ps x)≠0∧rk (dist ps nl nons b) (to ps x)=r) :
  rk (dist ps nl nons b) (frm ps x)≠0∧rk (dist ps nl nons b) (frm ps x)≤r + 1:=by
 have key:rk (rounds (pick ps nl b) (Rk.zeros nons) 0 (r + 1)) (frm ps x)≠0:=by
  cases ep:pick ps nl b (rounds (pick ps nl b) (Rk.zeros nons) 0 r) (0 + r + 1) (frm ps x) with
  | none=>
   exfalso
   have hh:∀ y ∈ all ps nl,(decide (frm ps y=frm ps x) && (if 0 + r + 1=1 then decide (to ps y=b) else decide (rk (rounds (pick ps nl b) (Rk.zeros nons) 0 r) (to ps y) + 1=0 + r + 1)))=false:=by
    have:=ep
    conv at this=>lhs;unfold pick
    rw [List.findIdx?_eq_none_iff] at this
    exact this
   have:=hh x (mem_all.mpr hx)
   rcases h with ⟨h1,h2⟩ | ⟨h1,h2⟩
   ·subst h1
    rw [decide_eq_true rfl,if_pos rfl,decide_eq_true h2] at this
    exact absurd this (by decide)
   ·have e:=Rk.there (pick ps nl b) (Rk.zeros nons) 0 (Rk.zeros_le nons) (k:=nons) (j:=r) (n:=to ps x) h1 (by show rk (dist ps nl nons b) _≤0 + r;omega)
    have e2:rk (rounds (pick ps nl b) (Rk.zeros nons) 0 r) (to ps x)=rk (dist ps nl nons b) (to ps x):=by unfold rk;rw [e];rfl
    rw [decide_eq_true rfl,if_neg (by omega),e2,h2,decide_eq_true (by omega)] at this
    exact absurd this (by decide)
  | some i=>exact Rk.got (pick ps nl b) (Rk.zeros nons) 0 (by rw [Rk.zeros_length];exact hn) ep
 have hle:=Rk.rk_le (pick ps nl b) (Rk.zeros nons) 0 (Rk.zeros_le nons) (r + 1) (frm ps x)
 have e:rk (dist ps nl nons b) (frm ps x)=rk (rounds (pick ps nl b) (Rk.zeros nons) 0 (r + 1)) (frm ps x):=by
  rcases Nat.lt_or_ge nons (r + 1) with h1 | h1
  ·rw [← settled' ps nl nons b (k:=r + 1) (by omega)];rfl
  ·exact Rk.keep_rk (pick ps nl b) (Rk.zeros nons) 0 h1 key
 rw [e]
 exact ⟨key,by omega⟩
def way:Nat→Nat→List Stp
 | 0,_=>[]
 | r + 1,n=>match (all ps nl)[((dist ps nl nons b).getD n (0,0)).2]? with
  | none=>[]
  | some x=>x :: way r (to ps x)
theorem way_is:∀ (r n:Nat),rk (dist ps nl nons b) n=r + 1→Way ps nl n (way ps nl nons b (r + 1) n) b∧(way ps nl nons b (r + 1) n).length=r + 1
 | r,n,h=>by
  obtain ⟨x,hi,hst,hf,hr⟩:=shown ps nl nons b (n:=n) (by omega)
  unfold way
  rw [hi]
  rcases hr with ⟨h1,h2⟩ | ⟨h1,h2⟩
  ·obtain rfl:r=0:=by omega
   exact ⟨⟨hst,hf,h2⟩,rfl⟩
  ·obtain ⟨r',rfl⟩:∃ r',r=r' + 1:=⟨r - 1,by omega⟩
   have ih:=way_is r' (to ps x) (by omega)
   exact ⟨⟨hst,hf,ih.1⟩,by show (way ps nl nons b (r' + 1) (to ps x)).length + 1=_;rw [ih.2]⟩
def best (n:Nat):List Stp:=way ps nl nons b (rk (dist ps nl nons b) n) n
theorem best_length (n:Nat):(best ps nl nons b n).length=rk (dist ps nl nons b) n:=by
 unfold best
 cases e:rk (dist ps nl nons b) n with
 | zero=>rfl
 | succ r=>exact (way_is ps nl nons b r n e).2
theorem best_way {n:Nat} (h:rk (dist ps nl nons b) n≠0):Way ps nl n (best ps nl nons b n) b:=by
 unfold best
 obtain ⟨r,e⟩:∃ r,rk (dist ps nl nons b) n=r + 1:=⟨rk (dist ps nl nons b) n - 1,by omega⟩
 rw [e]
 exact (way_is ps nl nons b r n e).1
end
theorem found {g:Gm} (hg:Ok g) {nl:Nat→Bool} {b:Nat}:∀ {l:List Stp} {n:Nat},l≠[]→Way g.prods nl n l b→rk (dist g.prods nl g.nons.toNat b) n≠0∧rk (dist g.prods nl g.nons.toNat b) n≤l.length
 | [],_,h,_=>absurd rfl h
 | x :: l,n,_,⟨h1,h2,h3⟩=>by
  subst h2
  have hn:=step_nums hg h1
  cases l with
  | nil=>
   have h3:to g.prods x=b:=h3
   exact one_at g.prods nl g.nons.toNat b h1 hn.1 (.inl ⟨rfl,h3⟩)
  | cons y l=>
   have ih:=found hg (by simp) h3
   have:=one_at g.prods nl g.nons.toNat b h1 hn.1 (.inr ⟨ih.1,rfl⟩)
   have e:(x :: y :: l).length=(y :: l).length + 1:=rfl
   omega
theorem left_iff {g:Gm} (hg:Ok g) {nl:Nat→Bool} {n:Nat}:LeftRec g.prods nl n↔rk (dist g.prods nl g.nons.toNat n) n≠0:=by
 constructor
 ·rintro ⟨l,h1,h2⟩;exact (found hg h1 h2).1
 ·intro h
  refine ⟨_,?_,best_way g.prods nl g.nons.toNat n h⟩
  intro e
  have:=best_length g.prods nl g.nons.toNat n n
  rw [e] at this
  exact h this.symm
end Go.Proofs.YtdfhhbncmdpoeaaGreat.Lf
namespace Go.Proofs.YtdfhhbncmdpoeaaGreat.Lf
open Gr (Sy Pr Gm okSy okPr Ok)
open Rk (Fs Pick rk rounds)
abbrev Wt:=List (List Stp)
section
variable (ps:List Pr) (nl:Nat→Bool) (b:Nat) (tbl:Wt) (r a:Nat)
def hit (x:Stp):Bool:=decide (frm ps x=a) && (if r=1 then decide (to ps x=b) else decide ((tbl.getD (to ps x) []).length + 1=r))
def mk (x:Stp):List Stp:=x :: (if r=1 then [] else tbl.getD (to ps x) [])
def found':Option Stp→List Stp
 | none=>[]
 | some x=>mk ps tbl r x
def seen (i:Nat) (l:List Stp):List Stp:=if l≠[] then l else found' ps tbl r (((all ps nl).take i).find? (hit ps b tbl r a))
theorem seen_zero (l:List Stp):seen ps nl b tbl r a 0 l=l:=by
 unfold seen
 rw [List.take_zero,List.find?_nil]
 show (if l≠[] then l else [])=l
 split
 ·rfl
 ·rename_i h;exact (Classical.not_not.mp h).symm
theorem seen_keep {i:Nat} {l:List Stp} (h:l≠[]):seen ps nl b tbl r a i l=l:=by unfold seen;rw [if_pos h]
theorem seen_done {i:Nat} {l:List Stp} (h:seen ps nl b tbl r a i l≠[]) {j:Nat} (hj:i≤j):seen ps nl b tbl r a j l=seen ps nl b tbl r a i l:=by
 by_cases e:l≠[]
 ·rw [seen_keep ps nl b tbl r a e,seen_keep ps nl b tbl r a e]
 ·unfold seen at h ⊢
  rw [if_neg e] at h ⊢
  rw [if_neg e]
  cases hf:((all ps nl).take i).find? (hit ps b tbl r a) with
  | none=>rw [hf] at h;exact absurd rfl h
  | some x=>
   rw [← Nat.min_eq_left hj,← List.take_take] at hf
   obtain ⟨pre,post,h1⟩:∃ pre post,(all ps nl).take j=pre ++ post∧pre=((all ps nl).take j).take i:=⟨_,_,(List.take_append_drop i _).symm,rfl⟩
   rw [← h1.2] at hf
   rw [h1.1,List.find?_append,hf]
   rfl
theorem seen_succ {i:Nat} (hi:i < (all ps nl).length) {l:List Stp} (h:seen ps nl b tbl r a i l=[]) :
  seen ps nl b tbl r a (i + 1) l=if hit ps b tbl r a (all ps nl)[i] then mk ps tbl r (all ps nl)[i] else []:=by
 have hl:l=[]:=by
  by_cases e:l≠[]
  ·rw [seen_keep ps nl b tbl r a e] at h;exact h
  ·exact Classical.not_not.mp e
 subst hl
 unfold seen at h ⊢
 rw [if_neg (by simp)] at h ⊢
 rw [List.take_succ_eq_append_getElem hi,List.find?_append]
 cases hf:((all ps nl).take i).find? (hit ps b tbl r a) with
 | some x=>rw [hf] at h;exact absurd h (by simp [found',mk])
 | none=>
  rw [Option.none_or,List.find?_singleton]
  split <;> rfl
def tblAt (i:Nat):Wt:=tbl.mapIdx fun m l=>if m < a then seen ps nl b tbl r m (all ps nl).length l else if m=a then seen ps nl b tbl r a i l else l
theorem tblAt_length (i:Nat):(tblAt ps nl b tbl r a i).length=tbl.length:=List.length_mapIdx ..
theorem tblAt_get (i m:Nat):(tblAt ps nl b tbl r a i)[m]?=(tbl[m]?).map fun l=>if m < a then seen ps nl b tbl r m (all ps nl).length l else if m=a then seen ps nl b tbl r a i l else l:=by
 unfold tblAt;rw [List.getElem?_mapIdx]
theorem tblAt_at {i:Nat} (h:a < tbl.length):(tblAt ps nl b tbl r a i)[a]?=some (seen ps nl b tbl r a i tbl[a]):=by
 rw [tblAt_get,List.getElem?_eq_getElem h,Option.map_some,if_neg (Nat.lt_irrefl _),if_pos rfl]
theorem tblAt_here {i:Nat} (h:a < tbl.length):(tblAt ps nl b tbl r a i).getD a []=seen ps nl b tbl r a i (tbl.getD a []):=by
 rw [List.getD_eq_getElem?_getD,List.getD_eq_getElem?_getD,tblAt_at ps nl b tbl r a h,List.getElem?_eq_getElem h]
 rfl
theorem tblAt_zero:tblAt ps nl b tbl r 0 0=tbl:=by
 apply List.ext_getElem?
 intro m
 rw [tblAt_get]
 cases h:tbl[m]? with
 | none=>rfl
 | some l=>
  rw [Option.map_some,if_neg (Nat.not_lt_zero m)]
  split
  ·rw [seen_zero]
  ·rfl
theorem tblAt_turn:tblAt ps nl b tbl r (a + 1) 0=tblAt ps nl b tbl r a (all ps nl).length:=by
 apply List.ext_getElem?
 intro m
 rw [tblAt_get,tblAt_get]
 congr 1
 funext l
 by_cases h:m < a
 ·rw [if_pos (by omega),if_pos h]
 ·rw [if_neg h]
  by_cases e:m=a
  ·subst e
   rw [if_pos (by omega),if_pos rfl]
  ·rw [if_neg (by omega),if_neg e]
   split
   ·rw [seen_zero]
   ·rfl
theorem tblAt_stop {i:Nat} (ha:a < tbl.length) (hi:i≤(all ps nl).length) (h:(tblAt ps nl b tbl r a i).getD a []≠[]):tblAt ps nl b tbl r a i=tblAt ps nl b tbl r (a + 1) 0:=by
 rw [tblAt_turn]
 rw [tblAt_here ps nl b tbl r a ha] at h
 apply List.ext_getElem?
 intro m
 by_cases e:m=a
 ·subst e
  rw [tblAt_at ps nl b tbl r m ha,tblAt_at ps nl b tbl r m ha]
  have e2:tbl.getD m []=tbl[m]:=by rw [List.getD_eq_getElem?_getD,List.getElem?_eq_getElem ha];rfl
  rw [e2] at h
  rw [seen_done ps nl b tbl r m h hi]
 ·rw [tblAt_get,tblAt_get]
  congr 1
  funext l
  rw [if_neg e,if_neg e]
theorem tblAt_put {i:Nat} (ha:a < tbl.length) (hi:i < (all ps nl).length) (h:(tblAt ps nl b tbl r a i).getD a []=[]) (hh:hit ps b tbl r a (all ps nl)[i]=true) :
  tblAt ps nl b tbl r a (i + 1)=(tblAt ps nl b tbl r a i).set a (mk ps tbl r (all ps nl)[i]):=by
 rw [tblAt_here ps nl b tbl r a ha] at h
 apply List.ext_getElem?
 intro m
 rw [List.getElem?_set,tblAt_length]
 by_cases e:m=a
 ·subst e
  rw [if_pos rfl,if_pos ha,tblAt_at ps nl b tbl r m ha]
  have e2:tbl.getD m []=tbl[m]:=by rw [List.getD_eq_getElem?_getD,List.getElem?_eq_getElem ha];rfl
  rw [e2] at h
  rw [seen_succ ps nl b tbl r m hi h,if_pos hh]
 ·rw [if_neg (fun h=>e h.symm),tblAt_get,tblAt_get]
  congr 1
  funext l
  rw [if_neg e,if_neg e]
theorem tblAt_skip {i:Nat} (ha:a < tbl.length) (hi:i < (all ps nl).length) (h:(tblAt ps nl b tbl r a i).getD a []=[]) (hh:hit ps b tbl r a (all ps nl)[i]=false) :
  tblAt ps nl b tbl r a (i + 1)=tblAt ps nl b tbl r a i:=by
 rw [tblAt_here ps nl b tbl r a ha] at h
 apply List.ext_getElem?
 intro m
 by_cases e:m=a
 ·subst e
  rw [tblAt_at ps nl b tbl r m ha,tblAt_at ps nl b tbl r m ha]
  have e2:tbl.getD m []=tbl[m]:=by rw [List.getD_eq_getElem?_getD,List.getElem?_eq_getElem ha];rfl
  rw [e2] at h
  rw [seen_succ ps nl b tbl r m hi h,hh,h]
  rfl
 ·rw [tblAt_get,tblAt_get]
  congr 1
  funext l
  rw [if_neg e,if_neg e]
end
def bw (ps:List Pr) (nl:Nat→Bool) (nons b:Nat):Nat→Wt
 | 0=>List.replicate nons []
 | k + 1=>tblAt ps nl b (bw ps nl nons b k) (k + 1) nons 0
section
variable (ps:List Pr) (nl:Nat→Bool) (nons b:Nat)
theorem bw_succ (k:Nat):bw ps nl nons b (k + 1)=tblAt ps nl b (bw ps nl nons b k) (k + 1) nons 0:=rfl
theorem bw_length:∀ k,(bw ps nl nons b k).length=nons
 | 0=>List.length_replicate
 | k + 1=>by rw [bw_succ,tblAt_length];exact bw_length k
theorem bw_next {k m:Nat} (hm:m < nons):(bw ps nl nons b (k + 1)).getD m []=seen ps nl b (bw ps nl nons b k) (k + 1) m (all ps nl).length ((bw ps nl nons b k).getD m []):=by
 have hl:m < (bw ps nl nons b k).length:=by rw [bw_length];exact hm
 rw [bw_succ,List.getD_eq_getElem?_getD,List.getD_eq_getElem?_getD,tblAt_get,List.getElem?_eq_getElem hl]
 rw [Option.map_some,if_pos hm]
 rfl
theorem bw_len:∀ (k m:Nat),((bw ps nl nons b k).getD m []).length=rk (rounds' ps nl nons b k) m
 | 0,m=>by
  show ((List.replicate nons ([]:List Stp)).getD m []).length=rk (Rk.zeros nons) m
  rw [Rk.rk_zeros,List.getD_eq_getElem?_getD,List.getElem?_replicate]
  split <;> rfl
 | k + 1,m=>by
  rcases Nat.lt_or_ge m nons with hm | hm
  ·have ih:=bw_len k
   have e:rounds' ps nl nons b (k + 1)=Rk.round (pick ps nl b) (rounds' ps nl nons b k) (k + 1):=by
    unfold rounds';rw [Rk.rounds_succ,Nat.zero_add]
   have hl:m < (rounds' ps nl nons b k).length:=by unfold rounds';rw [Rk.rounds_length,Rk.zeros_length];exact hm
   rw [bw_next ps nl nons b hm,e]
   show _=((Rk.round _ _ _).getD m (0,0)).1
   rw [Rk.getD_round _ _ _ _ hl]
   by_cases h0:(bw ps nl nons b k).getD m []=[]
   ·have hz:((rounds' ps nl nons b k).getD m (0,0)).1=0:=by
     have:=ih m
     rw [h0] at this
     exact this.symm
    have hp:(fun x=>decide (frm ps x=m) && (if k + 1=1 then decide (to ps x=b) else decide (rk (rounds' ps nl nons b k) (to ps x) + 1=k + 1)))=hit ps b (bw ps nl nons b k) (k + 1) m:=by
     funext x
     unfold hit
     rw [ih]
    unfold seen
    rw [if_neg (by rw [h0];simp),List.take_length]
    cases hf:(all ps nl).find? (hit ps b (bw ps nl nons b k) (k + 1) m) with
    | none=>
     have hq:pick ps nl b (rounds' ps nl nons b k) (k + 1) m=none:=by
      unfold pick
      rw [hp,List.findIdx?_eq_none_iff]
      intro x hx
      simpa using List.find?_eq_none.1 hf x hx
     rw [Rk.next_none hq]
     show 0=_
     exact hz.symm
    | some x=>
     obtain ⟨i,hq⟩:∃ i,pick ps nl b (rounds' ps nl nons b k) (k + 1) m=some i:=by
      unfold pick
      rw [hp]
      cases hi:(all ps nl).findIdx? (hit ps b (bw ps nl nons b k) (k + 1) m) with
      | some i=>exact ⟨i,rfl⟩
      | none=>
       have h1:=List.findIdx?_eq_none_iff.1 hi x (List.mem_of_find?_eq_some hf)
       rw [List.find?_some hf] at h1
       cases h1
     rw [Rk.next_some hz hq]
     show (mk ps (bw ps nl nons b k) (k + 1) x).length=k + 1
     have hx:=List.find?_some hf
     unfold hit at hx
     rw [Bool.and_eq_true] at hx
     unfold mk
     rw [List.length_cons]
     by_cases e1:k + 1=1
     ·rw [if_pos e1];simp;omega
     ·rw [if_neg e1]
      have h2:=hx.2
      rw [if_neg e1] at h2
      exact of_decide_eq_true h2
   ·rw [seen_keep _ _ _ _ _ _ h0,ih]
    have hne:((rounds' ps nl nons b k).getD m (0,0)).1≠0:=by
     intro e0
     apply h0
     apply List.eq_nil_of_length_eq_zero
     rw [ih];exact e0
    rw [Rk.next_keep hne]
    rfl
  ·rw [Rk.rk_out (by unfold rounds';rw [Rk.rounds_length,Rk.zeros_length];exact hm),List.getD_eq_getElem?_getD,List.getElem?_eq_none (by rw [bw_length];exact hm)]
   rfl
def told (b:Nat):List Stp:=(bw ps nl nons b nons).getD b []
theorem told_len:(told ps nl nons b).length=rk (dist ps nl nons b) b:=bw_len ps nl nons b nons b
theorem bw_le (k m:Nat):((bw ps nl nons b k).getD m []).length≤k:=by
 rw [bw_len]
 have:=Rk.rk_le (pick ps nl b) (Rk.zeros nons) 0 (Rk.zeros_le nons) k m
 unfold rounds'
 omega
end
theorem told_iff {g:Gm} (hg:Ok g) {nl:Nat→Bool} {n:Nat}:LeftRec g.prods nl n↔0 < (told g.prods nl g.nons.toNat n).length:=by
 rw [left_iff hg,told_len];omega
end Go.Proofs.YtdfhhbncmdpoeaaGreat.Lf
