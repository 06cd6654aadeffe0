/- Plain facts on a round nonterminal by nonterminal, in place; and on who is picked for it (reach). No program is named here. -/
import Derived.Test.YtdfhhbncmdpoeaaGreatPlainR
namespace Go.Proofs.YtdfhhbncmdpoeaaGreat.Rk
section
variable (pk:Pick) (l:Fs) (r:Nat)
def placed (n:Nat):Fs:=l.mapIdx fun m f=>if m < n then next pk l r m f else f
theorem placed_length (n:Nat):(placed pk l r n).length=l.length:=List.length_mapIdx ..
theorem placed_get (n m:Nat):(placed pk l r n)[m]?=(l[m]?).map fun f=>if m < n then next pk l r m f else f:=by unfold placed;rw [List.getElem?_mapIdx]
theorem placed_zero:placed pk l r 0=l:=by
 apply List.ext_getElem?
 intro m
 rw [placed_get]
 cases l[m]? with
 | none=>rfl
 | some f=>rw [Option.map_some,if_neg (by omega)]
theorem placed_end {n:Nat} (h:l.length≤n):placed pk l r n=round pk l r:=by
 apply List.ext_getElem?
 intro m
 unfold round
 rw [placed_get,List.getElem?_mapIdx]
 cases hm:l[m]? with
 | none=>rfl
 | some f=>
  have:m < l.length:=by
   rcases Nat.lt_or_ge m l.length with h | h
   ·exact h
   ·rw [List.getElem?_eq_none h] at hm;cases hm
  rw [Option.map_some,Option.map_some,if_pos (by omega)]
theorem placed_keep {n:Nat} (h:rk l n≠0∨pk l r n=none):placed pk l r (n + 1)=placed pk l r n:=by
 apply List.ext_getElem?
 intro m
 rw [placed_get,placed_get]
 cases hm:l[m]? with
 | none=>rfl
 | some f=>
  simp only [Option.map_some]
  congr 1
  by_cases e:m=n
  ·subst e
   rw [if_pos (by omega),if_neg (by omega)]
   rcases h with h | h
   ·unfold rk at h
    rw [List.getD_eq_getElem?_getD,hm,Option.getD_some] at h
    exact next_keep h
   ·exact next_none h
  ·by_cases h1:m < n
   ·rw [if_pos (by omega),if_pos h1]
   ·rw [if_neg (by omega),if_neg h1]
theorem placed_put {n i:Nat} (h0:rk l n=0) (hp:pk l r n=some i) (hn:n < l.length):placed pk l r (n + 1)=(placed pk l r n).set n (r,i):=by
 apply List.ext_getElem?
 intro m
 rw [List.getElem?_set,placed_get,placed_get,placed_length]
 by_cases e:n=m
 ·subst e
  rw [if_pos rfl,if_pos hn,List.getElem?_eq_getElem hn,Option.map_some,if_pos (by omega)]
  congr 1
  unfold rk at h0
  rw [List.getD_eq_getElem?_getD,List.getElem?_eq_getElem hn,Option.getD_some] at h0
  exact next_some h0 hp
 ·rw [if_neg e]
  cases l[m]? with
  | none=>rfl
  | some f=>
   simp only [Option.map_some]
   congr 1
   by_cases h1:m < n
   ·rw [if_pos (by omega),if_pos h1]
   ·rw [if_neg (by omega),if_neg h1]
theorem placed_rk (n m:Nat):rk (placed pk l r n) m=rk l m∨(rk l m=0∧rk (placed pk l r n) m=r):=by
 unfold rk
 rw [List.getD_eq_getElem?_getD,List.getD_eq_getElem?_getD,placed_get]
 cases h:l[m]? with
 | none=>exact .inl rfl
 | some f=>
  simp only [Option.map_some,Option.getD_some]
  split
  ·unfold next
   by_cases h1:f.1≠0
   ·rw [if_pos h1];exact .inl rfl
   ·rw [if_neg h1]
    split
    ·exact .inr ⟨by omega,rfl⟩
    ·exact .inl rfl
  ·exact .inl rfl
theorem placed_ahead {n m:Nat} (hr:2≤r):rk (placed pk l r n) m + 1=r↔rk l m + 1=r:=by
 rcases placed_rk pk l r n m with e | ⟨e1,e2⟩
 ·rw [e]
 ·rw [e1,e2];omega
theorem placed_at {n m:Nat} (h:n≤m):(placed pk l r n).getD m (0,0)=l.getD m (0,0):=by
 rw [List.getD_eq_getElem?_getD,List.getD_eq_getElem?_getD,placed_get]
 cases l[m]? with
 | none=>rfl
 | some f=>rw [Option.map_some,if_neg (by omega)]
end
end Go.Proofs.YtdfhhbncmdpoeaaGreat.Rk
namespace Go.Proofs.YtdfhhbncmdpoeaaGreat.Rc
open Gr (Sy Pr Gm okSy okPr Ok)
open Rk (Fs Pick rk rounds)
def hit (ps:List Pr) (l:Fs) (r n i:Nat):Prop:=∃ p,ps[i]?=some p∧stands p n=true∧rk l p.left.toNat + 1=r
theorem pick_is {ps:List Pr} {l:Fs} {r n i:Nat} (h:hit ps l r n i) (ha:∀ j,j < i→¬ hit ps l r n j):pick ps l r n=some i:=by
 obtain ⟨p,hp,h1,h2⟩:=h
 obtain ⟨hi,he⟩:=List.getElem?_eq_some_iff.1 hp
 unfold pick
 rw [List.findIdx?_eq_some_iff_getElem]
 refine ⟨hi,by rw [he,h1,Bool.true_and];exact decide_eq_true h2,fun j hj=>?_⟩
 intro hx
 rw [Bool.and_eq_true,decide_eq_true_eq] at hx
 exact ha j hj ⟨ps[j],List.getElem?_eq_getElem (by omega),hx.1,hx.2⟩
theorem pick_not {ps:List Pr} {l:Fs} {r n:Nat} (ha:∀ j,j < ps.length→¬ hit ps l r n j):pick ps l r n=none:=by
 unfold pick
 rw [List.findIdx?_eq_none_iff]
 intro p hp
 obtain ⟨j,hj,rfl⟩:=List.getElem_of_mem hp
 cases e:(stands ps[j] n && decide (rk l ps[j].left.toNat + 1=r)) with
 | false=>rfl
 | true=>
  rw [Bool.and_eq_true,decide_eq_true_eq] at e
  exact absurd ⟨ps[j],List.getElem?_eq_getElem hj,e.1,e.2⟩ (ha j hj)
theorem hits_succ {ps:List Pr} {l:Fs} {r n i:Nat} (ha:∀ j,j < i→¬ hit ps l r n j) (h:¬ hit ps l r n i):∀ j,j < i + 1→¬ hit ps l r n j:=fun j hj=>by
 by_cases e:j=i
 ·subst e;exact h
 ·exact ha j (by omega)
theorem rounds'_succ (ps:List Pr) (nons start k:Nat):rounds' ps nons start (k + 1)=Rk.round (pick ps) (rounds' ps nons start k) (k + 2):=by
 unfold rounds'
 rw [Rk.rounds_succ,show 1 + k + 1=k + 2 by omega]
theorem rounds'_lt (ps:List Pr) {nons start:Nat} (hs:start < nons) (k:Nat):∀ n,rk (rounds' ps nons start k) n < k + 2:=by
 intro n
 have:=Rk.rk_le (pick ps) (base nons start) 1 (base_le hs) k n
 unfold rounds'
 omega
end Go.Proofs.YtdfhhbncmdpoeaaGreat.Rc
namespace Go.Proofs.YtdfhhbncmdpoeaaGreat.Rc
open Gr (Sy Pr Gm okSy okPr Ok)
open Rk (Fs Pick rk rounds cnt)
def opn (cur:Fs) (s:Sy):Bool:=s.non && decide (rk cur s.n.toNat=0)
def Clear (ps:List Pr) (cur:Fs) (r i:Nat):Prop:=∀ j,j < i→∀ q,ps[j]?=some q→rk cur q.left.toNat=r→∀ s ∈ q.right,opn cur s=false
theorem Clear.zero {ps:List Pr} {cur:Fs} {r:Nat}:Clear ps cur r 0:=fun j hj=>absurd hj (by omega)
theorem Clear.succ {ps:List Pr} {cur:Fs} {r i:Nat} (h:Clear ps cur r i) (hi:i < ps.length) (hx:rk cur ps[i].left.toNat≠r∨∀ s ∈ ps[i].right,opn cur s=false):Clear ps cur r (i + 1):=by
 intro j hj q hq hr s hs
 by_cases e:j=i
 ·subst e
  rw [List.getElem?_eq_getElem hi] at hq
  injection hq with hq
  subst hq
  rcases hx with hx | hx
  ·exact absurd hr hx
  ·exact hx s hs
 ·exact h j (by omega) q hq hr s hs
def left (nons:Nat) (cur:Fs):Nat:=cnt nons fun n=>decide (rk cur n=0)
theorem left_set {nons n r i:Nat} {cur:Fs} (hl:cur.length=nons) (hn:n < nons) (h0:rk cur n=0) (hr:0 < r):left nons (cur.set n (r,i)) < left nons cur:=by
 have key:∀ m,rk (cur.set n (r,i)) m=if m=n then r else rk cur m:=by
  intro m
  unfold rk
  rw [List.getD_eq_getElem?_getD,List.getElem?_set,List.getD_eq_getElem?_getD]
  by_cases e:n=m
  ·subst e
   rw [if_pos rfl,if_pos rfl,if_pos (by omega)]
   rfl
  ·rw [if_neg e,if_neg (fun h=>e h.symm)]
 refine Rk.cnt_lt nons ?_ n hn ?_ ?_
 ·intro m _ hm
  rw [decide_eq_true_eq,key] at hm
  rw [decide_eq_true_eq]
  split at hm
  ·omega
  ·exact hm
 ·rw [key,if_pos rfl]
  exact decide_eq_false (by omega)
 ·exact decide_eq_true h0
structure Que (ps:List Pr) (nons start k:Nat) (cur:Fs) (a b:List Nat):Prop where
 len:cur.length=nons
 mix:∀ n,cur.getD n (0,0)=(rounds' ps nons start k).getD n (0,0)∨cur.getD n (0,0)=(rounds' ps nons start (k + 1)).getD n (0,0)
 old:∀ n ∈ a,n < nons∧rk cur n=k + 1
 new:∀ n ∈ b,n < nons∧rk cur n=k + 2
 all:∀ n,rk cur n=k + 2→n ∈ b
 fin:a≠[]∨cur=rounds' ps nons start (k + 1)
section
variable {ps:List Pr} {nons start k:Nat} {cur:Fs} {a b:List Nat}
theorem Que.begin_ (hs:start < nons):Que ps nons start 0 (rounds' ps nons start 0) [start] []:=by
 have e:rounds' ps nons start 0=base nons start:=rfl
 refine ⟨rounds'_length ps 0,fun n=>.inl rfl,?_,by simp,?_,.inl (by simp)⟩
 ·intro n hn
  have:n=start:=by simpa using hn
  subst this
  exact ⟨hs,by rw [e,base_rk _ hs,if_pos rfl]⟩
 ·intro n hn
  have:=rounds'_lt ps hs 0 n
  omega
theorem Que.rk_old (h:Que ps nons start k cur a b) {n:Nat} (h0:rk (rounds' ps nons start k) n≠0):rk cur n=rk (rounds' ps nons start k) n:=by
 have e:(rounds' ps nons start (k + 1)).getD n (0,0)=(rounds' ps nons start k).getD n (0,0):=Rk.keep_succ (pick ps) (base nons start) 1 h0
 unfold rk
 rcases h.mix n with e1 | e1
 ·rw [e1]
 ·rw [e1,e]
theorem Que.rk_is (h:Que ps nons start k cur a b) {n r:Nat} (hr:rk cur n=r) (h1:1≤r) (h2:r≤k + 1):rk (rounds' ps nons start k) n=r:=by
 by_cases h0:rk (rounds' ps nons start k) n=0
 ·exfalso
  rcases h.mix n with e1 | e1
  ·have:rk cur n=rk (rounds' ps nons start k) n:=by unfold rk;rw [e1]
   omega
  ·have e2:rk cur n=rk (rounds' ps nons start (k + 1)) n:=by unfold rk;rw [e1]
   have h3:rk (rounds (pick ps) (base nons start) 1 (k + 1)) n≠0:=by show rk (rounds' ps nons start (k + 1)) n≠0;omega
   obtain ⟨i,_,e3⟩:=Rk.new_rk (pick ps) (base nons start) 1 h0 h3
   have e4:rk (rounds' ps nons start (k + 1)) n=1 + k + 1:=by unfold rk rounds';rw [e3]
   omega
 ·rw [← h.rk_old h0];exact hr
theorem Que.le (h:Que ps nons start k cur a b) (hs:start < nons) (n:Nat):rk cur n≤k + 2:=by
 have h1:=rounds'_lt ps hs k n
 have h2:=rounds'_lt ps hs (k + 1) n
 rcases h.mix n with e1 | e1
 ·have:rk cur n=rk (rounds' ps nons start k) n:=by unfold rk;rw [e1]
  omega
 ·have:rk cur n=rk (rounds' ps nons start (k + 1)) n:=by unfold rk;rw [e1]
  omega
theorem Que.shift (h:Que ps nons start k cur [] b) (hs:start < nons) (hb:b≠[]):Que ps nons start (k + 1) cur b []:=by
 have e:cur=rounds' ps nons start (k + 1):=h.fin.resolve_left (fun h=>h rfl)
 refine ⟨h.len,fun n=>.inl (by rw [e]),h.new,by simp,?_,.inl hb⟩
 intro n hn
 have:=h.le hs n
 omega
theorem Que.done (h:Que ps nons start k cur [] []) (hs:start < nons):cur=reach ps nons start:=by
 have e:cur=rounds' ps nons start (k + 1):=h.fin.resolve_left (fun h=>h rfl)
 have e2:rounds' ps nons start (k + 1)=rounds' ps nons start k:=by
  refine Rk.ext_getD (by rw [rounds'_length,rounds'_length]) fun n _=>?_
  by_cases h0:rk (rounds' ps nons start k) n=0
  ·have h1:rk cur n=0:=by
    rcases Nat.eq_zero_or_pos (rk cur n) with h1 | h1
    ·exact h1
    ·exfalso
     by_cases h2:rk cur n≤k + 1
     ·have:=h.rk_is rfl h1 h2
      omega
     ·have h3:=h.le hs n
      have:=h.all n (by omega)
      simp at this
   rw [e] at h1
   have z1:=Rk.zero (pick ps) (base nons start) 1 (fun n hn=>by
    rw [base_rk n hs] at hn
    rw [base_getD n hs]
    split at hn
    ·exact absurd hn (by decide)
    ·rename_i h5;rw [if_neg h5])
   have e1:(rounds' ps nons start (k + 1)).getD n (0,0)=(0,0):=z1 (k + 1) n h1
   have e2:(rounds' ps nons start k).getD n (0,0)=(0,0):=z1 k n h0
   rw [e1,e2]
  ·exact Rk.keep_succ (pick ps) (base nons start) 1 h0
 rw [e,e2]
 exact reach_of ps hs e2
theorem Que.put (h:Que ps nons start k cur a b) {i n:Nat} (hi:i < ps.length) (hr:rk cur ps[i].left.toNat=k + 1) (hst:stands ps[i] n=true) (hn:n < nons)
  (h0:rk cur n=0) (hc:Clear ps cur (k + 1) i) (ha:a≠[]):Que ps nons start k (cur.set n (k + 2,i)) a (b ++ [n]):=by
 have hz:rk (rounds' ps nons start k) n=0:=by
  rcases Nat.eq_zero_or_pos (rk (rounds' ps nons start k) n) with e | e
  ·exact e
  ·have:=h.rk_old (n:=n) (by omega);omega
 have hp:pick ps (rounds' ps nons start k) (k + 2) n=some i:=by
  refine pick_is ⟨ps[i],List.getElem?_eq_getElem hi,hst,by rw [h.rk_is hr (by omega) (by omega)]⟩ ?_
  rintro j hj ⟨q,hq,h1,h2⟩
  have h3:rk (rounds' ps nons start k) q.left.toNat=k + 1:=by omega
  have h4:rk cur q.left.toNat=k + 1:=by rw [h.rk_old (by omega)];exact h3
  unfold stands at h1
  rw [List.any_eq_true] at h1
  obtain ⟨s,hsm,hsx⟩:=h1
  have:=hc j hj q hq h4 s hsm
  rw [Bool.and_eq_true,decide_eq_true_eq] at hsx
  unfold opn at this
  rw [hsx.1,hsx.2,Int.toNat_natCast,h0] at this
  simp at this
 have hnx:(rounds' ps nons start (k + 1)).getD n (0,0)=(k + 2,i):=by
  rw [rounds'_succ,Rk.getD_round _ _ _ _ (by rw [rounds'_length];exact hn)]
  exact Rk.next_some hz hp
 have key:∀ m,(cur.set n (k + 2,i)).getD m (0,0)=if m=n then (k + 2,i) else cur.getD m (0,0):=by
  intro m
  rw [List.getD_eq_getElem?_getD,List.getElem?_set,List.getD_eq_getElem?_getD]
  by_cases e:n=m
  ·subst e
   rw [if_pos rfl,if_pos rfl,if_pos (by have:=h.len;omega)]
   rfl
  ·rw [if_neg e,if_neg (fun h=>e h.symm)]
 have keyr:∀ m,rk (cur.set n (k + 2,i)) m=if m=n then k + 2 else rk cur m:=by
  intro m
  unfold rk
  rw [key]
  split <;> rfl
 refine ⟨by rw [List.length_set];exact h.len,?_,?_,?_,?_,.inl ha⟩
 ·intro m
  rw [key]
  split
  ·rename_i e;subst e;exact .inr hnx.symm
  ·exact h.mix m
 ·intro m hm
  obtain ⟨h1,h2⟩:=h.old m hm
  refine ⟨h1,?_⟩
  rw [keyr,if_neg (fun e=>by subst e;omega)]
  exact h2
 ·intro m hm
  rw [List.mem_append] at hm
  rcases hm with hm | hm
  ·obtain ⟨h1,h2⟩:=h.new m hm
   refine ⟨h1,?_⟩
   rw [keyr]
   split
   ·rfl
   ·exact h2
  ·have:m=n:=by simpa using hm
   subst this
   exact ⟨hn,by rw [keyr,if_pos rfl]⟩
 ·intro m hm
  rw [keyr] at hm
  rw [List.mem_append]
  split at hm
  ·rename_i e;subst e;exact .inr (by simp)
  ·exact .inl (h.all m hm)
theorem Que.pop {x:Nat} (h:Que ps nons start k cur (x :: a) b) (hc:Clear ps cur (k + 1) ps.length):Que ps nons start k cur a b:=by
 refine ⟨h.len,h.mix,fun n hn=>h.old n (List.mem_cons_of_mem _ hn),h.new,h.all,.inr ?_⟩
 refine Rk.ext_getD (by rw [h.len,rounds'_length]) fun n hn=>?_
 have hn':n < nons:=by rw [← h.len];exact hn
 rcases h.mix n with e1 | e1
 ·rw [e1]
  by_cases h0:rk (rounds' ps nons start k) n=0
  ·have hp:pick ps (rounds' ps nons start k) (k + 2) n=none:=by
    refine pick_not ?_
    rintro j hj ⟨q,hq,h1,h2⟩
    have h3:rk (rounds' ps nons start k) q.left.toNat=k + 1:=by omega
    have h4:rk cur q.left.toNat=k + 1:=by rw [h.rk_old (by omega)];exact h3
    unfold stands at h1
    rw [List.any_eq_true] at h1
    obtain ⟨s,hsm,hsx⟩:=h1
    have:=hc j hj q hq h4 s hsm
    rw [Bool.and_eq_true,decide_eq_true_eq] at hsx
    have hz:rk cur n=0:=by unfold rk at h0 ⊢;rw [e1];exact h0
    unfold opn at this
    rw [hsx.1,hsx.2,Int.toNat_natCast,hz] at this
    simp at this
   rw [rounds'_succ,Rk.getD_round _ _ _ _ (by rw [rounds'_length];exact hn'),Rk.next_none hp]
  ·exact (Rk.keep_succ (pick ps) (base nons start) 1 h0).symm
 ·exact e1
theorem Que.front (h:Que ps nons start k cur a b) (hs:start < nons) {x:Nat} {q:List Nat} (e:a ++ b=x :: q):∃ k' a' b',Que ps nons start k' cur (x :: a') b'∧q=a' ++ b':=by
 cases a with
 | nil=>
  have e:b=x :: q:=e
  subst e
  exact ⟨k + 1,q,[],h.shift hs (by simp),by simp⟩
 | cons y a2=>
  injection e with e1 e2
  subst e1
  exact ⟨k,a2,b,h,e2.symm⟩
theorem Que.small {x:Nat} (h:Que ps nons start k cur (x :: a) b) (hs:start < nons):k + 1≤nons:=by
 obtain ⟨_,h2⟩:=h.old x (by simp)
 have h3:=h.rk_is h2 (by omega) (by omega)
 rcases Nat.lt_or_ge (k + 1) nons with h1 | h1
 ·omega
 ·have h4:=rank_le ps hs x
  rw [← settled' ps hs h1] at h4
  omega
theorem Que.empty {q:List Nat} (h:Que ps nons start k cur a b) (hs:start < nons) (e:a ++ b=q) (hq:q=[]):cur=reach ps nons start:=by
 subst hq
 obtain ⟨rfl,rfl⟩:=List.append_eq_nil_iff.1 e
 exact h.done hs
end
end Go.Proofs.YtdfhhbncmdpoeaaGreat.Rc
