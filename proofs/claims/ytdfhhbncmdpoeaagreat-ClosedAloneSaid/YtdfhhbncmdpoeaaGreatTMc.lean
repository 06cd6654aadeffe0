/- Derivations as a machine plays them, by a stack of what is left of each node's symbols: the word, and each node's places. Plain facts; no program is named here. -/
import Derived.Test.YtdfhhbncmdpoeaaGreatPlainS
namespace Go.Proofs.YtdfhhbncmdpoeaaGreat.Dv
open Gr (Sy Pr Gm okSy okPr Ok)
open Cf (Cm part)
open Al (No Nd)
def addAll (ats:List (List Int)) (n:Nat) (q:List Int):List (List Int):=ats.set n (ats.getD n [] ++ q)
section
variable {ats r:List (List Int)} {n:Nat} {p q:List Int}
theorem addAll_len:(addAll ats n q).length=ats.length:=by unfold addAll;rw [List.length_set]
theorem addAll_more (h:n < ats.length):addAll (addAll ats n p) n q=addAll ats n (p ++ q):=by
 unfold addAll
 rw [List.set_set,List.getD_eq_getElem?_getD (l:=ats.set n _),List.getElem?_set,if_pos rfl,if_pos h,Option.getD_some,List.append_assoc]
theorem addAll_left (h:n < ats.length):addAll (ats ++ r) n q=addAll ats n q ++ r:=by
 unfold addAll
 rw [List.set_append_left _ _ h,List.getD_eq_getElem?_getD,List.getElem?_append_left h,← List.getD_eq_getElem?_getD]
theorem addAll_end:addAll (ats ++ [[]]) ats.length q=ats ++ [q]:=by
 unfold addAll
 rw [List.set_append_right _ _ (Nat.le_refl _),Nat.sub_self,List.getD_eq_getElem?_getD,List.getElem?_append_right (Nat.le_refl _),Nat.sub_self]
 rfl
end
inductive Nx:List Int→List (Nat × List Sy)→List (List Int)→Option Int→List Int→List (Nat × List Sy)→List (List Int)→Prop
 | none {u:List Int} {ats:List (List Int)}:Nx u [] ats none u [] ats
 | pop {u u':List Int} {n:Nat} {S S':List (Nat × List Sy)} {ats ats':List (List Int)} {x:Option Int}:Nx u S (addAll ats n [(u.length:Int)]) x u' S' ats'→Nx u ((n,[]) :: S) ats x u' S' ats'
 | tok {u u':List Int} {n:Nat} {s:Sy} {r:List Sy} {S S':List (Nat × List Sy)} {ats ats':List (List Int)} {x:Option Int}:s.non=false→Nx (u ++ [s.n]) ((n,r) :: S) (addAll ats n [(u.length:Int)]) x u' S' ats'→Nx u ((n,s :: r) :: S) ats x u' S' ats'
 | non {u:List Int} {n:Nat} {s:Sy} {r:List Sy} {S:List (Nat × List Sy)} {ats:List (List Int)}:s.non=true→Nx u ((n,s :: r) :: S) ats (some s.n) u ((n,r) :: S) (addAll ats n [(u.length:Int)])
def rowOf (S:List (Nat × List Sy)):List Sy:=S.flatMap (·.2)
theorem rowOf_cons (n:Nat) (r:List Sy) (S:List (Nat × List Sy)):rowOf ((n,r) :: S)=r ++ rowOf S:=rfl
def asRow (x:Option Int) (S:List (Nat × List Sy)):List Sy:=match x with
 | none=>[]
 | some y=>⟨true,y⟩ :: rowOf S
theorem Nx.play {ps:List Pr} {u u':List Int} {S S':List (Nat × List Sy)} {ats ats':List (List Int)} {x:Option Int} (h:Nx u S ats x u' S' ats') (l:List Int):pre u (play ps l (rowOf S))=pre u' (play ps l (asRow x S')):=by
 induction h with
 | none=>rfl
 | pop _ ih=>exact ih
 | @tok u u' n s r S S' ats ats' x hs _ ih=>
  rw [rowOf_cons,List.cons_append,play_tok hs,pre_pre]
  exact ih
 | @non u n s r S ats hs=>
  obtain ⟨sn,sy⟩:=s
  have hs:sn=true:=hs
  subst hs
  rfl
def Ids (S:List (Nat × List Sy)) (m:Nat):Prop:=∀ x ∈ S,x.1 < m
theorem Ids.nil {m:Nat}:Ids [] m:=fun _ h=>absurd h (by simp)
theorem Ids.head {n:Nat} {r:List Sy} {S:List (Nat × List Sy)} {m:Nat} (h:Ids ((n,r) :: S) m):n < m:=h _ (List.mem_cons_self ..)
theorem Ids.tail {x:Nat × List Sy} {S:List (Nat × List Sy)} {m:Nat} (h:Ids (x :: S) m):Ids S m:=fun y hy=>h y (List.mem_cons_of_mem _ hy)
theorem Ids.cons {n:Nat} {r:List Sy} {S:List (Nat × List Sy)} {m:Nat} (hn:n < m) (h:Ids S m):Ids ((n,r) :: S) m:=fun y hy=>by
 rcases List.mem_cons.1 hy with rfl | hy
 ·exact hn
 ·exact h y hy
theorem Ids.more {S:List (Nat × List Sy)} {m k:Nat} (h:Ids S m) (hk:m≤k):Ids S k:=fun y hy=>Nat.lt_of_lt_of_le (h y hy) hk
theorem Nx.ids {u u':List Int} {S S':List (Nat × List Sy)} {ats ats':List (List Int)} {x:Option Int} (h:Nx u S ats x u' S' ats') {m:Nat}:Ids S m→Ids S' m:=by
 induction h with
 | none=>exact id
 | pop _ ih=>exact fun h=>ih h.tail
 | tok _ _ ih=>exact fun h=>ih (.cons h.head h.tail)
 | non _=>exact fun h=>.cons h.head h.tail
theorem Nx.pad {u u':List Int} {S S':List (Nat × List Sy)} {as as':List (List Int)} {x:Option Int} (h:Nx u S as x u' S' as'):∀ {ats r:List (List Int)},as=ats ++ r→Ids S ats.length→∃ ats',as'=ats' ++ r∧ats'.length=ats.length∧Nx u S ats x u' S' ats':=by
 induction h with
 | none=>intro ats r e _;exact ⟨ats,e,rfl,.none⟩
 | pop _ ih=>
  intro ats r e hi
  subst e
  obtain ⟨a',h1,h2,h3⟩:=ih (addAll_left hi.head) (by rw [addAll_len];exact hi.tail)
  exact ⟨a',h1,by rw [h2,addAll_len],.pop h3⟩
 | tok hs _ ih=>
  intro ats r e hi
  subst e
  obtain ⟨a',h1,h2,h3⟩:=ih (addAll_left hi.head) (by rw [addAll_len];exact .cons hi.head hi.tail)
  exact ⟨a',h1,by rw [h2,addAll_len],.tok hs h3⟩
 | non hs=>
  intro ats r e hi
  subst e
  exact ⟨_,addAll_left hi.head,addAll_len,.non hs⟩
inductive Mc (ps:List Pr):List Int→List Int→List (Nat × List Sy)→List (List Int)→List Int × List (List Int) × Nat→Prop
 | fin {u u':List Int} {S S':List (Nat × List Sy)} {ats ats':List (List Int)}:Nx u S ats none u' S' ats'→Mc ps [] u S ats (u',ats',0)
 | short {u u':List Int} {S S':List (Nat × List Sy)} {ats ats':List (List Int)} {y:Int}:Nx u S ats (some y) u' S' ats'→Mc ps [] u S ats ([],[],3)
 | empty {i:Int} {l:List Int} {u u':List Int} {S S':List (Nat × List Sy)} {ats ats':List (List Int)}:Nx u S ats none u' S' ats'→Mc ps (i :: l) u S ats ([],[],2)
 | bad {i:Int} {l:List Int} {u u':List Int} {S S':List (Nat × List Sy)} {ats ats':List (List Int)} {y:Int}:Nx u S ats (some y) u' S' ats'→¬ (0≤i∧∃ p,ps[i.toNat]?=some p∧p.left=y)→Mc ps (i :: l) u S ats ([],[],2)
 | step {k:Nat} {l:List Int} {u u':List Int} {S S':List (Nat × List Sy)} {ats ats':List (List Int)} {y:Int} {p:Pr} {res:List Int × List (List Int) × Nat}:Nx u S ats (some y) u' S' ats'→ps[k]?=some p→p.left=y→
   Mc ps l u' ((ats'.length,p.right) :: S') (ats' ++ [[]]) res→Mc ps ((k:Int) :: l) u S ats res
theorem Mc.play {ps:List Pr} {l:List Int} {u:List Int} {S:List (Nat × List Sy)} {ats:List (List Int)} {res:List Int × List (List Int) × Nat} (h:Mc ps l u S ats res):(res.1,res.2.2)=pre u (play ps l (rowOf S)):=by
 induction h with
 | fin h=>rw [h.play];show _=pre _ (Dv.play ps [] []);rw [play_end,pre_ok,List.append_nil]
 | short h=>rw [h.play];show _=pre _ (Dv.play ps [] (_ :: _));rw [play_short rfl,pre_bad _ _ (by decide)]
 | empty h=>rw [h.play];show _=pre _ (Dv.play ps _ []);rw [play_empty,pre_bad _ _ (by decide)]
 | bad h hb=>rw [h.play];show _=pre _ (Dv.play ps _ (_ :: _));rw [play_bad rfl hb,pre_bad _ _ (by decide)]
 | step h hp hl _ ih=>rw [h.play];show _=pre _ (Dv.play ps _ (_ :: _));rw [play_step rfl hp hl];exact ih
section
variable {ps:List Pr} {l u:List Int} {n:Nat} {s:Sy} {r:List Sy} {S:List (Nat × List Sy)} {ats:List (List Int)} {res:List Int × List (List Int) × Nat}
theorem Mc.end_inv (h:Mc ps [] u [] ats res):res=(u,ats,0):=by
 cases h with
 | fin h=>cases h;rfl
 | short h=>cases h
theorem Mc.pop_inv (h:Mc ps l u ((n,[]) :: S) ats res):Mc ps l u S (addAll ats n [(u.length:Int)]) res:=by
 cases h with
 | fin h=>cases h with | pop h=>exact .fin h
 | short h=>cases h with | pop h=>exact .short h
 | empty h=>cases h with | pop h=>exact .empty h
 | bad h hb=>cases h with | pop h=>exact .bad h hb
 | step h hp hl hm=>cases h with | pop h=>exact .step h hp hl hm
theorem Mc.tok_inv (h:Mc ps l u ((n,s :: r) :: S) ats res) (hs:s.non=false):Mc ps l (u ++ [s.n]) ((n,r) :: S) (addAll ats n [(u.length:Int)]) res:=by
 have no:∀ {q:Prop},s.non=true→q:=fun h=>absurd (hs.symm.trans h) (by decide)
 cases h with
 | fin h=>cases h with | tok _ h=>exact .fin h
 | short h=>cases h with | tok _ h=>exact .short h | non h=>exact no h
 | empty h=>cases h with | tok _ h=>exact .empty h
 | bad h hb=>cases h with | tok _ h=>exact .bad h hb | non h=>exact no h
 | step h hp hl hm=>cases h with | tok _ h=>exact .step h hp hl hm | non h=>exact no h
theorem Mc.non_inv {k:Nat} {p:Pr} (h:Mc ps ((k:Int) :: l) u ((n,s :: r) :: S) ats res) (hs:s.non=true) (hp:ps[k]?=some p) (hl:p.left=s.n):Mc ps l u ((ats.length,p.right) :: (n,r) :: S) (addAll ats n [(u.length:Int)] ++ [[]]) res:=by
 have no:∀ {q:Prop},s.non=false→q:=fun h=>absurd (hs.symm.trans h) (by decide)
 generalize hk:(k:Int)=i at h
 cases h with
 | empty h=>cases h with | tok h=>exact no h
 | bad h hb=>
  cases h with
  | tok h=>exact no h
  | non _=>exact absurd ⟨by omega,p,by rw [← hk,Int.toNat_natCast];exact hp,hl⟩ hb
 | @step k' _ _ _ _ _ _ _ _ p' _ h hp' hl' hm=>
  obtain rfl:k=k':=by omega
  rw [hp] at hp'
  injection hp' with hp'
  subst hp'
  cases h with
  | tok h=>exact no h
  | non _=>rw [addAll_len] at hm;exact hm
end
def atOf (x:No):List Int:=ints (x.at_ ++ [x.stop])
theorem Nd.mc {ps:List Pr} {w:List Int} {l:List Nat} {row:List Sy} {a b:Nat} {nds:List No} {pl:List Nat} (h:Nd ps w l row a b nds pl):∀ {m:List Int} {n:Nat} {S:List (Nat × List Sy)} {ats:List (List Int)} {res:List Int × List (List Int) × Nat},a≤w.length→n < ats.length→
  Mc ps (ints l ++ m) (w.take a) ((n,row) :: S) ats res→Mc ps m (w.take b) S (addAll ats n (ints (pl ++ [b])) ++ nds.map atOf) res:=by
 induction h with
 | @nil a=>
  intro m n S ats res ha hn h
  have h:=h.pop_inv
  rw [List.length_take,Nat.min_eq_left ha] at h
  rw [List.map_nil,List.append_nil]
  exact h
 | @tok l s row a b nds pl hs hw h ih=>
  intro m n S ats res ha hn hm
  have hm:=hm.tok_inv hs
  have hlt:a < w.length:=Ch.lt_of_get hw
  have e:w.take a ++ [s.n]=w.take (a + 1):=by
   rw [List.take_succ_eq_append_getElem hlt]
   rw [List.getElem?_eq_getElem hlt] at hw
   injection hw with hw
   rw [hw]
  rw [e,List.length_take,Nat.min_eq_left ha] at hm
  have:=ih hlt (by rw [addAll_len];exact hn) hm
  rw [addAll_more hn] at this
  exact this
 | @non l m' s row a c b i p nds nds' pl pl' hs hi hl h1 h2 ih1 ih2=>
  intro m n S ats res ha hn hm
  have hm:=Mc.non_inv (l:=ints (l ++ m') ++ m) hm hs hi hl
  rw [List.length_take,Nat.min_eq_left ha] at hm
  have e:ints (l ++ m') ++ m=ints l ++ (ints m' ++ m):=by unfold ints;rw [List.map_append,List.append_assoc]
  rw [e] at hm
  have hm:=ih1 (n:=ats.length) ha (by rw [List.length_append,addAll_len];exact Nat.lt_succ_self _) hm
  have e2:=addAll_end (ats:=addAll ats n [(a:Int)]) (q:=ints (pl ++ [c]))
  rw [addAll_len] at e2
  rw [e2] at hm
  have hm:=ih2 (h1.le.2 ha) (by rw [List.length_append,List.length_append,addAll_len];omega) hm
  rw [List.append_assoc,addAll_left (by rw [addAll_len];exact hn),addAll_more hn,List.append_assoc] at hm
  rw [List.map_cons,List.map_append]
  exact hm
theorem Nd.prods {ps:List Pr} {w:List Int} {l:List Nat} {row:List Sy} {a b:Nat} {nds:List No} {pl:List Nat} (h:Nd ps w l row a b nds pl):nds.map No.prod=l:=by
 induction h with
 | nil=>rfl
 | tok _ _ _ ih=>exact ih
 | non _ _ _ _ _ ih1 ih2=>rw [List.map_cons,List.map_append,ih1,ih2]
def NodesOf (ps:List Pr) (s:Int) (l:List Int) (nd:List (Int × List Int)):Prop:=
 ∀ (m:List Nat) (w:List Int) (b:Nat) (nds:List No) (pl:List Nat),l=ints m→Nd ps w m [⟨true,s⟩] 0 b nds pl→nd=nds.map fun x=>((x.prod:Int),atOf x)
theorem zip_map {α β γ:Type} (f:α→β) (g:α→γ):∀ (l:List α),(l.map f).zip (l.map g)=l.map fun x=>(f x,g x)
 | []=>rfl
 | x :: l=>by rw [List.map_cons,List.map_cons,List.map_cons,List.zip_cons_cons,zip_map f g l]
theorem Mc.nodes {ps:List Pr} {l:List Int} {s:Int} {word:List Int} {a0:List Int} {ats:List (List Int)} {c:Nat} (h:Mc ps l [] [(0,[⟨true,s⟩])] [[]] (word,a0 :: ats,c)):NodesOf ps s l (l.zip ats):=by
 intro m w b nds pl hl hd
 subst hl
 have h:=Nd.mc hd (m:=[]) (n:=0) (S:=[]) (ats:=[[]]) (res:=(word,a0 :: ats,c)) (Nat.zero_le _) (by show 0 < 1;decide) (by rw [List.append_nil,List.take_zero];exact h)
 have h:=h.end_inv
 injection h with _ h
 injection h with h _
 have h:a0 :: ats=ints (pl ++ [b]) :: nds.map atOf:=h
 injection h with _ h
 subst h
 have e:ints m=nds.map fun x=>(x.prod:Int):=by
  rw [← Nd.prods hd]
  unfold ints
  rw [List.map_map]
  rfl
 rw [e,zip_map]
theorem nodes_of {ps:List Pr} {s:Int} {l w:List Int} (h:play ps l [⟨true,s⟩]=(w,0)):∃ (m:List Nat) (nds:List No) (pl:List Nat),l=ints m∧Nd ps w m [⟨true,s⟩] 0 w.length nds pl:=by
 obtain ⟨m,hm,hd⟩:=play_dr.1 h
 obtain ⟨nds,pl,hn⟩:=Al.nd_of hd (Nat.zero_le _) (Nat.le_refl w.length) (by simp [part])
 exact ⟨m,nds,pl,hm,hn⟩
end Go.Proofs.YtdfhhbncmdpoeaaGreat.Dv
