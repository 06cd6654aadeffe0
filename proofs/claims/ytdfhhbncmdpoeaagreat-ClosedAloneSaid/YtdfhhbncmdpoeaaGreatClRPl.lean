/- Closed sets have all items of a word: what they have. -/
import Derived.Test.YtdfhhbncmdpoeaaGreatClAno
import Derived.Test.YtdfhhbncmdpoeaaGreatClAln
import Derived.Test.YtdfhhbncmdpoeaaGreatPlainS
namespace Go.Proofs.YtdfhhbncmdpoeaaGreat
open Go.RowKit
open Cf (Cm)
theorem sym_at {g:Gr.Gm} {x:Ch.Im} {p:Gr.Pr} {s:Gr.Sy} (hp:g.prods[x.prod]?=some p) (hs:p.right[x.dot]?=some s):Ch.symAt g x=some s:=by
 unfold Ch.symAt
 rw [hp]
 exact hs
theorem wait_of {g:Gr.Gm} {a:Nat} {x:Ch.Im} {p:Gr.Pr} {s:Gr.Sy} (hp:g.prods[x.prod]?=some p) (hs:p.right[x.dot]?=some s) (hn:s.non=true):Ch.waitOf g (a,x)=some (s.n,a):=by
 unfold Ch.waitOf
 rw [sym_at hp hs]
 exact if_pos hn
theorem beg_mem {g:Gr.Gm} {j:Nat} {q:Gr.Pr} (hq:g.prods[j]?=some q) (n:Int) (hl:q.left=n) (a:Nat):(a,(⟨j,0,a⟩:Ch.Im)) ∈ begL g (n,a):=by
 unfold begL
 refine List.mem_map.2 ⟨j,?_,rfl⟩
 have hj:=Ch.lt_of_get hq
 unfold ofK
 rw [List.mem_filter,List.mem_range]
 refine ⟨hj,?_⟩
 rw [hq]
 exact decide_eq_true hl
theorem mem_wait {g:Gr.Gm} {P:List St4} {n:Int} {f:Nat} {y:Ch.Im} (hy:(f,y) ∈ P) {q:Gr.Pr} {s:Gr.Sy} (hq:g.prods[y.prod]?=some q) (hs:q.right[y.dot]?=some s) (hn:s.non=true) (he:s.n=n):y ∈ Ch.waitL g P (n,f):=by
 unfold Ch.waitL
 refine List.mem_map.2 ⟨(f,y),List.mem_filter.2 ⟨hy,?_⟩,rfl⟩
 rw [wait_of hq hs hn,he]
 exact decide_eq_true rfl
theorem mem_end {g:Gr.Gm} {P:List St4} {a:Nat} {x:Ch.Im} (hx:(a,x) ∈ P) {p:Gr.Pr} (hp:g.prods[x.prod]?=some p) (hd:x.dot=p.right.length):(p.left,x.frm,a) ∈ Ch.endL g P:=by
 unfold Ch.endL
 refine List.mem_filterMap.2 ⟨(a,x),hx,?_⟩
 unfold Ch.endOf
 rw [hp]
 exact if_pos hd
theorem closed_has {g:Gr.Gm} {xs:List Int} {L:List (List Ix)} (h:ClosedP g xs L):Ch.Has g xs (L.length - 1) (fun a x=>(a,x) ∈ putS (doneS L L.length 0)):=by
 obtain ⟨h1,h2,h3,h4⟩:=h.2
 refine ⟨fun i p hp hl=>h1 _ (beg_mem hp _ hl 0),fun a x p s j q ha hx hp hs hn hq hl=>h2 _ ⟨(s.n,a),?_,beg_mem hq _ hl a⟩,fun a x p s ha hx hp hs hn hw=>h3 _ ⟨(a,x),hx,s,sym_at hp hs,hn,by show a < L.length - 1;omega,hw,rfl⟩,fun a x y p q s ha hx hf hp hd hy hq hs hn he=>h4 _ ⟨_,mem_end hx hp hd,y,mem_wait hy hq hs hn he,rfl⟩⟩
 have hw:x ∈ Ch.waitL g (putS (doneS L L.length 0)) (s.n,a):=mem_wait hx hp hs hn rfl
 intro e
 rw [e] at hw
 cases hw
end Go.Proofs.YtdfhhbncmdpoeaaGreat
namespace Go.Proofs.YtdfhhbncmdpoeaaGreat
open Go.RowKit
open Cf (Cm)
section
variable {ps:List Gr.Pr} {w:List Int}
theorem al_first {lx:List Nat} {r:List Gr.Sy} {a b:Nat} {nsx:List Al.No} {pl:List Nat} (h:Al.Nd ps w lx r a b nsx pl):(pl ++ [b]).getD 0 0=a:=by
 rw [List.getD_eq_getElem?_getD,h.places.2];rfl
theorem al_last (pl:List Nat) (b:Nat):(pl ++ [b]).getD ((pl ++ [b]).length - 1) 0=b:=by
 rw [List.getD_eq_getElem?_getD,List.length_append,List.length_singleton,Nat.add_sub_cancel,List.getElem?_append_right (Nat.le_refl _),Nat.sub_self];rfl
theorem al_tok {lx:List Nat} {r:List Gr.Sy} {a b:Nat} {nsx:List Al.No} {pl:List Nat} (h:Al.Nd ps w lx r a b nsx pl):∀ {k:Nat} {s:Gr.Sy} {e:Nat},r[k]?=some s→s.non=false→(pl ++ [b])[k + 1]?=some e→∃ d,(pl ++ [b])[k]?=some d∧e=d + 1:=by
 induction h with
 | nil=>intro k s e h1;simp at h1
 | @tok l s' row a b ns pl hs hw h ih=>
  intro k s e h1 h2 h3
  cases k with
  | zero=>
   refine ⟨a,rfl,?_⟩
   have h4:(pl ++ [b])[0]?=some e:=h3
   rw [h.places.2] at h4
   injection h4 with h4
   exact h4.symm
  | succ k=>exact ih h1 h2 h3
 | @non l m s' row a c b i p ns ns' pl pl' hs hi hl h1' h2' ih1 ih2=>
  intro k s e h1 h2 h3
  cases k with
  | zero=>
   have h4:some s'=some s:=h1
   injection h4 with h4
   rw [h4,h2] at hs
   cases hs
  | succ k=>exact ih2 h1 h2 h3
theorem al_root {s:Int} {m:List Nat} {b:Nat} {nds:List Al.No} {pl:List Nat} (h:Al.Nd ps w m [⟨true,s⟩] 0 b nds pl):∃ j q l1 ns1 pl1,ps[j]?=some q∧q.left=s∧m=j :: l1∧Al.Nd ps w l1 q.right 0 b ns1 pl1∧nds=⟨j,0,pl1,b⟩ :: ns1:=by
 cases h with
 | tok h1=>cases h1
 | @non l1 m1 _ _ _ c _ j q ns1 ns2 pl1 pl2 h1 h2 h3 h4 h5=>
  cases h5
  exact ⟨j,q,l1,ns1,pl1,h2,h3,by rw [List.append_nil],h4,by rw [List.append_nil]⟩
theorem al_two {l:List Nat} {r:List Gr.Sy} {a b:Nat} {nsx:List Al.No} {pl:List Nat} (h:Al.Nd ps w l r a b nsx pl):∀ {w':List Int} {m:List Nat} {b':Nat} {ns':List Al.No} {pl':List Nat},Al.Nd ps w' m r a b' ns' pl'→(∃ x y,l ++ x=m ++ y)→l=m∧b=b'∧nsx=ns'∧pl=pl':=by
 induction h with
 | nil=>intro w' m b' ns' pl' h _;cases h;exact ⟨rfl,rfl,rfl,rfl⟩
 | tok hs hw _ ih=>
  intro w' m b' ns' pl' h e
  cases h with
  | tok _ _ h=>obtain ⟨h1,h2,h3,h4⟩:=ih h e;exact ⟨h1,h2,h3,by rw [h4]⟩
  | non h1=>rw [hs] at h1;exact absurd h1 (by decide)
 | @non l m s row a c b i p ns ns2 pl pl2 hs hi hl h1 h2 ih1 ih2=>
  intro w' m' b' ns' pl' h e
  cases h with
  | tok h3=>rw [hs] at h3;exact absurd h3 (by decide)
  | @non l' m'' _ _ _ c' _ i' p' ns3 ns4 pl3 pl4 _ hi' hl' h3 h4=>
   obtain ⟨x,y,e⟩:=e
   injection e with e1 e2
   subst e1
   rw [hi] at hi'
   injection hi' with hi'
   subst hi'
   have e2:l ++ m ++ x=l' ++ m'' ++ y:=e2
   obtain ⟨h5,h6,h7,h8⟩:=ih1 h3 ⟨m ++ x,m'' ++ y,by rw [← List.append_assoc,← List.append_assoc];exact e2⟩
   subst h5;subst h6;subst h7;subst h8
   rw [List.append_assoc,List.append_assoc] at e2
   obtain ⟨h9,h10,h11,h12⟩:=ih2 h4 ⟨x,y,List.append_cancel_left e2⟩
   subst h9;subst h10;subst h11;subst h12
   exact ⟨rfl,rfl,rfl,rfl⟩
end
section
variable {g:Gr.Gm} {xs:List Int} {L:List (List Ix)} {l o:List Int}
theorem lone_of {P:List St4} {m:List Nat} {nds:List Al.No} {pl:List Nat} {a b:Nat} {r:List Gr.Sy} (hd:Al.Nd g.prods xs m r a b nds pl) (hno:¬ OthersP g P (nds.map fun x=>((x.prod:Int),Dv.atOf x))):∀ x ∈ nds,Al.Lone g.prods xs (fun a y=>(a,y) ∈ P) x:=by
 intro x hx p hp
 obtain ⟨p',pre,lx,post,nsx,h1,_,h3,_⟩:=hd.within x hx
 rw [hp] at h1
 injection h1 with h1
 subst h1
 have hno2:¬ OtherP g P x.prod (x.at_ ++ [x.stop]):=fun h=>hno ⟨x.prod,x.at_ ++ [x.stop],List.mem_map.2 ⟨x,hx,rfl⟩,h⟩
 unfold OtherP at hno2
 rw [al_first h3,al_last] at hno2
 constructor
 ·intro y q hy hq hdt hl hf
  apply Classical.byContradiction
  intro hne
  refine hno2 (.inl ⟨p,y.prod,q,hp,hq,hl,hne,?_⟩)
  rw [← hdt,← hf]
  exact hy
 ·intro k s e m' hk he hf hm hI hL
  rw [Nat.zero_add] at hI
  rcases hL with ⟨h4,h5,h6⟩ | ⟨h4,y,q,h5,h6,h7,h8,h9⟩
  ·obtain ⟨d,h7,h8⟩:=al_tok h3 hk h4 he
   rw [h7]
   have:d=m':=by omega
   rw [this]
  ·have hkl:k < (x.at_ ++ [x.stop]).length:=by have:=Ch.lt_of_get he;omega
   rw [List.getElem?_eq_getElem hkl]
   apply Classical.byContradiction
   intro hne
   refine hno2 (.inr ⟨p,k,s,_,e,hp,hk,h4,List.getElem?_eq_getElem hkl,he,m',hf,hm,fun e2=>hne (by rw [e2]),hI,?_⟩)
   rw [← h8,← h9]
   exact mem_end h5 h6 h7
theorem alone_nodes {m:List Nat} {nds:List Al.No} {pl:List Nat} (hl:l=Dv.ints m) (hd:Al.Nd g.prods xs m [⟨true,g.start⟩] 0 xs.length nds pl):Dv.NodesOf g.prods g.start l (nds.map fun x=>((x.prod:Int),Dv.atOf x)):=by
 intro m2 w2 b2 nds2 pl2 h1 h2
 have e1:m=m2:=ns_inj (hl.symm.trans h1)
 subst e1
 rw [(al_two hd h2 ⟨[],[],rfl⟩).2.2.1]
theorem alone_only (h:AloneP g xs L l) (ho:Dv.replayOf (okB g) g o=(xs,0)):o=l:=by
 obtain ⟨hlen,hr,hc,hno⟩:=h
 obtain ⟨m,nds,pl,hl,hd⟩:=nds_of hr
 obtain ⟨m',nds',pl',hl',hd'⟩:=nds_of ho
 have hlo:=lone_of hd (hno _ (alone_nodes hl hd))
 have hLo:∀ x ∈ nds,Al.Lone g.prods xs (Ch.It g xs) x:=fun x hx=>(hlo x hx).mono (hd.bound_no (Nat.le_refl _) x hx) fun a y ha hi=>hi.least (closed_has hc) (by omega)
 obtain ⟨j,q,l1,ns1,pl1,h1,h2,h3,h4,h5⟩:=al_root hd
 obtain ⟨j',q',l1',ns1',pl1',k1,k2,k3,k4,k5⟩:=al_root hd'
 subst h5
 have hroot:=hLo ⟨j,0,pl1,xs.length⟩ (List.mem_cons_self ..)
 obtain ⟨r1,r2⟩:=hroot q h1
 have hwh:Ch.It g xs xs.length ⟨j',0 + q'.right.length,0⟩:=Ch.It.come (w:=xs) (Al.cm_of_nd k4) (r:=[]) (Ch.It.start k1 k2) k1 (by show q'.right.drop 0=_;rw [List.append_nil];rfl) (Nat.zero_le _) (Nat.le_refl _) rfl
 rw [Nat.zero_add] at hwh
 have e:j'=j:=r1 ⟨j',q'.right.length,0⟩ q' hwh k1 rfl (by rw [k2,h2]) rfl
 subst e
 have e2:q'=q:=Option.some.inj (k1.symm.trans h1)
 subst e2
 have key:=Al.lone_one l1.length q'.right [] j' 0 0 0 xs.length q' l1 l1' ns1 ns1' pl1 pl1' (Nat.le_refl _) (Nat.le_refl _) h1 rfl h4 k4 (Ch.It.start h1 h2) r2 (fun x hx=>hLo x (List.mem_cons_of_mem _ hx))
 rw [hl,hl',h3,k3,key.2]
end
end Go.Proofs.YtdfhhbncmdpoeaaGreat
namespace Go.Proofs.YtdfhhbncmdpoeaaGreat
open Go.RowKit
def rowI (L:List (List Ix)) (a:Nat):List Ch.Im:=(L.getD a []).map Ix.im
def Wanted (g:Gr.Gm) (xs:List Int) (L:List (List Ix)) (a:Nat) (y:Ch.Im):Prop:=∀ z ∈ (Ch.outI g xs (rowI L) a y).1,(Ch.outI g xs (rowI L) a y).2 < L.length→z ∈ rowI L (Ch.outI g xs (rowI L) a y).2
theorem row_ix {g:Gr.Gm} {m:Nat} {L:List (List Ix)} (h:keepB g m L=true) {a:Nat} {l:List Ix} (hl:L[a]?=some l):rowI L a=l.map Ix.im∧(rowI L a).map Ch.Im.ix=l:=by
 have e:L.getD a []=l:=by rw [List.getD_eq_getElem?_getD,hl];rfl
 unfold rowI
 rw [e]
 refine ⟨rfl,?_⟩
 rw [List.map_map]
 have h2:l.map (Ch.Im.ix ∘ Ix.im)=l.map id:=List.map_congr_left fun x hx=>by
  obtain ⟨y,rfl,_,_⟩:=standB_iff.1 ((keepB_ok h).2.2.2 _ l hl x hx)
  show (y.ix.im).ix=y.ix
  rw [ix_im]
 rw [h2,List.map_id]
theorem mem_row {g:Gr.Gm} {m:Nat} {L:List (List Ix)} (h:keepB g m L=true) {a:Nat} {y:Ch.Im}:(a,y) ∈ putS (doneS L L.length 0)↔a < L.length∧y ∈ rowI L a:=by
 rw [kept_all h]
 constructor
 ·rintro ⟨l,hl,hy⟩
  refine ⟨Ch.lt_of_get hl,?_⟩
  rw [(row_ix h hl).1]
  exact List.mem_map.2 ⟨_,hy,ix_im y⟩
 ·rintro ⟨ha,hy⟩
  have hl:L[a]?=some L[a]:=List.getElem?_eq_getElem ha
  refine ⟨_,hl,?_⟩
  have h2:=(row_ix h hl).2
  rw [← h2]
  exact List.mem_map.2 ⟨y,hy,rfl⟩
theorem begL_iff {g:Gr.Gm} {n:Int} {a:Nat} {s:St4}:s ∈ begL g (n,a)↔s.1=a∧s.2 ∈ Ch.begs g a n:=by
 unfold begL Ch.begs
 rw [List.mem_map,List.mem_map]
 constructor
 ·rintro ⟨i,hi,rfl⟩
  exact ⟨rfl,i,hi,rfl⟩
 ·rintro ⟨h1,i,hi,h2⟩
  refine ⟨i,hi,?_⟩
  obtain ⟨s1,s2⟩:=s
  simp only at h1 h2
  rw [h1,← h2]
theorem mem_lets {g:Gr.Gm} {n:Int} {l:List Ch.Im} {z:Ch.Im}:z ∈ Ch.lets g n l↔∃ y ∈ l,Ch.wants g n y=true∧z=Ch.behind y:=by
 unfold Ch.lets
 rw [List.mem_map]
 constructor
 ·rintro ⟨y,hy,rfl⟩
  rw [List.mem_filter] at hy
  exact ⟨y,hy.1,hy.2,rfl⟩
 ·rintro ⟨y,hy,h,rfl⟩
  exact ⟨y,List.mem_filter.2 ⟨hy,h⟩,rfl⟩
theorem wants_iff {g:Gr.Gm} {n:Int} {a:Nat} {y:Ch.Im}:Ch.wants g n y=true↔Ch.waitOf g (a,y)=some (n,a):=by
 unfold Ch.wants Ch.waitOf
 cases Ch.symAt g y with
 | none=>simp
 | some s=>cases hn:s.non <;> simp [hn]
theorem waitL_iff {g:Gr.Gm} {P:List St4} {n:Int} {a:Nat} {y:Ch.Im}:y ∈ Ch.waitL g P (n,a)↔(a,y) ∈ P∧Ch.wants g n y=true:=by
 unfold Ch.waitL
 rw [List.mem_map]
 constructor
 ·rintro ⟨t,ht,rfl⟩
  rw [List.mem_filter,decide_eq_true_eq] at ht
  obtain ⟨t1,t2⟩:=t
  have h2:=ht.2
  have e:t1=a:=by
   unfold Ch.waitOf at h2
   simp only at h2
   cases hs:Ch.symAt g t2 with
   | none=>rw [hs] at h2;cases h2
   | some s=>
    rw [hs] at h2
    simp only at h2
    split at h2
    ·injection h2 with h2
     injection h2 with _ h2
    ·cases h2
  subst e
  exact ⟨ht.1,(wants_iff (a:=t1)).2 h2⟩
 ·rintro ⟨h1,h2⟩
  exact ⟨(a,y),List.mem_filter.2 ⟨h1,decide_eq_true (wants_iff.1 h2)⟩,rfl⟩
theorem endL_iff {g:Gr.Gm} {P:List St4} {e:Int × Nat × Nat}:e ∈ Ch.endL g P↔∃ (x:Ch.Im) (p:Gr.Pr),(e.2.2,x) ∈ P∧g.prods[x.prod]?=some p∧x.dot=p.right.length∧e.1=p.left∧e.2.1=x.frm:=by
 unfold Ch.endL
 rw [List.mem_filterMap]
 constructor
 ·rintro ⟨t,ht,h⟩
  unfold Ch.endOf at h
  cases hp:g.prods[t.2.prod]? with
  | none=>rw [hp] at h;cases h
  | some p=>
   rw [hp] at h
   simp only at h
   split at h
   ·rename_i hd
    injection h with h
    subst h
    exact ⟨t.2,p,ht,hp,hd,rfl,rfl⟩
   ·cases h
 ·rintro ⟨x,p,h1,h2,h3,h4,h5⟩
  refine ⟨(e.2.2,x),h1,?_⟩
  unfold Ch.endOf
  rw [h2]
  simp only
  rw [if_pos h3,← h4,← h5]
theorem rall_iff {g:Gr.Gm} {xs:List Int} {L:List (List Ix)} (h:keepB g xs.length L=true):((∀ y ∈ Ch.begs g 0 g.start,y ∈ rowI L 0)∧∀ a,a < L.length→∀ y ∈ rowI L a,Wanted g xs L a y)↔AllIn g xs (L.length - 1) (putS (doneS L L.length 0)):=by
 have h0:=(keepB_ok h).2.1
 have hin:∀ {a:Nat} {y:Ch.Im},a < L.length→y ∈ rowI L a→imIn g y∧y.frm≤a:=fun ha hy=>(kept_fine h ((mem_row h).2 ⟨ha,hy⟩)).2
 constructor
 ·rintro ⟨h1,h2⟩
  refine ⟨fun s hs=>?_,?_,?_,?_⟩
  ·obtain ⟨e1,e2⟩:=begL_iff.1 hs
   obtain ⟨s1,s2⟩:=s
   simp only at e1 e2
   subst e1
   exact (mem_row h).2 ⟨h0,h1 _ e2⟩
  ·rintro ⟨s1,s2⟩ ⟨⟨n,a⟩,hx,hs⟩
   obtain ⟨y,hy⟩:=List.exists_mem_of_ne_nil _ hx
   obtain ⟨hP,hw⟩:=waitL_iff.1 hy
   obtain ⟨ha,hr⟩:=(mem_row h).1 hP
   obtain ⟨e1,e2⟩:=begL_iff.1 hs
   simp only at e1 e2
   subst e1
   have h3:=h2 _ ha y hr
   unfold Ch.wants at hw
   cases hsy:Ch.symAt g y with
   | none=>rw [hsy] at hw;cases hw
   | some s=>
    rw [hsy] at hw
    simp only [Bool.and_eq_true,decide_eq_true_eq] at hw
    have ho:Ch.outI g xs (rowI L) s1 y=(Ch.begs g s1 s.n,s1):=by unfold Ch.outI;rw [hsy];simp only;rw [if_pos hw.1]
    unfold Wanted at h3
    rw [ho] at h3
    exact (mem_row h).2 ⟨ha,h3 _ (by rw [hw.2];exact e2) ha⟩
  ·rintro s ⟨⟨a,x⟩,ht,y,hy,hn,hlt,hw,rfl⟩
   simp only at hlt hw hy
   obtain ⟨ha,hr⟩:=(mem_row h).1 ht
   have h3:=h2 _ ha x hr
   have ho:Ch.outI g xs (rowI L) a x=([Ch.behind x],a + 1):=by unfold Ch.outI;rw [hy];simp only;rw [if_neg (by rw [hn];simp),if_pos hw]
   unfold Wanted at h3
   rw [ho] at h3
   exact (mem_row h).2 ⟨by show a + 1 < _;omega,h3 _ (List.mem_singleton.2 rfl) (by show a + 1 < _;omega)⟩
  ·rintro s ⟨e,he,y,hy,rfl⟩
   obtain ⟨x,p,h1',h2',h3',h4',h5'⟩:=endL_iff.1 he
   obtain ⟨ha,hr⟩:=(mem_row h).1 h1'
   obtain ⟨hyP,hyw⟩:=waitL_iff.1 hy
   obtain ⟨hf,hyr⟩:=(mem_row h).1 hyP
   have h3:=h2 _ ha x hr
   have hd:x.dot≤p.right.length:=Nat.le_of_eq h3'
   have hnone:Ch.symAt g x=none:=(Ch.symAt_none h2' hd).2 h3'
   have ho:Ch.outI g xs (rowI L) e.2.2 x=(Ch.lets g (Ch.leftOf g x) (rowI L x.frm),e.2.2):=by unfold Ch.outI;rw [hnone]
   unfold Wanted at h3
   rw [ho] at h3
   refine (mem_row h).2 ⟨ha,h3 _ (mem_lets.2 ⟨y,by rw [← h5'];exact hyr,?_,rfl⟩) ha⟩
   rw [Ch.leftOf_eq h2',← h4']
   exact hyw
 ·rintro ⟨h1,h2,h3,h4⟩
  refine ⟨fun y hy=>((mem_row h).1 (h1 (0,y) (begL_iff.2 ⟨rfl,hy⟩))).2,fun a ha x hx z hz hp=>?_⟩
  have hxP:=(mem_row h).2 ⟨ha,hx⟩
  obtain ⟨⟨p,hpp,hd⟩,hfr⟩:=hin ha hx
  cases hs:Ch.symAt g x with
  | none=>
   have ho:Ch.outI g xs (rowI L) a x=(Ch.lets g (Ch.leftOf g x) (rowI L x.frm),a):=by unfold Ch.outI;rw [hs]
   rw [ho] at hz ⊢
   obtain ⟨y,hy,hw,rfl⟩:=mem_lets.1 hz
   rw [Ch.leftOf_eq hpp] at hw
   have hyP:=(mem_row h).2 ⟨Nat.lt_of_le_of_lt hfr ha,hy⟩
   exact ((mem_row h).1 (h4 (a,Ch.behind y) ⟨(p.left,x.frm,a),mem_end hxP hpp ((Ch.symAt_none hpp hd).1 hs),y,waitL_iff.2 ⟨hyP,hw⟩,rfl⟩)).2
  | some s=>
   cases hn:s.non with
   | true=>
    have ho:Ch.outI g xs (rowI L) a x=(Ch.begs g a s.n,a):=by unfold Ch.outI;rw [hs];simp only;rw [if_pos hn]
    rw [ho] at hz ⊢
    have hw:Ch.wants g s.n x=true:=by unfold Ch.wants;rw [hs];simp [hn]
    refine ((mem_row h).1 (h2 (a,z) ⟨(s.n,a),fun e=>?_,begL_iff.2 ⟨rfl,hz⟩⟩)).2
    have:=waitL_iff.2 ⟨hxP,hw⟩
    rw [e] at this
    cases this
   | false=>
    by_cases hw:xs[a]?=some s.n
    ·have ho:Ch.outI g xs (rowI L) a x=([Ch.behind x],a + 1):=by unfold Ch.outI;rw [hs];simp only;rw [if_neg (by rw [hn];simp),if_pos hw]
     rw [ho] at hz hp ⊢
     rw [List.mem_singleton] at hz
     subst hz
     exact ((mem_row h).1 (h3 (a + 1,Ch.behind x) ⟨(a,x),hxP,s,hs,hn,by show a < _;simp only at hp;omega,hw,rfl⟩)).2
    ·have ho:Ch.outI g xs (rowI L) a x=([],a):=by unfold Ch.outI;rw [hs];simp only;rw [if_neg (by rw [hn];simp),if_neg hw]
     rw [ho] at hz
     cases hz
end Go.Proofs.YtdfhhbncmdpoeaaGreat
