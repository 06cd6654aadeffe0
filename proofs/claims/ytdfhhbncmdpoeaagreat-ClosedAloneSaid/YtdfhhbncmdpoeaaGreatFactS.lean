/- Plain facts on rounds in place: production by production, from the front (into what there is), and from behind (into a copy). No program is named here. -/
import Derived.Test.YtdfhhbncmdpoeaaGreatPlainR
import Derived.Test.YtdfhhbncmdpoeaaGreatRows
import Derived.Test.YtdfhhbncmdpoeaaGreatBaseS
import Derived.Test.YtdfhhbncmdpoeaaGreatPlainS
import Derived.OwnWalk
import Derived.RegionTactic
import Derived.Deep.QuietTactic
import Derived.BigQuiet
import Derived.Laws.BitsAllLaws
namespace Go.Proofs.YtdfhhbncmdpoeaaGreat.Rk
open Gr (Sy Pr Gm okSy okPr Ok)
section
variable (terms:Bool) (ps:List Pr) (l:Fs) (r:Nat)
theorem round_at (pk:Pick) (n:Nat):(round pk l r)[n]?=(l[n]?).map (next pk l r n):=by unfold round;rw [List.getElem?_mapIdx]
def roundTo (k:Nat):Fs:=round (pick terms (ps.take k)) l r
theorem roundTo_length (k:Nat):(roundTo terms ps l r k).length=l.length:=round_length ..
theorem roundTo_zero:roundTo terms ps l r 0=l:=by
 apply List.ext_getElem?
 intro n
 unfold roundTo
 rw [round_at]
 cases l[n]? with
 | none=>rfl
 | some f=>rw [Option.map_some,next_none (by unfold pick;rfl)]
theorem roundTo_all {k:Nat} (h:ps.length≤k):roundTo terms ps l r k=round (pick terms ps) l r:=by
 unfold roundTo;rw [List.take_of_length_le h]
theorem roundTo_rk (k n:Nat):rk (roundTo terms ps l r k) n=rk l n∨(rk l n=0∧rk (roundTo terms ps l r k) n=r):=by
 unfold rk roundTo
 rw [List.getD_eq_getElem?_getD,List.getD_eq_getElem?_getD,round_at]
 cases h:l[n]? with
 | none=>exact .inl rfl
 | some f=>
  simp only [Option.map_some,Option.getD_some]
  unfold next
  by_cases h1:f.1≠0
  ·rw [if_pos h1];exact .inl rfl
  ·rw [if_neg h1]
   split
   ·exact .inr ⟨by omega,rfl⟩
   ·exact .inl rfl
theorem below_to (h:∀ n,rk l n < r) (k:Nat) (p:Pr):below terms (roundTo terms ps l r k) r p=below terms l r p:=by
 unfold below
 congr 1
 funext s
 unfold okS
 split
 ·congr 1
  apply propext
  have h1:=h s.n.toNat
  rcases roundTo_rk terms ps l r k s.n.toNat with e | ⟨e1,e2⟩
  ·rw [e]
  ·rw [e1,e2]
   constructor
   ·rintro ⟨_,h⟩;omega
   ·rintro ⟨h,_⟩;exact absurd rfl h
 ·rfl
theorem pick_succ {k:Nat} (hk:k < ps.length) (n:Nat):pick terms (ps.take (k + 1)) l r n =
  (pick terms (ps.take k) l r n).or (if decide (ps[k].left=(n:Int)) && below terms l r ps[k] then some k else none):=by
 unfold pick
 rw [List.take_succ_eq_append_getElem hk,List.findIdx?_append]
 congr 1
 rw [List.findIdx?_cons]
 split
 ·simp [Nat.min_eq_left (Nat.le_of_lt hk)]
 ·simp
theorem next_same {pk pk':Pick} {n:Nat} {f:Nat × Nat} (h:f.1≠0∨pk l r n=pk' l r n):next pk l r n f=next pk' l r n f:=by
 unfold next
 by_cases h1:f.1≠0
 ·rw [if_pos h1,if_pos h1]
 ·rw [if_neg h1,if_neg h1]
  rcases h with h | h
  ·exact absurd h h1
  ·rw [h]
theorem roundTo_skip (h:∀ n,rk l n < r) {k n:Nat} (hk:k < ps.length) (hl:ps[k].left=(n:Int)) (hs:rk (roundTo terms ps l r k) n≠0∨below terms (roundTo terms ps l r k) r ps[k]=false) :
  roundTo terms ps l r (k + 1)=roundTo terms ps l r k:=by
 rw [below_to terms ps l r h] at hs
 apply List.ext_getElem?
 intro m
 have e:(roundTo terms ps l r k)[m]?=(l[m]?).map (next (pick terms (ps.take k)) l r m):=round_at ..
 have e':(roundTo terms ps l r (k + 1))[m]?=(l[m]?).map (next (pick terms (ps.take (k + 1))) l r m):=round_at ..
 rw [e,e']
 cases hm:l[m]? with
 | none=>rfl
 | some f=>
  simp only [Option.map_some]
  congr 1
  apply next_same
  by_cases h1:f.1≠0
  ·exact .inl h1
  ·right
   rw [pick_succ terms ps l r hk]
   split
   ·rename_i hc
    rw [Bool.and_eq_true,decide_eq_true_eq] at hc
    have hmn:m=n:=by have:=hc.1;omega
    subst hmn
    rcases hs with hs | hs
    ·cases ep:pick terms (ps.take k) l r m with
     | some i=>rfl
     | none=>
      exfalso
      apply hs
      unfold rk
      rw [List.getD_eq_getElem?_getD,e,hm,Option.map_some,next_none ep,Option.getD_some]
      omega
    ·rw [hs] at hc;exact absurd hc.2 (by decide)
   ·cases pick terms (ps.take k) l r m <;> rfl
theorem roundTo_put (h:∀ n,rk l n < r) {k n:Nat} (hk:k < ps.length) (hl:ps[k].left=(n:Int)) (h0:rk (roundTo terms ps l r k) n=0) (hb:below terms (roundTo terms ps l r k) r ps[k]=true) (hn:n < l.length) :
  roundTo terms ps l r (k + 1)=(roundTo terms ps l r k).set n (r,k):=by
 have hr:=h n
 rw [below_to terms ps l r h] at hb
 apply List.ext_getElem?
 intro m
 have e:∀ m,(roundTo terms ps l r k)[m]?=(l[m]?).map (next (pick terms (ps.take k)) l r m):=fun m=>round_at ..
 have e':(roundTo terms ps l r (k + 1))[m]?=(l[m]?).map (next (pick terms (ps.take (k + 1))) l r m):=round_at ..
 rw [List.getElem?_set,e,e',roundTo_length]
 by_cases hmn:n=m
 ·subst hmn
  rw [if_pos rfl,if_pos hn,List.getElem?_eq_getElem hn,Option.map_some]
  congr 1
  have h1:l[n].1=0:=by
   rcases roundTo_rk terms ps l r k n with e2 | ⟨e2,_⟩
   ·rw [h0] at e2
    unfold rk at e2
    rw [List.getD_eq_getElem?_getD,List.getElem?_eq_getElem hn,Option.getD_some] at e2
    exact e2.symm
   ·unfold rk at e2
    rw [List.getD_eq_getElem?_getD,List.getElem?_eq_getElem hn,Option.getD_some] at e2
    exact e2
  apply next_some h1
  rw [pick_succ terms ps l r hk,if_pos (by rw [decide_eq_true hl,hb];rfl)]
  cases ep:pick terms (ps.take k) l r n with
  | none=>rfl
  | some i=>
   exfalso
   unfold rk at h0
   rw [List.getD_eq_getElem?_getD,e,List.getElem?_eq_getElem hn,Option.map_some,Option.getD_some,next_some h1 ep] at h0
   have h0:r=0:=h0
   omega
 ·rw [if_neg hmn]
  cases hm:l[m]? with
  | none=>rfl
  | some f=>
   simp only [Option.map_some]
   congr 1
   apply next_same
   right
   rw [pick_succ terms ps l r hk,if_neg (by rw [Bool.and_eq_true,decide_eq_true_eq];rintro ⟨h1,_⟩;apply hmn;omega)]
   cases pick terms (ps.take k) l r m <;> rfl
def pickFrom (i:Nat):Pick:=fun l r n=>(pick terms (ps.drop i) l r n).map (· + i)
theorem pickFrom_zero:pickFrom terms ps 0=pick terms ps:=by
 funext l r n
 unfold pickFrom
 rw [List.drop_zero]
 cases pick terms ps l r n <;> rfl
theorem pickFrom_all {i:Nat} (h:ps.length≤i) (n:Nat):pickFrom terms ps i l r n=none:=by
 unfold pickFrom pick
 rw [List.drop_of_length_le h]
 rfl
theorem pickFrom_succ {i:Nat} (hi:i < ps.length) (n:Nat):pickFrom terms ps i l r n=if decide (ps[i].left=(n:Int)) && below terms l r ps[i] then some i else pickFrom terms ps (i + 1) l r n:=by
 unfold pickFrom pick
 rw [List.drop_eq_getElem_cons hi,List.findIdx?_cons]
 split
 ·simp
 ·rw [Option.map_map]
  congr 1
  funext j
  simp [Nat.add_comm,Nat.add_left_comm]
def copyAt (n i:Nat):Fs:=l.mapIdx fun m f=>if m < n then next (pick terms ps) l r m f else if m=n then next (pickFrom terms ps i) l r m f else f
theorem copyAt_length (n i:Nat):(copyAt terms ps l r n i).length=l.length:=List.length_mapIdx ..
theorem copyAt_get (n i m:Nat):(copyAt terms ps l r n i)[m]?=(l[m]?).map fun f=>if m < n then next (pick terms ps) l r m f else if m=n then next (pickFrom terms ps i) l r m f else f:=by
 unfold copyAt;rw [List.getElem?_mapIdx]
theorem copyAt_start:copyAt terms ps l r 0 ps.length=l:=by
 apply List.ext_getElem?
 intro m
 rw [copyAt_get]
 cases l[m]? with
 | none=>rfl
 | some f=>
  simp only [Option.map_some]
  rw [if_neg (by omega)]
  split
  ·rw [next_none (pickFrom_all terms ps l r (Nat.le_refl _) _)]
  ·rfl
theorem copyAt_turn (n:Nat):copyAt terms ps l r n 0=copyAt terms ps l r (n + 1) ps.length:=by
 apply List.ext_getElem?
 intro m
 rw [copyAt_get,copyAt_get]
 cases l[m]? with
 | none=>rfl
 | some f=>
  simp only [Option.map_some]
  congr 1
  rw [pickFrom_zero]
  by_cases h1:m < n
  ·rw [if_pos h1,if_pos (by omega)]
  ·rw [if_neg h1]
   by_cases h2:m=n
   ·rw [if_pos h2,if_pos (by omega)]
   ·rw [if_neg h2,if_neg (by omega)]
    split
    ·rw [next_none (pickFrom_all terms ps l r (Nat.le_refl _) _)]
    ·rfl
theorem copyAt_end {n:Nat} (h:l.length≤n) (i:Nat):copyAt terms ps l r n i=round (pick terms ps) l r:=by
 apply List.ext_getElem?
 intro m
 rw [copyAt_get,round_at]
 cases hm:l[m]? with
 | none=>rfl
 | some f=>
  have:m < l.length:=by
   rcases Nat.lt_or_ge m l.length with h | h
   ·exact h
   ·rw [List.getElem?_eq_none h] at hm;cases hm
  simp only [Option.map_some]
  rw [if_pos (by omega)]
theorem copyAt_skip {n i:Nat} (hi:i < ps.length) (h:rk l n≠0∨ps[i].left≠(n:Int)∨below terms l r ps[i]=false):copyAt terms ps l r n i=copyAt terms ps l r n (i + 1):=by
 apply List.ext_getElem?
 intro m
 rw [copyAt_get,copyAt_get]
 cases hm:l[m]? with
 | none=>rfl
 | some f=>
  simp only [Option.map_some]
  congr 1
  split
  ·rfl
  ·split
   ·rename_i e
    subst e
    apply next_same
    rcases h with h | h | h
    ·left
     unfold rk at h
     rw [List.getD_eq_getElem?_getD,hm,Option.getD_some] at h
     exact h
    ·right;rw [pickFrom_succ terms ps l r hi,if_neg (by rw [decide_eq_false h];simp)]
    ·right;rw [pickFrom_succ terms ps l r hi,if_neg (by rw [h];simp)]
   ·rfl
theorem copyAt_put {n i:Nat} (hi:i < ps.length) (h0:rk l n=0) (hl:ps[i].left=(n:Int)) (hb:below terms l r ps[i]=true) (hn:n < l.length):copyAt terms ps l r n i=(copyAt terms ps l r n (i + 1)).set n (r,i):=by
 apply List.ext_getElem?
 intro m
 rw [List.getElem?_set,copyAt_get,copyAt_get,copyAt_length]
 by_cases hmn:n=m
 ·subst hmn
  rw [if_pos rfl,if_pos hn,List.getElem?_eq_getElem hn,Option.map_some]
  rw [if_neg (by omega),if_pos rfl]
  congr 1
  apply next_some
  ·unfold rk at h0
   rw [List.getD_eq_getElem?_getD,List.getElem?_eq_getElem hn,Option.getD_some] at h0
   exact h0
  ·rw [pickFrom_succ terms ps l r hi,if_pos (by rw [decide_eq_true hl,hb];rfl)]
 ·rw [if_neg hmn]
  cases hm:l[m]? with
  | none=>rfl
  | some f=>
   simp only [Option.map_some]
   congr 1
   split
   ·rfl
   ·rw [if_neg (fun e=>hmn e.symm),if_neg (fun e=>hmn e.symm)]
end
theorem rounds'_succ (terms:Bool) (ps:List Pr) (nons k:Nat):rounds' terms ps nons (k + 1)=round (pick terms ps) (rounds' terms ps nons k) (k + 1):=by
 unfold rounds'
 rw [rounds_succ,Nat.zero_add]
theorem rounds'_lt (terms:Bool) (ps:List Pr) (nons k:Nat):∀ n,rk (rounds' terms ps nons k) n < k + 1:=by
 intro n
 have:=rk_le (pick terms ps) (zeros nons) 0 (zeros_le nons) k n
 unfold rounds'
 omega
theorem rounds'_zero (terms:Bool) (ps:List Pr) (nons:Nat):rounds' terms ps nons 0=zeros nons:=rfl
theorem turned_lt (terms:Bool) (ps:List Pr) (nons k:Nat) (h:rounds' terms ps nons (k + 1)≠rounds' terms ps nons k):k < nons:=by
 rcases Nat.lt_or_ge k nons with h1 | h1
 ·exact h1
 ·exact absurd (by rw [settled' terms ps nons (k + 1) (by omega),settled' terms ps nons k h1]) h
end Go.Proofs.YtdfhhbncmdpoeaaGreat.Rk
namespace Go.Proofs.YtdfhhbncmdpoeaaGreat
open Go.RowKit
structure Fc where
 rank:Int
 prod:Int
deriving DecidableEq
def fcRow:List Fc→List Value:=row2 (fun f=>.int .i64 f.rank) (fun f=>.int .i64 f.prod)
theorem fcRow_len (l:List Fc):(fcRow l).length=l.length * 2:=row2_len l
theorem fcRow_one (l:List Fc):∀ u ∈ fcRow l,u.oneCell'=true:=row2_one l (fun _=>rfl) (fun _=>rfl)
theorem fcRow_at (l:List Fc) (i:Nat) (h:i < l.length):(fcRow l)[i * 2]?=some (.int .i64 l[i].rank)∧(fcRow l)[i * 2 + 1]?=some (.int .i64 l[i].prod):=row2_at l i h
theorem Rd.fact {w:World} {B:Nat} {A:Option Addr} {l:List Fc} (h:Rd w B A (fcRow l)) {i:Nat} (hi:i < l.length) :
  ∃ b off,A=some ⟨b,off,none⟩∧b < B∧w.cell? ⟨b,off + i * 2,none⟩=some (.int .i64 l[i].rank)∧w.cell? ⟨b,off + i * 2 + 1,none⟩=some (.int .i64 l[i].prod):=Rd.two h hi
theorem fcRow_set:∀ (l:List Fc) (n:Nat) (f:Fc),fcRow (l.set n f)=((fcRow l).set (n * 2) (.int .i64 f.rank)).set (n * 2 + 1) (.int .i64 f.prod)
 | [],_,_=>rfl
 | x :: l,0,f=>rfl
 | x :: l,n + 1,f=>by
  have ih:=fcRow_set l n f
  show Value.int .i64 x.rank :: Value.int .i64 x.prod :: fcRow (l.set n f)=_
  rw [ih,show (n + 1) * 2=n * 2 + 1 + 1 by omega]
  rfl
def fz (l:Rk.Fs):List Fc:=l.map fun f=>⟨f.1,f.2⟩
theorem fz_len (l:Rk.Fs):(fz l).length=l.length:=by simp [fz]
theorem fz_set (l:Rk.Fs) (n r i:Nat):fz (l.set n (r,i))=(fz l).set n ⟨r,i⟩:=by simp [fz,List.map_set]
theorem fz_rank (l:Rk.Fs) (n:Nat) (h:n < (fz l).length):(fz l)[n].rank=(Rk.rk l n:Int):=by
 have h':n < l.length:=by rwa [fz_len] at h
 unfold Rk.rk
 rw [List.getD_eq_getElem?_getD,List.getElem?_eq_getElem h']
 simp [fz]
theorem fz_prod (l:Rk.Fs) (n:Nat) (h:n < (fz l).length):(fz l)[n].prod=((l.getD n (0,0)).2:Int):=by
 have h':n < l.length:=by rwa [fz_len] at h
 rw [List.getD_eq_getElem?_getD,List.getElem?_eq_getElem h']
 simp [fz]
theorem fz_zeros (n:Nat):fcRow (fz (Rk.zeros n))=(madeCells (Value.cells (.agg #[.int .i64 0,.int .i64 0])) (n * 2)).toList:=by
 apply List.ext_getElem?
 intro j
 have e:(madeCells (Value.cells (.agg #[.int .i64 0,.int .i64 0])) (n * 2)).toList[j]?=if j < n * 2 then some (.int .i64 0) else none:=by
  have hc:Value.cells (.agg #[.int .i64 0,.int .i64 0])=#[.int .i64 0,.int .i64 0]:=by rfl
  rw [hc]
  by_cases hj:j < n * 2
  ·rw [if_pos hj]
   rcases Nat.mod_two_eq_zero_or_one j with hm | hm <;> simp [madeCells,hj,hm]
  ·rw [if_neg hj];simp [madeCells,hj]
 rw [e]
 split
 ·rename_i hj
  have hi:j / 2 < (fz (Rk.zeros n)).length:=by rw [fz_len];unfold Rk.zeros;rw [List.length_replicate];omega
  have h:=fcRow_at (fz (Rk.zeros n)) (j / 2) hi
  rw [fz_rank,fz_prod,Rk.rk_zeros,Rk.zeros_getD] at h
  rcases Nat.mod_two_eq_zero_or_one j with hm | hm
  ·rw [show j=j / 2 * 2 by omega];exact h.1
  ·rw [show j=j / 2 * 2 + 1 by omega];exact h.2
 ·rename_i hj
  rw [List.getElem?_eq_none (by rw [fcRow_len,fz_len];unfold Rk.zeros;rw [List.length_replicate];omega)]
def rkz (l:List Fc) (n:Nat):Int:=match l[n]? with
 | some f=>f.rank
 | none=>0
theorem rkz_at {l:List Fc} {n:Nat} (h:n < l.length):rkz l n=l[n].rank:=by unfold rkz;rw [List.getElem?_eq_getElem h]
theorem rkz_fz (l:Rk.Fs) (n:Nat):rkz (fz l) n=(Rk.rk l n:Int):=by
 rcases Nat.lt_or_ge n l.length with h | h
 ·rw [rkz_at (by rw [fz_len];exact h),fz_rank]
 ·unfold rkz
  rw [List.getElem?_eq_none (by rw [fz_len];exact h),Rk.rk_out h]
  rfl
def leanS (terms:Bool) (l:List Fc) (r:Int) (s:Gr.Sy):Bool:=if s.non then decide (1≤rkz l s.n.toNat∧rkz l s.n.toNat < r) else terms
def leansB (terms:Bool) (l:List Fc) (r:Int) (right:List Gr.Sy):Bool:=right.all (leanS terms l r)
section
variable {terms:Bool} {l:List Fc} {r:Int} {right:List Gr.Sy}
theorem leansB_one {k:Nat} (hk:k < right.length) (h:leanS terms l r right[k]=false):leansB terms l r right=false:=by
 rw [Bool.eq_false_iff]
 intro e
 unfold leansB at e
 rw [List.all_eq_true] at e
 have:=e _ (List.getElem_mem hk)
 rw [h] at this;cases this
theorem leansB_all (h:∀ s ∈ right,leanS terms l r s=true):leansB terms l r right=true:=List.all_eq_true.2 h
theorem leanS_yes {m:Nat} (hm:m < l.length) (h1:1≤l[m].rank) (h2:l[m].rank < r):leanS terms l r ⟨true,(m:Int)⟩=true:=by
 have e:=rkz_at hm
 unfold leanS
 rw [if_pos rfl]
 apply decide_eq_true
 show 1≤rkz l m∧rkz l m < r
 omega
theorem leanS_no {m:Nat} (hm:m < l.length) (h:l[m].rank < 1∨r≤l[m].rank):leanS terms l r ⟨true,(m:Int)⟩=false:=by
 have e:=rkz_at hm
 unfold leanS
 rw [if_pos rfl]
 apply decide_eq_false
 show ¬ (1≤rkz l m∧rkz l m < r)
 omega
end
theorem leansB_fz (terms:Bool) (l:Rk.Fs) (r:Nat) (p:Gr.Pr):leansB terms (fz l) (r:Int) p.right=Rk.below terms l r p:=by
 unfold leansB Rk.below
 congr 1
 funext s
 unfold leanS Rk.okS
 split
 ·rw [rkz_fz]
  congr 1
  apply propext
  constructor
  ·rintro ⟨h1,h2⟩;exact ⟨by omega,by omega⟩
  ·rintro ⟨h1,h2⟩;exact ⟨by omega,by omega⟩
 ·rfl
theorem ok_syms {t n s:Int} {ps:List Gr.Pr} (h:okB ⟨t,n,s,ps⟩=true) {k:Nat} (hk:k < ps.length):(0≤ps[k].left∧ps[k].left < n)∧ps[k].right.length≤8∧∀ x ∈ ps[k].right,x.non=true→0≤x.n∧x.n < n:=by
 obtain ⟨_,_,_,_,_,_,_,h8⟩:=(okB_iff _).1 h
 obtain ⟨h1,h2,h3,h4⟩:=h8 _ (List.getElem_mem hk)
 refine ⟨⟨h1,h2⟩,h3,fun x hx hn=>?_⟩
 have h5:=h4 x hx
 unfold Gr.okSy at h5
 simpa [hn] using h5
theorem ok_nons {t n s:Int} {ps:List Gr.Pr} (h:okB ⟨t,n,s,ps⟩=true):1≤n∧n≤24∧ps.length≤60:=by
 obtain ⟨_,_,h3,h4,_,_,h7,_⟩:=(okB_iff _).1 h
 exact ⟨h3,h4,h7⟩
end Go.Proofs.YtdfhhbncmdpoeaaGreat
namespace Go.Proofs.YtdfhhbncmdpoeaaGreat
open Go.RowKit
def Quiet (v:Value) (w:World) (e:Ending) (w':World):Prop:=e=.returned v∧∃ n,w'=w.drewN n
end Go.Proofs.YtdfhhbncmdpoeaaGreat
namespace Go.Proofs.YtdfhhbncmdpoeaaGreat
open Go.RowKit
def FPost (l:List Fc) (w:World) (e:Ending) (w':World):Prop:=
 ∃ A len c,e=.returned (.slice A len c)∧len=l.length∧Rd w' w'.heap.size A (fcRow l)∧Bl w w'
theorem rd_on {w1:World} {A:Option Addr} {xs:List Value} (h:Rd w1 w1.heap.size A xs) {W:World} (hb:Bl w1 W):Rd W W.heap.size A xs:=(h.bl (Nat.le_refl _) hb).more hb.size
theorem FPost.lit {l m:List Fc} {k:Nat} {w w':World} {e:Ending} (h:FPost l w e w') (hl:l=m) (hk:m.length=k):∃ A c,e=.returned (.slice A k c)∧Rd w' w'.heap.size A (fcRow m)∧Bl w w':=by
 subst hl
 obtain ⟨A,len,c,he,hlen,hr,hb⟩:=h
 subst hlen
 subst hk
 exact ⟨A,c,he,hr,hb⟩
theorem fz_pos (l:Rk.Fs):∀ f ∈ fz l,0≤f.rank:=by
 intro f hf
 obtain ⟨x,_,rfl⟩:=List.mem_map.1 hf
 exact Int.natCast_nonneg _
theorem own_rd {w:World} {xs:List Value} {c base e m k:Nat} {g:Nat} (h:w.ownsRow base e m (.slice (some ⟨g,0,none⟩) k c) k xs):Rd w w.heap.size (some ⟨g,0,none⟩) xs:=by
 intro _
 have hlt:=(h.lt g rfl).2
 refine ⟨g,0,rfl,hlt,fun j u hu=>?_⟩
 have:=h.cells (g:=g) rfl j u hu
 unfold Addr.add at this
 split at this
 ·rename_i hj;subst hj;simpa using this
 ·simpa using this
theorem own_rd2 {w:World} {base n c:Nat} {A:Option Addr} {e:TypeId} {xs:List Value} (h:w.ownsRow base e 2 (.slice A n c) n xs):Rd w w.heap.size A xs:=by
 rcases h.2 with ⟨hv,rfl⟩ | ⟨g,cap,cur,hv,_,hg,_,_,_,_⟩
 ·have:xs=[]:=List.eq_nil_of_length_eq_zero (by simpa using h.1)
  subst this;exact Rd.nil
 ·have hA:A=some ⟨g,0,none⟩:=by injection hv
  subst hA
  exact own_rd h
end Go.Proofs.YtdfhhbncmdpoeaaGreat
namespace Go.Proofs.YtdfhhbncmdpoeaaGreat
open Go.RowKit
def us (l:List Nat):List Value:=l.map fun n:Nat=>Value.int .u32 (n:Int)
theorem us_one (l:List Nat):∀ u ∈ us l,u.oneCell'=true:=by
 intro u hu
 obtain ⟨c,_,rfl⟩:=List.mem_map.1 hu
 rfl
theorem or_nat (a b:Nat) (ha:a < 4294967296) (hb:b < 4294967296):bits .or .u32 (a:Int) (b:Int)=((a ||| b:Nat):Int):=u32_or_nat a b ha hb
end Go.Proofs.YtdfhhbncmdpoeaaGreat
namespace Go.Proofs.YtdfhhbncmdpoeaaGreat
open Go.RowKit
theorem fact_info:(Tryz.prog.info? 73).map (fun i=>(i.zero,i.size,i.bytes))=some (some (.agg #[.int .i64 0,.int .i64 0]),2,16):=by kernel_rfl
end Go.Proofs.YtdfhhbncmdpoeaaGreat
namespace Go.Proofs.YtdfhhbncmdpoeaaGreat
open Go.RowKit
def FNew (l:List Fc) (w:World) (e:Ending) (w':World):Prop:=
 ∃ A len c,e=.returned (.slice A len c)∧len=l.length∧w'.ownsRow w.heap.size 73 2 (.slice A len c) len (fcRow l)∧Bl w w'
theorem FNew.post {l:List Fc} {w w':World} {e:Ending} (h:FNew l w e w'):FPost l w e w':=by
 obtain ⟨A,len,c,he,hl,ho,hb⟩:=h
 exact ⟨A,len,c,he,hl,own_rd2 ho,hb⟩
theorem FNew.lit {l m:List Fc} {k:Nat} {w w':World} {e:Ending} (h:FNew l w e w') (hl:l=m) (hk:m.length=k):∃ A c,e=.returned (.slice A k c)∧w'.ownsRow w.heap.size 73 2 (.slice A k c) k (fcRow m)∧Bl w w':=by
 subst hl
 obtain ⟨A,len,c,he,hlen,hr,hb⟩:=h
 subst hlen
 subst hk
 exact ⟨A,c,he,hr,hb⟩
end Go.Proofs.YtdfhhbncmdpoeaaGreat
