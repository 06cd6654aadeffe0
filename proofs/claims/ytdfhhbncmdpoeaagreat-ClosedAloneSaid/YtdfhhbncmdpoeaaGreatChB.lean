/- filling.put: an item comes into a place's set, if it is new there. -/
import Derived.Test.YtdfhhbncmdpoeaaGreatChA
import Derived.Test.YtdfhhbncmdpoeaaGreatItemB
import Derived.Test.YtdfhhbncmdpoeaaGreatGRS
import Derived.Deep.RegionHeld3
import Derived.Deep.DeepCutAuto
import Derived.RegionTactic
import Derived.BigRegion
import Derived.Deep.RegionLaw
import Derived.BigQuiet
set_option maxRecDepth 100000
set_option maxHeartbeats 8000000
namespace Go.Proofs.YtdfhhbncmdpoeaaGreat
open Go.RowKit
open Ch (St)
structure PutT (m:Nat) (F:Fl) (a:Nat) (vs':Nat→Value) (w w':World):Prop extends Tr m F vs' w w' where
 fine:Fr (F.at_ a) w w'
 oth:∀ i,i≠a→vs' i=F.vs i
 old:∀ k,(F.vs a).ownBlock=some k→(vs' a).ownBlock=some k∨w'.heap[k]?=w.heap[k]?
theorem PutT.ahead {m:Nat} {F:Fl} {a:Nat} {vs':Nat→Value} {w w1 w2:World} (hb:Bl w w1) (h:PutT m F a vs' w1 w2) (hl:∀ k,(F.vs a).ownBlock=some k→k < w.heap.size):PutT m F a vs' w w2:=
 ⟨Tr.ahead hb h.toTr,(Fr.of_bl (S:=F.at_ a) hb).same h.fine,h.oth,fun k hk=>(h.old k hk).imp id fun e=>e.trans (hb.block k (hl k hk))⟩
def CPutP (G:Fg) (base m:Nat) (F:Fl) (f:St) (a:Nat) (x:Ch.Im) (w:World) (e:Ending) (w':World):Prop:=
 e=.returned (.tuple #[])∧∃ vs',Fil G base m (F.to vs') (Ch.puts f a [x]) w'∧PutT m F a vs' w w'
theorem puts_one (f:St) (a:Nat) (x:Ch.Im):Ch.puts f a [x]=⟨Ch.upd f.S a (Kn.add (f.S a) x),f.E⟩:=rfl
section
variable {G:Fg} {base m:Nat} {F:Fl} {f:St} {w w2 w3 w4:World} {a:Nat} {x:Ch.Im}
theorem Fil.hs_apart (h:Fil G base m F f w) (ha:a < m):F.f≠F.hs a∧F.hb≠F.hs a∧F.eb≠F.hs a∧F.tb≠F.hs a∧(∀ i k,i < m→(F.vs i).ownBlock=some k→k≠F.hs a):=by
 have hm:=h.hmap a ha
 refine ⟨fun e=>MapS.apart hm h.fb e.symm,fun e=>?_,fun e=>?_,fun e=>?_,fun i k hi hk e=>?_⟩
 ·obtain ⟨c,h1,_⟩:=h.hrow;exact MapS.apart hm h1 e.symm
 ·obtain ⟨c,h1,_⟩:=h.erow;exact MapS.apart hm h1 e.symm
 ·obtain ⟨c,h1,_⟩:=h.trow;exact MapS.apart hm h1 e.symm
 ·exact MapS.row hm (h.rows i hi) (hk.trans (by rw [e]))
theorem Fil.put_same (h:Fil G base m F f w) (ha:a < m) (hx:x ∈ f.S a) (hf2:Fr (fun k=>k=F.hs a) w w2) (hm2:IMap w2 (F.hs a) (Kn.add (f.S a) x)):∃ vs',Fil G base m (F.to vs') (Ch.puts f a [x]) w2∧PutT m F a vs' w w2:=by
 have ea:Kn.add (f.S a) x=f.S a:=by unfold Kn.add;rw [if_pos hx]
 have es:Ch.puts f a [x]=f:=by rw [puts_one,ea,Ch.upd_self]
 rw [ea] at hm2
 rw [es]
 obtain ⟨n1,n2,n3,n4,n5⟩:=h.hs_apart ha
 have hat:∀ k,k < w.heap.size→k=F.hs a→F.at_ a k:=fun k _ e=>.inr (.inl e)
 refine ⟨F.vs,{ h with fb:=h.fb.fr hf2 n1,hrow:=h.hrow.fr hf2 n2,erow:=h.erow.fr hf2 n3,trow:=h.trow.fr hf2 n4,rows:=fun i hi=>own_fr (h.rows i hi) hf2 fun k hk=>n5 i k hi hk,hmap:=fun i hi=>?_,emap:=fun i hi=>MapS.fr (h.emap i hi) hf2 fun e=>h.hne a i ha hi e.symm },
  ⟨⟨hf2.mono fun k hk e=>⟨a,ha,hat k hk e⟩,fun _ _ _ h=>.inl h⟩,hf2.mono hat,fun _ _=>rfl,fun _ hk=>.inl hk⟩⟩
 by_cases e:i=a
 ·subst e;exact hm2
 ·exact MapS.fr (h.hmap i hi) hf2 fun e2=>e (h.hinj i a hi ha e2)
theorem Fil.put_done (h:Fil G base m F f w) (ha:a < m) (hx:x ∉ f.S a) (hf2:Fr (fun k=>k=F.hs a) w w2) (hm2:IMap w2 (F.hs a) (Kn.add (f.S a) x)) (hb3:Bl w2 w3) {v':Value} (ho:w4.ownsRow base 44 3 v' ((f.S a).length + 1) (imRow (f.S a) ++ imc x))
  (hg:w3.grownBy w4 (F.vs a).ownBlock) (hk:(v'.ownBlock=(F.vs a).ownBlock∧(F.vs a).ownBlock≠none)∨(w3.grownBy w4 none∧∀ k,v'.ownBlock=some k→w3.heap.size≤k)) :
  ∃ vs',Fil G base m (F.to vs') (Ch.puts f a [x]) (w4.setCell ⟨F.tb,a,none⟩ v')∧PutT m F a vs' w (w4.setCell ⟨F.tb,a,none⟩ v'):=by
 obtain ⟨n1,n2,n3,n4,n5⟩:=h.hs_apart ha
 have ea:Kn.add (f.S a) x=f.S a ++ [x]:=by unfold Kn.add;rw [if_neg hx]
 have hrow:=h.rows a ha
 obtain ⟨tc,ht,hts,htv⟩:=h.trow
 -- up to w3
 have hf3:Fr (fun k=>k=F.hs a) w w3:=hf2.after hb3
 -- up to w4
 have hf4:Fr (fun k=>k=F.hs a∨(F.vs a).ownBlock=some k) w w4:=(hf3.mono fun k _ e=>.inl e).grown hg fun k e _=>.inr e
 have hf5:Fr (fun k=>k=F.tb∨k=F.hs a∨(F.vs a).ownBlock=some k) w (w4.setCell ⟨F.tb,a,none⟩ v'):=(hf4.mono fun k _ e=>.inr e).setCell (p:=⟨F.tb,a,none⟩) (.inl (.inl rfl)) v'
 have va:∀ {k:Nat} {t:TypeId} {cs:Array Value},Bk w k t cs→44≠t→(F.vs a).ownBlock≠some k:=fun hb hne=>hb.row hrow hne
 have vm:∀ {k:Nat} {l:List Ch.Im},IMap w k l→(F.vs a).ownBlock≠some k:=fun hm=>MapS.row hm hrow
 have vme:∀ {k:Nat} {l:List (Int × Nat)},EMap w k l→(F.vs a).ownBlock≠some k:=fun hm=>MapS.row hm hrow
 have hat:∀ k,k < w.heap.size→(k=F.tb∨k=F.hs a∨(F.vs a).ownBlock=some k)→F.at_ a k:=fun k _ e=>e.elim .inl fun e=>e.elim (fun e=>.inr (.inl e)) fun e=>.inr (.inr (.inr e))
 have hsz:w.heap.size≤w3.heap.size:=hf3.size
 have new:∀ k,v'.ownBlock=some k→(F.vs a).ownBlock=some k∨w.heap.size≤k:=fun k e=>by
  rcases hk with ⟨h1,_⟩ | ⟨_,h1⟩
  ·exact .inl (h1 ▸ e)
  ·exact .inr (Nat.le_trans hsz (h1 k e))
 have vtb:v'.ownBlock≠some F.tb:=fun e=>by
  rcases new _ e with h1 | h1
  ·exact va ht (by decide) h1
  ·have:=ht.lt;omega
 refine ⟨Ch.upd F.vs a v',?_,?_⟩
 ·rw [puts_one,ea]
  have nf:¬ (F.f=F.tb∨F.f=F.hs a∨(F.vs a).ownBlock=some F.f):=by
   rintro (e | e | e)
   ·exact h.fb.apart ht (by decide) e
   ·exact n1 e
   ·exact va h.fb (by decide) e
  have nh:¬ (F.hb=F.tb∨F.hb=F.hs a∨(F.vs a).ownBlock=some F.hb):=by
   obtain ⟨c,h1,_⟩:=h.hrow
   rintro (e | e | e)
   ·exact h1.apart ht (by decide) e
   ·exact n2 e
   ·exact va h1 (by decide) e
  have ne:¬ (F.eb=F.tb∨F.eb=F.hs a∨(F.vs a).ownBlock=some F.eb):=by
   obtain ⟨c,h1,_⟩:=h.erow
   rintro (e | e | e)
   ·exact h1.apart ht (by decide) e
   ·exact n3 e
   ·exact va h1 (by decide) e
  have nt:¬ (F.tb=F.hs a∨(F.vs a).ownBlock=some F.tb):=by
   rintro (e | e)
   ·exact n4 e
   ·exact va ht (by decide) e
  refine { fb:=h.fb.fr hf5 nf,hrow:=h.hrow.fr hf5 nh,erow:=h.erow.fr hf5 ne,trow:=(Wv.fr ⟨tc,ht,hts,htv⟩ hf4 nt).put ha v',rows:=?_,apart:=?_,hmap:=?_,emap:=?_,hinj:=h.hinj,einj:=h.einj,hne:=h.hne,low:=h.low,lowm:=h.lowm }
  ·intro i hi
   show World.ownsRow _ base _ 3 (Ch.upd F.vs a v' i) (Ch.upd f.S a (f.S a ++ [x]) i).length (imRow (Ch.upd f.S a (f.S a ++ [x]) i))
   by_cases e:i=a
   ·subst e
    rw [Ch.upd_same,Ch.upd_same,imRow_snoc,List.length_append]
    exact own_fr (S:=fun k=>k=F.tb) ho ((Fr.refl _ _).own _ _) fun k e1 e2=>vtb (by rw [e1,e2])
   ·rw [Ch.upd_other _ _ e,Ch.upd_other _ _ e]
    refine own_fr (h.rows i hi) hf5 fun k hk1 hk2=>?_
    rcases hk2 with e1 | e1 | e1
    ·exact ht.row (h.rows i hi) (by decide) (by rw [hk1,e1])
    ·exact n5 i k hi hk1 e1
    ·exact h.apart i a hi ha e k hk1 e1
  ·intro i j hi hj hij k q10 q20
   have q1:(Ch.upd F.vs a v' i).ownBlock=some k:=q10
   have q2:(Ch.upd F.vs a v' j).ownBlock=some k:=q20
   clear q10 q20
   by_cases e:i=a
   ·subst e
    rw [Ch.upd_same] at q1
    rw [Ch.upd_other _ _ (Ne.symm hij)] at q2
    rcases new k q1 with h3 | h3
    ·exact h.apart i j hi hj hij k h3 q2
    ·have:=((h.rows j hj).lt k q2).2;omega
   ·rw [Ch.upd_other _ _ e] at q1
    by_cases e2:j=a
    ·subst e2
     rw [Ch.upd_same] at q2
     rcases new k q2 with h3 | h3
     ·exact h.apart i j hi hj hij k q1 h3
     ·have:=((h.rows i hi).lt k q1).2;omega
    ·rw [Ch.upd_other _ _ e2] at q2
     exact h.apart i j hi hj hij k q1 q2
  ·intro i hi
   show IMap _ (F.hs i) (Ch.upd f.S a (f.S a ++ [x]) i)
   have nb:∀ i,i < m→¬ (F.hs i=F.tb∨(F.vs a).ownBlock=some (F.hs i)):=fun i hi=>by
    rintro (e | e)
    ·exact MapS.apart (h.hmap i hi) ht e
    ·exact vm (h.hmap i hi) e
   by_cases e:i=a
   ·subst e
    rw [Ch.upd_same,← ea]
    have h3:=MapS.bl hm2 hb3
    have h4:IMap w4 (F.hs i) (Kn.add (f.S i) x):=MapS.of_block h3 (hg.block _ (MapS.lt h3) fun e=>nb i hi (.inr e.symm))
    exact MapS.of_block h4 (Below.heap_setCell _ _ _ _ fun e=>nb i hi (.inl e))
   ·rw [Ch.upd_other _ _ e]
    refine MapS.fr (h.hmap i hi) hf5 fun e1=>?_
    rcases e1 with e1 | e1 | e1
    ·exact nb i hi (.inl e1)
    ·exact e (h.hinj i a hi ha e1)
    ·exact nb i hi (.inr e1)
  ·intro i hi
   refine MapS.fr (h.emap i hi) hf5 fun e1=>?_
   rcases e1 with e1 | e1 | e1
   ·exact MapS.apart (h.emap i hi) ht e1
   ·exact h.hne a i ha hi e1.symm
   ·exact vme (h.emap i hi) e1
 ·refine ⟨⟨hf5.mono fun k hk e=>⟨a,ha,hat k hk e⟩,fun i k hi h1=>?_⟩,hf5.mono hat,fun i e=>Ch.upd_other _ _ e,fun k h1=>?_⟩
  ·by_cases e:i=a
   ·subst e
    rw [Ch.upd_same] at h1
    exact new k h1
   ·rw [Ch.upd_other _ _ e] at h1
    exact .inl h1
  ·rw [Ch.upd_same]
   rcases hk with ⟨h2,_⟩ | ⟨h2,_⟩
   ·exact .inl (h2.trans h1)
   ·right
    have hlt:=(hrow.lt k h1).2
    have e1:w3.heap[k]?=w.heap[k]?:=hf3.block k hlt fun e=>n5 a k ha h1 e
    have e2:w4.heap[k]?=w3.heap[k]?:=h2.block k (by omega) (by simp)
    have e3:(w4.setCell ⟨F.tb,a,none⟩ v').heap[k]?=w4.heap[k]?:=Below.heap_setCell _ _ _ _ fun e=>va ht (by decide) (by rw [h1];exact congrArg some e)
    exact e3.trans (e2.trans e1)
end
theorem Fil.cells5 {G:Fg} {base m:Nat} {F:Fl} {f:St} {w w2:World} {a b0:Nat} {x:Ch.Im} (h:Fil G base m F f w) (ha:a < m) (hf:Fr (fun k=>k=F.hs a) w w2) (hb:Bk w b0 44 #[.int .i64 (x.prod:Int),.int .i64 (x.dot:Int),.int .i64 (x.frm:Int)]) (hn:b0≠F.hs a) :
  w2.cell? ⟨F.f,5,none⟩=some (.slice (some ⟨F.hb,0,none⟩) m F.ch)∧w2.cell? ⟨F.hb,a,none⟩=some (.map (some (F.hs a)))∧w2.cell? ⟨b0,0,none⟩=some (.int .i64 (x.prod:Int))∧w2.cell? ⟨b0,1,none⟩=some (.int .i64 (x.dot:Int))∧w2.cell? ⟨b0,2,none⟩=some (.int .i64 (x.frm:Int))∧F.f < w2.heap.size:=by
 obtain ⟨n1,n2,_⟩:=h.hs_apart ha
 have h1:=h.fb.fr hf n1
 have h2:=h.hrow.fr hf n2
 have h3:=hb.fr hf hn
 exact ⟨h1.cell 5,h2.cell ha,h3.cell 0,h3.cell 1,h3.cell 2,h1.lt⟩
theorem item_info:(Tryz.prog.info? 44).map (fun i=>(i.zero,i.size,i.bytes))=some (some (.agg #[.int .i64 0,.int .i64 0,.int .i64 0]),3,24):=by kernel_rfl
theorem fput_any (G:Fg) (base m:Nat) (F:Fl) (f:St) (a:Nat) (x:Ch.Im) (w:World) (h:Fil G base m F f w) (ha:a < m) (hx:imOk x) (hl:(f.S a).length < 1000000) (hb:base≤w.heap.size) :
  Calls Tryz.prog 84 #[.pointer (some ⟨F.f,0,none⟩),.int .i64 (a:Int),.agg #[.int .i64 (x.prod:Int),.int .i64 (x.dot:Int),.int .i64 (x.frm:Int)]] w (CPutP G base m F f a x w):=by
 obtain ⟨i0,hi,hz0,hz1,hz2⟩:=info_parts item_info
 have HW:=Lib.hid h
 have HX1:Hid (Bk (w.alloc (.cells #[.int .i64 (x.prod:Int),.int .i64 (x.dot:Int),.int .i64 (x.frm:Int)] 44)) w.heap.size 44 #[.int .i64 (x.prod:Int),.int .i64 (x.dot:Int),.int .i64 (x.frm:Int)]):=Bk.new w _ _
 have HB1:Hid (Bl w (w.alloc (.cells #[.int .i64 (x.prod:Int),.int .i64 (x.dot:Int),.int .i64 (x.frm:Int)] 44))):=(Bl.refl w).alloc _
 have HF1:=Lib.hid (h.bl HB1.out)
 obtain ⟨Av,cv,hv,hcv⟩:=own_form (h.rows a ha)
 have HV:=Lib.hid hv
 have HVb:Hid (∀ k,(F.vs a).ownBlock=some k→k < w.heap.size):=fun k hk=>((h.rows a ha).lt k hk).2
 have hw0:¬ F.own m w.heap.size:=fun h1=>by have:=(h.lt h1).2;omega
 have HNo:Hid (w.heap.size≠F.hs a):=fun e=>hw0 ⟨a,ha,.inr (.inl e)⟩
 have HNv:Hid ((F.vs a).ownBlock≠some w.heap.size):=fun e=>hw0 ⟨a,ha,.inr (.inr (.inr e))⟩
 obtain ⟨n1,_,_,n4,n5⟩:=h.hs_apart ha
 have HN1:=Lib.hid n1;have HN4:=Lib.hid n4
 have HN5:Hid (∀ k,(F.vs a).ownBlock=some k→¬ k=F.hs a):=fun k hk=>n5 a k ha hk
 have HIm:=Lib.hid (fun (wx:World) (hbx:Bl w wx)=>iput_any (F.hs a) (f.S a) x wx (MapS.bl (h.hmap a ha) hbx) hx hl)
 clear h hv hw0 n1 n4 n5
 have ha0:(0:Int)≤(a:Int):=by omega
 have ha1:(a:Int) < (m:Int):=by omega
 go_enter Tryz.func84,Tryz.ntmps84
 go_wp2_with fail
 generalize w.alloc (.cells #[.int .i64 (x.prod:Int),.int .i64 (x.dot:Int),.int .i64 (x.frm:Int)] 44)=w1 at *
 have HF1d:Hid (Fil G base m F f w1.drew):=HF1.out.bl (Bl.refl w1).drew
 have HX1d:=Lib.hid HX1.out.drew
 have hlf:F.f < w1.heap.size:=HF1.out.fb.lt
 have d5:w1.drew.cell? ⟨F.f,5,none⟩=some (.slice (some ⟨F.hb,0,none⟩) m F.ch):=HF1d.out.fb.cell 5
 have e5:w1.drew.cell? ⟨F.hb,a,none⟩=some (.map (some (F.hs a))):=HF1d.out.hrow.cell ha
 have x0:w1.drew.cell? ⟨w.heap.size,0,none⟩=some (.int .i64 (x.prod:Int)):=HX1d.out.cell 0
 have x1:w1.drew.cell? ⟨w.heap.size,1,none⟩=some (.int .i64 (x.dot:Int)):=HX1d.out.cell 1
 have x2:w1.drew.cell? ⟨w.heap.size,2,none⟩=some (.int .i64 (x.frm:Int)):=HX1d.out.cell 2
 have tk1:True:=trivial
 go_region_held3 (fun w'=>w'.cell? ⟨F.f,5,none⟩=some (.slice (some ⟨F.hb,0,none⟩) m F.ch)∧w'.cell? ⟨F.hb,a,none⟩=some (.map (some (F.hs a)))∧w'.cell? ⟨w.heap.size,0,none⟩=some (.int .i64 (x.prod:Int))∧w'.cell? ⟨w.heap.size,1,none⟩=some (.int .i64 (x.dot:Int))∧w'.cell? ⟨w.heap.size,2,none⟩=some (.int .i64 (x.frm:Int))∧F.f < w'.heap.size)
  (first | exact ⟨d5,e5,x0,x1,x2,hlf⟩ | exact HP2.out) (first
  | (go_at_call 107;have _t:=tk1;((with_reducible refine (HIm.out _ HB1.out.drew).mono ?_);rintro e v2 ⟨rfl,hm2,hf2⟩;have HM2:=Lib.hid hm2;have HF2:=Lib.hid hf2;have HP2:=Lib.hid (HF1d.out.cells5 ha hf2 HX1d.out HNo.out);clear tk1 hm2 hf2))
  | fail)
 by_cases hin:x ∈ f.S a
 ·have hd:=newB_no hin
  obtain ⟨vs',hR1,hR2⟩:=HF1d.out.put_same ha hin HF2.out HM2.out
  have HR1:=Lib.hid hR1
  have HR2:Hid (PutT m F a vs' w v2):=hR2.ahead HB1.out.drew HVb.out
  clear hin hR1 hR2
  rw [hd]
  go_wp2_with fail
  go_end0
  exact ⟨rfl,vs',HR1.out,HR2.out⟩
 ·have hd:=newB_yes hin
  have HIn:=Lib.hid hin
  have HDone:=Lib.hid (fun (w3 w4:World) (v':Value) (h3:Bl v2 w3) (ho:w4.ownsRow base 44 3 v' ((f.S a).length + 1) (imRow (f.S a) ++ imc x)) hg hk=>HF1d.out.put_done ha HIn.out HF2.out HM2.out h3 ho hg hk)
  have HOw:=Lib.hid (own_fr (HF1d.out.rows a ha) HF2.out HN5.out)
  have HFb2:=Lib.hid (HF1d.out.fb.fr HF2.out HN1.out)
  have HT2:=Lib.hid (HF1d.out.trow.fr HF2.out HN4.out)
  have HX2:=Lib.hid (HX1d.out.fr HF2.out HNo.out)
  have hbv:base≤v2.heap.size:=Nat.le_trans hb (Nat.le_trans HB1.out.drew.size HF2.out.size)
  clear hin d5 e5 x0 x1 x2 HF1d HX1d HF1 HX1
  rw [hd]
  go_upto_region 2 with fail
  clear HP2
  rename_i hHeld
  clear hHeld
  have hno:=HOw.out
  rw [HV.out] at hno
  have HOx:Hid ((v2.drew.alloc (.cells #[.int .i64 (x.prod:Int),.int .i64 (x.dot:Int),.int .i64 (x.frm:Int)] 44)).ownsRow base 44 3 (.slice Av (f.S a).length cv) (f.S a).length (imRow (f.S a))):=own_bl hno ((Bl.refl v2).drew.alloc _)
  have HCx:Hid (∀ j u,(imc x)[j]?=some u→(v2.drew.alloc (.cells #[.int .i64 (x.prod:Int),.int .i64 (x.dot:Int),.int .i64 (x.frm:Int)] 44)).cell? ((⟨v2.heap.size,0,none⟩:Addr).add j)=some u):=cells_new v2.drew #[.int .i64 (x.prod:Int),.int .i64 (x.dot:Int),.int .i64 (x.frm:Int)] 44
  have HBv:Hid (Bl v2 (v2.drew.alloc (.cells #[.int .i64 (x.prod:Int),.int .i64 (x.dot:Int),.int .i64 (x.frm:Int)] 44))):=(Bl.refl v2).drew.alloc _
  have HSz:Hid (base≤(v2.drew.alloc (.cells #[.int .i64 (x.prod:Int),.int .i64 (x.dot:Int),.int .i64 (x.frm:Int)] 44)).heap.size):=Nat.le_trans hbv (by rw [World.size_alloc];exact Nat.le_succ _)
  have HTn:=Lib.hid (HT2.out.bl HBv.out)
  have HTr:Hid (∀ w4,(v2.drew.alloc (.cells #[.int .i64 (x.prod:Int),.int .i64 (x.dot:Int),.int .i64 (x.frm:Int)] 44)).grownBy w4 (Value.slice Av (f.S a).length cv).ownBlock→w4.cell? ⟨F.tb,a,none⟩=some (.slice Av (f.S a).length cv)∧w4.frozen? ⟨F.tb,a,none⟩=false∧F.tb < w4.heap.size∧w4.cell? ⟨F.f,7,none⟩=some (.slice (some ⟨F.tb,0,none⟩) m m)):=fun w4 hg=>by
   obtain ⟨tc,ht,hts,htv⟩:=HTn.out
   have g2:=ht.grown hg (fun e=>ht.row HOx.out (by decide) e.symm)
   have g1:=(HFb2.out.bl HBv.out).grown hg (fun e=>(HFb2.out.bl HBv.out).row HOx.out (by decide) e.symm)
   exact ⟨by rw [g2.cell,htv a ha,HV.out],g2.free a,g2.lt,g1.cell 7⟩
  have f7:v2.drew.cell? ⟨F.f,7,none⟩=some (.slice (some ⟨F.tb,0,none⟩) m m):=HFb2.out.cell 7
  have f8:v2.drew.cell? ⟨F.tb,a,none⟩=some (.slice Av (f.S a).length cv):=by rw [← HV.out];exact HT2.out.cell ha
  have x0:v2.drew.cell? ⟨w.heap.size,0,none⟩=some (.int .i64 (x.prod:Int)):=HX2.out.cell 0
  have x1:v2.drew.cell? ⟨w.heap.size,1,none⟩=some (.int .i64 (x.dot:Int)):=HX2.out.cell 1
  have x2:v2.drew.cell? ⟨w.heap.size,2,none⟩=some (.int .i64 (x.frm:Int)):=HX2.out.cell 2
  have hl2:F.f < v2.drew.heap.size:=HFb2.out.lt
  have hl3:F.tb < v2.drew.heap.size:=HT2.out.lt
  have hl4:w.heap.size < v2.drew.heap.size:=HX2.out.lt
  have g7:(v2.alloc (.cells #[.int .i64 (x.prod:Int),.int .i64 (x.dot:Int),.int .i64 (x.frm:Int)] 44)).cell? ⟨F.f,7,none⟩=some (.slice (some ⟨F.tb,0,none⟩) m m):=(HFb2.out.alloc _).cell 7
  have g8:(v2.alloc (.cells #[.int .i64 (x.prod:Int),.int .i64 (x.dot:Int),.int .i64 (x.frm:Int)] 44)).cell? ⟨F.tb,a,none⟩=some (.slice Av (f.S a).length cv):=by rw [← HV.out];exact (HT2.out.bl ((Bl.refl v2).alloc _)).cell ha
  have p7:v2.cell? ⟨F.f,7,none⟩=some (.slice (some ⟨F.tb,0,none⟩) m m):=f7
  have p8:v2.cell? ⟨F.tb,a,none⟩=some (.slice Av (f.S a).length cv):=f8
  have p0:v2.cell? ⟨w.heap.size,0,none⟩=some (.int .i64 (x.prod:Int)):=x0
  have p1:v2.cell? ⟨w.heap.size,1,none⟩=some (.int .i64 (x.dot:Int)):=x1
  have p2:v2.cell? ⟨w.heap.size,2,none⟩=some (.int .i64 (x.frm:Int)):=x2
  clear hno f7 f8 x0 x1 x2
  go_region_law (first
   | (refine step_append_keep rfl (.tmp 26) (.tmp 28) 45 rfl base 44 i0 (.agg #[.int .i64 0,.int .i64 0,.int .i64 0]) 3 24 Tryz.underlying45 hi hz0 hz1 hz2 rfl (by decide) (.slice Av (f.S a).length cv) (f.S a).length (imRow (f.S a)) rfl HOx.out ⟨v2.heap.size,0,none⟩ 1 (imc x) rfl rfl HCx.out (imc_one x) (by simp only [maxLen];omega) (by omega) HSz.out ?_;intro v4 w4 ho4 hg4 hk4;obtain ⟨A4,d4,hv4,_⟩:=own_form ho4;subst hv4;obtain ⟨q1,q2,q3,q4⟩:=HTr.out _ hg4;have HO4:=Lib.hid ho4;have HG4:=Lib.hid hg4;have HK4:=Lib.hid hk4;clear ho4 hg4 hk4)
   | fail)
  all_goals
   go_wp2_with fail
   go_end0
   obtain ⟨vs',hR1,hR2⟩:=HDone.out _ _ _ HBv.out HO4.out (by rw [HV.out];exact HG4.out) (by rw [HV.out];exact HK4.out)
   exact ⟨rfl,vs',hR1,hR2.ahead HB1.out.drew HVb.out⟩
end Go.Proofs.YtdfhhbncmdpoeaaGreat
namespace Go.Proofs.YtdfhhbncmdpoeaaGreat
open Go.RowKit
theorem behind_any (p d f:Nat) (w:World) (hd:d < 1000000) :
  Calls Tryz.prog 87 #[.agg #[.int .i64 (p:Int),.int .i64 (d:Int),.int .i64 (f:Int)]] w fun e w'=>e=.returned (.agg #[.int .i64 (p:Int),.int .i64 ((d + 1:Nat):Int),.int .i64 (f:Int)])∧Bl w w':=by
 have HK1:Hid (Bk ((w.alloc (.cells #[.int .i64 (p:Int),.int .i64 (d:Int),.int .i64 (f:Int)] 44)).alloc (.cells #[.int .i64 0,.int .i64 0,.int .i64 0] 44)) w.heap.size 44 #[.int .i64 (p:Int),.int .i64 (d:Int),.int .i64 (f:Int)]):=(Bk.new w _ _).alloc _
 have HK2:Hid (Bk ((w.alloc (.cells #[.int .i64 (p:Int),.int .i64 (d:Int),.int .i64 (f:Int)] 44)).alloc (.cells #[.int .i64 0,.int .i64 0,.int .i64 0] 44)) (w.heap.size + 1) 44 #[.int .i64 0,.int .i64 0,.int .i64 0]):=by
  have h:=Bk.new (w.alloc (.cells #[.int .i64 (p:Int),.int .i64 (d:Int),.int .i64 (f:Int)] 44)) 44 #[.int .i64 0,.int .i64 0,.int .i64 0]
  rw [World.size_alloc] at h
  exact h
 have HB1:Hid (Bl w ((w.alloc (.cells #[.int .i64 (p:Int),.int .i64 (d:Int),.int .i64 (f:Int)] 44)).alloc (.cells #[.int .i64 0,.int .i64 0,.int .i64 0] 44))):=((Bl.refl w).alloc _).alloc _
 go_enter Tryz.func87,Tryz.ntmps87
 go_upto_region 1 with fail
 generalize (w.alloc (.cells #[.int .i64 (p:Int),.int .i64 (d:Int),.int .i64 (f:Int)] 44)).alloc (.cells #[.int .i64 0,.int .i64 0,.int .i64 0] 44)=w1 at *
 have k1:=HK1.out.cell 1
 have f1:=HK1.out.free 1
 have l1:=HK1.out.lt
 have hp:=HK1.out.put 1 (.int .i64 ((d:Int) + 1))
 have HP:=Lib.hid hp
 have p0:(w1.setCell ⟨w.heap.size,1,none⟩ (.int .i64 ((d:Int) + 1))).cell? ⟨w.heap.size,0,none⟩=some (.int .i64 (p:Int)):=hp.cell 0
 have p1:(w1.setCell ⟨w.heap.size,1,none⟩ (.int .i64 ((d:Int) + 1))).cell? ⟨w.heap.size,1,none⟩=some (.int .i64 ((d:Int) + 1)):=hp.cell 1
 have p2:(w1.setCell ⟨w.heap.size,1,none⟩ (.int .i64 ((d:Int) + 1))).cell? ⟨w.heap.size,2,none⟩=some (.int .i64 (f:Int)):=hp.cell 2
 have HQ2:Hid (Bk (w1.setCell ⟨w.heap.size,1,none⟩ (.int .i64 ((d:Int) + 1))) (w.heap.size + 1) 44 #[.int .i64 0,.int .i64 0,.int .i64 0]):=HK2.out.far (p:=⟨w.heap.size,1,none⟩) (by show _≠w.heap.size;omega) _
 have HF2:Hid (Fr (fun k=>k=w.heap.size∨k=w.heap.size + 1) w (w1.setCell ⟨w.heap.size,1,none⟩ (.int .i64 ((d:Int) + 1)))):=(Fr.of_bl HB1.out).setCell (p:=⟨w.heap.size,1,none⟩) (.inl (.inl rfl)) _
 clear hp
 go_upto_region 2 with fail
 have hdn:((d:Int) + 1)=((d + 1:Nat):Int):=by omega
 rw [hdn] at HP HQ2 HF2 p0 p1 p2 ⊢
 clear hdn
 have s20:=HQ2.out.cell 0
 have s21:=HQ2.out.cell 1
 have s22:=HQ2.out.cell 2
 have f20:=HQ2.out.free 0
 have f21:=HQ2.out.free 1
 have f22:=HQ2.out.free 2
 have l2:=HQ2.out.lt
 generalize w1.setCell ⟨w.heap.size,1,none⟩ (.int .i64 ((d + 1:Nat):Int))=w2 at *
 go_wp2_with fail
 try simp only [Exit.inBlock,Exit.then]
 refine bodyPost_ret (results_row rfl _ _ (w.heap.size + 1) 44 #[.int .i64 (p:Int),.int .i64 ((d + 1:Nat):Int),.int .i64 (f:Int)] _ rfl (((HQ2.out.put 0 _).put 1 _).put 2 _) Tryz.underlying44 rfl item_size) rfl ?_
 exact ⟨rfl,(((HF2.out.setCell (p:=⟨w.heap.size + 1,0,none⟩) (.inl (.inr rfl)) _).setCell (p:=⟨w.heap.size + 1,1,none⟩) (.inl (.inr rfl)) _).setCell (p:=⟨w.heap.size + 1,2,none⟩) (.inl (.inr rfl)) _).bl (fun i hi e=>by rcases e with e | e <;> omega)⟩
end Go.Proofs.YtdfhhbncmdpoeaaGreat
namespace Go.Proofs.YtdfhhbncmdpoeaaGreat
open Go.RowKit
open Ch (St)
def InP (G:Fg) (base m:Nat) (F:Fl) (f':St) (w:World) (e:Ending) (w':World):Prop:=
 e=.returned (.tuple #[])∧∃ vs',Fil G base m (F.to vs') f' w'∧Tr m F vs' w w'
theorem begin_any (G:Fg) (ps:List Gr.Pr) (base m:Nat) (F:Fl) (f:St) (a:Nat) (nn:Int) (w:World) (h:Fil G base m F f w) (ha:a < m) (hm:m≤1000) (hlen:G.len=ps.length) (hps:ps.length≤1000) (hr:Prs w base G.A ps) (hl:(f.S a).length≤200000) (hb:base≤w.heap.size) :
  Calls Tryz.prog 55 #[.pointer (some ⟨F.f,0,none⟩),.int .i64 (a:Int),.int .i64 nn] w (InP G base m F (Ch.puts f a (Ch.begs ⟨G.t,G.n,G.s,ps⟩ a nn)) w):=by
 have HF:=Lib.hid h
 have HL:=Lib.hid hlen
 have HR:=Lib.hid hr
 have HLs:=Lib.hid hl
 have HLow:Hid (∀ k,F.own m k→k < w.heap.size):=fun k hk=>(h.lt hk).2
 have HJ:Hid (∀ x ∈ Ch.begs ⟨G.t,G.n,G.s,ps⟩ a nn,∃ j,x=⟨j,0,a⟩∧j < ps.length):=fun x hx=>by
  obtain ⟨j,p,h1,h2,_⟩:=Ch.mem_begs.1 hx
  exact ⟨j,h1,Ch.lt_of_get h2⟩
 have HBl:=Lib.hid (begs_len ⟨G.t,G.n,G.s,ps⟩ a nn)
 have HJs:Hid (ns (ofK ps nn ps.length)=(Ch.begs ⟨G.t,G.n,G.s,ps⟩ a nn).map fun x=>(x.prod:Int)):=by
  show (Ch.ofN ps nn).map _=List.map _ (List.map _ (Ch.ofN ps nn))
  rw [List.map_map];rfl
 clear h hlen hr hl
 generalize Ch.begs ⟨G.t,G.n,G.s,ps⟩ a nn=xs at *
 have hxl:xs.length≤1000:=Nat.le_trans HBl.out hps
 have k0:w.cell? ⟨F.f,0,none⟩=some (.int .i64 G.t):=HF.out.fb.cell 0
 have k1:w.cell? ⟨F.f,1,none⟩=some (.int .i64 G.n):=HF.out.fb.cell 1
 have k2:w.cell? ⟨F.f,2,none⟩=some (.int .i64 G.s):=HF.out.fb.cell 2
 have k3:w.cell? ⟨F.f,3,none⟩=some (.slice G.A G.len G.c):=HF.out.fb.cell 3
 have kl:F.f < w.heap.size:=HF.out.fb.lt
 go_enter Tryz.func55,Tryz.ntmps55
 go_wp2_with fail
 refine (of_any G.t G.n G.s nn G.A G.len G.c ps w base HL.out (by have:=HL.out;omega) HR.out hb).mono ?_
 rintro e w1 ⟨A1,c1,rfl,hc1,ho1,hb1⟩
 rw [HJs.out] at ho1 hc1
 simp only [HJs.out,List.length_map] at ho1 hc1 ⊢
 have HO1:=Lib.hid ho1
 have HB1:=Lib.hid hb1
 have HF1:=Lib.hid (HF.out.bl hb1)
 clear ho1 hb1 k0 k1 k2 k3 kl
 go_wp2_with fail
 go_loopw [15] (fun i wr=>∃ (k:Nat) (vs':Nat→Value),k≤xs.length∧i=.int .i64 k∧Hid (Fil G base m (F.to vs') (Ch.puts f a (xs.take k)) wr)∧Hid (Tr m F vs' w1 wr)) (fun i _=>xs.length - (intOf i).toNat)
 case atStart=>exact ⟨0,F.vs,Nat.zero_le _,rfl,(by rw [List.take_zero,Ch.puts_nil];exact HF1.out),Tr.refl _ _ _⟩
 case round=>
  obtain ⟨k,vs',hk,rfl,HFk,HT⟩:=hrel
  by_cases hlt:k < xs.length
  ·have hik:(k:Int) < (xs.length:Int):=by omega
   have ho:=own_fr HO1.out HT.out.fr (fun q hq hown=>by have:=(HO1.out.lt q hq).1;have:=HLow.out q hown;omega)
   obtain ⟨b,off,hA,hbb,hcell⟩:=(rd_ownN ho).int (j:=k) (by rw [List.length_map];exact hlt)
   subst hA
   rw [List.getElem_map] at hcell
   obtain ⟨j,hx,hj⟩:=HJ.out xs[k] (List.getElem_mem hlt)
   rw [hx] at hcell
   simp only at hcell
   have HTk:Hid (xs.take (k + 1)=xs.take k ++ [⟨j,0,a⟩]):=by rw [← hx];exact take_snoc hlt
   have HPut:=Lib.hid (fput_any G base m (F.to vs') (Ch.puts f a (xs.take k)) a ⟨j,0,a⟩ wr HFk.out ha ⟨by show j < _;omega,by show 0 < _;omega,by show a < _;omega⟩ (by
    rw [Ch.puts_same]
    have h1:=adds_le (f.S a) (xs.take k)
    have h2:=HBl.out
    have h3:=HLs.out
    rw [List.length_take] at h1
    omega) (Nat.le_trans hb (Nat.le_trans HB1.out.size HT.out.fr.size)))
   clear ho hx
   go_wp2_with fail
   refine HPut.out.mono ?_
   rintro e w2 ⟨rfl,vs2,hf2,ht2⟩
   have HF2:Hid (Fil G base m (F.to vs2) (Ch.puts f a (xs.take (k + 1))) w2):=by
    rw [HTk.out,← Ch.puts_puts];exact hf2
   have HT2:Hid (Tr m F vs2 w1 w2):=HT.out.trans ht2.toTr
   clear hf2 ht2
   go_wp2_with fail
   go_roundw
   case rel=>exact ⟨k + 1,vs2,by omega,by go_num,HF2.out,HT2.out⟩
   case measure=>simp [intOf];omega
  ·have HFe:Hid (Fil G base m (F.to vs') (Ch.puts f a xs) wr):=by have h:=HFk.out;rw [List.take_of_length_le (by omega)] at h;exact h
   have hik:¬ (k:Int) < (xs.length:Int):=by omega
   go_wp2_with fail
   go_end0
   exact ⟨rfl,vs',HFe.out,Tr.ahead HB1.out HT.out⟩
end Go.Proofs.YtdfhhbncmdpoeaaGreat
namespace Go.Proofs.YtdfhhbncmdpoeaaGreat
open Go.RowKit
open Ch (St)
structure Old (m:Nat) (F:Fl) (f:St) (b0:Nat) (S0:List Ch.Im) (w:World):Prop where
 rd:Rd w w.heap.size (some ⟨b0,0,none⟩) (imRow S0)
 lt:b0 < w.heap.size
 why:(∃ i,i < m∧(F.vs i).ownBlock=some b0∧S0 <+: f.S i)∨¬ F.own m b0
section
variable {G:Fg} {base m:Nat} {F:Fl} {f:St} {w w':World} {b0:Nat} {S0:List Ch.Im}
theorem Old.bl (h:Old m F f b0 S0 w) (hb:Bl w w'):Old m F f b0 S0 w':=
 ⟨(h.rd.bl (Nat.le_refl _) hb).more hb.size,Nat.lt_of_lt_of_le h.lt hb.size,h.why⟩
theorem Old.same (h:Old m F f b0 S0 w) (e:w'.heap[b0]?=w.heap[b0]?) (hs:w.heap.size≤w'.heap.size):Rd w' w'.heap.size (some ⟨b0,0,none⟩) (imRow S0):=fun hn=>by
 obtain ⟨b,off,e1,hb,hc⟩:=h.rd hn
 refine ⟨b,off,e1,by omega,fun j u hu=>?_⟩
 injection e1 with e1
 injection e1 with e2 e3
 subst e2
 exact (World.cell?_of_block (a:=⟨b0,off + j,none⟩) e).trans (hc j u hu)
theorem Old.put (h:Old m F f b0 S0 w) (hF:Fil G base m F f w) {a:Nat} (ha:a < m) {x:Ch.Im} {vs':Nat→Value} (hF':Fil G base m (F.to vs') (Ch.puts f a [x]) w') (hT:PutT m F a vs' w w'):Old m (F.to vs') (Ch.puts f a [x]) b0 S0 w':=by
 have hsz:=hT.fr.size
 have hno:¬ (F.to vs').own m b0∨(∃ i,i < m∧(vs' i).ownBlock=some b0∧S0 <+: (Ch.puts f a [x]).S i):=by
  rcases h.why with ⟨i,hi,hv,hp⟩ | hn
  ·by_cases e:i=a
   ·subst e
    rcases hT.old b0 hv with h1 | h1
    ·exact .inr ⟨i,hi,h1,hp.trans (Ch.puts_pre f i i [x])⟩
    ·by_cases e2:(vs' i).ownBlock=some b0
     ·exact .inr ⟨i,hi,e2,hp.trans (Ch.puts_pre f i i [x])⟩
     ·left
      rintro ⟨c,hc,h3 | h3 | h3 | h3⟩
      ·obtain ⟨tc,ht,_⟩:=hF.trow
       exact ht.row (hF.rows i hi) (by decide) (by rw [hv,h3];rfl)
      ·exact MapS.row (hF.hmap c hc) (hF.rows i hi) (by rw [hv,h3];rfl)
      ·exact MapS.row (hF.emap c hc) (hF.rows i hi) (by rw [hv,h3];rfl)
      ·by_cases e3:c=i
       ·subst e3;exact e2 h3
       ·have h3:(vs' c).ownBlock=some b0:=h3
        rw [hT.oth c e3] at h3
        exact hF.apart c i hc hi e3 b0 h3 hv
   ·exact .inr ⟨i,hi,by rw [hT.oth i e];exact hv,hp.trans (Ch.puts_pre f a i [x])⟩
  ·left
   intro h1
   rcases hT.own h1 with h2 | h2
   ·exact hn h2
   ·have:=h.lt;omega
 refine ⟨?_,Nat.lt_of_lt_of_le h.lt hsz,hno.symm⟩
 rcases h.why with ⟨i,hi,hv,hp⟩ | hn
 ·by_cases e:i=a
  ·subst e
   rcases hT.old b0 hv with h1 | h1
   ·have hr:=hF'.rows i hi
    obtain ⟨A',c',hv',_⟩:=own_form hr
    have hv2:vs' i=.slice A' ((Ch.puts f i [x]).S i).length c':=hv'
    rw [hv'] at hr
    have hrd:=rd_ownN hr
    rw [hv2] at h1
    have hA:∃ s,A'=some ⟨b0,s,none⟩:=by
     rcases hr.2 with ⟨e1,_⟩ | ⟨g,cap,cur,e1,_⟩
     ·rw [e1] at h1;simp [Value.ownBlock] at h1
     ·injection e1 with e1
      rw [e1] at h1
      simp [Value.ownBlock] at h1
      rw [e1,h1];exact ⟨0,rfl⟩
    have hz:A'=some ⟨b0,0,none⟩:=by
     rcases hr.2 with ⟨e1,_⟩ | ⟨g,cap,cur,e1,_⟩
     ·rw [e1] at h1;simp [Value.ownBlock] at h1
     ·injection e1 with e1
      rw [e1] at h1
      simp [Value.ownBlock] at h1
      rw [e1,h1]
    rw [hz] at hrd
    exact rd_pre hrd (hp.trans (Ch.puts_pre f i i [x]))
   ·exact h.same h1 hsz
  ·refine h.same (hT.fine.block b0 h.lt ?_) hsz
   rintro (h3 | h3 | h3 | h3)
   ·obtain ⟨tc,ht,_⟩:=hF.trow
    exact ht.row (hF.rows i hi) (by decide) (by rw [hv,h3])
   ·exact MapS.row (hF.hmap a ha) (hF.rows i hi) (by rw [hv,h3])
   ·exact MapS.row (hF.emap a ha) (hF.rows i hi) (by rw [hv,h3])
   ·exact hF.apart i a hi ha e b0 hv h3
 ·exact h.same (hT.fr.block b0 h.lt hn) hsz
theorem Fil.es_apart (h:Fil G base m F f w) {a:Nat} (ha:a < m):F.f≠F.es a∧F.hb≠F.es a∧F.eb≠F.es a∧F.tb≠F.es a∧(∀ i k,i < m→(F.vs i).ownBlock=some k→k≠F.es a):=by
 have hm:=h.emap a ha
 refine ⟨fun e=>MapS.apart hm h.fb e.symm,fun e=>?_,fun e=>?_,fun e=>?_,fun i k hi hk e=>?_⟩
 ·obtain ⟨c,h1,_⟩:=h.hrow;exact MapS.apart hm h1 e.symm
 ·obtain ⟨c,h1,_⟩:=h.erow;exact MapS.apart hm h1 e.symm
 ·obtain ⟨c,h1,_⟩:=h.trow;exact MapS.apart hm h1 e.symm
 ·exact MapS.row hm (h.rows i hi) (hk.trans (by rw [e]))
theorem Fil.put_e (h:Fil G base m F f w) {a:Nat} (ha:a < m) {e:Int × Nat} (hf2:Fr (fun k=>k=F.es a) w w') (hm2:EMap w' (F.es a) (Kn.add (f.E a) e)):Fil G base m F ⟨f.S,Ch.upd f.E a (Kn.add (f.E a) e)⟩ w'∧Tr m F F.vs w w':=by
 obtain ⟨n1,n2,n3,n4,n5⟩:=h.es_apart ha
 refine ⟨{ h with fb:=h.fb.fr hf2 n1,hrow:=h.hrow.fr hf2 n2,erow:=h.erow.fr hf2 n3,trow:=h.trow.fr hf2 n4,rows:=fun i hi=>own_fr (h.rows i hi) hf2 fun k hk=>n5 i k hi hk,hmap:=fun i hi=>MapS.fr (h.hmap i hi) hf2 fun e=>h.hne i a hi ha e,emap:=fun i hi=>?_ },
  ⟨hf2.mono fun k _ e=>⟨a,ha,.inr (.inr (.inl e))⟩,fun _ _ _ h=>.inl h⟩⟩
 show EMap w' (F.es i) (Ch.upd f.E a (Kn.add (f.E a) e) i)
 by_cases e1:i=a
 ·subst e1;rw [Ch.upd_same];exact hm2
 ·rw [Ch.upd_other _ _ e1]
  exact MapS.fr (h.emap i hi) hf2 fun e2=>e1 (h.einj i a hi ha e2)
end
end Go.Proofs.YtdfhhbncmdpoeaaGreat
namespace Go.Proofs.YtdfhhbncmdpoeaaGreat
open Go.RowKit
open Ch (St)
theorem bl_store2 {w w':World} (h:Bl w w') {q:Nat} (hq:w.heap.size≤q) (u v:Value):Bl w ((w'.setCell ⟨q,0,none⟩ u).setCell ⟨q,1,none⟩ v):=
 (((Fr.of_bl (S:=fun k=>k=q) h).own 0 u).own 1 v).bl fun i hi e=>by omega
theorem lets_take {g:Gr.Gm} {n:Int} {l:List Ch.Im} {k:Nat} (h:k < l.length):Ch.lets g n (l.take (k + 1))=Ch.lets g n (l.take k) ++ (if Ch.wants g n l[k] then [Ch.behind l[k]] else []):=by
 rw [take_snoc h,Ch.lets_snoc]
theorem lets_le (g:Gr.Gm) (n:Int) (l:List Ch.Im):(Ch.lets g n l).length≤l.length:=by
 unfold Ch.lets
 rw [List.length_map]
 exact List.length_filter_le _ _
theorem Fil.cells6 {G:Fg} {base m:Nat} {F:Fl} {f:St} {w w2:World} {a b0:Nat} {x1:Int} {x2:Nat} (h:Fil G base m F f w) (ha:a < m) (hf:Fr (fun k=>k=F.es a) w w2) (hb:Bk w b0 163 #[.int .i64 x1,.int .i64 (x2:Int)]) :
  w2.cell? ⟨F.f,6,none⟩=some (.slice (some ⟨F.eb,0,none⟩) m F.ce)∧w2.cell? ⟨F.eb,a,none⟩=some (.map (some (F.es a)))∧w2.cell? ⟨b0,0,none⟩=some (.int .i64 x1)∧w2.cell? ⟨b0,1,none⟩=some (.int .i64 (x2:Int))∧F.f < w2.heap.size:=by
 obtain ⟨n1,_,n3,_⟩:=h.es_apart ha
 have h1:=h.fb.fr hf n1
 have h2:=h.erow.fr hf n3
 have h3:=hb.fr hf (fun e=>MapS.apart (h.emap a ha) hb e.symm)
 exact ⟨h1.cell 6,h2.cell ha,h3.cell 0,h3.cell 1,h1.lt⟩
theorem end_any (G:Fg) (ps:List Gr.Pr) (base m:Nat) (F:Fl) (f:St) (a:Nat) (x1:Int) (x2:Nat) (w:World) (h:Fil G base m F f w) (ha:a < m) (h2:x2 < m) (hm:m≤1000) (hlen:G.len=ps.length) (hr:Prs w base G.A ps) (hl:(f.S a).length≤200000) (hl2:(f.S x2).length≤200000)
  (hlE:(f.E a).length < 1000000) (he:0≤x1∧x1 < 1000000) (hy:∀ y ∈ f.S x2,imIn ⟨G.t,G.n,G.s,ps⟩ y∧imOk (Ch.behind y)) (hb:base≤w.heap.size) :
  Calls Tryz.prog 86 #[.pointer (some ⟨F.f,0,none⟩),.int .i64 (a:Int),.agg #[.int .i64 x1,.int .i64 (x2:Int)]] w (InP G base m F (Ch.endI ⟨G.t,G.n,G.s,ps⟩ f a (x1,x2)) w):=by
 have HX1:Hid (Bk (w.alloc (.cells #[.int .i64 x1,.int .i64 (x2:Int)] 163)) w.heap.size 163 #[.int .i64 x1,.int .i64 (x2:Int)]):=Bk.new w _ _
 have HB1:Hid (Bl w (w.alloc (.cells #[.int .i64 x1,.int .i64 (x2:Int)] 163))):=(Bl.refl w).alloc _
 have HF1:=Lib.hid (h.bl HB1.out)
 have HR:=Lib.hid (fun (vs':Nat→Value) (wx:World) (ht:Tr m F vs' w wx)=>hr.below (ht.under h (Below.refl _ _)))
 have HL:=Lib.hid hlen
 have HY:=Lib.hid hy
 have hEn:enOk (x1,x2):=⟨he.1,he.2,by show x2 < _;omega⟩
 have HEm:=Lib.hid (fun (wx:World) (hbx:Bl w wx)=>eput_any (F.es a) (f.E a) x1 x2 wx (MapS.bl (h.emap a ha) hbx) hEn hlE)
 have HLs:=Lib.hid hl;have HLs2:=Lib.hid hl2
 have ha0:(0:Int)≤(a:Int):=by omega
 have ha1:(a:Int) < (m:Int):=by omega
 have hc0:(0:Int)≤(x2:Int):=by omega
 have hc1:(x2:Int) < (m:Int):=by omega
 clear h hr hlen hy hEn hl hl2 hlE he
 go_enter Tryz.func86,Tryz.ntmps86
 go_wp2_with fail
 generalize w.alloc (.cells #[.int .i64 x1,.int .i64 (x2:Int)] 163)=w1 at *
 have HF1d:Hid (Fil G base m F f w1.drew):=HF1.out.bl (Bl.refl w1).drew
 have HX1d:=Lib.hid HX1.out.drew
 have hlf:F.f < w1.heap.size:=HF1.out.fb.lt
 have d5:w1.drew.cell? ⟨F.f,6,none⟩=some (.slice (some ⟨F.eb,0,none⟩) m F.ce):=HF1d.out.fb.cell 6
 have e5:w1.drew.cell? ⟨F.eb,a,none⟩=some (.map (some (F.es a))):=HF1d.out.erow.cell ha
 have y0:w1.drew.cell? ⟨w.heap.size,0,none⟩=some (.int .i64 x1):=HX1d.out.cell 0
 have y1:w1.drew.cell? ⟨w.heap.size,1,none⟩=some (.int .i64 (x2:Int)):=HX1d.out.cell 1
 have tk1:True:=trivial
 go_region_held3 (fun w'=>w'.cell? ⟨F.f,6,none⟩=some (.slice (some ⟨F.eb,0,none⟩) m F.ce)∧w'.cell? ⟨F.eb,a,none⟩=some (.map (some (F.es a)))∧w'.cell? ⟨w.heap.size,0,none⟩=some (.int .i64 x1)∧w'.cell? ⟨w.heap.size,1,none⟩=some (.int .i64 (x2:Int))∧F.f < w'.heap.size)
  (first | exact ⟨d5,e5,y0,y1,hlf⟩ | exact HP2.out) (first
  | (go_at_call 108;have _t:=tk1;((with_reducible refine (HEm.out _ HB1.out.drew).mono ?_);rintro e v2 ⟨rfl,hm2,hf2⟩;have HM2:=Lib.hid hm2;have HF2:=Lib.hid hf2;have HP2:=Lib.hid (HF1d.out.cells6 ha hf2 HX1d.out);clear tk1 hm2 hf2))
  | fail)
 rename_i hHeld
 clear hHeld d5 e5 y0 y1 hlf
 obtain ⟨hFe,hTe⟩:=HF1d.out.put_e ha HF2.out HM2.out
 have HFe:=Lib.hid hFe
 have HTe:Hid (Tr m F F.vs w v2):=hTe.ahead HB1.out.drew
 have HX2:=Lib.hid (HX1d.out.fr HF2.out (fun e=>MapS.apart (HF1d.out.emap a ha) HX1d.out e.symm))
 clear hFe hTe HP2 HF2 HM2 HX1 HX1d HF1 HF1d HEm
 by_cases hin:(x1,x2) ∈ f.E a
 ·have hd:=newB_no hin
  have HRes:Hid (InP G base m F (Ch.endI ⟨G.t,G.n,G.s,ps⟩ f a (x1,x2)) w (.returned (.tuple #[])) v2):=by
   refine ⟨rfl,F.vs,?_,HTe.out⟩
   unfold Ch.endI
   rw [if_pos hin]
   have h:=HFe.out
   unfold Kn.add at h
   rw [if_pos hin,Ch.upd_self] at h
   exact h
  clear hin
  rw [hd]
  go_wp2_with fail
  go_end0
  exact HRes.out
 ·have hd:=newB_yes hin
  have HEi:Hid (Ch.endI ⟨G.t,G.n,G.s,ps⟩ f a (x1,x2)=Ch.puts ⟨f.S,Ch.upd f.E a (Kn.add (f.E a) (x1,x2))⟩ a (Ch.lets ⟨G.t,G.n,G.s,ps⟩ x1 (f.S x2))):=by
   show Ch.endI _ _ _ _=_
   unfold Ch.endI Kn.add
   rw [if_neg hin,if_neg hin]
  clear hin
  generalize hEa:Ch.upd f.E a (Kn.add (f.E a) (x1,x2))=Ea at *
  clear hEa
  rw [hd,Bool.not_true]
  go_upto_region 2 with fail
  obtain ⟨A0,c0,hv0,hcv0⟩:=own_form (HFe.out.rows x2 h2)
  have HV0:=Lib.hid hv0
  have f7:v2.cell? ⟨F.f,7,none⟩=some (.slice (some ⟨F.tb,0,none⟩) m m):=HFe.out.fb.cell 7
  have f8:v2.cell? ⟨F.tb,x2,none⟩=some (.slice A0 (f.S x2).length c0):=by have h:v2.cell? ⟨F.tb,x2,none⟩=some (F.vs x2):=HFe.out.trow.cell h2;rw [hv0] at h;exact h
  have z1:v2.cell? ⟨w.heap.size,1,none⟩=some (.int .i64 (x2:Int)):=HX2.out.cell 1
  have hlf:F.f < v2.heap.size:=HFe.out.fb.lt
  clear hv0
  go_quiet (fail)
  clear f7 f8 z1
  have HF3:=Lib.hid (HFe.out.bl ((Bl.refl v2).drewN nq))
  have HT3:Hid (Tr m F F.vs w (v2.drewN nq)):=HTe.out.after ((Bl.refl v2).drewN nq)
  have HX3:=Lib.hid (HX2.out.drewN nq)
  have HO3:Hid (∀ y,y ∈ f.S x2→∃ b0,A0=some ⟨b0,0,none⟩∧Old m F ⟨f.S,Ea⟩ b0 (f.S x2) (v2.drewN nq)):=fun y hy=>by
   have ho:=HFe.out.rows x2 h2
   have hpos:0 < (f.S x2).length:=List.length_pos_of_mem hy
   rcases ho.2 with ⟨_,h0⟩ | ⟨g,cap,cur,hvg,_⟩
   ·exact absurd (show (f.S x2).length=0 from h0) (by omega)
   ·have e:=HV0.out.symm.trans hvg
    injection e with e
    have hob:(F.vs x2).ownBlock=some g:=by rw [hvg];rfl
    rw [hvg] at ho
    exact ⟨g,e,⟨rd_ownN ho,(ho.lt g rfl).2,.inl ⟨x2,h2,hob,List.prefix_refl _⟩⟩⟩
  clear HFe HTe HX2 HV0 hcv0 hlf
  generalize v2.drewN nq=v3 at *
  generalize hS0:f.S x2=S0 at *
  clear hS0
  have hS0l:S0.length≤200000:=HLs2.out
  go_wp2_with fail
  go_loopw [29] (fun i wr=>∃ (k:Nat) (vs':Nat→Value),k≤S0.length∧i=.int .i64 k∧Hid (Fil G base m (F.to vs') (Ch.puts ⟨f.S,Ea⟩ a (Ch.lets ⟨G.t,G.n,G.s,ps⟩ x1 (S0.take k))) wr)∧Hid (Tr m F vs' w wr)∧
   Hid (∀ y,y ∈ S0→∃ b0,A0=some ⟨b0,0,none⟩∧Old m (F.to vs') (Ch.puts ⟨f.S,Ea⟩ a (Ch.lets ⟨G.t,G.n,G.s,ps⟩ x1 (S0.take k))) b0 S0 wr)∧Hid (Bk wr w.heap.size 163 #[.int .i64 x1,.int .i64 (x2:Int)])) (fun i _=>S0.length - (intOf i).toNat)
  case atStart=>exact ⟨0,F.vs,Nat.zero_le _,rfl,(by rw [List.take_zero];show Fil G base m F (Ch.puts _ a []) v3;rw [Ch.puts_nil];exact HF3.out),HT3.out,(by rw [List.take_zero];show ∀ y,y ∈ S0→∃ b0,A0=some ⟨b0,0,none⟩∧Old m F (Ch.puts _ a []) b0 S0 v3;rw [Ch.puts_nil];exact HO3.out),HX3.out⟩
  case round=>
   obtain ⟨k,vs',hk,rfl,HFk,HT,HO,HX⟩:=hrel
   by_cases hlt:k < S0.length
   ·have hik:(k:Int) < (S0.length:Int):=by omega
    have hmem:=List.getElem_mem hlt
    obtain ⟨b0,rfl,hold⟩:=HO.out _ hmem
    obtain ⟨b,off,hA,hbb,c0,c1,c2⟩:=hold.rd.item hlt
    injection hA with hA
    injection hA with hA1 hA2
    subst hA1 hA2
    have HWn:=Lib.hid (lets_take (g:=⟨G.t,G.n,G.s,ps⟩) (n:=x1) hlt)
    have HYy:=Lib.hid (HY.out _ hmem)
    have HOld:=Lib.hid hold
    clear hmem hold hbb HO
    generalize S0[k]=y at *
    obtain ⟨yp,yd,yf⟩:=y
    simp only [Nat.zero_add] at c0 c1 c2
    have HNx:=Lib.hid (fun (wx:World) (hbx:Bl wr wx)=>next_at G.t G.n G.s G.A G.len G.c ps ⟨yp,yd,yf⟩ wx base HL.out (HR.out vs' wx (HT.out.after hbx)) (Nat.le_trans hb (Nat.le_trans HT.out.fr.size hbx.size)) HYy.out.1)
    have HSy:Hid (Ch.symAt ⟨G.t,G.n,G.s,ps⟩ ⟨yp,yd,yf⟩=if (Ch.symAt ⟨G.t,G.n,G.s,ps⟩ ⟨yp,yd,yf⟩).isSome=true then some (nxt ⟨G.t,G.n,G.s,ps⟩ ⟨yp,yd,yf⟩) else none):=by
     show _=_
     split
     ·rename_i e;exact nxt_some e
     ·rename_i e;exact nxt_none (by simpa using e)
    generalize (Ch.symAt ⟨G.t,G.n,G.s,ps⟩ ⟨yp,yd,yf⟩).isSome=ib at HNx HSy
    generalize nxt ⟨G.t,G.n,G.s,ps⟩ ⟨yp,yd,yf⟩=nx at HNx HSy
    obtain ⟨yb,yn⟩:=nx
    have HX7:Hid (Bk (wr.alloc (.cells #[.int .i64 (yp:Int),.int .i64 (yd:Int),.int .i64 (yf:Int)] 44)) wr.heap.size 44 #[.int .i64 (yp:Int),.int .i64 (yd:Int),.int .i64 (yf:Int)]):=Bk.new wr _ _
    have HB4:Hid (Bl wr (wr.alloc (.cells #[.int .i64 (yp:Int),.int .i64 (yd:Int),.int .i64 (yf:Int)] 44))):=(Bl.refl wr).alloc _
    have HPx:Hid (∀ wx,Bl (wr.alloc (.cells #[.int .i64 (yp:Int),.int .i64 (yd:Int),.int .i64 (yf:Int)] 44)) wx→wx.cell? ⟨F.f,0,none⟩=some (.int .i64 G.t)∧wx.cell? ⟨F.f,1,none⟩=some (.int .i64 G.n)∧wx.cell? ⟨F.f,2,none⟩=some (.int .i64 G.s)∧wx.cell? ⟨F.f,3,none⟩=some (.slice G.A G.len G.c)∧wx.cell? ⟨wr.heap.size,0,none⟩=some (.int .i64 (yp:Int))∧wx.cell? ⟨wr.heap.size,1,none⟩=some (.int .i64 (yd:Int))∧wx.cell? ⟨wr.heap.size,2,none⟩=some (.int .i64 (yf:Int))∧F.f < wx.heap.size):=fun wx hbx=>by
     have h1:=(HFk.out.bl (HB4.out.trans hbx)).fb
     have h2:=HX7.out.bl hbx
     exact ⟨h1.cell 0,h1.cell 1,h1.cell 2,h1.cell 3,h2.cell 0,h2.cell 1,h2.cell 2,h1.lt⟩
    have hb0l:b0 < wr.heap.size:=HOld.out.lt
    go_upto_region 5 with fail
    generalize (wr.alloc (.cells #[.int .i64 (yp:Int),.int .i64 (yd:Int),.int .i64 (yf:Int)] 44))=w4 at *
    clear c0 c1 c2 hb0l
    go_cut [8,9] (fun s8 s9 wx=>∃ q:Nat,s8=.pointer (some ⟨q,0,none⟩)∧s9=.bool ib∧Hid (Bk wx q 39 #[.bool yb,.int .i64 yn])∧Hid (Bl w4 wx))
    case first=>
     have HQ4:Hid (Bk (w4.alloc (.cells #[.bool false,.int .i64 0] 39)).drew w4.heap.size 39 #[.bool false,.int .i64 0]):=(Bk.new w4 _ _).drew
     have HBd:Hid (Bl w4 w4.drew):=(Bl.refl w4).drew
     have HBa:Hid (Bl w4 (w4.alloc (.cells #[.bool false,.int .i64 0] 39)).drew):=((Bl.refl w4).alloc _).drew
     have tk2:True:=trivial
     go_region_held3 (fun wx=>wx.cell? ⟨F.f,0,none⟩=some (.int .i64 G.t)∧wx.cell? ⟨F.f,1,none⟩=some (.int .i64 G.n)∧wx.cell? ⟨F.f,2,none⟩=some (.int .i64 G.s)∧wx.cell? ⟨F.f,3,none⟩=some (.slice G.A G.len G.c)∧wx.cell? ⟨wr.heap.size,0,none⟩=some (.int .i64 (yp:Int))∧wx.cell? ⟨wr.heap.size,1,none⟩=some (.int .i64 (yd:Int))∧wx.cell? ⟨wr.heap.size,2,none⟩=some (.int .i64 (yf:Int))∧F.f < wx.heap.size) (first | exact HPx.out _ HBd.out | exact HPx.out _ HBa.out | exact HPx.out _ HB5.out | exact HPx.out _ (HB5.out.alloc _) | exact HPx.out _ (bl_store2 HB5.out (by omega) _ _) | exact HPx.out _ (bl_store2 (HB5.out.alloc _) (by have h:=HB5.out.size;omega) _ _)) (first
      | (go_at_call 85;have _t:=tk2;((with_reducible refine (HNx.out _ (HB4.out.trans HBd.out)).mono ?_);rintro e v5 ⟨rfl,hb5⟩;have HB5:=Lib.hid (HBd.out.trans hb5);clear tk2 hb5))
      | (go_at_call 85;have _t:=tk2;((with_reducible refine (HNx.out _ (HB4.out.trans HBa.out)).mono ?_);rintro e v5 ⟨rfl,hb5⟩;have HB5:=Lib.hid (HBa.out.trans hb5);have HQ5:=Lib.hid (HQ4.out.bl hb5);have s50:v5.cell? ⟨w4.heap.size,0,none⟩=some (.bool false):=HQ5.out.cell 0;have s51:v5.cell? ⟨w4.heap.size,1,none⟩=some (.int .i64 0):=HQ5.out.cell 1;have f50:v5.frozen? ⟨w4.heap.size,0,none⟩=false:=HQ5.out.free 0;have f51:v5.frozen? ⟨w4.heap.size,1,none⟩=false:=HQ5.out.free 1;have l5:w4.heap.size < v5.heap.size:=HQ5.out.lt;clear tk2 hb5))
      | fail)
     all_goals
      go_wp2_with fail
      go_meet
      first
       | exact ⟨_,rfl,rfl,(HQ5.out.put 0 _).put 1 _,bl_store2 HB5.out (by omega) _ _⟩
       | exact ⟨_,rfl,rfl,Bk.new v5 _ _,HB5.out.alloc _⟩
    case rest=>
     obtain ⟨q,rfl,rfl,HQ,HB6⟩:=hcut
     have HBw:=Lib.hid (HB4.out.trans HB6.out)
     have HF6:=Lib.hid (HFk.out.bl HBw.out)
     have HT6:=Lib.hid (HT.out.after HBw.out)
     have HO6:=Lib.hid (HOld.out.bl HBw.out)
     have HX6:=Lib.hid (HX.out.bl HBw.out)
     have HI6:=Lib.hid (HX7.out.bl HB6.out)
     have HNo:Hid (Ch.wants ⟨G.t,G.n,G.s,ps⟩ x1 ⟨yp,yd,yf⟩=false→Ch.lets ⟨G.t,G.n,G.s,ps⟩ x1 (S0.take (k + 1))=Ch.lets ⟨G.t,G.n,G.s,ps⟩ x1 (S0.take k)):=fun e=>by rw [HWn.out,if_neg (by rw [e];simp),List.append_nil]
     have HYes:Hid (Ch.wants ⟨G.t,G.n,G.s,ps⟩ x1 ⟨yp,yd,yf⟩=true→Ch.lets ⟨G.t,G.n,G.s,ps⟩ x1 (S0.take (k + 1))=Ch.lets ⟨G.t,G.n,G.s,ps⟩ x1 (S0.take k) ++ [⟨yp,yd + 1,yf⟩]):=fun e=>by rw [HWn.out,if_pos e];rfl
     have q0:wc.cell? ⟨q,0,none⟩=some (.bool yb):=HQ.out.cell 0
     have q1:wc.cell? ⟨q,1,none⟩=some (.int .i64 yn):=HQ.out.cell 1
     have ql:q < wc.heap.size:=HQ.out.lt
     have e0:wc.cell? ⟨w.heap.size,0,none⟩=some (.int .i64 x1):=HX6.out.cell 0
     have el:w.heap.size < wc.heap.size:=HX6.out.lt
     have i0:wc.cell? ⟨wr.heap.size,0,none⟩=some (.int .i64 (yp:Int)):=HI6.out.cell 0
     have i1:wc.cell? ⟨wr.heap.size,1,none⟩=some (.int .i64 (yd:Int)):=HI6.out.cell 1
     have i2:wc.cell? ⟨wr.heap.size,2,none⟩=some (.int .i64 (yf:Int)):=HI6.out.cell 2
     have il:wr.heap.size < wc.heap.size:=HI6.out.lt
     clear HNx HPx HB4 HX7 HX HOld HWn
     cases ib with
     | false=>
      have HE:=Lib.hid (HNo.out (by unfold Ch.wants;rw [HSy.out];rfl))
      go_wp2_with fail
      go_roundw
      case rel=>exact ⟨k + 1,vs',by omega,by go_num,(by rw [HE.out];exact HF6.out),HT6.out,(fun y _=>⟨b0,rfl,by rw [HE.out];exact HO6.out⟩),HX6.out⟩
      case measure=>simp [intOf];omega
     | true=>
      cases yb with
      | false=>
       have HE:=Lib.hid (HNo.out (by unfold Ch.wants;rw [HSy.out];rfl))
       go_wp2_with fail
       go_roundw
       case rel=>exact ⟨k + 1,vs',by omega,by go_num,(by rw [HE.out];exact HF6.out),HT6.out,(fun y _=>⟨b0,rfl,by rw [HE.out];exact HO6.out⟩),HX6.out⟩
       case measure=>simp [intOf];omega
      | true=>
       by_cases hn:yn=x1
       ·subst hn
        have HE:=Lib.hid (HYes.out (by unfold Ch.wants;rw [HSy.out];simp))
        have HBe:=Lib.hid (fun (wx:World)=>behind_any yp yd yf wx (by have h:=HYy.out.2.2.1;show yd < _;have h2:yd + 1 < 1000000:=h;omega))
        go_wp2_with fail
        refine (HBe.out _).mono ?_
        rintro e w7 ⟨rfl,hb7⟩
        have HF7:=Lib.hid (HF6.out.bl hb7)
        have HT7:=Lib.hid (HT6.out.after hb7)
        have HO7:=Lib.hid (HO6.out.bl hb7)
        have HX7:=Lib.hid (HX6.out.bl hb7)
        have HPut:=Lib.hid (fput_any G base m (F.to vs') (Ch.puts ⟨f.S,Ea⟩ a (Ch.lets ⟨G.t,G.n,G.s,ps⟩ yn (S0.take k))) a ⟨yp,yd + 1,yf⟩ w7 HF7.out ha HYy.out.2 (by
         rw [Ch.puts_same]
         have h1:=adds_le (f.S a) (Ch.lets ⟨G.t,G.n,G.s,ps⟩ yn (S0.take k))
         have h2:=lets_le ⟨G.t,G.n,G.s,ps⟩ yn (S0.take k)
         have h3:=HLs.out
         have h4:=HLs2.out
         rw [List.length_take] at h2
         show (Kn.adds (f.S a) _).length < _
         omega) (Nat.le_trans hb HT7.out.fr.size))
        clear q0 q1 ql e0 el i0 i1 i2 il HF6 HT6 HO6 HX6 HQ HI6 hb7
        go_wp2_with fail
        refine HPut.out.mono ?_
        rintro e w8 ⟨rfl,vs8,hf8,ht8⟩
        have HF8:Hid (Fil G base m (F.to vs8) (Ch.puts ⟨f.S,Ea⟩ a (Ch.lets ⟨G.t,G.n,G.s,ps⟩ yn (S0.take (k + 1)))) w8):=by
         rw [HE.out,← Ch.puts_puts];exact hf8
        have HT8:Hid (Tr m F vs8 w w8):=HT7.out.trans ht8.toTr
        have HO8:Hid (Old m (F.to vs8) (Ch.puts ⟨f.S,Ea⟩ a (Ch.lets ⟨G.t,G.n,G.s,ps⟩ yn (S0.take (k + 1)))) b0 S0 w8):=by
         rw [HE.out,← Ch.puts_puts];exact HO7.out.put HF7.out ha hf8 ht8
        have HX8:=Lib.hid (HX7.out.fr ht8.fr (HF7.out.notown HX7.out (by decide) (by decide)))
        clear hf8 ht8
        go_wp2_with fail
        go_roundw
        case rel=>exact ⟨k + 1,vs8,by omega,by go_num,HF8.out,HT8.out,(fun y _=>⟨b0,rfl,HO8.out⟩),HX8.out⟩
        case measure=>simp [intOf];omega
       ·have hq:(yn == x1)=false:=beq_eq_false_iff_ne.2 hn
        have HE:=Lib.hid (HNo.out (by unfold Ch.wants;rw [HSy.out];simp [hn]))
        clear hn
        go_wp2_with fail
        go_roundw
        case rel=>exact ⟨k + 1,vs',by omega,by go_num,(by rw [HE.out];exact HF6.out),HT6.out,(fun y _=>⟨b0,rfl,by rw [HE.out];exact HO6.out⟩),HX6.out⟩
        case measure=>simp [intOf];omega
   ·have hik:¬ (k:Int) < (S0.length:Int):=by omega
    have HRes:Hid (InP G base m F (Ch.endI ⟨G.t,G.n,G.s,ps⟩ f a (x1,x2)) w (.returned (.tuple #[])) wr):=by
     refine ⟨rfl,vs',?_,HT.out⟩
     rw [HEi.out]
     have h:=HFk.out
     rw [List.take_of_length_le (by omega)] at h
     exact h
    go_wp2_with fail
    go_end0
    exact HRes.out
end Go.Proofs.YtdfhhbncmdpoeaaGreat
