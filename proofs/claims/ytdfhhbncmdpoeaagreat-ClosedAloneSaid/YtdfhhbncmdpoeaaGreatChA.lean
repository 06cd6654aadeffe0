/- kept.put, of items and of what ended. -/
import Derived.Test.YtdfhhbncmdpoeaaGreatItemA
set_option maxRecDepth 100000
set_option maxHeartbeats 1000000
namespace Go.Proofs.YtdfhhbncmdpoeaaGreat
open Go.RowKit
open Go.Maps (Keyed)
theorem en_row:(163:TypeId) < Tryz.prog.types.size:=of_decide_eq_true (by kernel_rfl)
theorem en_wide:(match Tryz.prog.underlying 163 with | some (.array _ _) | some (.struct _)=>true | _=>false)=true:=by rw [Tryz.underlying163]
theorem en_law:Keyed Tryz.prog 163:=Keyed.of_law (deep_law_laid ch_laid (m:=2) (by omega) en_row (by kernel_rfl) en_wide)
theorem en_cells:Tryz.prog.cellsOf 163=2:=by kernel_rfl
theorem en_keyType:Tryz.prog.keyType 163=true:=by kernel_rfl
def env (x:Int × Nat):Value:=.agg #[.int .i64 x.1,.int .i64 (x.2:Int)]
def enKey (x:Int × Nat):Lit:=.string (keyBytes [.int .i64 x.1,.int .i64 (x.2:Int)])
def enOk (x:Int × Nat):Prop:=0≤x.1∧x.1 < 1000000∧x.2 < 1000000
theorem key_ended {x:Int × Nat} (h:enOk x):keyOf Tryz.prog 163 (env x)=some (enKey x):=by
 obtain ⟨m,hm⟩:∃ m,Tryz.prog.types.size=m + 1:=⟨Tryz.prog.types.size - 1,by
  have:0 < Tryz.prog.types.size:=of_decide_eq_true (by kernel_rfl)
  omega⟩
 have w1:=wf_ch h.1 h.2.1
 have w2:=wf_ch (n:=(x.2:Int)) (by omega) (by have:=h.2.2;omega)
 unfold keyOf env
 simp only [Tryz.underlying163]
 rw [if_pos (by simp [en_keyType,Value.formed,Tryz.underlying163,en_cells]),hm]
 unfold Program.keyLits
 simp only [Tryz.underlying163,Value.cells]
 simp [en_cells,im_int,Program.keyLits,Tryz.underlying3,w1,w2,enKey]
theorem enKey_inj {x y:Int × Nat} (hx:enOk x) (hy:enOk y) (h:enKey x=enKey y):x=y:=by
 have h2:=key_ended hy
 rw [← h] at h2
 have e:=en_law.inj (key_ended hx) h2
 unfold env at e
 injection e with e
 injection e with e
 obtain ⟨x1,x2⟩:=x
 obtain ⟨y1,y2⟩:=y
 simp at e
 rw [show x1=y1 by omega,show x2=y2 by omega]
def EMap (w:World) (b:Nat) (l:List (Int × Nat)):Prop:=MapS 163 enKey enOk w b l
theorem iput_any (b:Nat) (l:List Ch.Im) (x:Ch.Im) (w:World) (h:IMap w b l) (hx:imOk x) (hl:l.length < 1000000) :
  Calls Tryz.prog 107 #[.map (some b),.agg #[.int .i64 (x.prod:Int),.int .i64 (x.dot:Int),.int .i64 (x.frm:Int)]] w fun e w'=>e=.returned (.bool (newB l x))∧IMap w' b (Kn.add l x)∧Fr (fun k=>k=b) w w':=by
 have HK:=Lib.hid (key_item hx)
 have H1:Hid (IMap (w.alloc (.cells #[.int .i64 (x.prod:Int),.int .i64 (x.dot:Int),.int .i64 (x.frm:Int)] 44)) b l):=MapS.bl h ((Bl.refl w).alloc _)
 have HF:Hid (Fr (fun k=>k=b) w (w.alloc (.cells #[.int .i64 (x.prod:Int),.int .i64 (x.dot:Int),.int .i64 (x.frm:Int)] 44))):=(Fr.refl _ w).alloc _
 have HB:=Lib.hid (Bk.new w 44 #[.int .i64 (x.prod:Int),.int .i64 (x.dot:Int),.int .i64 (x.frm:Int)])
 have hml:l.length < maxLen:=by simp only [maxLen];omega
 clear h
 by_cases hm:x ∈ l
 ·have HM:=Lib.hid hm
  have HQ:Hid (newB l x=false):=newB_no hm
  have HA:Hid (Kn.add l x=l):=by show Kn.add l x=l;unfold Kn.add;rw [if_pos hm]
  clear hm
  go_enter Tryz.func107,Tryz.ntmps107
  go_wp2_with (at_lookup;refine wpList_lookS_yes rfl (.tmp 5) (.tmp 6) 109 rfl H1.out im_law Tryz.underlying109 x hx HM.out rfl HK.out ?_)
  go_ret
  exact ⟨by rw [HQ.out];rfl,by rw [HA.out];exact H1.out,HF.out⟩
 ·skip
  have HM:=Lib.hid hm
  have HQ:Hid (newB l x=true):=newB_yes hm
  have HA:Hid (Kn.add l x=l ++ [x]):=by show Kn.add l x=l ++ [x];unfold Kn.add;rw [if_neg hm]
  clear hm
  go_enter Tryz.func107,Tryz.ntmps107
  go_wp2_with (first
   | (at_lookup;refine wpList_lookS_no rfl (.tmp 5) (.tmp 6) 109 rfl H1.out im_law Tryz.underlying109 x hx HM.out rfl HK.out ?_)
   | (at_mapUpdate;refine wpList_storeS rfl (.tmp 8) (.tmp 9) (.const (.bool true)) 109 rfl H1.out im_law Tryz.underlying109 hml x hx HM.out rfl HK.out rfl (fun z hz e=>imKey_inj hz hx e) trivial ?_;intro w5 hk5 hg5;have HK5:=Lib.hid hk5;have HF5:=Lib.hid (HF.out.grown hg5 (fun k hk _=>by injection hk with hk;exact hk.symm));clear hk5 hg5))
  go_ret
  exact ⟨by rw [HQ.out];rfl,by rw [HA.out];exact HK5.out,HF5.out⟩
theorem eput_any (b:Nat) (l:List (Int × Nat)) (x1:Int) (x2:Nat) (w:World) (h:EMap w b l) (hx:enOk (x1,x2)) (hl:l.length < 1000000) :
  Calls Tryz.prog 108 #[.map (some b),.agg #[.int .i64 x1,.int .i64 (x2:Int)]] w fun e w'=>e=.returned (.bool (newB l (x1,x2)))∧EMap w' b (Kn.add l (x1,x2))∧Fr (fun k=>k=b) w w':=by
 have HK:=Lib.hid (key_ended hx)
 have H1:Hid (EMap (w.alloc (.cells #[.int .i64 x1,.int .i64 (x2:Int)] 163)) b l):=MapS.bl h ((Bl.refl w).alloc _)
 have HF:Hid (Fr (fun k=>k=b) w (w.alloc (.cells #[.int .i64 x1,.int .i64 (x2:Int)] 163))):=(Fr.refl _ w).alloc _
 have HB:=Lib.hid (Bk.new w 163 #[.int .i64 x1,.int .i64 (x2:Int)])
 have hml:l.length < maxLen:=by simp only [maxLen];omega
 clear h
 by_cases hm:(x1,x2) ∈ l
 ·have HM:=Lib.hid hm
  have HQ:Hid (newB l (x1,x2)=false):=newB_no hm
  have HA:Hid (Kn.add l (x1,x2)=l):=by show Kn.add l (x1,x2)=l;unfold Kn.add;rw [if_pos hm]
  clear hm
  go_enter Tryz.func108,Tryz.ntmps108
  go_wp2_with (at_lookup;refine wpList_lookS_yes rfl (.tmp 5) (.tmp 6) 111 rfl H1.out en_law Tryz.underlying111 (x1,x2) hx HM.out rfl HK.out ?_)
  go_ret
  exact ⟨by rw [HQ.out];rfl,by rw [HA.out];exact H1.out,HF.out⟩
 ·skip
  have HM:=Lib.hid hm
  have HQ:Hid (newB l (x1,x2)=true):=newB_yes hm
  have HA:Hid (Kn.add l (x1,x2)=l ++ [(x1,x2)]):=by show Kn.add l (x1,x2)=l ++ [(x1,x2)];unfold Kn.add;rw [if_neg hm]
  clear hm
  go_enter Tryz.func108,Tryz.ntmps108
  go_wp2_with (first
   | (at_lookup;refine wpList_lookS_no rfl (.tmp 5) (.tmp 6) 111 rfl H1.out en_law Tryz.underlying111 (x1,x2) hx HM.out rfl HK.out ?_)
   | (at_mapUpdate;refine wpList_storeS rfl (.tmp 8) (.tmp 9) (.const (.bool true)) 111 rfl H1.out en_law Tryz.underlying111 hml (x1,x2) hx HM.out rfl HK.out rfl (fun z hz e=>enKey_inj hz hx e) trivial ?_;intro w5 hk5 hg5;have HK5:=Lib.hid hk5;have HF5:=Lib.hid (HF.out.grown hg5 (fun k hk _=>by injection hk with hk;exact hk.symm));clear hk5 hg5))
  go_ret
  exact ⟨by rw [HQ.out];rfl,by rw [HA.out];exact HK5.out,HF5.out⟩
end Go.Proofs.YtdfhhbncmdpoeaaGreat
namespace Go.Proofs.YtdfhhbncmdpoeaaGreat
open Go.RowKit
open Ch (St)
structure Fl where
 f:Nat
 hb:Nat
 ch:Nat
 eb:Nat
 ce:Nat
 tb:Nat
 hs:Nat→Nat
 es:Nat→Nat
 vs:Nat→Value
def Fl.at_ (F:Fl) (a k:Nat):Prop:=k=F.tb∨k=F.hs a∨k=F.es a∨(F.vs a).ownBlock=some k
def Fl.own (F:Fl) (m k:Nat):Prop:=∃ a,a < m∧F.at_ a k
structure Fg where
 t:Int
 n:Int
 s:Int
 A:Option Addr
 len:Nat
 c:Nat
 Aw:Option Addr
 lw:Nat
 cw:Nat
def fcells (G:Fg) (F:Fl) (m:Nat):Array Value:=#[.int .i64 G.t,.int .i64 G.n,.int .i64 G.s,.slice G.A G.len G.c,.slice G.Aw G.lw G.cw,.slice (some ⟨F.hb,0,none⟩) m F.ch,.slice (some ⟨F.eb,0,none⟩) m F.ce,.slice (some ⟨F.tb,0,none⟩) m m]
structure Fil (G:Fg) (base m:Nat) (F:Fl) (f:St) (w:World):Prop where
 fb:Bk w F.f 68 (fcells G F m)
 hrow:Wv 109 w F.hb m (fun i=>.map (some (F.hs i)))
 erow:Wv 111 w F.eb m (fun i=>.map (some (F.es i)))
 trow:Wv 45 w F.tb m F.vs
 rows:∀ i,i < m→w.ownsRow base 44 3 (F.vs i) (f.S i).length (imRow (f.S i))
 apart:∀ i j,i < m→j < m→i≠j→∀ k,(F.vs i).ownBlock=some k→(F.vs j).ownBlock≠some k
 hmap:∀ i,i < m→IMap w (F.hs i) (f.S i)
 emap:∀ i,i < m→EMap w (F.es i) (f.E i)
 hinj:∀ i j,i < m→j < m→F.hs i=F.hs j→i=j
 einj:∀ i j,i < m→j < m→F.es i=F.es j→i=j
 hne:∀ i j,i < m→j < m→F.hs i≠F.es j
 low:base≤F.f∧base≤F.hb∧base≤F.eb∧base≤F.tb
 lowm:∀ i,i < m→base≤F.hs i∧base≤F.es i
section
variable {G:Fg} {base m:Nat} {F:Fl} {f:St} {w w':World}
theorem Fil.fr {S:Nat→Prop} (h:Fil G base m F f w) (hf:Fr S w w') (h0:¬ S F.f) (h1:¬ S F.hb) (h2:¬ S F.eb) (h3:¬ S F.tb) (h4:∀ i,i < m→¬ S (F.hs i)∧¬ S (F.es i)) (h5:∀ i k,i < m→(F.vs i).ownBlock=some k→¬ S k):Fil G base m F f w':=
 { h with
  fb:=h.fb.fr hf h0
  hrow:=h.hrow.fr hf h1
  erow:=h.erow.fr hf h2
  trow:=h.trow.fr hf h3
  rows:=fun i hi=>own_fr (h.rows i hi) hf fun k hk=>h5 i k hi hk
  hmap:=fun i hi=>MapS.fr (h.hmap i hi) hf (h4 i hi).1
  emap:=fun i hi=>MapS.fr (h.emap i hi) hf (h4 i hi).2 }
theorem Fil.bl (h:Fil G base m F f w) (hb:Bl w w'):Fil G base m F f w':=
 h.fr (S:=fun _=>False) (Fr.of_bl hb) (fun h=>h) (fun h=>h) (fun h=>h) (fun h=>h) (fun _ _=>⟨fun h=>h,fun h=>h⟩) (fun _ _ _ _ h=>h)
theorem Fil.lt (h:Fil G base m F f w) {k:Nat} (hk:F.own m k):base≤k∧k < w.heap.size:=by
 obtain ⟨a,ha,h1 | h1 | h1 | h1⟩:=hk
 ·subst h1;exact ⟨h.low.2.2.2,h.trow.lt⟩
 ·subst h1;exact ⟨(h.lowm a ha).1,MapS.lt (h.hmap a ha)⟩
 ·subst h1;exact ⟨(h.lowm a ha).2,MapS.lt (h.emap a ha)⟩
 ·exact (h.rows a ha).lt k h1
theorem Fil.notown (h:Fil G base m F f w) {b:Nat} {t:TypeId} {cs:Array Value} (hb:Bk w b t cs) (h1:t≠45) (h2:t≠44):¬ F.own m b:=by
 rintro ⟨a,ha,h3 | h3 | h3 | h3⟩
 ·subst h3
  obtain ⟨c,h4,_⟩:=h.trow
  exact hb.apart h4 h1 rfl
 ·subst h3;exact MapS.apart (h.hmap a ha) hb rfl
 ·subst h3;exact MapS.apart (h.emap a ha) hb rfl
 ·exact (hb.row (h.rows a ha) (Ne.symm h2)) h3
end
structure Tr (m:Nat) (F:Fl) (vs':Nat→Value) (w w':World):Prop where
 fr:Fr (F.own m) w w'
 blk:∀ i k,i < m→(vs' i).ownBlock=some k→(F.vs i).ownBlock=some k∨w.heap.size≤k
def Fl.to (F:Fl) (vs':Nat→Value):Fl:={ F with vs:=vs' }
section
variable {m:Nat} {F:Fl} {vs1 vs2:Nat→Value} {w w1 w2:World}
theorem Tr.own (h:Tr m F vs1 w w1) {k:Nat} (hk:(F.to vs1).own m k):F.own m k∨w.heap.size≤k:=by
 obtain ⟨a,ha,h1 | h1 | h1 | h1⟩:=hk
 ·exact .inl ⟨a,ha,.inl h1⟩
 ·exact .inl ⟨a,ha,.inr (.inl h1)⟩
 ·exact .inl ⟨a,ha,.inr (.inr (.inl h1))⟩
 ·rcases h.blk a k ha h1 with h2 | h2
  ·exact .inl ⟨a,ha,.inr (.inr (.inr h2))⟩
  ·exact .inr h2
theorem Tr.refl (m:Nat) (F:Fl) (w:World):Tr m F F.vs w w:=⟨Fr.refl _ _,fun _ _ _ h=>.inl h⟩
theorem Tr.trans (h:Tr m F vs1 w w1) (k:Tr m (F.to vs1) vs2 w1 w2):Tr m F vs2 w w2 where
 fr:=h.fr.trans k.fr fun i hi hT=>by
  rcases h.own hT with h1 | h1
  ·exact h1
  ·omega
 blk i j hi hj:=by
  rcases k.blk i j hi hj with h1 | h1
  ·exact h.blk i j hi h1
  ·have:=h.fr.size;exact .inr (by omega)
theorem Tr.after (h:Tr m F vs1 w w1) (hb:Bl w1 w2):Tr m F vs1 w w2:=⟨h.fr.after hb,h.blk⟩
theorem Tr.ahead (hb:Bl w w1) (h:Tr m F vs1 w1 w2):Tr m F vs1 w w2:=
 ⟨(Fr.of_bl (S:=F.own m) hb).same h.fr,fun i k hi hk=>(h.blk i k hi hk).imp id fun h1=>Nat.le_trans hb.size h1⟩
theorem Tr.box (h:Tr m F vs1 w w1) {b:Nat} {t:TypeId} {cs:Array Value} (hb:Bk w b t cs) (hn:¬ F.own m b):Bk w1 b t cs∧¬ (F.to vs1).own m b:=
 ⟨hb.fr h.fr hn,fun h1=>(h.own h1).elim hn fun h2=>by have:=hb.lt;omega⟩
end
section
variable {G:Fg} {base m:Nat} {F:Fl} {f:St} {w w':World} {vs1:Nat→Value}
theorem Tr.under {w0:World} (h:Tr m F vs1 w w') (hF:Fil G base m F f w) (hb:Below base w0 w):Below base w0 w' where
 os:=h.fr.os.trans hb.os
 tape:=h.fr.tape.trans hb.tape
 output:=h.fr.output.trans hb.output
 size:=Nat.le_trans hb.size h.fr.size
 block k hk:=by
  have:=hF.low.1
  have h2:=hF.fb.lt
  exact (h.fr.block k (by omega) fun h1=>by have:=(hF.lt h1).1;omega).trans (hb.block k hk)
end
end Go.Proofs.YtdfhhbncmdpoeaaGreat
