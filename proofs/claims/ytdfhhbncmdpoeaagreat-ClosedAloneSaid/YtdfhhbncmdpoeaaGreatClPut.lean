/- kept.put: an item, with its place, comes in, if it is new. -/
import Derived.Test.YtdfhhbncmdpoeaaGreatClNext
import Derived.Deep.RegionHeld3
import Derived.Deep.DeepCutAuto
import Derived.RegionTactic
import Derived.BigRegion
import Derived.Deep.RegionLaw
set_option maxRecDepth 100000
set_option maxHeartbeats 4000000
namespace Go.Proofs.YtdfhhbncmdpoeaaGreat
open Go.RowKit
open Go.Maps (Keyed)
def putL (P:List St4) (s:St4):List St4:=if s ∈ P then P else P ++ [s]
structure PutK (G:Kg) (g:Gr.Gm) (base:Nat) (K:Kw) (V V':Int × Nat→Value) (P:List St4) (w w':World):Prop where
 rel:KeptR G g base K V' P w'
 fr:Fr (K.own V) w w'
 blk:∀ x k,(V' x).ownBlock=some k→(V x).ownBlock=some k∨w.heap.size≤k
def PutP (G:Kg) (g:Gr.Gm) (base:Nat) (K:Kw) (V:Int × Nat→Value) (P:List St4) (s:St4) (w:World) (e:Ending) (w':World):Prop:=
 e=.returned (.tuple #[])∧∃ V',PutK G g base K V V' (putL P s) w w'
section
variable {α:Type} [DecidableEq α] {kt:TypeId} {kl:α→Lit} {ok:α→Prop} {w:World} {b:Nat} {l:List α}
theorem MapH.look_yes {t:TypeId} (h:MapH kt kl ok w b l) (K:Keyed Tryz.prog kt) (ht:Tryz.prog.underlying t=some (.map kt 4)) {x:α} (hx:ok x) (hm:x ∈ l) {v:Value} (hk:keyOf Tryz.prog kt v=some (kl x)) :
  (Instr.lookup t (.map (some b)) v false).run Tryz.prog w=.ok (.bool true) w:=by
 have:=h.toS.look K ht hx hk
 rw [decide_eq_true hm] at this
 exact this
theorem MapH.look_no {t:TypeId} (h:MapH kt kl ok w b l) (K:Keyed Tryz.prog kt) (ht:Tryz.prog.underlying t=some (.map kt 4)) {x:α} (hx:ok x) (hm:x ∉ l) {v:Value} (hk:keyOf Tryz.prog kt v=some (kl x)) :
  (Instr.lookup t (.map (some b)) v false).run Tryz.prog w=.ok (.bool false) w:=by
 have:=h.toS.look K ht hx hk
 rw [decide_eq_false hm] at this
 exact this
end
theorem MapH.isMap {α:Type} [DecidableEq α] {kt:TypeId} {kl:α→Lit} {ok:α→Prop} {w:World} {b:Nat} {l:List α} (h:MapH kt kl ok w b l):∃ o:Obj,w.heap[b]?=some o∧o.isCells=false:=by obtain ⟨D,n,⟨es,clock,h1,_⟩,_⟩:=h;exact ⟨_,h1,rfl⟩
theorem MapV.isMap {α:Type} {kt:TypeId} {kl:α→Lit} {ok:α→Prop} {w:World} {b n:Nat} {V:α→Value} (h:MapV kt kl ok w b n V):∃ o:Obj,w.heap[b]?=some o∧o.isCells=false:=by obtain ⟨D,⟨es,clock,h1,_⟩,_⟩:=h;exact ⟨_,h1,rfl⟩
theorem cell_off {w w':World} {b:Nat} (hb:∃ o:Obj,w.heap[b]?=some o∧o.isCells=false) (hg:w.grownBy w' (some b)) {a:Addr} {v:Value} (hc:w.cell? a=some v):w'.cell? a=some v:=by
 obtain ⟨o,ho,hi⟩:=cells_of_cell hc
 obtain ⟨o2,ho2,hi2⟩:=hb
 exact (World.cell?_of_block (hg.block _ (heap_lt ho) (fun e=>by injection e with e;rw [e,ho2] at ho;injection ho with ho;rw [← ho,hi2] at hi;cases hi))).trans hc
theorem Prs.off {w w':World} {b B:Nat} {A:Option Addr} {ps:List Gr.Pr} (h:Prs w B A ps) (hb:∃ o:Obj,w.heap[b]?=some o∧o.isCells=false) (hg:w.grownBy w' (some b)):Prs w' B A ps:=h.keep fun _ _ h hn=>by
 obtain ⟨b,off,e,hb2,hc⟩:=h hn
 exact ⟨b,off,e,hb2,fun j u hu=>cell_off hb hg (hc j u hu)⟩
theorem cl_info:(Tryz.prog.info? 44).map (fun i=>(i.zero,i.size,i.bytes))=some (some (.agg #[.int .i64 0,.int .i64 0,.int .i64 0]),3,24):=by kernel_rfl
theorem wt_zero (u:World):(zeroValue 45).run Tryz.prog u=.ok nilS u:=by kernel_rfl
section
variable {G:Kg} {g:Gr.Gm} {base:Nat} {K:Kw} {V:Int × Nat→Value} {P Q:List St4} {w w' w1 w2 w3:World} {s:St4}
structure Half (G:Kg) (g:Gr.Gm) (base:Nat) (K:Kw) (V:Int × Nat→Value) (P Q:List St4) (w:World):Prop where
 kb:Bk w K.p 92 (kcells G K)
 has:MapH 96 stKey stOk w K.h Q
 ends:MapH 152 ndKey ndOk w K.e (Ch.endL g P)
 waits:MapV 154 wtKey wtOk w K.q P.length V
 rows:∀ x,w.ownsRow base 44 3 (V x) (Ch.waitL g P x).length (imRow (Ch.waitL g P x))
theorem KeptR.known (h:KeptR G g base K V P w) (hg:w.grownBy w' (some K.h)) (hh:MapH 96 stKey stOk w' K.h (P ++ [s])):Half G g base K V P (P ++ [s]) w':=by
 have hb:∀ {b:Nat},b < w.heap.size→b≠K.h→w'.heap[b]?=w.heap[b]?:=fun hl hn=>hg.block _ hl fun e=>hn (by injection e)
 refine ⟨(hb h.kb.lt (h.has.notcells h.kb)).trans h.kb,hh,h.ends.of_block (hb h.ends.lt (Ne.symm h.ne.2.1)),h.waits.of_block (hb h.waits.lt (Ne.symm h.ne.1)),fun x=>?_⟩
 exact (h.rows x).kept hg (.inr (h.has.notrow (h.rows x)))
theorem Half.bl (h:Half G g base K V P Q w) (hb:Bl w w'):Half G g base K V P Q w':=
 ⟨h.kb.bl hb,h.has.of_block (hb.block _ h.has.lt),h.ends.of_block (hb.block _ h.ends.lt),h.waits.of_block (hb.block _ h.waits.lt),fun x=>own_bl (h.rows x) hb⟩
theorem KeptR.put_tok (h:KeptR G g base K V P w) (hh:Half G g base K V P (P ++ [s]) w2) (hw:∀ x,Ch.waitOf g s≠some x) (he:Ch.endOf g s=none):KeptR G g base K V (P ++ [s]) w2:=
 { h with
  kb:=hh.kb
  has:=hh.has
  ends:=by rw [Ch.endL_snoc,he];show MapH _ _ _ _ _ (Ch.endL g P ++ []);rw [List.append_nil];exact hh.ends
  waits:=hh.waits.more (by rw [List.length_append];omega)
  rows:=fun x=>by rw [Ch.waitL_snoc_no (hw x)];exact hh.rows x
  full:=fun x hx=>by rw [Ch.waitL_snoc_no (hw x)];exact h.full x hx }
theorem KeptR.put_end (h:KeptR G g base K V P w) (hh:Half G g base K V P (P ++ [s]) w2) (hw:∀ x,Ch.waitOf g s≠some x) {e:Int × Nat × Nat} (he:Ch.endOf g s=some e) (hg:w2.grownBy w3 (some K.e))
  (hm:MapH 152 ndKey ndOk w3 K.e (Ch.endL g P ++ [e])):KeptR G g base K V (P ++ [s]) w3:=by
 have hb:∀ {b:Nat},b < w2.heap.size→b≠K.e→w3.heap[b]?=w2.heap[b]?:=fun hl hn=>hg.block _ hl fun e=>hn (by injection e)
 exact { h with
  kb:=(hb hh.kb.lt (hh.ends.notcells hh.kb)).trans hh.kb
  has:=hh.has.of_block (hb hh.has.lt h.ne.2.1)
  ends:=by rw [Ch.endL_snoc,he];exact hm
  waits:=(hh.waits.of_block (hb hh.waits.lt h.ne.2.2)).more (by rw [List.length_append];omega)
  rows:=fun x=>by rw [Ch.waitL_snoc_no (hw x)];exact (hh.rows x).kept hg (.inr (hh.ends.notrow (hh.rows x)))
  full:=fun x hx=>by rw [Ch.waitL_snoc_no (hw x)];exact h.full x hx }
theorem own_ne_nil {w:World} {base n size:Nat} {e:TypeId} {v:Value} {xs:List Value} (h:w.ownsRow base e size v (n + 1) xs):v≠nilS:=by
 obtain ⟨A,c,hv,_⟩:=own_form h
 rw [hv]
 intro e
 injection e with _ e
 omega
theorem KeptR.put_wait {w5 w6 w7 w8:World} (h:KeptR G g base K V P w) (hh:Half G g base K V P (P ++ [s]) w5) {x:Int × Nat} (hw:Ch.waitOf g s=some x) (he:Ch.endOf g s=none) (hg6:w5.grownBy w6 (some K.q)) {v':Value}
  (ho:w7.ownsRow base 44 3 v' ((Ch.waitL g P x).length + 1) (imRow (Ch.waitL g P x) ++ imc s.2)) (hg7:w6.grownBy w7 (V x).ownBlock)
  (hk7:(v'.ownBlock=(V x).ownBlock∧(V x).ownBlock≠none)∨(w6.grownBy w7 none∧∀ k,v'.ownBlock=some k→w6.heap.size≤k)) (hg8:w7.grownBy w8 (some K.q))
  (hm8:MapV 154 wtKey wtOk w8 K.q (P.length + 1) (fun y=>if y=x then v' else V y)) :
  KeptR G g base K (fun y=>if y=x then v' else V y) (P ++ [s]) w8∧Fr (K.own V) w5 w8∧∀ y k,((fun y=>if y=x then v' else V y) y).ownBlock=some k→(V y).ownBlock=some k∨w5.heap.size≤k:=by
 have hb6:∀ {b:Nat},b < w5.heap.size→b≠K.q→w6.heap[b]?=w5.heap[b]?:=fun hl hn=>hg6.block _ hl fun e=>hn (by injection e)
 have hb8:∀ {b:Nat},b < w7.heap.size→b≠K.q→w8.heap[b]?=w7.heap[b]?:=fun hl hn=>hg8.block _ hl fun e=>hn (by injection e)
 have s56:=hg6.size
 have s67:=hg7.size
 have keep:∀ {b:Nat},b < w5.heap.size→b≠K.q→(V x).ownBlock≠some b→w8.heap[b]?=w5.heap[b]?:=fun {b} hl hn hv=>((hb8 (by omega) hn).trans (hg7.block b (by omega) (Ne.symm hv))).trans (hb6 hl hn)
 have new:∀ k,v'.ownBlock=some k→(V x).ownBlock=some k∨w5.heap.size≤k:=fun k hk=>by
  rcases hk7 with ⟨h1,_⟩ | ⟨_,h1⟩
  ·exact .inl (h1 ▸ hk)
  ·have:=h1 k hk;exact .inr (by omega)
 have hq5:=hh.waits.lt
 refine ⟨{ h with kb:=?_,has:=?_,ends:=?_,waits:=?_,rows:=?_,apart:=?_,full:=?_ },⟨?_,?_,?_,?_,?_⟩,?_⟩
 ·exact (keep hh.kb.lt (hh.waits.notcells hh.kb) (hh.kb.row (hh.rows x) (by decide))).trans hh.kb
 ·exact hh.has.of_block (keep hh.has.lt h.ne.1 (hh.has.notrow (hh.rows x)))
 ·rw [Ch.endL_snoc,he]
  show MapH _ _ _ _ _ (Ch.endL g P ++ [])
  rw [List.append_nil]
  exact hh.ends.of_block (keep hh.ends.lt (Ne.symm h.ne.2.2) (hh.ends.notrow (hh.rows x)))
 ·rw [List.length_append];exact hm8
 ·intro y
  by_cases e:y=x
  ·subst e
   rw [if_pos rfl,Ch.waitL_snoc_yes hw,imRow_snoc,List.length_append]
   refine own_fr (S:=fun k=>k=K.q) ho ⟨hg8.os,hg8.tape,hg8.output,hg8.size,fun k hl hn=>hb8 hl hn⟩ fun k hk e=>?_
   subst e
   rcases new _ hk with h1 | h1
   ·exact hh.waits.notrow (hh.rows y) h1
   ·omega
  ·rw [if_neg e,Ch.waitL_snoc_no (fun h1=>e (by rw [hw] at h1;injection h1 with h1;exact h1.symm))]
   have ho5:=hh.rows y
   refine own_fr (S:=fun k=>k=K.q∨(V x).ownBlock=some k) ho5 ⟨?_,?_,?_,?_,fun k hl hn=>keep hl (fun e=>hn (.inl e)) (fun e=>hn (.inr e))⟩ fun k hk e2=>?_
   ·exact hg8.os.trans (hg7.os.trans hg6.os)
   ·exact hg8.tape.trans (hg7.tape.trans hg6.tape)
   ·exact hg8.output.trans (hg7.output.trans hg6.output)
   ·have:=hg8.size;omega
   ·rcases e2 with e2 | e2
    ·subst e2;exact hh.waits.notrow ho5 hk
    ·exact h.apart y x e k hk e2
 ·intro y z hyz b hy0 hz0
  have hy:(if y=x then v' else V y).ownBlock=some b:=hy0
  have hz:(if z=x then v' else V z).ownBlock=some b:=hz0
  clear hy0 hz0
  by_cases e:y=x
  ·subst e
   rw [if_pos rfl] at hy
   rw [if_neg (Ne.symm hyz)] at hz
   rcases new b hy with h1 | h1
   ·exact h.apart y z hyz b h1 hz
   ·have:=((hh.rows z).lt b hz).2;omega
  ·rw [if_neg e] at hy
   by_cases e2:z=x
   ·subst e2
    rw [if_pos rfl] at hz
    rcases new b hz with h1 | h1
    ·exact h.apart y z hyz b hy h1
    ·have:=((hh.rows y).lt b hy).2;omega
   ·rw [if_neg e2] at hz
    exact h.apart y z hyz b hy hz
 ·intro y hy
  have hy:(if y=x then v' else V y)≠nilS:=hy
  by_cases e:y=x
  ·subst e
   rw [Ch.waitL_snoc_yes hw]
   simp
  ·rw [if_neg e] at hy
   rw [Ch.waitL_snoc_no (fun h1=>e (by rw [hw] at h1;injection h1 with h1;exact h1.symm))]
   exact h.full y hy
 ·exact hg8.os.trans (hg7.os.trans hg6.os)
 ·exact hg8.tape.trans (hg7.tape.trans hg6.tape)
 ·exact hg8.output.trans (hg7.output.trans hg6.output)
 ·have:=hg8.size;omega
 ·intro k hl hn
  exact keep hl (fun e=>hn (.inr (.inl e))) (fun e=>hn (.inr (.inr (.inr ⟨x,e⟩))))
 ·intro y k hk
  have hk:(if y=x then v' else V y).ownBlock=some k:=hk
  by_cases e:y=x
  ·subst e
   rw [if_pos rfl] at hk
   exact new k hk
  ·rw [if_neg e] at hk
   exact .inl hk
end
theorem kput_any (G:Kg) (ps:List Gr.Pr) (base:Nat) (K:Kw) (V:Int × Nat→Value) (P:List St4) (s:St4) (w:World) (B:Nat) (h:KeptR G ⟨G.t,G.n,G.s,ps⟩ base K V P w) (hlen:G.len=ps.length) (hr:Prs w B G.A ps) (hB:B≤w.heap.size) (hbase:base≤w.heap.size)
  (hs:stOk s) (hin:imIn ⟨G.t,G.n,G.s,ps⟩ s.2) (hok:okB ⟨G.t,G.n,G.s,ps⟩=true) (hP:P.length < 1000000) :
  Calls Tryz.prog 44 #[.pointer (some ⟨K.p,0,none⟩),stv s] w (PutP G ⟨G.t,G.n,G.s,ps⟩ base K V P s w):=by
 have HB1:Hid (Bl w (w.alloc (.cells #[.int .i64 (s.1:Int),.int .i64 (s.2.prod:Int),.int .i64 (s.2.dot:Int),.int .i64 (s.2.frm:Int)] 96))):=(Bl.refl w).alloc _
 have HX1:Hid (Bk (w.alloc (.cells #[.int .i64 (s.1:Int),.int .i64 (s.2.prod:Int),.int .i64 (s.2.dot:Int),.int .i64 (s.2.frm:Int)] 96)) w.heap.size 96 #[.int .i64 (s.1:Int),.int .i64 (s.2.prod:Int),.int .i64 (s.2.dot:Int),.int .i64 (s.2.frm:Int)]):=Bk.new w _ _
 have HF1:=Lib.hid (h.bl HB1.out)
 have HP1:=Lib.hid (hr.bl hB HB1.out)
 have HS:=Lib.hid hs
 have HI:=Lib.hid hin
 have HL:=Lib.hid hlen
 have HKs:=Lib.hid (key_st hs)
 have hBw:=Nat.le_trans hB HB1.out.size
 have HQ:Hid (∀ x,(V x).ownBlock≠some w.heap.size):=fun x e=>by have:=((h.rows x).lt _ e).2;omega
 clear h hr hlen
 go_enter Tryz.func44,Tryz.ntmps44
 unfold stv
 go_upto_region 1 with fail
 generalize w.alloc (.cells #[.int .i64 (s.1:Int),.int .i64 (s.2.prod:Int),.int .i64 (s.2.dot:Int),.int .i64 (s.2.frm:Int)] 96)=w1 at *
 have k5:w1.cell? ⟨K.p,5,none⟩=some (.map (some K.h)):=HF1.out.kb.cell 5
 have kl:=HF1.out.kb.lt
 have x0:w1.cell? ⟨w.heap.size,0,none⟩=some (.int .i64 (s.1:Int)):=HX1.out.cell 0
 have x1:w1.cell? ⟨w.heap.size,1,none⟩=some (.int .i64 (s.2.prod:Int)):=HX1.out.cell 1
 have x2:w1.cell? ⟨w.heap.size,2,none⟩=some (.int .i64 (s.2.dot:Int)):=HX1.out.cell 2
 have x3:w1.cell? ⟨w.heap.size,3,none⟩=some (.int .i64 (s.2.frm:Int)):=HX1.out.cell 3
 by_cases hm:s ∈ P
 ·have HM:Hid (putL P s=P):=by unfold Hid putL;rw [if_pos hm]
  have hlk:(Instr.lookup 88 (.map (some K.h)) (.agg #[.int .i64 (s.1:Int),.int .i64 (s.2.prod:Int),.int .i64 (s.2.dot:Int),.int .i64 (s.2.frm:Int)]) false).run Tryz.prog w1.drew=.ok (.bool true) w1.drew:=(HF1.out.has.of_block (w':=w1.drew) rfl).look_yes st_law Tryz.underlying88 HS.out hm HKs.out
  go_region
  go_wp2_with fail
  go_end0
  exact ⟨rfl,V,by rw [HM.out];exact ⟨HF1.out.drew,Fr.of_bl HB1.out.drew,fun _ _ h=>.inl h⟩⟩
 ·have HM:Hid (putL P s=P ++ [s]):=by unfold Hid putL;rw [if_neg hm]
  have hlk:(Instr.lookup 88 (.map (some K.h)) (.agg #[.int .i64 (s.1:Int),.int .i64 (s.2.prod:Int),.int .i64 (s.2.dot:Int),.int .i64 (s.2.frm:Int)]) false).run Tryz.prog w1.drew=.ok (.bool false) w1.drew:=(HF1.out.has.of_block (w':=w1.drew) rfl).look_no st_law Tryz.underlying88 HS.out hm HKs.out
  go_region
  go_upto_region 2 with fail
  obtain ⟨w2,hup,hm2,hg2⟩:=(HF1.out.has.of_block (w':=w1.drew.drew) rfl).store (t:=88) st_law Tryz.underlying88 (by simp only [maxLen];omega) HS.out HKs.out (fun y hy e=>stKey_inj hy HS.out e) trivial
  have HH0:=Lib.hid (KeptR.known (s:=s) (HF1.out.drew.drew) hg2 hm2)
  have HX2:Hid (Bk w2 w.heap.size 96 #[.int .i64 (s.1:Int),.int .i64 (s.2.prod:Int),.int .i64 (s.2.dot:Int),.int .i64 (s.2.frm:Int)]):=HX1.out.drew.drew.grown hg2 (fun e=>by injection e with e;have:=HF1.out.has.notcells HX1.out;exact this e)
  have HP2:Hid (Prs w2 B G.A ps):=Prs.off (w:=w1.drew.drew) HP1.out HF1.out.has.isMap hg2
  have HFr2:Hid (Fr (fun k=>k=K.h) w w2):=((Fr.of_bl (S:=fun k=>k=K.h) HB1.out).drew.drew).grown hg2 (fun k e _=>by injection e with e;exact e.symm)
  have hBw2:B≤w2.heap.size:=Nat.le_trans hB HFr2.out.size
  have hup2:(Instr.mapUpdate 88 (.map (some K.h)) (.agg #[.int .i64 (s.1:Int),.int .i64 (s.2.prod:Int),.int .i64 (s.2.dot:Int),.int .i64 (s.2.frm:Int)]) (.bool true)).run Tryz.prog w1.drew.drew=.ok () w2:=hup
  clear hlk hup
  go_region
  clear hup2 hg2 hm2 k5 kl x0 x1 x2 x3 HX1 HP1 HB1
  have x0:w2.cell? ⟨w.heap.size,0,none⟩=some (.int .i64 (s.1:Int)):=HX2.out.cell 0
  have x1:w2.cell? ⟨w.heap.size,1,none⟩=some (.int .i64 (s.2.prod:Int)):=HX2.out.cell 1
  have x2:w2.cell? ⟨w.heap.size,2,none⟩=some (.int .i64 (s.2.dot:Int)):=HX2.out.cell 2
  have x3:w2.cell? ⟨w.heap.size,3,none⟩=some (.int .i64 (s.2.frm:Int)):=HX2.out.cell 3
  have HNx:=Lib.hid (knext_at G K ps G.t G.n G.s s.2 w2 B HH0.out.kb HL.out HP2.out hBw2 HI.out)
  have HOk:=Lib.hid ((okB_iff _).1 hok)
  clear hok
  have hBase2:base≤w2.heap.size:=Nat.le_trans hbase HFr2.out.size
  have HFin:Hid (∀ w9 V',KeptR G ⟨G.t,G.n,G.s,ps⟩ base K V' (P ++ [s]) w9→Fr (K.own V) w2 w9→(∀ x k,(V' x).ownBlock=some k→(V x).ownBlock=some k∨w.heap.size≤k)→PutP G ⟨G.t,G.n,G.s,ps⟩ base K V P s w (.returned (.tuple #[])) w9):=fun w9 V' h1 h2 h3=>by
   refine ⟨rfl,V',?_⟩
   rw [HM.out]
   exact ⟨h1,(HFr2.out.mono fun k _ e=>.inl e).same h2,h3⟩
  clear hs hin
  cases hsy:Ch.symAt ⟨G.t,G.n,G.s,ps⟩ s.2 with
  | none=>
   obtain ⟨p,hp,hd⟩:=HI.out
   have hd0:s.2.dot=p.right.length:=(Ch.symAt_none hp hd).1 hsy
   have hi:s.2.prod < ps.length:=Ch.lt_of_get hp
   have hpi:ps[s.2.prod]'hi=p:=by have h:ps[s.2.prod]?=some p:=hp;rw [List.getElem?_eq_getElem hi] at h;injection h
   have hn:nxt ⟨G.t,G.n,G.s,ps⟩ s.2=⟨false,0⟩:=by unfold nxt;rw [hsy];rfl
   have HE:Hid (Ch.endOf ⟨G.t,G.n,G.s,ps⟩ s=some (p.left,s.2.frm,s.1)):=by unfold Hid Ch.endOf;rw [hp];show (if s.2.dot=p.right.length then _ else none)=_;rw [if_pos hd0]
   have HW:Hid (∀ x,Ch.waitOf ⟨G.t,G.n,G.s,ps⟩ s≠some x):=fun x=>by unfold Ch.waitOf;rw [hsy];simp
   have hpok:=HOk.out.2.2.2.2.2.2.2 p (List.mem_of_getElem? hp)
   have HNd:Hid (ndOk (p.left,s.2.frm,s.1)):=⟨hpok.1,by have:=hpok.2.1;have:=HOk.out.2.2.2.1;simp only at *;omega,HS.out.2.2.2,HS.out.1⟩
   rw [hsy,hn] at HNx
   obtain ⟨b,off,Ax,cx,eA,hbB,hrx,hc0,hc1⟩:=HP2.out.at_ hi
   rw [hpi] at hc0
   have HC0:=Lib.hid hc0
   have HBl:=Lib.hid hbB
   have i0:(0:Int)≤(s.2.prod:Int):=by omega
   have i1:(s.2.prod:Int) < (G.len:Int):=by have:=HL.out;omega
   clear hp hd hd0 hpi hn hpok hrx hc1 hsy hc0 hbB
   go_wp2_with (go_at_call 74;(with_reducible refine HNx.out.mono ?_);rintro e w3 ⟨rfl,hb3⟩;have HB3:=Lib.hid hb3;clear hb3)
   have HB4:Hid (Bl w2 (w3.alloc (.cells #[.bool false,.int .i64 0] 39))):=HB3.out.alloc _
   generalize w3.alloc (.cells #[.bool false,.int .i64 0] 39)=w4 at *
   clear HB3 x0 x1 x2 x3
   have HH4:=Lib.hid (HH0.out.bl HB4.out)
   have HX4:=Lib.hid (HX2.out.bl HB4.out)
   have x0:w4.cell? ⟨w.heap.size,0,none⟩=some (.int .i64 (s.1:Int)):=HX4.out.cell 0
   have x1:w4.cell? ⟨w.heap.size,1,none⟩=some (.int .i64 (s.2.prod:Int)):=HX4.out.cell 1
   have x3:w4.cell? ⟨w.heap.size,3,none⟩=some (.int .i64 (s.2.frm:Int)):=HX4.out.cell 3
   have xl:=HX4.out.lt
   have k3:w4.cell? ⟨K.p,3,none⟩=some (.slice G.A G.len G.c):=HH4.out.kb.cell 3
   rw [eA] at k3
   have k7:w4.cell? ⟨K.p,7,none⟩=some (.map (some K.e)):=HH4.out.kb.cell 7
   have kl:=HH4.out.kb.lt
   have hbl2:b < w2.heap.size:=Nat.lt_of_lt_of_le HBl.out hBw2
   have g0:w4.cell? ⟨b,off + s.2.prod * 2,none⟩=some (.int .i64 p.left):=(World.cell?_of_block (HB4.out.block b hbl2)).trans HC0.out
   have hbl4:b < w4.heap.size:=Nat.lt_of_lt_of_le hbl2 HB4.out.size
   obtain ⟨w5,hup,hm5,hg5⟩:=(HH4.out.bl (Bl.refl w4).drew).ends.store (t:=90) nd_law Tryz.underlying90 (by have:=Ch.endL_len ⟨G.t,G.n,G.s,ps⟩ P;simp only [maxLen];omega) HNd.out (key_nd HNd.out) (fun y hy e=>ndKey_inj hy HNd.out e) trivial
   have hup2:(Instr.mapUpdate 90 (.map (some K.e)) (.agg #[.int .i64 p.left,.int .i64 (s.2.frm:Int),.int .i64 (s.1:Int)]) (.bool true)).run Tryz.prog w4.drew=.ok () w5:=hup
   have HR5:=Lib.hid (KeptR.put_end HF1.out (HH4.out.bl (Bl.refl w4).drew) HW.out HE.out hg5 hm5)
   have HF5:Hid (Fr (K.own V) w2 w5):=(Fr.of_bl (S:=K.own V) HB4.out.drew).grown hg5 (fun k e _=>by injection e with e;exact .inr (.inr (.inl e.symm)))
   clear hup hm5 hg5
   go_region
   go_wp2_with fail
   go_end0
   exact HFin.out _ V HR5.out HF5.out (fun _ _ h=>.inl h)
  | some y=>
   have hn:nxt ⟨G.t,G.n,G.s,ps⟩ s.2=y:=by unfold nxt;rw [hsy];rfl
   have HE:Hid (Ch.endOf ⟨G.t,G.n,G.s,ps⟩ s=none):=by
    obtain ⟨p,hp,hd⟩:=HI.out
    unfold Hid Ch.endOf
    rw [hp]
    show (if s.2.dot=p.right.length then _ else none)=_
    rw [if_neg]
    intro e
    rw [(Ch.symAt_none hp hd).2 e] at hsy
    cases hsy
   obtain ⟨p,hp,hs2⟩:=Ch.symAt_iff.1 hsy
   have hyok:Gr.okSy ⟨G.t,G.n,G.s,ps⟩ y:=(HOk.out.2.2.2.2.2.2.2 p (List.mem_of_getElem? hp)).2.2.2 y (List.mem_of_getElem? hs2)
   have hn24:=HOk.out.2.2.2.1
   clear hp hs2
   rw [hsy,hn] at HNx
   obtain ⟨yb,yn⟩:=y
   cases yb with
   | false=>
    have HW:Hid (∀ x,Ch.waitOf ⟨G.t,G.n,G.s,ps⟩ s≠some x):=fun x=>by unfold Ch.waitOf;rw [hsy];simp
    clear hsy hn hyok
    go_wp2_with (go_at_call 74;(with_reducible refine HNx.out.mono ?_);rintro e w3 ⟨rfl,hb3⟩;have HB3:=Lib.hid hb3;clear hb3)
    go_end0
    exact HFin.out _ V (KeptR.put_tok HF1.out (HH0.out.bl (HB3.out.alloc _)) HW.out HE.out) (Fr.of_bl (HB3.out.alloc _)) (fun _ _ h=>.inl h)
   | true=>
    have HW:Hid (Ch.waitOf ⟨G.t,G.n,G.s,ps⟩ s=some (yn,s.1)):=by unfold Hid Ch.waitOf;rw [hsy];rfl
    have HWt:Hid (wtOk (yn,s.1)):=⟨hyok.1,by have:=hyok.2.1 rfl;simp only at *;omega,HS.out.1⟩
    clear hsy hn hyok hn24
    go_wp2_with (go_at_call 74;(with_reducible refine HNx.out.mono ?_);rintro e w3 ⟨rfl,hb3⟩;have HB3:=Lib.hid hb3;have y0:w3.cell? ⟨w.heap.size,0,none⟩=some (.int .i64 (s.1:Int)):=(HX2.out.bl hb3).cell 0;have yl:=(HX2.out.bl hb3).lt;clear hb3)
    clear y0 yl x0 x1 x2 x3
    have HB4:Hid (Bl w2 ((w3.alloc (.cells #[.bool true,.int .i64 yn] 39)).alloc (.cells #[.int .i64 yn,.int .i64 (s.1:Int)] 154))):=(HB3.out.alloc _).alloc _
    have HY4:Hid (Bk ((w3.alloc (.cells #[.bool true,.int .i64 yn] 39)).alloc (.cells #[.int .i64 yn,.int .i64 (s.1:Int)] 154)) (w3.heap.size + 1) 154 #[.int .i64 yn,.int .i64 (s.1:Int)]):=by
     have h:=Bk.new (w3.alloc (.cells #[.bool true,.int .i64 yn] 39)) 154 #[.int .i64 yn,.int .i64 (s.1:Int)]
     rw [World.size_alloc] at h
     exact h
    generalize (w3.alloc (.cells #[.bool true,.int .i64 yn] 39)).alloc (.cells #[.int .i64 yn,.int .i64 (s.1:Int)] 154)=w4 at *
    generalize w3.heap.size + 1=yb at *
    have HH4:=Lib.hid (HH0.out.bl HB4.out.drew)
    have HX4:=Lib.hid (HX2.out.bl HB4.out)
    have x1:w4.cell? ⟨w.heap.size,1,none⟩=some (.int .i64 (s.2.prod:Int)):=HX4.out.cell 1
    have x2:w4.cell? ⟨w.heap.size,2,none⟩=some (.int .i64 (s.2.dot:Int)):=HX4.out.cell 2
    have x3:w4.cell? ⟨w.heap.size,3,none⟩=some (.int .i64 (s.2.frm:Int)):=HX4.out.cell 3
    have xl:=HX4.out.lt
    have y0:w4.cell? ⟨yb,0,none⟩=some (.int .i64 yn):=HY4.out.cell 0
    have y1:w4.cell? ⟨yb,1,none⟩=some (.int .i64 (s.1:Int)):=HY4.out.cell 1
    have yl:=HY4.out.lt
    have kb4:Bk w4 K.p 92 (kcells G K):=HH0.out.kb.bl HB4.out
    have k6:w4.cell? ⟨K.p,6,none⟩=some (.map (some K.q)):=kb4.cell 6
    have kl:=kb4.lt
    have HB5:Hid (Bl w4.drew (w4.drew.alloc (.cells #[.int .i64 (s.2.prod:Int),.int .i64 (s.2.dot:Int),.int .i64 (s.2.frm:Int)] 44))):=(Bl.refl _).alloc _
    have HH5:=Lib.hid (HH4.out.bl HB5.out)
    have HC5:Hid (∀ j u,(imc s.2)[j]?=some u→(w4.drew.alloc (.cells #[.int .i64 (s.2.prod:Int),.int .i64 (s.2.dot:Int),.int .i64 (s.2.frm:Int)] 44)).cell? ((⟨w4.heap.size,0,none⟩:Addr).add j)=some u):=cells_new w4.drew #[.int .i64 (s.2.prod:Int),.int .i64 (s.2.dot:Int),.int .i64 (s.2.frm:Int)] 44
    obtain ⟨st,w6,hen,hg6,hst⟩:=HH5.out.waits.entry (t:=89) (e:=45) wt_law Tryz.underlying89 wt_zero (by simp only [maxLen];omega) HWt.out (key_wt HWt.out) (fun y hy e=>wtKey_inj hy HWt.out e) trivial
    obtain ⟨Av,cv,hv,hcv⟩:=own_form (HH5.out.rows (yn,s.1))
    have HV:=Lib.hid hv
    have hen2:(Instr.mapEntry 89 (.map (some K.q)) (.agg #[.int .i64 yn,.int .i64 (s.1:Int)])).run Tryz.prog (w4.alloc (.cells #[.int .i64 (s.2.prod:Int),.int .i64 (s.2.dot:Int),.int .i64 (s.2.frm:Int)] 44)).drew=.ok (.tuple #[.slice Av (Ch.waitL ⟨G.t,G.n,G.s,ps⟩ P (yn,s.1)).length cv,.int .i64 (st:Int)]) w6:=by rw [← hv];exact hen
    have hO6:w6.ownsRow base 44 3 (.slice Av (Ch.waitL ⟨G.t,G.n,G.s,ps⟩ P (yn,s.1)).length cv) (Ch.waitL ⟨G.t,G.n,G.s,ps⟩ P (yn,s.1)).length (imRow (Ch.waitL ⟨G.t,G.n,G.s,ps⟩ P (yn,s.1))):=by
     rw [← hv];exact (HH5.out.rows (yn,s.1)).kept hg6 (.inr (HH5.out.waits.notrow (HH5.out.rows (yn,s.1))))
    have HO6:=Lib.hid hO6
    have HC6:Hid (∀ j u,(imc s.2)[j]?=some u→w6.cell? ((⟨w4.heap.size,0,none⟩:Addr).add j)=some u):=fun j u hj=>cell_off HH5.out.waits.isMap hg6 (HC5.out j u hj)
    have hb6:base≤w6.heap.size:=by have:=hg6.size;have:=HB5.out.size;have:=HB4.out.size;have e:w4.drew.heap.size=w4.heap.size:=rfl;omega
    have hwl:=Ch.waitL_len ⟨G.t,G.n,G.s,ps⟩ P (yn,s.1)
    have HSt:Hid (∀ (v':Value) (w7:World),w7.ownsRow base 44 3 v' ((Ch.waitL ⟨G.t,G.n,G.s,ps⟩ P (yn,s.1)).length + 1) (imRow (Ch.waitL ⟨G.t,G.n,G.s,ps⟩ P (yn,s.1)) ++ imc s.2)→w6.grownBy w7 (Value.slice Av (Ch.waitL ⟨G.t,G.n,G.s,ps⟩ P (yn,s.1)).length cv).ownBlock→
      ((v'.ownBlock=(Value.slice Av (Ch.waitL ⟨G.t,G.n,G.s,ps⟩ P (yn,s.1)).length cv).ownBlock∧(Value.slice Av (Ch.waitL ⟨G.t,G.n,G.s,ps⟩ P (yn,s.1)).length cv).ownBlock≠none)∨(w6.grownBy w7 none∧∀ k,v'.ownBlock=some k→w6.heap.size≤k))→
      ∃ w8,(Instr.entryStore 89 (.map (some K.q)) (.int .i64 (st:Int)) v').run Tryz.prog w7=.ok () w8∧PutP G ⟨G.t,G.n,G.s,ps⟩ base K V P s w (.returned (.tuple #[])) w8):=fun v' w7 ho hg7 hk7=>by
     rw [← HV.out] at hg7 hk7
     have hq6:w7.heap[K.q]?=w6.heap[K.q]?:=hg7.block _ (by have:=HH5.out.waits.lt;have:=hg6.size;omega) (fun e=>HH5.out.waits.notrow (HH5.out.rows (yn,s.1)) e.symm)
     obtain ⟨w8,h8,hg8,hm8⟩:=hst w7 v' (own_ne_nil ho) hq6
     obtain ⟨r1,r2,r3⟩:=KeptR.put_wait HF1.out HH5.out HW.out HE.out hg6 ho hg7 hk7 hg8 hm8
     refine ⟨w8,h8,HFin.out _ _ r1 (((Fr.of_bl (S:=K.own V) (HB4.out.drew.trans HB5.out))).same r2) fun x k hk=>(r3 x k hk).imp id fun h=>?_⟩
     have:=HB5.out.size;have:=HB4.out.size;have:=HFr2.out.size;have e:w4.drew.heap.size=w4.heap.size:=rfl;omega
    clear hen hst hO6 hv HX4 HY4 kb4
    obtain ⟨i0,hi,hz0,hz1,hz2⟩:=info_parts cl_info
    clear hg6 HC5 HB5 HH5 HH4
    go_region_law (first
     | (refine step_append_keep rfl (.tmp 62) (.tmp 65) 45 rfl base 44 i0 (.agg #[.int .i64 0,.int .i64 0,.int .i64 0]) 3 24 Tryz.underlying45 hi hz0 hz1 hz2 rfl (by decide) (.slice Av (Ch.waitL ⟨G.t,G.n,G.s,ps⟩ P (yn,s.1)).length cv) (Ch.waitL ⟨G.t,G.n,G.s,ps⟩ P (yn,s.1)).length (imRow (Ch.waitL ⟨G.t,G.n,G.s,ps⟩ P (yn,s.1))) rfl HO6.out ⟨w4.heap.size,0,none⟩ 1 (imc s.2) rfl rfl HC6.out (imc_one s.2) (by simp only [maxLen];omega) (by omega) hb6 ?_;intro v7 w7 ho7 hg7 hk7;obtain ⟨w8,hst8,hfin⟩:=HSt.out v7 w7 ho7 hg7 hk7;have HFn:=Lib.hid hfin;clear ho7 hg7 hk7 hfin)
     | fail)
    all_goals
     go_wp2_with fail
     go_end0
     exact HFn.out
end Go.Proofs.YtdfhhbncmdpoeaaGreat
