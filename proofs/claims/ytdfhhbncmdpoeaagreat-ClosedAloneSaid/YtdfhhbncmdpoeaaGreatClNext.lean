/- closed.kept in memory: its maps, the rows of who waits; what a round of a loop over an iterator keeps. -/
import Derived.Test.YtdfhhbncmdpoeaaGreatClKey
import Derived.Test.YtdfhhbncmdpoeaaGreatItemB
import Derived.RangeFuncNested
import Derived.BigQuiet
set_option maxRecDepth 100000
set_option maxHeartbeats 1000000
namespace Go.Proofs.YtdfhhbncmdpoeaaGreat
open Go.RowKit
open Go.Maps (Keyed)
def Ch.endOf (g:Gr.Gm) (s:St4):Option (Int × Nat × Nat):=
 match g.prods[s.2.prod]? with
 | some p=>if s.2.dot=p.right.length then some (p.left,s.2.frm,s.1) else none
 | none=>none
def Ch.waitOf (g:Gr.Gm) (s:St4):Option (Int × Nat):=
 match Ch.symAt g s.2 with
 | some y=>if y.non=true then some (y.n,s.1) else none
 | none=>none
def Ch.endL (g:Gr.Gm) (P:List St4):List (Int × Nat × Nat):=P.filterMap (Ch.endOf g)
def Ch.waitL (g:Gr.Gm) (P:List St4) (x:Int × Nat):List Ch.Im:=(P.filter fun s=>decide (Ch.waitOf g s=some x)).map (·.2)
theorem Ch.endL_snoc (g:Gr.Gm) (P:List St4) (s:St4):Ch.endL g (P ++ [s])=Ch.endL g P ++ (Ch.endOf g s).toList:=by
 unfold Ch.endL
 rw [List.filterMap_append]
 cases h:Ch.endOf g s <;> simp [h]
theorem Ch.waitL_snoc_yes {g:Gr.Gm} {P:List St4} {s:St4} {x:Int × Nat} (h:Ch.waitOf g s=some x):Ch.waitL g (P ++ [s]) x=Ch.waitL g P x ++ [s.2]:=by
 unfold Ch.waitL
 rw [List.filter_append,List.map_append]
 simp [h]
theorem Ch.waitL_snoc_no {g:Gr.Gm} {P:List St4} {s:St4} {x:Int × Nat} (h:Ch.waitOf g s≠some x):Ch.waitL g (P ++ [s]) x=Ch.waitL g P x:=by
 unfold Ch.waitL
 rw [List.filter_append,List.map_append]
 simp [h]
theorem Ch.mem_endL {g:Gr.Gm} {P:List St4} {e:Int × Nat × Nat}:e ∈ Ch.endL g P↔∃ s ∈ P,Ch.endOf g s=some e:=List.mem_filterMap
theorem Ch.mem_waitL {g:Gr.Gm} {P:List St4} {x:Int × Nat} {y:Ch.Im}:y ∈ Ch.waitL g P x↔∃ s ∈ P,Ch.waitOf g s=some x∧s.2=y:=by
 unfold Ch.waitL
 simp only [List.mem_map,List.mem_filter,decide_eq_true_eq]
 exact ⟨fun ⟨s,⟨h1,h2⟩,h3⟩=>⟨s,h1,h2,h3⟩,fun ⟨s,h1,h2,h3⟩=>⟨s,⟨h1,h2⟩,h3⟩⟩
theorem Ch.waitL_len (g:Gr.Gm) (P:List St4) (x:Int × Nat):(Ch.waitL g P x).length≤P.length:=by
 unfold Ch.waitL;rw [List.length_map];exact List.length_filter_le _ _
theorem Ch.endL_len (g:Gr.Gm) (P:List St4):(Ch.endL g P).length≤P.length:=List.length_filterMap_le _ _
def KpC (W W':World):Prop:=W.heap.size≤W'.heap.size∧∀ (k:Nat) (o:Obj),W.heap[k]?=some o→(o.isCells=true∨o.isWalk=true)→W'.heap[k]?=some o
section
variable {W X Y Z W':World}
theorem KpC.refl (W:World):KpC W W:=⟨Nat.le_refl _,fun _ _ h _=>h⟩
theorem KpC.trans (h:KpC X Y) (k:KpC Y Z):KpC X Z:=⟨Nat.le_trans h.1 k.1,fun i o hi ho=>k.2 i o (h.2 i o hi ho) ho⟩
theorem KpC.of_bl (h:Bl W W'):KpC W W':=⟨h.size,fun k _ hk _=>(h.block k (heap_lt hk)).trans hk⟩
theorem KpC.bl (h:KpC X Y) (k:Bl Y Z):KpC X Z:=h.trans (.of_bl k)
theorem KpC.drew (h:KpC X Y):KpC X Y.drew:=h
theorem KpC.grown (h:KpC X Y) {row:Option Nat} (hg:Y.grownBy Z row) (hr:∀ k,row=some k→X.heap.size≤k):KpC X Z:=
 ⟨Nat.le_trans h.1 hg.size,fun k o hk ho=>by
  have h1:=h.2 k o hk ho
  exact (hg.block k (heap_lt h1) (fun e=>by have:=hr k e.symm;have:=heap_lt hk;omega)).trans h1⟩
theorem KpC.put (B:Nat) (W:World) (l:Nat) (o o':Obj) (_:B≤l) (h:W.heap[l]?=some o) (h1:o.isCells=false) (h2:o.isWalk=false):KpC W (W.putObj l o'):=
 ⟨by simp,fun k o2 hk ho=>by
  by_cases e:k=l
  ·subst e
   rw [h] at hk;injection hk with hk;subst hk
   rcases ho with ho | ho
   ·rw [h1] at ho;cases ho
   ·rw [h2] at ho;cases ho
  ·exact (World.putObj_heap_other e).trans hk⟩
theorem KpC.walks (h:KpC W W'):KeepsWalks W W':=⟨h.1,fun k o hk ho=>h.2 k o hk (.inr ho)⟩
theorem KpC.cell (h:KpC W W') {a:Addr} {v:Value} (hc:W.cell? a=some v):W'.cell? a=some v:=by
 obtain ⟨o,ho,hi⟩:=cells_of_cell hc
 exact (World.cell?_of_block ((h.2 _ o ho (.inl hi)).trans ho.symm)).trans hc
theorem Bk.kpc {g:Nat} {t:TypeId} {cs:Array Value} (h:Bk W g t cs) (k:KpC W W'):Bk W' g t cs:=k.2 _ _ h (.inl rfl)
theorem Rd.kpc {B:Nat} {A:Option Addr} {xs:List Value} (h:Rd W B A xs) (k:KpC W W'):Rd W' B A xs:=fun hn=>by
 obtain ⟨b,off,e,hb,hc⟩:=h hn
 exact ⟨b,off,e,hb,fun j u hu=>k.cell (hc j u hu)⟩
theorem Prs.kpc {B:Nat} {A:Option Addr} {ps:List Gr.Pr} (h:Prs W B A ps) (k:KpC W W'):Prs W' B A ps:=h.keep fun _ _ h=>h.kpc k
theorem own_kpc {base size n:Nat} {e:TypeId} {v:Value} {xs:List Value} (h:W.ownsRow base e size v n xs) (k:KpC W W'):W'.ownsRow base e size v n xs:=by
 refine ⟨h.1,?_⟩
 rcases h.2 with h2 | ⟨g,cap,cur,hv,hb,hg,h3⟩
 ·exact .inl h2
 ·exact .inr ⟨g,cap,cur,hv,hb,k.2 _ _ hg (.inl rfl),h3⟩
theorem MapH.kpc {α:Type} [DecidableEq α] {kt:TypeId} {kl:α→Lit} {ok:α→Prop} {b:Nat} {l:List α} (h:MapH kt kl ok W b l) (k:KpC W W'):MapH kt kl ok W' b l:=by
 obtain ⟨D,n,⟨es,clock,h1,h2⟩,h3⟩:=h
 exact ⟨D,n,⟨es,clock,k.2 _ _ h1 (.inr rfl),h2⟩,h3⟩
theorem MapV.kpc {α:Type} {kt:TypeId} {kl:α→Lit} {ok:α→Prop} {b n:Nat} {V:α→Value} (h:MapV kt kl ok W b n V) (k:KpC W W'):MapV kt kl ok W' b n V:=by
 obtain ⟨D,⟨es,clock,h1,h2⟩,h3⟩:=h
 exact ⟨D,⟨es,clock,k.2 _ _ h1 (.inr rfl),h2⟩,h3⟩
end
structure Kg where
 t:Int
 n:Int
 s:Int
 A:Option Addr
 len:Nat
 c:Nat
 Aw:Option Addr
 lw:Nat
 cw:Nat
structure Kw where
 p:Nat
 h:Nat
 q:Nat
 e:Nat
def kcells (G:Kg) (K:Kw):Array Value:=#[.int .i64 G.t,.int .i64 G.n,.int .i64 G.s,.slice G.A G.len G.c,.slice G.Aw G.lw G.cw,.map (some K.h),.map (some K.q),.map (some K.e)]
structure KeptR (G:Kg) (g:Gr.Gm) (base:Nat) (K:Kw) (V:Int × Nat→Value) (P:List St4) (w:World):Prop where
 kb:Bk w K.p 92 (kcells G K)
 has:MapH 96 stKey stOk w K.h P
 ends:MapH 152 ndKey ndOk w K.e (Ch.endL g P)
 waits:MapV 154 wtKey wtOk w K.q P.length V
 rows:∀ x,w.ownsRow base 44 3 (V x) (Ch.waitL g P x).length (imRow (Ch.waitL g P x))
 apart:∀ x y,x≠y→∀ b,(V x).ownBlock=some b→(V y).ownBlock≠some b
 full:∀ x,V x≠nilS→Ch.waitL g P x≠[]
 ne:K.h≠K.q∧K.h≠K.e∧K.q≠K.e
 low:base≤K.p∧base≤K.h∧base≤K.q∧base≤K.e
def Kw.own (K:Kw) (V:Int × Nat→Value) (k:Nat):Prop:=k=K.h∨k=K.q∨k=K.e∨∃ x,(V x).ownBlock=some k
section
variable {G:Kg} {g:Gr.Gm} {base:Nat} {K:Kw} {V:Int × Nat→Value} {P:List St4} {w w':World}
theorem KeptR.kpc (h:KeptR G g base K V P w) (k:KpC w w'):KeptR G g base K V P w':=
 { h with kb:=h.kb.kpc k,has:=h.has.kpc k,ends:=h.ends.kpc k,waits:=h.waits.kpc k,rows:=fun x=>own_kpc (h.rows x) k }
theorem KeptR.bl (h:KeptR G g base K V P w) (k:Bl w w'):KeptR G g base K V P w':=h.kpc (.of_bl k)
theorem KeptR.drew (h:KeptR G g base K V P w):KeptR G g base K V P w.drew:=h.bl (Bl.refl w).drew
theorem MapH.notcells {α:Type} [DecidableEq α] {kt:TypeId} {kl:α→Lit} {ok:α→Prop} {b:Nat} {l:List α} (h:MapH kt kl ok w b l) {k:Nat} {t:TypeId} {cs:Array Value} (hb:Bk w k t cs):k≠b:=fun e=>h.toS.apart hb e.symm
theorem MapH.notrow {α:Type} [DecidableEq α] {kt:TypeId} {kl:α→Lit} {ok:α→Prop} {b:Nat} {l:List α} (h:MapH kt kl ok w b l) {base n size:Nat} {e:TypeId} {v:Value} {xs:List Value} (ho:w.ownsRow base e size v n xs):v.ownBlock≠some b:=h.toS.row ho
theorem MapV.notcells {α:Type} {kt:TypeId} {kl:α→Lit} {ok:α→Prop} {b n:Nat} {V:α→Value} (h:MapV kt kl ok w b n V) {k:Nat} {t:TypeId} {cs:Array Value} (hb:Bk w k t cs):k≠b:=by
 rintro rfl
 obtain ⟨D,⟨es,clock,h1,_⟩,_⟩:=h
 unfold Bk at hb
 rw [h1] at hb;cases hb
theorem MapV.notrow {α:Type} {kt:TypeId} {kl:α→Lit} {ok:α→Prop} {b n:Nat} {V:α→Value} (h:MapV kt kl ok w b n V) {base m size:Nat} {e:TypeId} {v:Value} {xs:List Value} (ho:w.ownsRow base e size v m xs):v.ownBlock≠some b:=by
 rcases ho.2 with ⟨rfl,_⟩ | ⟨g',cap,cur,rfl,_,hh,_⟩
 ·simp [Value.ownBlock]
 ·intro he
  have:g'=b:=by simpa [Value.ownBlock] using he
  subst this
  exact h.notcells (t:=e) (cs:=cur) hh rfl
theorem KeptR.notown (h:KeptR G g base K V P w) {b:Nat} {t:TypeId} {cs:Array Value} (hb:Bk w b t cs) (ht:t≠44):¬ K.own V b:=by
 rintro (rfl | rfl | rfl | ⟨x,hx⟩)
 ·exact h.has.notcells hb rfl
 ·exact h.waits.notcells hb rfl
 ·exact h.ends.notcells hb rfl
 ·exact hb.row (h.rows x) (Ne.symm ht) hx
theorem KeptR.ownlow (h:KeptR G g base K V P w) {b:Nat} (hb:K.own V b):base≤b∧b < w.heap.size:=by
 rcases hb with rfl | rfl | rfl | ⟨x,hx⟩
 ·exact ⟨h.low.2.1,h.has.lt⟩
 ·exact ⟨h.low.2.2.1,h.waits.lt⟩
 ·exact ⟨h.low.2.2.2,h.ends.lt⟩
 ·exact (h.rows x).lt b hx
end
end Go.Proofs.YtdfhhbncmdpoeaaGreat
namespace Go.Proofs.YtdfhhbncmdpoeaaGreat
open Go.RowKit
theorem knext_none (G:Kg) (K:Kw) (ps:List Gr.Pr) (i:Nat) (fr:Int) (w:World) (B:Nat) (hk:Bk w K.p 92 (kcells G K)) (hlen:G.len=ps.length) (hr:Prs w B G.A ps) (hB:B≤w.heap.size) (hi:i < ps.length) :
  Calls Tryz.prog 74 #[.pointer (some ⟨K.p,0,none⟩),.agg #[.int .i64 (i:Int),.int .i64 (ps[i].right.length:Int),.int .i64 fr]] w fun e w'=>e=.returned (.tuple #[.agg #[.bool false,.int .i64 0],.bool false])∧Bl w w':=by
 have HK2:Hid (Bk ((w.alloc (.cells #[.int .i64 (i:Int),.int .i64 (ps[i].right.length:Int),.int .i64 fr] 44)).alloc (.cells #[.bool false,.int .i64 0] 39)) w.heap.size 44 #[.int .i64 (i:Int),.int .i64 (ps[i].right.length:Int),.int .i64 fr]):=(Bk.new w _ _).alloc _
 have HK3:Hid (Bk ((w.alloc (.cells #[.int .i64 (i:Int),.int .i64 (ps[i].right.length:Int),.int .i64 fr] 44)).alloc (.cells #[.bool false,.int .i64 0] 39)) (w.heap.size + 1) 39 #[.bool false,.int .i64 0]):=by
  have h:=Bk.new (w.alloc (.cells #[.int .i64 (i:Int),.int .i64 (ps[i].right.length:Int),.int .i64 fr] 44)) 39 #[.bool false,.int .i64 0]
  rw [World.size_alloc] at h
  exact h
 have HB1:Hid (Bl w ((w.alloc (.cells #[.int .i64 (i:Int),.int .i64 (ps[i].right.length:Int),.int .i64 fr] 44)).alloc (.cells #[.bool false,.int .i64 0] 39))):=((Bl.refl w).alloc _).alloc _
 have HK1:=Lib.hid (hk.bl HB1.out)
 obtain ⟨b,off,Ax,cx,eA,hbB,hrx,hc0,hc1⟩:=(hr.bl hB HB1.out).at_ hi
 have hbl:=Nat.lt_of_lt_of_le hbB (Nat.le_trans hB HB1.out.size)
 have i0:(0:Int)≤(i:Int):=by omega
 have i1:(i:Int) < (G.len:Int):=by omega
 clear hr hrx hc0 hlen
 generalize ps[i].right.length=d at *
 go_enter Tryz.func74,Tryz.ntmps74
 go_upto_region 1 with fail
 generalize (w.alloc (.cells #[.int .i64 (i:Int),.int .i64 (d:Int),.int .i64 fr] 44)).alloc (.cells #[.bool false,.int .i64 0] 39)=w1 at *
 have k3:w1.cell? ⟨K.p,3,none⟩=some (.slice G.A G.len G.c):=HK1.out.cell 3
 rw [eA] at k3
 have kl:=HK1.out.lt
 have j0:w1.cell? ⟨w.heap.size,0,none⟩=some (.int .i64 (i:Int)):=HK2.out.cell 0
 go_quiet (fail)
 have j1:w1.cell? ⟨w.heap.size,1,none⟩=some (.int .i64 (d:Int)):=HK2.out.cell 1
 have s0:=HK3.out.cell 0
 have s1:=HK3.out.cell 1
 have f0:=HK3.out.free 0
 have f1:=HK3.out.free 1
 have l0:=HK3.out.lt
 go_wp2_with (refine wpList_build_none rfl 39 rfl #[.bool false,.int .i64 0] build0_sym ?_)
 try simp only [Exit.inBlock,Exit.then]
 refine bodyPost_ret (results_cell_st rfl _ _ (w.heap.size + 1) 39 #[.bool false,.int .i64 0] _ rfl ((HK3.out.drewN _).put 0 _ |>.put 1 _) Tryz.underlying39 rfl sym_size) rfl ?_
 exact ⟨rfl,(((Fr.of_bl (S:=fun k=>k=w.heap.size + 1) (HB1.out.drewN _)).own 0 _).own 1 _).bl (fun i hi e=>by omega)⟩
theorem knext_some (G:Kg) (K:Kw) (ps:List Gr.Pr) (i d:Nat) (fr:Int) (w:World) (B:Nat) (hk:Bk w K.p 92 (kcells G K)) (hlen:G.len=ps.length) (hr:Prs w B G.A ps) (hB:B≤w.heap.size) (hi:i < ps.length) (hd:d < ps[i].right.length) :
  Calls Tryz.prog 74 #[.pointer (some ⟨K.p,0,none⟩),.agg #[.int .i64 (i:Int),.int .i64 (d:Int),.int .i64 fr]] w fun e w'=>e=.returned (.tuple #[.agg #[.bool ps[i].right[d].non,.int .i64 ps[i].right[d].n],.bool true])∧Bl w w':=by
 have HK2:Hid (Bk ((w.alloc (.cells #[.int .i64 (i:Int),.int .i64 (d:Int),.int .i64 fr] 44)).alloc (.cells #[.bool false,.int .i64 0] 39)) w.heap.size 44 #[.int .i64 (i:Int),.int .i64 (d:Int),.int .i64 fr]):=(Bk.new w _ _).alloc _
 have HK3:Hid (Bk ((w.alloc (.cells #[.int .i64 (i:Int),.int .i64 (d:Int),.int .i64 fr] 44)).alloc (.cells #[.bool false,.int .i64 0] 39)) (w.heap.size + 1) 39 #[.bool false,.int .i64 0]):=by
  have h:=Bk.new (w.alloc (.cells #[.int .i64 (i:Int),.int .i64 (d:Int),.int .i64 fr] 44)) 39 #[.bool false,.int .i64 0]
  rw [World.size_alloc] at h
  exact h
 have HB1:Hid (Bl w ((w.alloc (.cells #[.int .i64 (i:Int),.int .i64 (d:Int),.int .i64 fr] 44)).alloc (.cells #[.bool false,.int .i64 0] 39))):=((Bl.refl w).alloc _).alloc _
 have HK1:=Lib.hid (hk.bl HB1.out)
 obtain ⟨b,off,Ax,cx,eA,hbB,hrx,hc0,hc1⟩:=(hr.bl hB HB1.out).at_ hi
 have hbl:=Nat.lt_of_lt_of_le hbB (Nat.le_trans hB HB1.out.size)
 have i0:(0:Int)≤(i:Int):=by omega
 have i1:(i:Int) < (G.len:Int):=by omega
 have HRx:=Lib.hid (hrx.sym hd)
 have d0:(0:Int)≤(d:Int):=by omega
 have d1:(d:Int) < (ps[i].right.length:Int):=by omega
 have hq:((d:Int) == (ps[i].right.length:Int))=false:=by rw [beq_eq_false_iff_ne];omega
 clear hr hrx hc0 hlen
 generalize ps[i].right[d]=y at *
 clear hd
 generalize ps[i].right.length=rl at *
 obtain ⟨yb,yn⟩:=y
 go_enter Tryz.func74,Tryz.ntmps74
 go_upto_region 1 with fail
 generalize (w.alloc (.cells #[.int .i64 (i:Int),.int .i64 (d:Int),.int .i64 fr] 44)).alloc (.cells #[.bool false,.int .i64 0] 39)=w1 at *
 have k3:w1.cell? ⟨K.p,3,none⟩=some (.slice G.A G.len G.c):=HK1.out.cell 3
 rw [eA] at k3
 have kl:=HK1.out.lt
 have j0:w1.cell? ⟨w.heap.size,0,none⟩=some (.int .i64 (i:Int)):=HK2.out.cell 0
 go_quiet (fail)
 have j1:w1.cell? ⟨w.heap.size,1,none⟩=some (.int .i64 (d:Int)):=HK2.out.cell 1
 have s0:=HK3.out.cell 0
 have s1:=HK3.out.cell 1
 have f0:=HK3.out.free 0
 have f1:=HK3.out.free 1
 have l0:=HK3.out.lt
 obtain ⟨b2,o2,rfl,hb2,q0,q1⟩:=HRx.out
 have hbl2:b2 < w1.heap.size:=Nat.lt_of_lt_of_le hb2 (Nat.le_trans hB HB1.out.size)
 go_wp2_with fail
 try simp only [Exit.inBlock,Exit.then]
 refine bodyPost_ret (results_cell_st rfl _ _ (w.heap.size + 1) 39 #[.bool yb,.int .i64 yn] _ rfl ((HK3.out.drewN _).put 0 _ |>.put 1 _) Tryz.underlying39 rfl sym_size) rfl ?_
 exact ⟨rfl,(((Fr.of_bl (S:=fun k=>k=w.heap.size + 1) (HB1.out.drewN _)).own 0 _).own 1 _).bl (fun i hi e=>by omega)⟩
theorem knext_at (G:Kg) (K:Kw) (ps:List Gr.Pr) (t n s:Int) (y:Ch.Im) (w:World) (B:Nat) (hk:Bk w K.p 92 (kcells G K)) (hlen:G.len=ps.length) (hr:Prs w B G.A ps) (hB:B≤w.heap.size) (hy:imIn ⟨t,n,s,ps⟩ y) :
  Calls Tryz.prog 74 #[.pointer (some ⟨K.p,0,none⟩),.agg #[.int .i64 (y.prod:Int),.int .i64 (y.dot:Int),.int .i64 (y.frm:Int)]] w fun e w'=>
   e=.returned (.tuple #[.agg #[.bool (nxt ⟨t,n,s,ps⟩ y).non,.int .i64 (nxt ⟨t,n,s,ps⟩ y).n],.bool (Ch.symAt ⟨t,n,s,ps⟩ y).isSome])∧Bl w w':=by
 obtain ⟨p,hp,hd⟩:=hy
 have hi:=Ch.lt_of_get hp
 have hp2:ps[y.prod]'hi=p:=by have h:ps[y.prod]?=some p:=hp;rw [List.getElem?_eq_getElem hi] at h;injection h
 subst hp2
 unfold nxt
 rcases Nat.lt_or_ge y.dot (ps[y.prod]'hi).right.length with h | h
 ·have e:Ch.symAt ⟨t,n,s,ps⟩ y=some ((ps[y.prod]'hi).right[y.dot]'h):=Ch.symAt_iff.2 ⟨_,hp,List.getElem?_eq_getElem h⟩
  rw [e]
  exact knext_some G K ps y.prod y.dot y.frm w B hk hlen hr hB hi h
 ·have e0:y.dot=(ps[y.prod]'hi).right.length:=by omega
  have e:Ch.symAt ⟨t,n,s,ps⟩ y=none:=(Ch.symAt_none hp hd).2 e0
  rw [e,e0]
  exact knext_none G K ps y.prod y.frm w B hk hlen hr hB hi
theorem cbehind_any (p d f:Nat) (w:World) (hd:d < 1000000) :
  Calls Tryz.prog 76 #[.agg #[.int .i64 (p:Int),.int .i64 (d:Int),.int .i64 (f:Int)]] w fun e w'=>e=.returned (.agg #[.int .i64 (p:Int),.int .i64 ((d + 1:Nat):Int),.int .i64 (f:Int)])∧Bl w w':=by
 have HK1:Hid (Bk ((w.alloc (.cells #[.int .i64 (p:Int),.int .i64 (d:Int),.int .i64 (f:Int)] 44)).alloc (.cells #[.int .i64 0,.int .i64 0,.int .i64 0] 44)) w.heap.size 44 #[.int .i64 (p:Int),.int .i64 (d:Int),.int .i64 (f:Int)]):=(Bk.new w _ _).alloc _
 have HK2:Hid (Bk ((w.alloc (.cells #[.int .i64 (p:Int),.int .i64 (d:Int),.int .i64 (f:Int)] 44)).alloc (.cells #[.int .i64 0,.int .i64 0,.int .i64 0] 44)) (w.heap.size + 1) 44 #[.int .i64 0,.int .i64 0,.int .i64 0]):=by
  have h:=Bk.new (w.alloc (.cells #[.int .i64 (p:Int),.int .i64 (d:Int),.int .i64 (f:Int)] 44)) 44 #[.int .i64 0,.int .i64 0,.int .i64 0]
  rw [World.size_alloc] at h
  exact h
 have HB1:Hid (Bl w ((w.alloc (.cells #[.int .i64 (p:Int),.int .i64 (d:Int),.int .i64 (f:Int)] 44)).alloc (.cells #[.int .i64 0,.int .i64 0,.int .i64 0] 44))):=((Bl.refl w).alloc _).alloc _
 go_enter Tryz.func76,Tryz.ntmps76
 go_upto_region 1 with fail
 generalize (w.alloc (.cells #[.int .i64 (p:Int),.int .i64 (d:Int),.int .i64 (f:Int)] 44)).alloc (.cells #[.int .i64 0,.int .i64 0,.int .i64 0] 44)=w1 at *
 have k1:=HK1.out.cell 1
 have f1:=HK1.out.free 1
 have l1:=HK1.out.lt
 have hp:=HK1.out.put 1 (.int .i64 ((d:Int) + 1))
 have HP:=Lib.hid hp
 have p0:(w1.setCell ⟨w.heap.size,1,none⟩ (.int .i64 ((d:Int) + 1))).cell? ⟨w.heap.size,0,none⟩=some (.int .i64 (p:Int)):=hp.cell 0
 have p1:(w1.setCell ⟨w.heap.size,1,none⟩ (.int .i64 ((d:Int) + 1))).cell? ⟨w.heap.size,1,none⟩=some (.int .i64 ((d:Int) + 1)):=hp.cell 1
 have p2:(w1.setCell ⟨w.heap.size,1,none⟩ (.int .i64 ((d:Int) + 1))).cell? ⟨w.heap.size,2,none⟩=some (.int .i64 (f:Int)):=hp.cell 2
 have HQ2:Hid (Bk (w1.setCell ⟨w.heap.size,1,none⟩ (.int .i64 ((d:Int) + 1))) (w.heap.size + 1) 44 #[.int .i64 0,.int .i64 0,.int .i64 0]):=HK2.out.far (p:=⟨w.heap.size,1,none⟩) (by show _≠w.heap.size;omega) _
 have HF2:Hid (Fr (fun k=>k=w.heap.size∨k=w.heap.size + 1) w (w1.setCell ⟨w.heap.size,1,none⟩ (.int .i64 ((d:Int) + 1)))):=(Fr.of_bl HB1.out).setCell (p:=⟨w.heap.size,1,none⟩) (.inl (.inl rfl)) _
 clear hp
 go_upto_region 2 with fail
 have hdn:((d:Int) + 1)=((d + 1:Nat):Int):=by omega
 rw [hdn] at HP HQ2 HF2 p0 p1 p2 ⊢
 clear hdn
 have s20:=HQ2.out.cell 0
 have s21:=HQ2.out.cell 1
 have s22:=HQ2.out.cell 2
 have f20:=HQ2.out.free 0
 have f21:=HQ2.out.free 1
 have f22:=HQ2.out.free 2
 have l2:=HQ2.out.lt
 generalize w1.setCell ⟨w.heap.size,1,none⟩ (.int .i64 ((d + 1:Nat):Int))=w2 at *
 go_wp2_with fail
 try simp only [Exit.inBlock,Exit.then]
 refine bodyPost_ret (results_row rfl _ _ (w.heap.size + 1) 44 #[.int .i64 (p:Int),.int .i64 ((d + 1:Nat):Int),.int .i64 (f:Int)] _ rfl (((HQ2.out.put 0 _).put 1 _).put 2 _) Tryz.underlying44 rfl item_size) rfl ?_
 exact ⟨rfl,(((HF2.out.setCell (p:=⟨w.heap.size + 1,0,none⟩) (.inl (.inr rfl)) _).setCell (p:=⟨w.heap.size + 1,1,none⟩) (.inl (.inr rfl)) _).setCell (p:=⟨w.heap.size + 1,2,none⟩) (.inl (.inr rfl)) _).bl (fun i hi e=>by rcases e with e | e <;> omega)⟩
end Go.Proofs.YtdfhhbncmdpoeaaGreat
