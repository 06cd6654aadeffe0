/- chart.begun: a filling that has Start's productions alone. -/
import Derived.Test.YtdfhhbncmdpoeaaGreatChC
import Derived.Test.YtdfhhbncmdpoeaaGreatLIs
import Derived.Test.YtdfhhbncmdpoeaaGreatWordS
import Derived.Test.YtdfhhbncmdpoeaaGreatSdCheck
set_option maxRecDepth 100000
set_option maxHeartbeats 8000000
namespace Go.Proofs.YtdfhhbncmdpoeaaGreat
open Go.RowKit
open Ch (St)
theorem kept_info:(Tryz.prog.info? 109).map (fun i=>(i.zero,i.size,i.bytes))=some (some (.map none),1,8):=by kernel_rfl
theorem set_info:(Tryz.prog.info? 45).map (fun i=>(i.zero,i.size,i.bytes))=some (some (.slice none 0 0),1,24):=by kernel_rfl
theorem keptE_info:(Tryz.prog.info? 111).map (fun i=>(i.zero,i.size,i.bytes))=some (some (.map none),1,8):=by kernel_rfl
def mpv (b:Nat):Value:=.map (some b)
structure BgR (G:Fg) (w0:World) (f tb m kh ke:Nat) (vh ve:Value) (hl el:List Nat) (w:World):Prop where
 fb:Bk w f 68 #[.int .i64 G.t,.int .i64 G.n,.int .i64 G.s,.slice G.A G.len G.c,.slice G.Aw G.lw G.cw,vh,ve,.slice (some ⟨tb,0,none⟩) m m]
 tbk:Wv 45 w tb m (fun _=>.slice none 0 0)
 hlen:hl.length=kh
 elen:el.length=ke
 hown:w.ownsRow w0.heap.size 109 1 vh kh (hl.map mpv)
 eown:w.ownsRow w0.heap.size 111 1 ve ke (el.map mpv)
 hmap:∀ b ∈ hl,IMap w b []∧w0.heap.size≤b
 emap:∀ b ∈ el,EMap w b []∧w0.heap.size≤b
 nd:(hl ++ el).Nodup
 low:w0.heap.size≤f∧w0.heap.size≤tb
 b:Bl w0 w
section
variable {G:Fg} {w0 w w2 w3 w4:World} {f tb m kh ke:Nat} {vh ve v':Value} {hl el:List Nat}
theorem BgR.bl_ (h:BgR G w0 f tb m kh ke vh ve hl el w) (hb:Bl w w2):BgR G w0 f tb m kh ke vh ve hl el w2:=
 { h with fb:=h.fb.bl hb,tbk:=h.tbk.bl hb,hown:=own_bl h.hown hb,eown:=own_bl h.eown hb,hmap:=fun b hbm=>⟨MapS.bl (h.hmap b hbm).1 hb,(h.hmap b hbm).2⟩,emap:=fun b hbm=>⟨MapS.bl (h.emap b hbm).1 hb,(h.emap b hbm).2⟩,b:=h.b.trans hb }
theorem BgR.put_h (h:BgR G w0 f tb m kh ke vh ve hl el w) {q:Nat} (hq:w.heap.size≤q) (hbq:Bl w w3) (hm:IMap w3 q []) (ho:w4.ownsRow w0.heap.size 109 1 v' (kh + 1) (hl.map mpv ++ [mpv q])) (hg:w3.grownBy w4 vh.ownBlock) :
  BgR G w0 f tb m (kh + 1) ke v' ve (hl ++ [q]) el (w4.setCell ⟨f,5,none⟩ v'):=by
 have h3:=h.bl_ hbq
 have hvb:∀ j,vh.ownBlock=some j→w0.heap.size≤j:=fun j hj=>(h3.hown.lt j hj).1
 have f3:=h3.fb
 have f4:Bk w4 f _ _:=f3.grown hg (fun e=>f3.row h3.hown (by decide) e.symm)
 have nf:v'.ownBlock≠some f:=f4.row ho (by decide)
 obtain ⟨tc,ht,hts,htv⟩:=h3.tbk
 have t4:=ht.grown hg (fun e=>ht.row h3.hown (by decide) e.symm)
 have he4:w4.ownsRow w0.heap.size 111 1 ve ke (el.map mpv):=h3.eown.kept hg (by
  rcases h3.eown.2 with ⟨e,_⟩ | ⟨g,cap,cur,e,_,hg2,_⟩
  ·left;rw [e];rfl
  ·right
   intro e2
   rw [e] at e2
   exact (Bk.row (t:=111) (cs:=cur) hg2 h3.hown (by decide)) (e2 ▸ rfl))
 have hf1:Fr (fun j=>j=f) w4 (w4.setCell ⟨f,5,none⟩ v'):=(Fr.refl _ _).own 5 v'
 have mh:∀ b,IMap w3 b []→IMap (w4.setCell ⟨f,5,none⟩ v') b []:=fun b hb=>by
  have h1:IMap w4 b []:=MapS.of_block hb (hg.block b (MapS.lt hb) fun e=>MapS.row hb h3.hown e.symm)
  exact MapS.fr h1 hf1 fun e=>MapS.apart h1 f4 e
 have me:∀ b,EMap w3 b []→EMap (w4.setCell ⟨f,5,none⟩ v') b []:=fun b hb=>by
  have h1:EMap w4 b []:=MapS.of_block hb (hg.block b (MapS.lt hb) fun e=>MapS.row hb h3.hown e.symm)
  exact MapS.fr h1 hf1 fun e=>MapS.apart h1 f4 e
 have hnew:∀ b ∈ hl ++ el,b≠q:=fun b hb e=>by
  rcases List.mem_append.1 hb with hb | hb
  ·have:=MapS.lt (h.hmap b hb).1;omega
  ·have:=MapS.lt (h.emap b hb).1;omega
 refine { fb:=f4.put 5 v',tbk:=Wv.fr ⟨tc,t4,hts,htv⟩ hf1 (fun e=>f4.apart t4 (by decide) e.symm),hlen:=by rw [List.length_append,h.hlen];rfl,elen:=h.elen,hown:=?_,eown:=own_fr he4 hf1 (fun j hj e=>f4.row he4 (by decide) (by rw [hj,e])),hmap:=?_,emap:=fun b hb=>⟨me b (h3.emap b hb).1,(h3.emap b hb).2⟩,nd:=?_,low:=h.low,b:=?_ }
 ·rw [List.map_append]
  exact own_fr ho hf1 fun j hj e=>nf (by rw [hj,e])
 ·intro b hb
  rcases List.mem_append.1 hb with hb | hb
  ·exact ⟨mh b (h3.hmap b hb).1,(h3.hmap b hb).2⟩
  ·rw [List.mem_singleton.1 hb]
   exact ⟨mh q hm,Nat.le_trans h.b.size hq⟩
 ·have hn:=h.nd
  rw [List.append_assoc]
  rw [List.nodup_append] at hn ⊢
  refine ⟨hn.1,?_,?_⟩
  ·show (q :: el).Nodup
   exact List.nodup_cons.2 ⟨fun hq2=>hnew q (List.mem_append.2 (.inr hq2)) rfl,hn.2.1⟩
  ·intro x hx y hy e
   rcases List.mem_cons.1 hy with hy | hy
   ·exact hnew x (List.mem_append.2 (.inl hx)) (e.trans hy)
   ·exact hn.2.2 x hx y hy e
 ·have hb4:Bl w0 w4:=h3.b.grown hg hvb
  exact Bl.fr hb4 hf1 fun i hi e=>by have:=h.low.1;omega
theorem BgR.put_e (h:BgR G w0 f tb m kh ke vh ve hl el w) {q:Nat} (hq:w.heap.size≤q) (hbq:Bl w w3) (hm:EMap w3 q []) (ho:w4.ownsRow w0.heap.size 111 1 v' (ke + 1) (el.map mpv ++ [mpv q])) (hg:w3.grownBy w4 ve.ownBlock) :
  BgR G w0 f tb m kh (ke + 1) vh v' hl (el ++ [q]) (w4.setCell ⟨f,6,none⟩ v'):=by
 have h3:=h.bl_ hbq
 have hvb:∀ j,ve.ownBlock=some j→w0.heap.size≤j:=fun j hj=>(h3.eown.lt j hj).1
 have f3:=h3.fb
 have f4:Bk w4 f _ _:=f3.grown hg (fun e=>f3.row h3.eown (by decide) e.symm)
 have nf:v'.ownBlock≠some f:=f4.row ho (by decide)
 obtain ⟨tc,ht,hts,htv⟩:=h3.tbk
 have t4:=ht.grown hg (fun e=>ht.row h3.eown (by decide) e.symm)
 have he4:w4.ownsRow w0.heap.size 109 1 vh kh (hl.map mpv):=h3.hown.kept hg (by
  rcases h3.hown.2 with ⟨e,_⟩ | ⟨g,cap,cur,e,_,hg2,_⟩
  ·left;rw [e];rfl
  ·right
   intro e2
   rw [e] at e2
   exact (Bk.row (t:=109) (cs:=cur) hg2 h3.eown (by decide)) (e2 ▸ rfl))
 have hf1:Fr (fun j=>j=f) w4 (w4.setCell ⟨f,6,none⟩ v'):=(Fr.refl _ _).own 6 v'
 have mh:∀ b,IMap w3 b []→IMap (w4.setCell ⟨f,6,none⟩ v') b []:=fun b hb=>by
  have h1:IMap w4 b []:=MapS.of_block hb (hg.block b (MapS.lt hb) fun e=>MapS.row hb h3.eown e.symm)
  exact MapS.fr h1 hf1 fun e=>MapS.apart h1 f4 e
 have me:∀ b,EMap w3 b []→EMap (w4.setCell ⟨f,6,none⟩ v') b []:=fun b hb=>by
  have h1:EMap w4 b []:=MapS.of_block hb (hg.block b (MapS.lt hb) fun e=>MapS.row hb h3.eown e.symm)
  exact MapS.fr h1 hf1 fun e=>MapS.apart h1 f4 e
 have hnew:∀ b ∈ hl ++ el,b≠q:=fun b hb e=>by
  rcases List.mem_append.1 hb with hb | hb
  ·have:=MapS.lt (h.hmap b hb).1;omega
  ·have:=MapS.lt (h.emap b hb).1;omega
 refine { fb:=f4.put 6 v',tbk:=Wv.fr ⟨tc,t4,hts,htv⟩ hf1 (fun e=>f4.apart t4 (by decide) e.symm),hlen:=h.hlen,elen:=by rw [List.length_append,h.elen];rfl,eown:=?_,hown:=own_fr he4 hf1 (fun j hj e=>f4.row he4 (by decide) (by rw [hj,e])),emap:=?_,hmap:=fun b hb=>⟨mh b (h3.hmap b hb).1,(h3.hmap b hb).2⟩,nd:=?_,low:=h.low,b:=?_ }
 ·rw [List.map_append]
  exact own_fr ho hf1 fun j hj e=>nf (by rw [hj,e])
 ·intro b hb
  rcases List.mem_append.1 hb with hb | hb
  ·exact ⟨me b (h3.emap b hb).1,(h3.emap b hb).2⟩
  ·rw [List.mem_singleton.1 hb]
   exact ⟨me q hm,Nat.le_trans h.b.size hq⟩
 ·have hn:=h.nd
  rw [← List.append_assoc,List.nodup_append]
  refine ⟨hn,by simp,fun x hx y hy e=>?_⟩
  rw [List.mem_singleton.1 hy] at e
  exact hnew x hx e
 ·have hb4:Bl w0 w4:=h3.b.grown hg hvb
  exact Bl.fr hb4 hf1 fun i hi e=>by have:=h.low.1;omega
end
theorem wv_nil {w:World} {base g n:Nat} {t:TypeId} (h:w.ownsRow base t 1 (.slice (some ⟨g,0,none⟩) n n) n (madeCells (Value.cells (.slice none 0 0)) (n * 1)).toList):Wv t w g n (fun _=>.slice none 0 0)∧base≤g:=by
 rcases h.2 with ⟨h0,_⟩ | ⟨g',cap,cur,hv,hb,hg,hnc,_,hcs,htake⟩
 ·cases h0
 ·cases hv
  refine ⟨⟨cur,hg,by omega,fun i hi=>?_⟩,hb⟩
  have hm:(madeCells (Value.cells (.slice none 0 0)) (n * 1)).toList=List.replicate (n * 1) (.slice none 0 0):=toList_madeCells_one _ _
  rw [hm] at htake
  have e:(cur.toList.take (n * 1))[i]?=(List.replicate (n * 1) (Value.slice none 0 0))[i]?:=by rw [htake]
  rw [List.getElem?_take_of_lt (by omega),Array.getElem?_toList,List.getElem?_replicate_of_lt (by omega)] at e
  exact e
def BegunP (G:Fg) (g:Gr.Gm) (m:Nat) (w:World) (e:Ending) (w':World):Prop:=
 ∃ F,e=.returned (.pointer (some ⟨F.f,0,none⟩))∧Fil G w.heap.size m F (Ch.puts ⟨fun _=>[],fun _=>[]⟩ 0 (Ch.begs g 0 g.start)) w'∧Bl w w'
theorem getD_inj {l:List Nat} (hn:l.Nodup) {i j:Nat} (hi:i < l.length) (hj:j < l.length) (h:l.getD i 0=l.getD j 0):i=j:=by
 rw [List.getD_eq_getElem?_getD,List.getD_eq_getElem?_getD,List.getElem?_eq_getElem hi,List.getElem?_eq_getElem hj] at h
 have h:l[i]=l[j]:=h
 have hp:=List.nodup_iff_pairwise_ne.1 hn
 rw [List.pairwise_iff_getElem] at hp
 rcases Nat.lt_trichotomy i j with h1 | h1 | h1
 ·exact absurd h (hp i j hi hj h1)
 ·exact h1
 ·exact absurd h.symm (hp j i hj hi h1)
theorem getD_mem {l:List Nat} {i:Nat} (hi:i < l.length):l.getD i 0 ∈ l:=by
 rw [List.getD_eq_getElem?_getD,List.getElem?_eq_getElem hi]
 exact List.getElem_mem hi
theorem wv_own {w:World} {base g n c:Nat} {t:TypeId} {l:List Nat} (h:w.ownsRow base t 1 (.slice (some ⟨g,0,none⟩) n c) n (l.map mpv)):Wv t w g n (fun i=>.map (some (l.getD i 0)))∧base≤g:=by
 have hl:l.length=n:=by have:=h.1;simpa using this
 rcases h.2 with ⟨h0,_⟩ | ⟨g',cap,cur,hv,hb,hg,hnc,_,hcs,htake⟩
 ·cases h0
 ·cases hv
  refine ⟨⟨cur,hg,by omega,fun i hi=>?_⟩,hb⟩
  have e:(cur.toList.take (n * 1))[i]?=(l.map mpv)[i]?:=by rw [htake]
  rw [List.getElem?_take_of_lt (by omega),Array.getElem?_toList,List.getElem?_map,List.getElem?_eq_getElem (by omega)] at e
  rw [e]
  show some (mpv l[i])=some (.map (some (l.getD i 0)))
  rw [List.getD_eq_getElem?_getD,List.getElem?_eq_getElem (by omega)]
  rfl
theorem BgR.done {G:Fg} {w0 w:World} {f tb m:Nat} {vh ve:Value} {hl el:List Nat} (h:BgR G w0 f tb m m m vh ve hl el w) (hm:0 < m):∃ F,F.f=f∧Fil G w0.heap.size m F ⟨fun _=>[],fun _=>[]⟩ w:=by
 obtain ⟨gh,ch,hvh,_,_⟩:=h.hown.form hm
 obtain ⟨ge,ce,hve,_,_⟩:=h.eown.form hm
 subst hvh hve
 obtain ⟨wh,bh⟩:=wv_own h.hown
 obtain ⟨we,be⟩:=wv_own h.eown
 have hn:=List.nodup_append.1 h.nd
 refine ⟨⟨f,gh,ch,ge,ce,tb,fun i=>hl.getD i 0,fun i=>el.getD i 0,fun _=>.slice none 0 0⟩,rfl,{ fb:=h.fb,hrow:=wh,erow:=we,trow:=h.tbk,rows:=fun i _=>World.ownsRow_nil _ _ _ _,apart:=fun i j _ _ _ k hk=>by simp [Value.ownBlock] at hk,hmap:=fun i hi=>(h.hmap _ (getD_mem (by rw [h.hlen];exact hi))).1,emap:=fun i hi=>(h.emap _ (getD_mem (by rw [h.elen];exact hi))).1,hinj:=fun i j hi hj e=>getD_inj hn.1 (by rw [h.hlen];exact hi) (by rw [h.hlen];exact hj) e,einj:=fun i j hi hj e=>getD_inj hn.2.1 (by rw [h.elen];exact hi) (by rw [h.elen];exact hj) e,hne:=fun i j hi hj e=>?_,low:=⟨h.low.1,bh,be,h.low.2⟩,lowm:=fun i hi=>⟨(h.hmap _ (getD_mem (by rw [h.hlen];exact hi))).2,(h.emap _ (getD_mem (by rw [h.elen];exact hi))).2⟩ }⟩
 exact hn.2.2 _ (getD_mem (by rw [h.hlen];exact hi)) _ (getD_mem (by rw [h.elen];exact hj)) e
theorem begun_any (G:Fg) (ps:List Gr.Pr) (m:Nat) (w:World) (hm:m=G.lw + 1) (hm2:m≤1000) (hlen:G.len=ps.length) (hps:ps.length≤60) (hr:Prs w w.heap.size G.A ps) :
  Calls Tryz.prog 29 #[.agg #[.int .i64 G.t,.int .i64 G.n,.int .i64 G.s,.slice G.A G.len G.c],.slice G.Aw G.lw G.cw] w (BegunP G ⟨G.t,G.n,G.s,ps⟩ m w):=by
 obtain ⟨i0,hi,hz0,hz1,hz2⟩:=info_parts kept_info
 obtain ⟨j0,gi,gz0,gz1,gz2⟩:=info_parts keptE_info
 obtain ⟨s0,si,sz0,sz1⟩:∃ s0,Tryz.prog.info? 45=some s0∧s0.zero=some (.slice none 0 0)∧s0.size=1∧s0.bytes=24:=by
  obtain ⟨i,h1,h2,h3,h4⟩:=info_parts set_info
  exact ⟨i,h1,h2,h3,h4⟩
 obtain ⟨sz1,sz2⟩:=sz1
 have HK1:Hid (Bk (w.alloc (.cells #[.int .i64 G.t,.int .i64 G.n,.int .i64 G.s,.slice G.A G.len G.c] 24)) w.heap.size 24 #[.int .i64 G.t,.int .i64 G.n,.int .i64 G.s,.slice G.A G.len G.c]):=Bk.new w _ _
 have HB1:Hid (Bl w (w.alloc (.cells #[.int .i64 G.t,.int .i64 G.n,.int .i64 G.s,.slice G.A G.len G.c] 24))):=(Bl.refl w).alloc _
 have HL:=Lib.hid hlen
 have HR:=Lib.hid hr
 have HPs:=Lib.hid hps
 have HM:=Lib.hid hm
 have hlw:G.lw≤999:=by omega
 have hmm:=@run_makeMap Tryz.prog
 clear hlen hr hps hm
 go_enter Tryz.func29,Tryz.ntmps29
 go_upto_region 1 with fail
 have hb0:=HK1.out.lt
 have hz:w.heap.size + 1=(w.alloc (.cells #[.int .i64 G.t,.int .i64 G.n,.int .i64 G.s,.slice G.A G.len G.c] 24)).heap.size:=by rw [World.size_alloc]
 have HSz:=Lib.hid hz
 clear hz
 generalize w.alloc (.cells #[.int .i64 G.t,.int .i64 G.n,.int .i64 G.s,.slice G.A G.len G.c] 24)=w1 at *
 have k0:w1.cell? ⟨w.heap.size,0,none⟩=some (.int .i64 G.t):=HK1.out.cell 0
 have k1:w1.cell? ⟨w.heap.size,1,none⟩=some (.int .i64 G.n):=HK1.out.cell 1
 have k2:w1.cell? ⟨w.heap.size,2,none⟩=some (.int .i64 G.s):=HK1.out.cell 2
 have k3:w1.cell? ⟨w.heap.size,3,none⟩=some (.slice G.A G.len G.c):=HK1.out.cell 3
 go_cut [5] (fun s5 wx=>∃ f tb:Nat,s5=.pointer (some ⟨f,0,none⟩)∧Hid (BgR G w f tb m 0 0 (.slice none 0 0) (.slice none 0 0) [] [] wx)∧Hid (Bk wx w.heap.size 24 #[.int .i64 G.t,.int .i64 G.n,.int .i64 G.s,.slice G.A G.len G.c]))
 case first=>
  have HPx:Hid (∀ wx,Bl w1 wx→wx.cell? ⟨w.heap.size,0,none⟩=some (.int .i64 G.t)∧wx.cell? ⟨w.heap.size,1,none⟩=some (.int .i64 G.n)∧wx.cell? ⟨w.heap.size,2,none⟩=some (.int .i64 G.s)∧wx.cell? ⟨w.heap.size,3,none⟩=some (.slice G.A G.len G.c)):=fun wx hbx=>by
   have h:=HK1.out.bl hbx
   exact ⟨h.cell 0,h.cell 1,h.cell 2,h.cell 3⟩
  have HBd:Hid (Bl w1 w1.drew):=(Bl.refl w1).drew
  have HWr:Hid (IntKind.i64.wrap ((G.lw:Int) + 1)=((G.lw + 1:Nat):Int)):=by show _=_;rw [IntKind.wrap_i64];omega
  clear k0 k1 k2 k3 hmm
  obtain ⟨w2,hrun,ho2,hg2⟩:=run_make_full (P:=Tryz.prog) w1.drew w1.heap.size 26 45 s0 (.slice none 0 0) 1 Tryz.underlying26 si sz0 sz1 .i64 .i64 (G.lw + 1) (by rw [sz2];omega) (by simp only [maxLen];omega) (Nat.le_refl _)
  rw [← HWr.out] at hrun
  have HO2:=Lib.hid ho2
  have HB2:=Lib.hid (HBd.out.grown hg2 (fun k hk=>by cases hk))
  clear ho2 hg2
  go_region_held3 (fun wx=>wx.cell? ⟨w.heap.size,0,none⟩=some (.int .i64 G.t)∧wx.cell? ⟨w.heap.size,1,none⟩=some (.int .i64 G.n)∧wx.cell? ⟨w.heap.size,2,none⟩=some (.int .i64 G.s)∧wx.cell? ⟨w.heap.size,3,none⟩=some (.slice G.A G.len G.c))
   (first | exact HPx.out _ HBd.out | exact HPx.out _ HB2.out | exact HPx.out _ (HB2.out.alloc _)) (fail)
  all_goals
   go_wp2_with fail
   go_meet
   obtain ⟨wt,ht⟩:=wv_nil HO2.out
   have hbw:=HB1.out.trans HB2.out
   refine ⟨w2.heap.size,w1.heap.size,rfl,?_,HK1.out.bl (HB2.out.alloc _)⟩
   have hm1:G.lw + 1=m:=HM.out.symm
   rw [hm1] at wt ⊢
   exact ⟨Bk.new w2 _ _,wt.bl ((Bl.refl w2).alloc _),rfl,rfl,World.ownsRow_nil _ _ _ _,World.ownsRow_nil _ _ _ _,(by simp),(by simp),List.nodup_nil,⟨hbw.size,HB1.out.size⟩,hbw.alloc _⟩
 case rest=>
  obtain ⟨f,tb,rfl,HBg,HK⟩:=hcut
  have g7:wc.cell? ⟨f,7,none⟩=some (.slice (some ⟨tb,0,none⟩) m m):=HBg.out.fb.cell 7
  have gl:=HBg.out.fb.lt
  clear k0 k1 k2 k3 HK1
  go_wp2_with fail
  clear g7 gl
  go_loopw [19] (fun i wr=>∃ (k:Nat) (vh ve:Value) (hl el:List Nat),k≤m∧i=.int .i64 k∧Hid (BgR G w f tb m k k vh ve hl el wr)∧Hid (Bk wr w.heap.size 24 #[.int .i64 G.t,.int .i64 G.n,.int .i64 G.s,.slice G.A G.len G.c])) (fun i _=>m - (intOf i).toNat)
  case atStart=>exact ⟨0,_,_,[],[],Nat.zero_le _,rfl,HBg.out,HK.out⟩
  case round=>
   obtain ⟨k,vh,ve,hl,el,hk,rfl,HR1,HK1⟩:=hrel
   by_cases hlt:k < m
   ·have hik:(k:Int) < (m:Int):=by omega
    obtain ⟨Ah,ch,hvh,_⟩:=own_form HR1.out.hown
    obtain ⟨Ae,ce,hve,_⟩:=own_form HR1.out.eown
    subst hvh hve
    have g5:wr.cell? ⟨f,5,none⟩=some (.slice Ah k ch):=HR1.out.fb.cell 5
    have g6:wr.cell? ⟨f,6,none⟩=some (.slice Ae k ce):=HR1.out.fb.cell 6
    have gl:=HR1.out.fb.lt
    have HBq:Hid (Bl wr ((wr.alloc (.map #[] 0)).alloc (.cells #[.map (some wr.heap.size)] 109))):=((Bl.refl wr).alloc _).alloc _
    have HOx:Hid (((wr.alloc (.map #[] 0)).alloc (.cells #[.map (some wr.heap.size)] 109)).ownsRow w.heap.size 109 1 (.slice Ah k ch) k (hl.map mpv)):=own_bl HR1.out.hown HBq.out
    have HCx:Hid (∀ j u,[mpv wr.heap.size][j]?=some u→((wr.alloc (.map #[] 0)).alloc (.cells #[.map (some wr.heap.size)] 109)).cell? ((⟨wr.heap.size + 1,0,none⟩:Addr).add j)=some u):=by
     have h:=cells_new (wr.alloc (.map #[] 0)) #[.map (some wr.heap.size)] 109
     rw [World.size_alloc] at h
     exact h
    have HMq:Hid (IMap ((wr.alloc (.map #[] 0)).alloc (.cells #[.map (some wr.heap.size)] 109)) wr.heap.size []):=MapS.bl (MapS.new wr) ((Bl.refl _).alloc _)
    have HSz:Hid (w.heap.size≤((wr.alloc (.map #[] 0)).alloc (.cells #[.map (some wr.heap.size)] 109)).heap.size):=Nat.le_trans HR1.out.b.size HBq.out.size
    have HSt:Hid (∀ w4,((wr.alloc (.map #[] 0)).alloc (.cells #[.map (some wr.heap.size)] 109)).grownBy w4 (Value.slice Ah k ch).ownBlock→w4.cell? ⟨f,5,none⟩=some (.slice Ah k ch)∧w4.frozen? ⟨f,5,none⟩=false∧f < w4.heap.size):=fun w4 hg=>by
     have h3:=HR1.out.bl_ HBq.out
     have h4:=h3.fb.grown hg (fun e=>h3.fb.row h3.hown (by decide) e.symm)
     exact ⟨h4.cell 5,h4.free 5,h4.lt⟩
    go_upto_region 5 with (at_builtin;refine wpList_append_keep _ rfl (.tmp 25) (.tmp 27) 65 rfl w.heap.size 109 i0 (.map none) 1 8 Tryz.underlying65 hi hz0 hz1 hz2 rfl (by decide) (.slice Ah k ch) k (hl.map mpv) rfl HOx.out ⟨wr.heap.size + 1,0,none⟩ 1 [mpv wr.heap.size] rfl rfl HCx.out (by simp [mpv,Value.oneCell']) (by simp only [maxLen];omega) (by omega) HSz.out ?_;intro v4 w4 ho4 hg4 _;obtain ⟨A4,d4,hv4,_⟩:=own_form ho4;subst hv4;obtain ⟨y1,y2,y3⟩:=HSt.out _ hg4;have HR5:=Lib.hid (HR1.out.put_h (Nat.le_refl _) HBq.out HMq.out ho4 hg4);have HK5:=Lib.hid (((HK1.out.bl HBq.out).grown hg4 (fun e=>(HK1.out.bl HBq.out).row HOx.out (by decide) e.symm)).far (p:=⟨f,5,none⟩) (fun e=>(HK1.out.apart HR1.out.fb (by decide)) e) (.slice A4 (k + 1) d4));clear ho4 hg4)
    clear HOx HCx HMq HSz HSt HBq HR1 HK1 y1 y2 y3 g5 g6 gl
    generalize w4.setCell ⟨f,5,none⟩ (.slice A4 (k + 1) d4)=w5 at *
    generalize hl ++ [wr.heap.size]=hl2 at *
    have g6:w5.cell? ⟨f,6,none⟩=some (.slice Ae k ce):=HR5.out.fb.cell 6
    have gl:=HR5.out.fb.lt
    have HBq:Hid (Bl w5 ((w5.alloc (.map #[] 0)).alloc (.cells #[.map (some w5.heap.size)] 111))):=((Bl.refl w5).alloc _).alloc _
    have HOx:Hid (((w5.alloc (.map #[] 0)).alloc (.cells #[.map (some w5.heap.size)] 111)).ownsRow w.heap.size 111 1 (.slice Ae k ce) k (el.map mpv)):=own_bl HR5.out.eown HBq.out
    have HCx:Hid (∀ j u,[mpv w5.heap.size][j]?=some u→((w5.alloc (.map #[] 0)).alloc (.cells #[.map (some w5.heap.size)] 111)).cell? ((⟨w5.heap.size + 1,0,none⟩:Addr).add j)=some u):=by
     have h:=cells_new (w5.alloc (.map #[] 0)) #[.map (some w5.heap.size)] 111
     rw [World.size_alloc] at h
     exact h
    have HMq:Hid (EMap ((w5.alloc (.map #[] 0)).alloc (.cells #[.map (some w5.heap.size)] 111)) w5.heap.size []):=MapS.bl (MapS.new w5) ((Bl.refl _).alloc _)
    have HSz:Hid (w.heap.size≤((w5.alloc (.map #[] 0)).alloc (.cells #[.map (some w5.heap.size)] 111)).heap.size):=Nat.le_trans HR5.out.b.size HBq.out.size
    have HSt:Hid (∀ w4,((w5.alloc (.map #[] 0)).alloc (.cells #[.map (some w5.heap.size)] 111)).grownBy w4 (Value.slice Ae k ce).ownBlock→w4.cell? ⟨f,6,none⟩=some (.slice Ae k ce)∧w4.frozen? ⟨f,6,none⟩=false∧f < w4.heap.size):=fun w4 hg=>by
     have h3:=HR5.out.bl_ HBq.out
     have h4:=h3.fb.grown hg (fun e=>h3.fb.row h3.eown (by decide) e.symm)
     exact ⟨h4.cell 6,h4.free 6,h4.lt⟩
    go_wp2_with (at_builtin;refine wpList_append_keep _ rfl (.tmp 35) (.tmp 37) 66 rfl w.heap.size 111 j0 (.map none) 1 8 Tryz.underlying66 gi gz0 gz1 gz2 rfl (by decide) (.slice Ae k ce) k (el.map mpv) rfl HOx.out ⟨w5.heap.size + 1,0,none⟩ 1 [mpv w5.heap.size] rfl rfl HCx.out (by simp [mpv,Value.oneCell']) (by simp only [maxLen];omega) (by omega) HSz.out ?_;intro v6 w6 ho6 hg6 _;obtain ⟨A6,d6,hv6,_⟩:=own_form ho6;subst hv6;obtain ⟨y1,y2,y3⟩:=HSt.out _ hg6;have HR7:=Lib.hid (HR5.out.put_e (Nat.le_refl _) HBq.out HMq.out ho6 hg6);have HK7:=Lib.hid (((HK5.out.bl HBq.out).grown hg6 (fun e=>(HK5.out.bl HBq.out).row HOx.out (by decide) e.symm)).far (p:=⟨f,6,none⟩) (fun e=>(HK5.out.apart HR5.out.fb (by decide)) e) (.slice A6 (k + 1) d6));clear ho6 hg6)
    go_roundw
    case rel=>exact ⟨k + 1,_,_,_,_,by omega,by go_num,HR7.out,HK7.out⟩
    case measure=>simp [intOf];omega
   ·have hik:¬ (k:Int) < (m:Int):=by omega
    have hkm:k=m:=by omega
    subst hkm
    obtain ⟨F,hFf,hF⟩:=HR1.out.done (by have:=HM.out;omega)
    have HFF:=Lib.hid hF
    have s2:wr.cell? ⟨w.heap.size,2,none⟩=some (.int .i64 G.s):=HK1.out.cell 2
    have sl:=HK1.out.lt
    have HBeg:=Lib.hid (begin_any G ps w.heap.size k F ⟨fun _=>[],fun _=>[]⟩ 0 G.s wr hF (by have:=HM.out;omega) hm2 HL.out (by have:=HPs.out;omega) (HR.out.bl (Nat.le_refl _) HR1.out.b) (by simp) HR1.out.b.size)
    rw [hFf] at HBeg
    clear hF
    go_wp2_with fail
    refine HBeg.out.mono ?_
    rintro e w2 ⟨rfl,vs2,hf2,ht2⟩
    have HF2:=Lib.hid hf2
    have HB2:=Lib.hid (Below.trans HR1.out.b (ht2.under HFF.out (Below.refl _ _)))
    clear hf2 ht2 s2 sl
    go_wp2_with fail
    go_ret
    exact ⟨F.to vs2,by show _=Ending.returned (.pointer (some ⟨F.f,0,none⟩));rw [hFf];rfl,HF2.out,HB2.out⟩
end Go.Proofs.YtdfhhbncmdpoeaaGreat
namespace Go.Proofs.YtdfhhbncmdpoeaaGreat
open Go.RowKit
open Ch (St)
def SetsR (w:World) (A:Option Addr) (L:List (List Ch.Im)):Prop:=
 ∃ vs:List Value,Rd w w.heap.size A vs∧vs.length=L.length∧∀ (i:Nat) (l:List Ch.Im),L[i]?=some l→∃ Ai ci,vs[i]?=some (.slice Ai l.length ci)∧l.length≤ci∧Rd w w.heap.size Ai (imRow l)
theorem SetsR.nil (w:World):SetsR w none []:=⟨[],Rd.nil,rfl,fun i l h=>by simp at h⟩
def Ch.IsSets (g:Gr.Gm) (wd:List Int) (L:List (List Ch.Im)):Prop:=L.length=wd.length + 1∧∀ (b:Nat) (l:List Ch.Im),L[b]?=some l→Ch.Inc l∧∀ x,x ∈ l↔Ch.It g wd b x
def SetsP (g:Gr.Gm) (wd:List Int) (w:World) (e:Ending) (w':World):Prop:=
 ∃ A L c,e=.returned (.slice A L.length c)∧L.length≤c∧SetsR w' A L∧Bl w w'∧(fitB g wd=true→Ch.IsSets g wd L)∧(fitB g wd=false→L=[])
theorem Fil.sets {G:Fg} {base m:Nat} {F:Fl} {f:St} {w:World} (h:Fil G base m F f w):SetsR w (some ⟨F.tb,0,none⟩) ((List.range m).map f.S):=by
 refine ⟨(List.range m).map F.vs,fun _=>⟨F.tb,0,rfl,h.trow.lt,fun j u hu=>?_⟩,by simp,fun i l hl=>?_⟩
 ·have hj:j < m:=by
   rcases Nat.lt_or_ge j m with h1 | h1
   ·exact h1
   ·rw [List.getElem?_eq_none (by simp;omega)] at hu;cases hu
  rw [List.getElem?_map,List.getElem?_range hj] at hu
  injection hu with hu
  rw [Nat.zero_add,← hu]
  exact h.trow.cell hj
 ·have hi:i < m:=by
   rcases Nat.lt_or_ge i m with h1 | h1
   ·exact h1
   ·rw [List.getElem?_eq_none (by simp;omega)] at hl;cases hl
  rw [List.getElem?_map,List.getElem?_range hi] at hl
  injection hl with hl
  subst hl
  have hr:=h.rows i hi
  obtain ⟨A,c,hv,hc⟩:=own_form hr
  rw [hv] at hr
  exact ⟨A,c,by rw [List.getElem?_map,List.getElem?_range hi];show some (F.vs i)=_;rw [hv],hc,rd_ownN hr⟩
theorem csets_any (t n s:Int) (A:Option Addr) (len c:Nat) (ps:List Gr.Pr) (Aw:Option Addr) (lw cw:Nat) (xs:List Int) (w:World) (B:Nat) (hlen:len=ps.length) (hmax:len≤9223372036854775807) (hr:PrsC w B A ps) (hlw:lw=xs.length) (hmw:lw≤9223372036854775807) (hrw:Rd w B Aw (ins xs)) (hB:B≤w.heap.size) :
  Calls Tryz.prog 12 #[.agg #[.int .i64 t,.int .i64 n,.int .i64 s,.slice A len c],.slice Aw lw cw] w (SetsP ⟨t,n,s,ps⟩ xs w):=by
 have HB0:Hid (Bl w (w.alloc (.cells #[.int .i64 t,.int .i64 n,.int .i64 s,.slice A len c] 24))):=(Bl.refl w).alloc _
 have HCh:=Lib.hid (fun (wx:World) (hb:Bl w wx)=>check_law t n s A len c ps wx B hlen hmax (hr.bl hB hb) (Nat.le_trans hB hb.size))
 have HFt:=Lib.hid (fun (wx:World) (hb:Bl w wx)=>dfits_any t n s A len c Aw lw cw xs wx B hlw hmw (hrw.bl hB hb) (Nat.le_trans hB hb.size))
 have HF:Hid (fitB ⟨t,n,s,ps⟩ xs=(decide ((chkOf ⟨t,n,s,ps⟩).2=0) && Wd.fits t xs)):=rfl
 have HK0:=Lib.hid (Bk.new w 24 #[.int .i64 t,.int .i64 n,.int .i64 s,.slice A len c])
 have HR:=Lib.hid (fun (wx:World) (hb:Bl w wx)=>((hr.bl hB hb).more (Nat.le_trans hB hb.size)).prs)
 have HRw:=Lib.hid (fun (wx:World) (hb:Bl w wx)=>(hrw.bl hB hb).more (Nat.le_trans hB hb.size))
 have HL:=Lib.hid hlen
 have HLw:=Lib.hid hlw
 clear hr hrw hlen hlw
 generalize hch:chkOf ⟨t,n,s,ps⟩=ch at HCh HF
 clear hch
 obtain ⟨c1,c2⟩:=ch
 generalize hft:Wd.fits t xs=ft at HFt HF
 clear hft
 simp only at HCh HF
 by_cases h0:c2=0
 ·subst h0
  go_enter Tryz.func12,Tryz.ntmps12
  go_wp2_with fail
  refine (HCh.out _ HB0.out).mono ?_
  rintro e w1 ⟨rfl,hb1⟩
  have HB1:=Lib.hid (HB0.out.trans hb1)
  have HK1:=Lib.hid (HK0.out.bl hb1)
  have k0:w1.cell? ⟨w.heap.size,0,none⟩=some (.int .i64 t):=HK1.out.cell 0
  have k1:w1.cell? ⟨w.heap.size,1,none⟩=some (.int .i64 n):=HK1.out.cell 1
  have k2:w1.cell? ⟨w.heap.size,2,none⟩=some (.int .i64 s):=HK1.out.cell 2
  have k3:w1.cell? ⟨w.heap.size,3,none⟩=some (.slice A len c):=HK1.out.cell 3
  have kl:=HK1.out.lt
  clear hb1
  go_wp2_with fail
  refine (HFt.out _ HB1.out).mono ?_
  rintro e w2 ⟨rfl,hb2⟩
  have HB2:=Lib.hid (HB1.out.trans hb2)
  have HK2:=Lib.hid (HK1.out.bl hb2)
  clear hb2 k0 k1 k2 k3 kl HK1 HB1 HK0 HB0 HCh HFt
  cases ft with
  | false=>
   have HNo:Hid (fitB ⟨t,n,s,ps⟩ xs=false):=by show _=_;rw [HF.out];simp
   go_wp2_with fail
   go_ret
   exact ⟨none,[],0,rfl,Nat.le_refl _,SetsR.nil _,HB2.out,(fun h=>by rw [HNo.out] at h;cases h),fun _=>rfl⟩
  | true=>
   have HYes:Hid (fitB ⟨t,n,s,ps⟩ xs=true):=by show _=_;rw [HF.out];simp
   obtain ⟨hok,_,h24⟩:=fit_good HYes.out
   have HOk:Hid (okB ⟨t,n,s,ps⟩=true):=(okB_iff _).2 hok
   have HX24:=Lib.hid h24
   have k0:w2.cell? ⟨w.heap.size,0,none⟩=some (.int .i64 t):=HK2.out.cell 0
   have k1:w2.cell? ⟨w.heap.size,1,none⟩=some (.int .i64 n):=HK2.out.cell 1
   have k2:w2.cell? ⟨w.heap.size,2,none⟩=some (.int .i64 s):=HK2.out.cell 2
   have k3:w2.cell? ⟨w.heap.size,3,none⟩=some (.slice A len c):=HK2.out.cell 3
   have kl:=HK2.out.lt
   have h24l:lw≤24:=by have:=HLw.out;have:=HX24.out;omega
   have HBg:=Lib.hid (begun_any ⟨t,n,s,A,len,c,Aw,lw,cw⟩ ps (lw + 1) w2 rfl (by omega) HL.out (ok_nons HOk.out).2.2 (HR.out _ HB2.out))
   clear hok h24
   go_wp2_with fail
   refine HBg.out.mono ?_
   rintro e w3 ⟨F,rfl,hF,hb3⟩
   have HFF:=Lib.hid hF
   have HB3:=Lib.hid hb3
   have g7:w3.cell? ⟨F.f,7,none⟩=some (.slice (some ⟨F.tb,0,none⟩) (lw + 1) (lw + 1)):=hF.fb.cell 7
   have gl:=hF.fb.lt
   clear hF hb3 k0 k1 k2 k3 kl HK2 HBg
   go_wp2_with fail
   clear g7 gl
   go_loopw [30] (fun i wr=>∃ (k:Nat) (vs':Nat→Value) (f':St),k≤lw + 1∧i=.int .i64 k∧Hid (Fil ⟨t,n,s,A,len,c,Aw,lw,cw⟩ w2.heap.size (lw + 1) (F.to vs') f' wr)∧Hid (Ch.Good ⟨t,n,s,ps⟩ xs k 0 f')∧Hid (∀ b,b < k→Ch.Inc (f'.S b))∧Hid (Bl w2 wr)) (fun i _=>lw + 1 - (intOf i).toNat)
   case atStart=>exact ⟨0,F.vs,_,Nat.zero_le _,rfl,HFF.out,Ch.Good.begin_ _ _,(fun b hb=>absurd hb (Nat.not_lt_zero b)),HB3.out⟩
   case round=>
    obtain ⟨k,vs',f',hk,rfl,HFk,HG,HI,HBk⟩:=hrel
    by_cases hlt:k < lw + 1
    ·have hik:(k:Int) < ((lw + 1:Nat):Int):=by omega
     have HFill:=Lib.hid (fill_any ⟨t,n,s,A,len,c,Aw,lw,cw⟩ ps xs w2.heap.size (lw + 1) (F.to vs') f' k wr HFk.out (by rw [HLw.out]) hlt (by omega) HL.out HLw.out HOk.out ((HR.out _ HB2.out).bl (Nat.le_refl _) HBk.out) ((HRw.out _ HB2.out).bl (Nat.le_refl _) HBk.out) HG.out HBk.out.size)
     go_wp2_with fail
     refine HFill.out.mono ?_
     rintro e w5 ⟨rfl,vs5,f5,hf5,ht5,hg5,hi5,hs5⟩
     have HF5:=Lib.hid hf5
     have HG5:=Lib.hid hg5
     have HI5:Hid (∀ b,b < k + 1→Ch.Inc (f5.S b)):=fun b hb=>by
      rcases Nat.lt_or_ge b k with h1 | h1
      ·rw [hs5 b h1];exact HI.out b h1
      ·obtain rfl:b=k:=by omega
       exact hi5
     have HB5:Hid (Bl w2 w5):=Below.trans HBk.out (ht5.under HFk.out (Below.refl _ _))
     clear hf5 ht5 hg5 hi5 hs5 HFill
     go_wp2_with fail
     go_roundw
     case rel=>exact ⟨k + 1,vs5,f5,by omega,by go_num,HF5.out,HG5.out,HI5.out,HB5.out⟩
     case measure=>simp [intOf];omega
    ·have hik:¬ (k:Int) < ((lw + 1:Nat):Int):=by omega
     have hkm:k=lw + 1:=by omega
     subst hkm
     have g7:wr.cell? ⟨F.f,7,none⟩=some (.slice (some ⟨F.tb,0,none⟩) (lw + 1) (lw + 1)):=HFk.out.fb.cell 7
     have gl:F.f < wr.heap.size:=HFk.out.fb.lt
     have HRes:Hid (SetsP ⟨t,n,s,ps⟩ xs w (.returned (.slice (some ⟨F.tb,0,none⟩) (lw + 1) (lw + 1))) wr):=by
      have hlen:((List.range (lw + 1)).map f'.S).length=lw + 1:=by simp
      refine ⟨some ⟨F.tb,0,none⟩,(List.range (lw + 1)).map f'.S,lw + 1,by rw [hlen],by rw [hlen];exact Nat.le_refl _,HFk.out.sets,HB2.out.trans HBk.out,fun _=>⟨by rw [hlen,HLw.out],fun b l hl=>?_⟩,fun h=>by rw [HYes.out] at h;cases h⟩
      have hb:b < lw + 1:=by
       rcases Nat.lt_or_ge b (lw + 1) with h1 | h1
       ·exact h1
       ·rw [List.getElem?_eq_none (by rw [hlen];exact h1)] at hl;cases hl
      rw [List.getElem?_map,List.getElem?_range hb] at hl
      injection hl with hl
      subst hl
      exact ⟨HI.out b hb,HG.out.toBase.all (by omega)⟩
     go_wp2_with fail
     go_ret
     exact HRes.out
 ·have hq:((c2:Int) == 0)=false:=by rw [beq_eq_false_iff_ne];omega
  have hq2:((c2:Int) != 0)=true:=by rw [bne,hq];rfl
  have HNo:Hid (fitB ⟨t,n,s,ps⟩ xs=false):=by rw [HF.out,decide_eq_false h0];rfl
  clear h0
  go_enter Tryz.func12,Tryz.ntmps12
  go_wp2_with fail
  refine (HCh.out _ HB0.out).mono ?_
  rintro e w1 ⟨rfl,hb1⟩
  have HB1:=Lib.hid (HB0.out.trans hb1)
  clear hb1
  go_wp2_with fail
  go_ret
  exact ⟨none,[],0,rfl,Nat.le_refl _,SetsR.nil _,HB1.out,(fun h=>by rw [HNo.out] at h;cases h),fun _=>rfl⟩
end Go.Proofs.YtdfhhbncmdpoeaaGreat
