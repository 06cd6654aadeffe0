/- filling.follow: what follows of an item comes into the sets. -/
import Derived.Test.YtdfhhbncmdpoeaaGreatChB
import Derived.Test.YtdfhhbncmdpoeaaGreatFactS
set_option maxRecDepth 100000
set_option maxHeartbeats 8000000
namespace Go.Proofs.YtdfhhbncmdpoeaaGreat
open Go.RowKit
open Ch (St)
theorem ok_item {t n s:Int} {ps:List Gr.Pr} (hok:okB ⟨t,n,s,ps⟩=true) {y:Ch.Im} (hy:imIn ⟨t,n,s,ps⟩ y) {m:Nat} (hf:y.frm < m) (hm:m≤1000):y.prod < 60∧y.dot≤8∧imOk (Ch.behind y):=by
 obtain ⟨p,hp,hd⟩:=hy
 obtain ⟨_,_,n3⟩:=ok_nons hok
 have hi:=Ch.lt_of_get hp
 have hi2:y.prod < ps.length:=hi
 have h8:=(ok_syms hok hi2).2.1
 have hp2:ps[y.prod]'hi2=p:=by have h:ps[y.prod]?=some p:=hp;rw [List.getElem?_eq_getElem hi2] at h;injection h
 rw [hp2] at h8
 refine ⟨by omega,by omega,?_,?_,?_⟩
 ·show y.prod < 1000000;omega
 ·show y.dot + 1 < 1000000;omega
 ·show y.frm < 1000000;omega
theorem ok_sym {t n s:Int} {ps:List Gr.Pr} (hok:okB ⟨t,n,s,ps⟩=true) {y:Ch.Im} {z:Gr.Sy} (h:Ch.symAt ⟨t,n,s,ps⟩ y=some z):0≤z.n∧z.n < 24:=by
 obtain ⟨p,hp,hz⟩:=Ch.symAt_iff.1 h
 have hg:=(okB_iff _).1 hok
 have h1:=(hg.2.2.2.2.2.2.2 p (List.mem_of_getElem? hp)).2.2.2 z (List.mem_of_getElem? hz)
 have h2:=hg.2.1
 have h3:=hg.2.2.2.1
 obtain ⟨a1,a2,a3⟩:=h1
 simp only at a2 a3 h2 h3
 cases e:z.non with
 | true=>have:=a2 e;omega
 | false=>have:=a3 e;omega
theorem ok_left {t n s:Int} {ps:List Gr.Pr} (hok:okB ⟨t,n,s,ps⟩=true) {y:Ch.Im} (hy:imIn ⟨t,n,s,ps⟩ y):0≤Ch.leftOf ⟨t,n,s,ps⟩ y∧Ch.leftOf ⟨t,n,s,ps⟩ y < 24:=by
 obtain ⟨p,hp,hd⟩:=hy
 have hg:=(okB_iff _).1 hok
 have h1:=hg.2.2.2.2.2.2.2 p (List.mem_of_getElem? hp)
 have h3:=hg.2.2.2.1
 rw [Ch.leftOf_eq hp]
 have a1:=h1.1
 have a2:=h1.2.1
 simp only at a1 a2 h3
 omega
theorem follow_any (G:Fg) (ps:List Gr.Pr) (wd:List Int) (base m:Nat) (F:Fl) (f:St) (a xp xd xf:Nat) (w:World) (h:Fil G base m F f w) (hm:m=wd.length + 1) (ha:a < m) (hm2:m≤1000) (hlen:G.len=ps.length) (hlw:G.lw=wd.length) (hok:okB ⟨G.t,G.n,G.s,ps⟩=true) (hr:Prs w base G.A ps) (hrw:Rd w base G.Aw (ins wd))
  (hS:∀ b,b < m→(f.S b).length≤100000∧∀ y ∈ f.S b,imIn ⟨G.t,G.n,G.s,ps⟩ y∧y.frm < m) (hE:(f.E a).length≤100000) (hx:imIn ⟨G.t,G.n,G.s,ps⟩ ⟨xp,xd,xf⟩) (hxf:xf < m) (hb:base≤w.heap.size) :
  Calls Tryz.prog 56 #[.pointer (some ⟨F.f,0,none⟩),.int .i64 (a:Int),.agg #[.int .i64 (xp:Int),.int .i64 (xd:Int),.int .i64 (xf:Int)]] w (InP G base m F (Ch.followI ⟨G.t,G.n,G.s,ps⟩ wd f a ⟨xp,xd,xf⟩) w):=by
 have HX1:Hid (Bk (w.alloc (.cells #[.int .i64 (xp:Int),.int .i64 (xd:Int),.int .i64 (xf:Int)] 44)) w.heap.size 44 #[.int .i64 (xp:Int),.int .i64 (xd:Int),.int .i64 (xf:Int)]):=Bk.new w _ _
 have HB1:Hid (Bl w (w.alloc (.cells #[.int .i64 (xp:Int),.int .i64 (xd:Int),.int .i64 (xf:Int)] 44))):=(Bl.refl w).alloc _
 have HF:=Lib.hid h
 have HN0:Hid (¬ F.own m w.heap.size):=fun h1=>by have:=(h.lt h1).2;omega
 have HR:=Lib.hid (fun (vs':Nat→Value) (wx:World) (ht:Tr m F vs' w wx)=>hr.below (ht.under h (Below.refl _ _)))
 have HRw:=Lib.hid (fun (vs':Nat→Value) (wx:World) (ht:Tr m F vs' w wx)=>hrw.below (ht.under h (Below.refl _ _)))
 have HL:=Lib.hid hlen
 have HLw:=Lib.hid hlw
 have HM:=Lib.hid hm
 have HSz:=Lib.hid hS
 have HIm:=Lib.hid (ok_item hok hx hxf hm2)
 have HSyo:Hid (∀ z,Ch.symAt ⟨G.t,G.n,G.s,ps⟩ ⟨xp,xd,xf⟩=some z→0≤z.n∧z.n < 24):=fun z e=>ok_sym hok e
 have HLfo:=Lib.hid (ok_left hok hx)
 have HPl:Hid (ps.length≤60):=(ok_nons hok).2.2
 have HEnd:=Lib.hid (fun (wx:World) (hbx:Bl w wx)=>end_any G ps base m F f a (Ch.leftOf ⟨G.t,G.n,G.s,ps⟩ ⟨xp,xd,xf⟩) xf wx (h.bl hbx) ha hxf hm2 hlen (hr.bl hb hbx) (Nat.le_trans (hS a ha).1 (by omega)) (Nat.le_trans (hS xf hxf).1 (by omega)) (by omega) (by have:=ok_left hok hx;omega) (fun y hy=>⟨((hS xf hxf).2 y hy).1,(ok_item hok ((hS xf hxf).2 y hy).1 ((hS xf hxf).2 y hy).2 hm2).2.2⟩) (Nat.le_trans hb hbx.size))
 have HNx:=Lib.hid (fun (wx:World) (hbx:Bl w wx)=>next_at G.t G.n G.s G.A G.len G.c ps ⟨xp,xd,xf⟩ wx base hlen (hr.bl hb hbx) (Nat.le_trans hb hbx.size) hx)
 have HBeg:=Lib.hid (fun (nn:Int) (wx:World) (hbx:Bl w wx)=>begin_any G ps base m F f a nn wx (h.bl hbx) ha hm2 hlen (by have:=(ok_nons hok).2.2;omega) (hr.bl hb hbx) (Nat.le_trans (hS a ha).1 (by omega)) (Nat.le_trans hb hbx.size))
 have HPd:Hid (∃ p,ps[xp]?=some p∧p.left=Ch.leftOf ⟨G.t,G.n,G.s,ps⟩ ⟨xp,xd,xf⟩):=by
  obtain ⟨p,hp,_⟩:=hx
  exact ⟨p,hp,(Ch.leftOf_eq (x:=⟨xp,xd,xf⟩) hp).symm⟩
 have HSy:Hid (Ch.symAt ⟨G.t,G.n,G.s,ps⟩ ⟨xp,xd,xf⟩=if (Ch.symAt ⟨G.t,G.n,G.s,ps⟩ ⟨xp,xd,xf⟩).isSome=true then some (nxt ⟨G.t,G.n,G.s,ps⟩ ⟨xp,xd,xf⟩) else none):=by
  show _=_
  split
  ·rename_i e;exact nxt_some e
  ·rename_i e;exact nxt_none (by simpa using e)
 generalize (Ch.symAt ⟨G.t,G.n,G.s,ps⟩ ⟨xp,xd,xf⟩).isSome=ib at HNx HSy
 generalize nxt ⟨G.t,G.n,G.s,ps⟩ ⟨xp,xd,xf⟩=nx at HNx HSy
 obtain ⟨yb,yn⟩:=nx
 have HPx:Hid (∀ wx,Bl (w.alloc (.cells #[.int .i64 (xp:Int),.int .i64 (xd:Int),.int .i64 (xf:Int)] 44)) wx→wx.cell? ⟨F.f,0,none⟩=some (.int .i64 G.t)∧wx.cell? ⟨F.f,1,none⟩=some (.int .i64 G.n)∧wx.cell? ⟨F.f,2,none⟩=some (.int .i64 G.s)∧wx.cell? ⟨F.f,3,none⟩=some (.slice G.A G.len G.c)∧wx.cell? ⟨w.heap.size,0,none⟩=some (.int .i64 (xp:Int))∧wx.cell? ⟨w.heap.size,1,none⟩=some (.int .i64 (xd:Int))∧wx.cell? ⟨w.heap.size,2,none⟩=some (.int .i64 (xf:Int))∧F.f < wx.heap.size):=fun wx hbx=>by
  have h1:=(h.bl (HB1.out.trans hbx)).fb
  have h2:=HX1.out.bl hbx
  exact ⟨h1.cell 0,h1.cell 1,h1.cell 2,h1.cell 3,h2.cell 0,h2.cell 1,h2.cell 2,h1.lt⟩
 have ha0:(0:Int)≤(a:Int):=by omega
 have ha1:(a:Int) < (m:Int):=by omega
 clear h hm hlen hlw hok hr hrw hS hE hx
 go_enter Tryz.func56,Tryz.ntmps56
 go_upto_region 1 with fail
 generalize w.alloc (.cells #[.int .i64 (xp:Int),.int .i64 (xd:Int),.int .i64 (xf:Int)] 44)=w4 at *
 go_cut [6,7] (fun s6 s7 wx=>∃ q:Nat,s6=.pointer (some ⟨q,0,none⟩)∧s7=.bool ib∧Hid (Bk wx q 39 #[.bool yb,.int .i64 yn])∧Hid (Bl w4 wx))
 case first=>
  have HQ4:Hid (Bk (w4.alloc (.cells #[.bool false,.int .i64 0] 39)).drew w4.heap.size 39 #[.bool false,.int .i64 0]):=(Bk.new w4 _ _).drew
  have HBd:Hid (Bl w4 w4.drew):=(Bl.refl w4).drew
  have HBa:Hid (Bl w4 (w4.alloc (.cells #[.bool false,.int .i64 0] 39)).drew):=((Bl.refl w4).alloc _).drew
  have tk2:True:=trivial
  go_region_held3 (fun wx=>wx.cell? ⟨F.f,0,none⟩=some (.int .i64 G.t)∧wx.cell? ⟨F.f,1,none⟩=some (.int .i64 G.n)∧wx.cell? ⟨F.f,2,none⟩=some (.int .i64 G.s)∧wx.cell? ⟨F.f,3,none⟩=some (.slice G.A G.len G.c)∧wx.cell? ⟨w.heap.size,0,none⟩=some (.int .i64 (xp:Int))∧wx.cell? ⟨w.heap.size,1,none⟩=some (.int .i64 (xd:Int))∧wx.cell? ⟨w.heap.size,2,none⟩=some (.int .i64 (xf:Int))∧F.f < wx.heap.size) (first | exact HPx.out _ HBd.out | exact HPx.out _ HBa.out | exact HPx.out _ HB5.out | exact HPx.out _ (HB5.out.alloc _) | exact HPx.out _ (bl_store2 HB5.out (by omega) _ _) | exact HPx.out _ (bl_store2 (HB5.out.alloc _) (by have h:=HB5.out.size;omega) _ _)) (first
   | (go_at_call 85;have _t:=tk2;((with_reducible refine (HNx.out _ (HB1.out.trans HBd.out)).mono ?_);rintro e v5 ⟨rfl,hb5⟩;have HB5:=Lib.hid (HBd.out.trans hb5);clear tk2 hb5))
   | (go_at_call 85;have _t:=tk2;((with_reducible refine (HNx.out _ (HB1.out.trans HBa.out)).mono ?_);rintro e v5 ⟨rfl,hb5⟩;have HB5:=Lib.hid (HBa.out.trans hb5);have HQ5:=Lib.hid (HQ4.out.bl hb5);have s50:v5.cell? ⟨w4.heap.size,0,none⟩=some (.bool false):=HQ5.out.cell 0;have s51:v5.cell? ⟨w4.heap.size,1,none⟩=some (.int .i64 0):=HQ5.out.cell 1;have f50:v5.frozen? ⟨w4.heap.size,0,none⟩=false:=HQ5.out.free 0;have f51:v5.frozen? ⟨w4.heap.size,1,none⟩=false:=HQ5.out.free 1;have l5:w4.heap.size < v5.heap.size:=HQ5.out.lt;clear tk2 hb5))
   | fail)
  all_goals
   go_wp2_with fail
   go_meet
   first
    | exact ⟨_,rfl,rfl,(HQ5.out.put 0 _).put 1 _,bl_store2 HB5.out (by omega) _ _⟩
    | exact ⟨_,rfl,rfl,Bk.new v5 _ _,HB5.out.alloc _⟩
 case rest=>
  obtain ⟨q,rfl,rfl,HQ,HB6⟩:=hcut
  have HBw:=Lib.hid (HB1.out.trans HB6.out)
  have q0:wc.cell? ⟨q,0,none⟩=some (.bool yb):=HQ.out.cell 0
  have q1:wc.cell? ⟨q,1,none⟩=some (.int .i64 yn):=HQ.out.cell 1
  have ql:q < wc.heap.size:=HQ.out.lt
  have HX6:=Lib.hid (HX1.out.bl HB6.out)
  have hPc:=HPx.out _ HB6.out
  clear HNx HX1
  cases ib with
  | false=>
   have HEq:Hid (Ch.followI ⟨G.t,G.n,G.s,ps⟩ wd f a ⟨xp,xd,xf⟩=Ch.endI ⟨G.t,G.n,G.s,ps⟩ f a (Ch.leftOf ⟨G.t,G.n,G.s,ps⟩ ⟨xp,xd,xf⟩,xf)):=by
    show Ch.followI _ _ _ _ _=_
    unfold Ch.followI;rw [HSy.out];rfl
   obtain ⟨p,hp,hleft⟩:=HPd.out
   have hpi:=Ch.lt_of_get hp
   obtain ⟨bp,op,Ax,cx,hA,hbB,_,hc0,_⟩:=(HR.out F.vs wc ((Tr.refl m F w).after HBw.out)).at_ hpi
   have hp2:ps[xp]'hpi=p:=by rw [List.getElem?_eq_getElem hpi] at hp;injection hp
   rw [hp2,hleft] at hc0
   have HC0:Hid (∀ wx,Bl wc wx→wx.cell? ⟨bp,op + xp * 2,none⟩=some (.int .i64 (Ch.leftOf ⟨G.t,G.n,G.s,ps⟩ ⟨xp,xd,xf⟩))∧bp < wx.heap.size):=fun wx hbx=>⟨(Below.cell hbx (p:=⟨bp,op + xp * 2,none⟩) (by show bp < _;have:=HBw.out.size;omega)).trans hc0,by have:=HBw.out.size;have:=hbx.size;omega⟩
   generalize Ch.leftOf ⟨G.t,G.n,G.s,ps⟩ ⟨xp,xd,xf⟩=lf at *
   have HPx2:Hid (∀ wx,Bl wc wx→wx.cell? ⟨F.f,3,none⟩=some (.slice (some ⟨bp,op,none⟩) G.len G.c)∧wx.cell? ⟨w.heap.size,0,none⟩=some (.int .i64 (xp:Int))∧wx.cell? ⟨w.heap.size,2,none⟩=some (.int .i64 (xf:Int))∧F.f < wx.heap.size∧wx.cell? ⟨bp,op + xp * 2,none⟩=some (.int .i64 lf)∧bp < wx.heap.size):=fun wx hbx=>by
    obtain ⟨_,_,_,h3,h4,_,h6,h7⟩:=HPx.out _ (HB6.out.trans hbx)
    rw [hA] at h3
    exact ⟨h3,h4,h6,h7,HC0.out _ hbx⟩
   have i0:(0:Int)≤(xp:Int):=by omega
   have i1:(xp:Int) < (G.len:Int):=by have:=HL.out;omega
   have HAft:Hid (∀ (w0 v9:World) (vs9:Nat→Value) (f9:St),Bl wc w0→Fil G base m (F.to vs9) f9 v9→Tr m F vs9 w0 v9→v9.cell? ⟨F.f,3,none⟩=some (.slice (some ⟨bp,op,none⟩) G.len G.c)∧v9.cell? ⟨w.heap.size,0,none⟩=some (.int .i64 (xp:Int))∧v9.cell? ⟨w.heap.size,2,none⟩=some (.int .i64 (xf:Int))∧F.f < v9.heap.size∧v9.cell? ⟨bp,op + xp * 2,none⟩=some (.int .i64 lf)∧bp < v9.heap.size):=fun w0 v9 vs9 f9 hb0 hf9 ht9=>by
    have hx9:=(ht9.box (HX6.out.bl hb0) HN0.out).1
    have hun:=ht9.under (HF.out.bl (HBw.out.trans hb0)) (Below.refl base w0)
    have h3:=hf9.fb.cell 3
    have h3:v9.cell? ⟨F.f,3,none⟩=some (.slice G.A G.len G.c):=h3
    rw [hA] at h3
    obtain ⟨p1,p2⟩:=HC0.out _ hb0
    exact ⟨h3,hx9.cell 0,hx9.cell 2,hf9.fb.lt,(Below.cell hun (p:=⟨bp,op + xp * 2,none⟩) hbB).trans p1,Nat.lt_of_lt_of_le p2 ht9.fr.size⟩
   clear hPc hp hp2 hleft hc0 hA
   go_upto_region 3 with fail
   clear q0 q1 ql
   have HBd:Hid (Bl wc wc.drew):=(Bl.refl wc).drew
   have tk3:True:=trivial
   go_region_held3 (fun wx=>wx.cell? ⟨F.f,3,none⟩=some (.slice (some ⟨bp,op,none⟩) G.len G.c)∧wx.cell? ⟨w.heap.size,0,none⟩=some (.int .i64 (xp:Int))∧wx.cell? ⟨w.heap.size,2,none⟩=some (.int .i64 (xf:Int))∧F.f < wx.heap.size∧wx.cell? ⟨bp,op + xp * 2,none⟩=some (.int .i64 lf)∧bp < wx.heap.size) (first | exact HPx2.out _ HBd.out | exact HP9.out) (first
    | (go_at_call 86;have _t:=tk3;((with_reducible refine (HEnd.out _ (HBw.out.trans HBd.out)).mono ?_);rintro e v9 ⟨rfl,vs9,hf9,ht9⟩;have HF9:=Lib.hid hf9;have HT9:=Lib.hid ht9;have HP9:=Lib.hid (HAft.out _ _ _ _ HBd.out hf9 ht9);clear tk3 hf9 ht9))
    | fail)
   go_wp2_with fail
   go_end0
   exact ⟨rfl,vs9,(by rw [HEq.out];exact HF9.out),Tr.ahead (HBw.out.trans HBd.out) HT9.out⟩
  | true=>
   have HS:=Lib.hid (HSyo.out ⟨yb,yn⟩ (by rw [HSy.out];rfl))
   cases yb with
   | true=>
    have HEq:Hid (Ch.followI ⟨G.t,G.n,G.s,ps⟩ wd f a ⟨xp,xd,xf⟩=Ch.nonI ⟨G.t,G.n,G.s,ps⟩ f a ⟨true,yn⟩ ⟨xp,xd,xf⟩):=by
     show Ch.followI _ _ _ _ _=_
     unfold Ch.followI;rw [HSy.out];rfl
    go_wp2_with fail
    refine (HBeg.out yn _ HBw.out).mono ?_
    rintro e v5 ⟨rfl,vs5,hf5,ht5⟩
    have HF5:=Lib.hid hf5
    have HT5:Hid (Tr m F vs5 w v5):=Tr.ahead HBw.out ht5
    have hq5:=HQ.out.fr ht5.fr ((HF.out.bl HBw.out).notown HQ.out (by decide) (by decide))
    have hx5:=ht5.box HX6.out HN0.out
    have HQ5:=Lib.hid hq5
    have HX5:=Lib.hid hx5.1
    clear hf5 ht5 hq5 hx5 q0 q1 ql hPc
    have g6:v5.cell? ⟨F.f,6,none⟩=some (.slice (some ⟨F.eb,0,none⟩) m F.ce):=HF5.out.fb.cell 6
    have g7:v5.cell? ⟨F.eb,a,none⟩=some (.map (some (F.es a))):=HF5.out.erow.cell ha
    have q5:v5.cell? ⟨q,1,none⟩=some (.int .i64 yn):=HQ5.out.cell 1
    have gl:F.f < v5.heap.size:=HF5.out.fb.lt
    have hlk:∀ (wx:World),Bl v5 wx→(Instr.lookup 111 (.map (some (F.es a))) (.agg #[.int .i64 yn,.int .i64 (a:Int)]) false).run Tryz.prog wx=.ok (.bool (!newB (f.E a) (yn,a))) wx:=fun wx hbx=>by
     have h:=MapS.look (MapS.bl (HF5.out.emap a ha) hbx) en_law Tryz.underlying111 (x:=(yn,a)) ⟨HS.out.1,by have:=HS.out.2;show yn < _;omega,by show a < _;omega⟩ (key_ended ⟨HS.out.1,by have:=HS.out.2;show yn < _;omega,by show a < _;omega⟩)
     unfold newB
     rw [Bool.not_not]
     exact h
    have HLk:=Lib.hid hlk
    clear hlk
    generalize hnb:newB (f.E a) (yn,a)=nb at HLk
    have HNb:=Lib.hid hnb
    clear hnb
    go_upto_region 6 with fail
    have HSd:Hid (v5.drew.cell? ⟨F.f,6,none⟩=some (.slice (some ⟨F.eb,0,none⟩) m F.ce)∧v5.drew.cell? ⟨F.eb,a,none⟩=some (.map (some (F.es a)))∧v5.drew.cell? ⟨q,1,none⟩=some (.int .i64 yn)∧F.f < v5.drew.heap.size∧(Instr.lookup 111 (.map (some (F.es a))) (.agg #[.int .i64 yn,.int .i64 (a:Int)]) false).run Tryz.prog v5.drew=.ok (.bool (!nb)) v5.drew):=⟨g6,g7,q5,gl,HLk.out _ (Bl.refl v5).drew⟩
    clear g6 g7 q5 gl
    go_region_held3 (fun wx=>wx.cell? ⟨F.f,6,none⟩=some (.slice (some ⟨F.eb,0,none⟩) m F.ce)∧wx.cell? ⟨F.eb,a,none⟩=some (.map (some (F.es a)))∧wx.cell? ⟨q,1,none⟩=some (.int .i64 yn)∧F.f < wx.heap.size∧(Instr.lookup 111 (.map (some (F.es a))) (.agg #[.int .i64 yn,.int .i64 (a:Int)]) false).run Tryz.prog wx=.ok (.bool (!nb)) wx) (first | exact HSd.out) (fail)
    rename_i hHeld
    clear hHeld HSd HLk
    have HB5d:Hid (Bl v5 v5.drew):=(Bl.refl v5).drew
    cases nb with
    | true=>
     have HEn:Hid (Ch.nonI ⟨G.t,G.n,G.s,ps⟩ f a ⟨true,yn⟩ ⟨xp,xd,xf⟩=Ch.puts f a (Ch.begs ⟨G.t,G.n,G.s,ps⟩ a yn)):=by
      show Ch.nonI _ _ _ _ _=_
      unfold Ch.nonI
      rw [if_neg]
      intro hin
      have h:=newB_no hin
      rw [HNb.out] at h;cases h
     go_wp2_with fail
     go_end0
     exact ⟨rfl,vs5,(by rw [HEq.out,HEn.out];exact HF5.out.bl HB5d.out),HT5.out.after HB5d.out⟩
    | false=>
     have HEn:Hid (Ch.nonI ⟨G.t,G.n,G.s,ps⟩ f a ⟨true,yn⟩ ⟨xp,xd,xf⟩=Ch.puts (Ch.puts f a (Ch.begs ⟨G.t,G.n,G.s,ps⟩ a yn)) a [⟨xp,xd + 1,xf⟩]):=by
      show Ch.nonI _ _ _ _ _=_
      unfold Ch.nonI
      rw [if_pos]
      ·rfl
      ·apply Classical.byContradiction
       intro hin
       have h:=newB_yes hin
       rw [HNb.out] at h;cases h
     have i0:v5.cell? ⟨w.heap.size,0,none⟩=some (.int .i64 (xp:Int)):=HX5.out.cell 0
     have i1:v5.cell? ⟨w.heap.size,1,none⟩=some (.int .i64 (xd:Int)):=HX5.out.cell 1
     have i2:v5.cell? ⟨w.heap.size,2,none⟩=some (.int .i64 (xf:Int)):=HX5.out.cell 2
     have il:w.heap.size < v5.heap.size:=HX5.out.lt
     have HBe:=Lib.hid (fun (wx:World)=>behind_any xp xd xf wx (by have h:=HIm.out.2.1;show xd < _;have h2:xd≤8:=h;omega))
     go_wp2_with fail
     refine (HBe.out _).mono ?_
     rintro e w7 ⟨rfl,hb7⟩
     have HF7:=Lib.hid (HF5.out.bl (HB5d.out.trans hb7))
     have HT7:=Lib.hid (HT5.out.after (HB5d.out.trans hb7))
     have HPut:=Lib.hid (fput_any G base m (F.to vs5) (Ch.puts f a (Ch.begs ⟨G.t,G.n,G.s,ps⟩ a yn)) a ⟨xp,xd + 1,xf⟩ w7 HF7.out ha HIm.out.2.2 (by
      rw [Ch.puts_same]
      have h1:=adds_le (f.S a) (Ch.begs ⟨G.t,G.n,G.s,ps⟩ a yn)
      have h2:=begs_len ⟨G.t,G.n,G.s,ps⟩ a yn
      have h3:=(HSz.out a ha).1
      have h4:=HPl.out
      have h2:(Ch.begs ⟨G.t,G.n,G.s,ps⟩ a yn).length≤ps.length:=h2
      omega) (Nat.le_trans hb HT7.out.fr.size))
     clear i0 i1 i2 il hb7 HX5 HQ5
     go_wp2_with fail
     refine HPut.out.mono ?_
     rintro e w8 ⟨rfl,vs8,hf8,ht8⟩
     have HF8:=Lib.hid hf8
     have HT8:Hid (Tr m F vs8 w w8):=HT7.out.trans ht8.toTr
     clear hf8 ht8
     go_wp2_with fail
     go_end0
     exact ⟨rfl,vs8,(by rw [HEq.out,HEn.out];exact HF8.out),HT8.out⟩
   | false=>
    have HEq:Hid (Ch.followI ⟨G.t,G.n,G.s,ps⟩ wd f a ⟨xp,xd,xf⟩=if wd[a]?=some yn then Ch.puts f (a + 1) [⟨xp,xd + 1,xf⟩] else f):=by
     show Ch.followI _ _ _ _ _=_
     unfold Ch.followI;rw [HSy.out];rfl
    have g4:wc.cell? ⟨F.f,4,none⟩=some (.slice G.Aw G.lw G.cw):=(HF.out.bl HBw.out).fb.cell 4
    have gl:F.f < wc.heap.size:=hPc.2.2.2.2.2.2.2
    clear hPc
    by_cases hal:a < wd.length
    ·obtain ⟨bw,ow,hAw,hbw,cw0⟩:=(HRw.out F.vs wc ((Tr.refl m F w).after HBw.out)).int hal
     rw [hAw] at g4
     have hbl:bw < wc.heap.size:=by have:=HBw.out.size;omega
     have h1:(a:Int) < (G.lw:Int):=by have:=HLw.out;omega
     have HG:Hid (wd[a]?=some wd[a]):=List.getElem?_eq_getElem hal
     have HA1:Hid (a + 1 < m):=by have:=HM.out;show _ < _;omega
     generalize wd[a]=z at *
     clear hAw hal
     by_cases hz:z=yn
     ·subst hz
      have HE2:Hid (Ch.followI ⟨G.t,G.n,G.s,ps⟩ wd f a ⟨xp,xd,xf⟩=Ch.puts f (a + 1) [⟨xp,xd + 1,xf⟩]):=by show _=_;rw [HEq.out,HG.out,if_pos rfl]
      have i0:wc.cell? ⟨w.heap.size,0,none⟩=some (.int .i64 (xp:Int)):=HX6.out.cell 0
      have i1:wc.cell? ⟨w.heap.size,1,none⟩=some (.int .i64 (xd:Int)):=HX6.out.cell 1
      have i2:wc.cell? ⟨w.heap.size,2,none⟩=some (.int .i64 (xf:Int)):=HX6.out.cell 2
      have il:w.heap.size < wc.heap.size:=HX6.out.lt
      have HBe:=Lib.hid (fun (wx:World)=>behind_any xp xd xf wx (by have h:=HIm.out.2.1;show xd < _;have h2:xd≤8:=h;omega))
      go_upto_region 8 with fail
      go_quiet (fail)
      go_wp2_with fail
      refine (HBe.out _).mono ?_
      rintro e w7 ⟨rfl,hb7⟩
      have HB7:=Lib.hid (HBw.out.trans (((Bl.refl wc).drewN nq).trans hb7))
      have HF7:=Lib.hid (HF.out.bl HB7.out)
      have HT7:=Lib.hid ((Tr.refl m F w).after HB7.out)
      have hput:=fput_any G base m F f (a + 1) ⟨xp,xd + 1,xf⟩ w7 HF7.out HA1.out HIm.out.2.2 (by have:=(HSz.out (a + 1) HA1.out).1;omega) (Nat.le_trans hb HB7.out.size)
      have ea:((a + 1:Nat):Int)=(a:Int) + 1:=by omega
      rw [ea] at hput
      have HPut:=Lib.hid hput
      clear i0 i1 i2 il hb7 hput ea
      go_wp2_with fail
      refine HPut.out.mono ?_
      rintro e w8 ⟨rfl,vs8,hf8,ht8⟩
      have HF8:=Lib.hid hf8
      have HT8:Hid (Tr m F vs8 w w8):=HT7.out.trans ht8.toTr
      clear hf8 ht8
      go_wp2_with fail
      go_end0
      exact ⟨rfl,vs8,(by rw [HE2.out];exact HF8.out),HT8.out⟩
     ·have hq:(z == yn)=false:=beq_eq_false_iff_ne.2 hz
      have HE2:Hid (Ch.followI ⟨G.t,G.n,G.s,ps⟩ wd f a ⟨xp,xd,xf⟩=f):=by show _=_;rw [HEq.out,HG.out,if_neg (by intro e;injection e with e;exact hz e)]
      clear hz
      go_upto_region 8 with fail
      go_quiet (fail)
      go_wp2_with fail
      go_end0
      exact ⟨rfl,F.vs,(by rw [HE2.out];exact HF.out.bl (HBw.out.trans ((Bl.refl wc).drewN _))),(Tr.refl m F w).after (HBw.out.trans ((Bl.refl wc).drewN _))⟩
    ·have HE2:Hid (Ch.followI ⟨G.t,G.n,G.s,ps⟩ wd f a ⟨xp,xd,xf⟩=f):=by show _=_;rw [HEq.out,List.getElem?_eq_none (by omega),if_neg (by simp)]
     have h1:¬ (a:Int) < (G.lw:Int):=by have:=HLw.out;omega
     have h2:decide ((a:Int) < (G.lw:Int))=false:=decide_eq_false h1
     clear hal
     go_upto_region 8 with fail
     go_quiet (fail)
     go_wp2_with fail
     go_end0
     exact ⟨rfl,F.vs,(by rw [HE2.out];exact HF.out.bl (HBw.out.trans ((Bl.refl wc).drewN _))),(Tr.refl m F w).after (HBw.out.trans ((Bl.refl wc).drewN _))⟩
end Go.Proofs.YtdfhhbncmdpoeaaGreat
