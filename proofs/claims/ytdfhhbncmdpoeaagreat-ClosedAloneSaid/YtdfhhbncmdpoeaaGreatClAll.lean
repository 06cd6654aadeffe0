/- kept.closed: is all there that must be? -/
import Derived.Test.YtdfhhbncmdpoeaaGreatClLet
import Derived.Shelf.Abstract
set_option maxRecDepth 100000
set_option maxHeartbeats 16000000
namespace Go.Proofs.YtdfhhbncmdpoeaaGreat
open Go.RowKit
open Go.Maps (Keyed)
attribute [local go_sem] Oper.semAt_some
def AllIn (g:Gr.Gm) (xs:List Int) (m:Nat) (P:List St4):Prop:=(∀ s,ReqS g s→s ∈ P)∧(∀ s,ReqB g P s→s ∈ P)∧(∀ s,ReqR g P xs m s→s ∈ P)∧(∀ s,ReqL g P s→s ∈ P)
def DK (Ds:List Nat) (W:World):Prop:=∀ D ∈ Ds,W.heap[D]?=some (.deferred (some []))
structure ClI (w w3:World) (P:List St4) (Ds:List Nat) (pre:List SX) (W:World):Prop where
 kp:KpC w3 W
 b:Bl w W
 dk:DK Ds W
 all:∀ y ∈ pre,y.1 ∈ P
structure ClX (w:World) (rb:Nat) (P:List St4) (Ds:List Nat) (pre:List SX) (W:World):Prop where
 b:Bl w W
 dk:DK Ds W
 res:Bk W rb 4 #[.bool false]
 no:∃ y ∈ pre,y.1 ∉ P
theorem ClI.abv {w w3 w4:World} {P:List St4} {Ds:List Nat} (h3:w3.heap.size≤w4.heap.size) (hw:w.heap.size≤w4.heap.size) (hD:∀ D ∈ Ds,D < w4.heap.size):Abv w4 (ClI w w3 P Ds):=fun s X Y row h hg hr=>
 ⟨h.kp.grown hg fun k e=>Nat.le_trans h3 (hr k e).1,h.b.grown hg fun k e=>Nat.le_trans hw (hr k e).1,fun D hd=>(hg.block D (heap_lt (h.dk D hd)) (fun e=>by have:=(hr D e.symm).1;have:=hD D hd;omega)).trans (h.dk D hd),h.all⟩
theorem ClX.abv {w w4:World} {rb:Nat} {P:List St4} {Ds:List Nat} (hw:w.heap.size≤w4.heap.size) (hrb:rb < w4.heap.size) (hD:∀ D ∈ Ds,D < w4.heap.size):Abv w4 (ClX w rb P Ds):=fun s X Y row h hg hr=>
 ⟨h.b.grown hg fun k e=>Nat.le_trans hw (hr k e).1,fun D hd=>(hg.block D (heap_lt (h.dk D hd)) (fun e=>by have:=(hr D e.symm).1;have:=hD D hd;omega)).trans (h.dk D hd),h.res.grown hg (fun e=>by have:=(hr rb e.symm).1;omega),h.no⟩
theorem leaves_all {fn:Func} {tmps:Array Value} {R:Ending→World→Prop} {n:Nat} (w:World):∀ (Ds:List Nat) (W:World),Bl w W→Ds.Nodup→(∀ D ∈ Ds,w.heap.size≤D)→DK Ds W→
  (∀ W',Bl w W'→(∀ (k:Nat) (o:Obj),W.heap[k]?=some o→o.isCells=true→W'.heap[k]?=some o)→LeavesInM Fence.wide n Tryz.prog fn tmps R [] .returning W')→
  LeavesInM Fence.wide n Tryz.prog fn tmps R (Ds.map fun D=>{ target:=.collected D,args:=#[] }) .returning W
 | [],W,hb,_,_,_,hend=>hend W hb fun _ _ h _=>h
 | D :: Ds,W,hb,hn,hlo,hdk,hend=>by
  have hD:=hdk D (by simp)
  refine ⟨by simp,.inl ⟨D,_,rfl,run_takeDeferred hD,?_⟩⟩
  rw [List.nodup_cons] at hn
  refine leaves_all w Ds _ (hb.grown (grownBy_putObj' W D _) fun k e=>by cases e;exact hlo D (by simp)) hn.2 (fun E hE=>hlo E (by simp [hE])) (fun E hE=>(World.putObj_heap_other (fun e=>hn.1 (by rw [← e];exact hE))).trans (hdk E (by simp [hE]))) fun W' hb' hc=>hend W' hb' fun k o hk ho=>hc k o ((World.putObj_heap_other (fun e=>by subst e;rw [hD] at hk;injection hk with hk;subst hk;cases ho)).trans hk) ho
theorem bkKept {w w':World} {k:Nat} {t:TypeId} {cs:Array Value} {row:Option Nat} (h:Bk w k t cs) (hg:w.grownBy w' row) (hr:∀ r,row=some r→∃ o:Obj,w.heap[r]?=some o∧o.isCells=false):Bk w' k t cs:=
 h.grown hg fun e=>by
  obtain ⟨o,ho,hc⟩:=hr k e.symm
  rw [show w.heap[k]?=_ from h] at ho
  injection ho with ho
  rw [← ho] at hc
  cases hc
theorem results_cell_b (tmps:Array Value) (W:World) (rb:Nat) (b:Bool) (h2:tmps.getD 2 undef=.pointer (some ⟨rb,0,none⟩)) (hr:Bk W rb 4 #[.bool b]):(results Tryz.f22 tmps).run Tryz.prog W=.ok (.bool b) W:=by
 rw [results_cell_one rfl,h2]
 have r0:=hr.cell 0
 go_simp
theorem kclosed_any (G:Kg) (ps:List Gr.Pr) (base:Nat) (K:Kw) (V:Int × Nat→Value) (P:List St4) (B:Nat) (xs:List Int) (w:World) (h:ClE G ps base K V P B xs w) :
  Calls Tryz.prog 22 #[.pointer (some ⟨K.p,0,none⟩)] w fun e w'=>∃ b:Bool,e=.returned (.bool b)∧(b=true↔AllIn ⟨G.t,G.n,G.s,ps⟩ xs G.lw P)∧Bl w w':=by
 refine (callsIn_wide (n:=9)).1 ?_
 refine callsIn_of_wp_marks Tryz.func22 rfl trivial ?_ rfl
 simp only [Tryz.ntmps22,List.size_toArray,List.length_cons,List.length_nil,Nat.reduceAdd,Nat.reduceSub,Array.replicate_succ,Array.replicate_zero,List.push_toArray,List.append_toArray,List.nil_append,List.cons_append]
 have hT:=Bk.new w 53 #[.pointer (some ⟨K.p,0,none⟩)]
 have hR:=Bk.new (w.alloc (.cells #[.pointer (some ⟨K.p,0,none⟩)] 53)) 4 #[.bool false]
 have hS:=Bk.new ((w.alloc (.cells #[.pointer (some ⟨K.p,0,none⟩)] 53)).alloc (.cells #[.bool false] 4)) 99 #[.func (.func 45) #[.pointer (some ⟨K.p,0,none⟩)] #[],.func (.func 46) #[.pointer (some ⟨K.p,0,none⟩)] #[],.func (.func 47) #[.pointer (some ⟨K.p,0,none⟩)] #[],.func (.func 48) #[.pointer (some ⟨K.p,0,none⟩)] #[]]
 have hB:Bl w (((w.alloc (.cells #[.pointer (some ⟨K.p,0,none⟩)] 53)).alloc (.cells #[.bool false] 4)).alloc (.cells #[.func (.func 45) #[.pointer (some ⟨K.p,0,none⟩)] #[],.func (.func 46) #[.pointer (some ⟨K.p,0,none⟩)] #[],.func (.func 47) #[.pointer (some ⟨K.p,0,none⟩)] #[],.func (.func 48) #[.pointer (some ⟨K.p,0,none⟩)] #[]] 99)):=(((Bl.refl w).alloc _).alloc _).alloc _
 rw [World.size_alloc] at hR
 rw [World.size_alloc,World.size_alloc] at hS
 have hT3:=(hT.alloc (.cells #[.bool false] 4)).alloc (.cells #[.func (.func 45) #[.pointer (some ⟨K.p,0,none⟩)] #[],.func (.func 46) #[.pointer (some ⟨K.p,0,none⟩)] #[],.func (.func 47) #[.pointer (some ⟨K.p,0,none⟩)] #[],.func (.func 48) #[.pointer (some ⟨K.p,0,none⟩)] #[]] 99)
 have hR3:=hR.alloc (.cells #[.func (.func 45) #[.pointer (some ⟨K.p,0,none⟩)] #[],.func (.func 46) #[.pointer (some ⟨K.p,0,none⟩)] #[],.func (.func 47) #[.pointer (some ⟨K.p,0,none⟩)] #[],.func (.func 48) #[.pointer (some ⟨K.p,0,none⟩)] #[]] 99)
 have HT0:=Lib.hid hT
 have t0:((w.alloc (.cells #[.pointer (some ⟨K.p,0,none⟩)] 53)).alloc (.cells #[.bool false] 4)).cell? ⟨w.heap.size,0,none⟩=some (.pointer (some ⟨K.p,0,none⟩)):=(hT.alloc _).cell 0
 have tl:=(hT.alloc (.cells #[.bool false] 4)).lt
 clear hT hR
 gi_wp2
 have HE3:=Lib.hid (h.bl hB)
 have HT3:=Lib.hid hT3
 have HR3:=Lib.hid hR3
 have HS3:=Lib.hid hS
 have HB3:=Lib.hid hB
 have htb:w.heap.size≤w.heap.size:=Nat.le_refl _
 have hrb:w.heap.size≤w.heap.size + 1:=Nat.le_succ _
 clear hT3 hR3 hS hB h t0 tl HT0
 generalize ((w.alloc (.cells #[.pointer (some ⟨K.p,0,none⟩)] 53)).alloc (.cells #[.bool false] 4)).alloc (.cells #[.func (.func 45) #[.pointer (some ⟨K.p,0,none⟩)] #[],.func (.func 46) #[.pointer (some ⟨K.p,0,none⟩)] #[],.func (.func 47) #[.pointer (some ⟨K.p,0,none⟩)] #[],.func (.func 48) #[.pointer (some ⟨K.p,0,none⟩)] #[]] 99)=w3 at *
 generalize hsb:w.heap.size + 1 + 1=sb at *
 generalize hrb0:w.heap.size + 1=rb at *
 have HRb:Hid (w.heap.size≤rb):=hrb
 clear hsb hrb0 hrb
 obtain ⟨tb,htb2⟩:∃ tb,tb=w.heap.size:=⟨_,rfl⟩
 rw [← htb2] at HT3 ⊢
 clear htb htb2
 have HLeave:Hid (∀ (n:Nat) (tmps:Array Value) (Ds:List Nat) (W:World) (b:Bool),tmps.getD 2 undef=.pointer (some ⟨rb,0,none⟩)→Bl w W→Ds.Nodup→(∀ D ∈ Ds,w.heap.size≤D)→DK Ds W→Bk W rb 4 #[.bool b]→(b=true↔AllIn ⟨G.t,G.n,G.s,ps⟩ xs G.lw P)→
   LeavesInM Fence.wide n Tryz.prog Tryz.f22 tmps (fun e w'=>∃ b:Bool,e=.returned (.bool b)∧(b=true↔AllIn ⟨G.t,G.n,G.s,ps⟩ xs G.lw P)∧Bl w w') (Ds.map fun D=>{ target:=.collected D,args:=#[] }) .returning W):=by
  intro n tmps Ds W b h2 hb hn hlo hdk hres hiff
  refine leaves_all w Ds W hb hn hlo hdk fun W' hb' hc=>?_
  have hres':Bk W' rb 4 #[.bool b]:=hc _ _ hres rfl
  exact ⟨_,results_cell_b tmps W' rb b h2 hres',b,rfl,hiff,hb'⟩
 refine wpIn_loop_rounds 5 ?_
 have HKp0:=Lib.hid (KpC.refl w3)
 have HDk0:Hid (DK [] w3):=fun D hD=>by simp at hD
 rw [roundsIn_succ]
 have s0:w3.cell? ⟨sb,0,none⟩=some (.func (.func 45) #[.pointer (some ⟨K.p,0,none⟩)] #[]):=(HS3.out.kpc HKp0.out).cell 0
 have sl0:=(HS3.out.kpc HKp0.out).lt
 gi_wp2
 have hseq0:∃ N,SeqM 45 (.pointer (some ⟨K.p,0,none⟩)) (ReqS ⟨G.t,G.n,G.s,ps⟩) N w3:=⟨60,started_in G ps base K V P B xs w3 HE3.out⟩
 obtain ⟨N0,hs0⟩:=hseq0
 refine rangeM_in (gf:=45) (rv:=.pointer (some ⟨K.p,0,none⟩)) rfl (enters_of Tryz.func45 (by kernel_rfl) rfl) hs0 rfl (ClI w w3 P []) (ClX w rb P [])
  (ClI.abv HKp0.out.1 HB3.out.size (fun D hD=>by simp at hD)) (ClX.abv HB3.out.size (HR3.out.kpc HKp0.out).lt (fun D hD=>by simp at hD)) ⟨HKp0.out,HB3.out,HDk0.out,fun y hy=>by simp at hy⟩
  (fun x a1 W=>∃ bx,Bk W bx 96 #[.int .i64 (x.1.1:Int),.int .i64 (x.1.2.prod:Int),.int .i64 (x.1.2.dot:Int),.int .i64 (x.1.2.frm:Int)]∧a1 = { tmps:=#[.pointer (some ⟨K.p,0,none⟩),.pointer (some ⟨tb,0,none⟩),.pointer (some ⟨rb,0,none⟩),undef,.func (.func 45) #[.pointer (some ⟨K.p,0,none⟩)] #[],.pointer (some ⟨bx,0,none⟩),.pointer (some ⟨K.p,0,none⟩),.func (.func 45) #[.pointer (some ⟨K.p,0,none⟩)] #[],.pointer (some ⟨K.p,0,none⟩),.func (.func 46) #[.pointer (some ⟨K.p,0,none⟩)] #[],.pointer (some ⟨K.p,0,none⟩),.func (.func 47) #[.pointer (some ⟨K.p,0,none⟩)] #[],.pointer (some ⟨K.p,0,none⟩),.func (.func 48) #[.pointer (some ⟨K.p,0,none⟩)] #[],.slice (some ⟨sb,0,none⟩) 4 4,.int .i64 4,.int .i64 0,.bool true,.pointer (some ⟨sb,0,none⟩),.func (.func 45) #[.pointer (some ⟨K.p,0,none⟩)] #[],.func (.func 45) #[.pointer (some ⟨K.p,0,none⟩)] #[],stv x.1,undef,undef,undef,undef,undef,undef,undef,undef],defers:=[] })
  (fun x a1 _ X Y row h hg hr=>by obtain ⟨bx,h1,h2⟩:=h;exact ⟨bx,bkKept h1 hg fun r e=>(hr r e).2,h2⟩) ?assign ?body ?done ?stop
 case assign=>
  rintro l' pre ⟨⟨a,y⟩,hx⟩ W K' hI hK
  dsimp only [SX.enc,stv]
  gi_wp2
  exact hK _ _ ((Bl.refl W).alloc _) ⟨hI.kp.bl ((Bl.refl W).alloc _),hI.b.alloc _,fun D hD=>(((Bl.refl W).alloc _).block D (heap_lt (hI.dk D hD))).trans (hI.dk D hD),hI.all⟩ ⟨W.heap.size,Bk.new W _ _,rfl⟩
 case body=>
  rintro l' pre ⟨⟨a,y⟩,hx⟩ a1 W hl' hI ⟨bx,hbx,rfl⟩
  have HI:=Lib.hid hI
  have HBx:=Lib.hid hbx
  have t0:W.cell? ⟨tb,0,none⟩=some (.pointer (some ⟨K.p,0,none⟩)):=(HT3.out.kpc hI.kp).cell 0
  have tl:=(HT3.out.kpc hI.kp).lt
  have k5:W.cell? ⟨K.p,5,none⟩=some (.map (some K.h)):=(HE3.out.kpc hI.kp).k.kb.cell 5
  have kl:=(HE3.out.kpc hI.kp).k.kb.lt
  have b0:W.cell? ⟨bx,0,none⟩=some (.int .i64 (a:Int)):=hbx.cell 0
  have b1:W.cell? ⟨bx,1,none⟩=some (.int .i64 (y.prod:Int)):=hbx.cell 1
  have b2:W.cell? ⟨bx,2,none⟩=some (.int .i64 (y.dot:Int)):=hbx.cell 2
  have b3:W.cell? ⟨bx,3,none⟩=some (.int .i64 (y.frm:Int)):=hbx.cell 3
  have bl:=hbx.lt
  have hmx:Tryz.prog.follows .mixedOrders=true:=by kernel_rfl
  have HMp:=Lib.hid (((HE3.out.kpc hI.kp).k.has).of_block (w':=W.drew) rfl)
  clear hI hbx
  by_cases hm:(a,y) ∈ P
  ·have hlk:(Instr.lookup 88 (.map (some K.h)) (.agg #[.int .i64 (a:Int),.int .i64 (y.prod:Int),.int .i64 (y.dot:Int),.int .i64 (y.frm:Int)]) false).run Tryz.prog W.drew=.ok (.bool true) W.drew:=HMp.out.look_yes st_law Tryz.underlying88 hx hm (key_st hx)
   have hEnd:postR (ClI w w3 P []) (ClX w rb P []) (pre ++ [⟨(a,y),hx⟩]) W .normal { tmps:=#[],defers:=[] } W.drew:=⟨KeepsOthers.drew W,(KpC.refl W).drew,HI.out.kp,HI.out.b.drew,HI.out.dk,fun z hz=>by
    rcases List.mem_append.mp hz with h | h
    ·exact HI.out.all z h
    ·rw [List.mem_singleton] at h;subst h;exact hm⟩
   gi_wp2
   gi_region_with (fail)
   all_goals
    gi_wp2
    exact hEnd
  ·have hlk:(Instr.lookup 88 (.map (some K.h)) (.agg #[.int .i64 (a:Int),.int .i64 (y.prod:Int),.int .i64 (y.dot:Int),.int .i64 (y.frm:Int)]) false).run Tryz.prog W.drew=.ok (.bool false) W.drew:=HMp.out.look_no st_law Tryz.underlying88 hx hm (key_st hx)
   have hres:=HR3.out.kpc HI.out.kp
   have r0:W.cell? ⟨rb,0,none⟩=some (.bool false):=hres.cell 0
   have rf:W.frozen? ⟨rb,0,none⟩=false:=hres.free 0
   have rl:=hres.lt
   have hEnd:postR (ClI w w3 P []) (ClX w rb P []) (pre ++ [⟨(a,y),hx⟩]) W .ret { tmps:=#[],defers:=[] } (W.drew.setCell ⟨rb,0,none⟩ (.bool false)):=⟨(KeepsOthers.drew W).trans (KeepsOthers.setCell _ _ _),((Fr.of_bl (S:=fun k=>k=rb) HI.out.b).drew.setCell (p:=⟨rb,0,none⟩) (.inl rfl) _).bl (fun k hk e=>by have:=HRb.out;omega),fun D hD=>(Below.heap_setCell _ _ _ D fun e=>by
     have h1:=HI.out.dk D hD
     have e:D=rb:=e
     rw [e,show W.heap[rb]?=_ from hres] at h1
     cases h1).trans (HI.out.dk D hD),hres.drew.put 0 _,⟨_,List.mem_append.mpr (.inr (List.mem_singleton.mpr rfl)),hm⟩⟩
   gi_wp2
   gi_region_with (fail)
   all_goals
    gi_wp2
    exact hEnd
 case stop=>
  rintro D ys W hD hreq hX hdk
  gi_wp2
  refine HLeave.out _ _ (D :: []) W false rfl hX.b (List.nodup_cons.2 ⟨fun hm=>by simp at hm,List.nodup_nil⟩) (fun E hE=>?_) (fun E hE=>?_) hX.res ?_
  ·rcases List.mem_cons.1 hE with rfl | hE
   ·exact Nat.le_trans HB3.out.size hD
   ·simp at hE
  ·rcases List.mem_cons.1 hE with rfl | hE
   ·exact hdk
   ·exact hX.dk E hE
  ·obtain ⟨y,hy,hn⟩:=hX.no
   exact ⟨fun h=>(by cases h),fun h=>(hn (h.1 y.1 (hreq y hy))).elim⟩
 case done=>
  rintro D0 ys0 W0 hD0 hq0 hr0 hI0 hk0
  have HI0:=Lib.hid hI0
  have HQ0:Hid (∀ s,ReqS ⟨G.t,G.n,G.s,ps⟩ s→s ∈ P):=fun s hs=>by obtain ⟨y,h1,h2⟩:=hq0 s hs;rw [← h2];exact hI0.all y h1
  have HDk1:Hid (DK [D0] W0):=fun E hE=>by
   rcases List.mem_cons.1 hE with rfl | hE
   ·exact hk0
   ·exact hI0.dk E hE
  have HDlt1:Hid (∀ D ∈ [D0],D < W0.heap.size):=fun E hE=>heap_lt (HDk1.out E hE)
  have HNd1:Hid (([D0]:List Nat).Nodup):=List.nodup_cons.2 ⟨fun hm=>by simp at hm,List.nodup_nil⟩
  have HDlo1:Hid (∀ D ∈ [D0],w.heap.size≤D):=fun E hE=>by
   rcases List.mem_cons.1 hE with rfl | hE
   ·exact Nat.le_trans HB3.out.size hD0
   ·simp at hE
  clear hs0 s0 sl0 hq0 hr0 hI0 hk0 hD0
  gi_wp2
  rw [roundsIn_succ]
  have s1:W0.cell? ⟨sb,1,none⟩=some (.func (.func 46) #[.pointer (some ⟨K.p,0,none⟩)] #[]):=(HS3.out.kpc HI0.out.kp).cell 1
  have sl1:=(HS3.out.kpc HI0.out.kp).lt
  gi_wp2
  have hseq1:=begun_in G ps base K V P B xs W0 (HE3.out.kpc HI0.out.kp)
  obtain ⟨N1,hs1⟩:=hseq1
  refine rangeM_in (gf:=46) (rv:=.pointer (some ⟨K.p,0,none⟩)) rfl (enters_of Tryz.func46 (by kernel_rfl) rfl) hs1 rfl (ClI w w3 P [D0]) (ClX w rb P [D0])
   (ClI.abv HI0.out.kp.1 HI0.out.b.size HDlt1.out) (ClX.abv HI0.out.b.size (HR3.out.kpc HI0.out.kp).lt HDlt1.out) ⟨HI0.out.kp,HI0.out.b,HDk1.out,fun y hy=>by simp at hy⟩
   (fun x a1 W=>∃ bx,Bk W bx 96 #[.int .i64 (x.1.1:Int),.int .i64 (x.1.2.prod:Int),.int .i64 (x.1.2.dot:Int),.int .i64 (x.1.2.frm:Int)]∧a1 = { tmps:=#[.pointer (some ⟨K.p,0,none⟩),.pointer (some ⟨tb,0,none⟩),.pointer (some ⟨rb,0,none⟩),undef,.func (.func 46) #[.pointer (some ⟨K.p,0,none⟩)] #[],.pointer (some ⟨bx,0,none⟩),.pointer (some ⟨K.p,0,none⟩),.func (.func 45) #[.pointer (some ⟨K.p,0,none⟩)] #[],.pointer (some ⟨K.p,0,none⟩),.func (.func 46) #[.pointer (some ⟨K.p,0,none⟩)] #[],.pointer (some ⟨K.p,0,none⟩),.func (.func 47) #[.pointer (some ⟨K.p,0,none⟩)] #[],.pointer (some ⟨K.p,0,none⟩),.func (.func 48) #[.pointer (some ⟨K.p,0,none⟩)] #[],.slice (some ⟨sb,0,none⟩) 4 4,.int .i64 4,.int .i64 1,.bool true,.pointer (some ⟨sb,1,none⟩),.func (.func 46) #[.pointer (some ⟨K.p,0,none⟩)] #[],.func (.func 46) #[.pointer (some ⟨K.p,0,none⟩)] #[],stv x.1,undef,undef,undef,undef,undef,undef,undef,.int .i64 1],defers:=[] })
   (fun x a1 _ X Y row h hg hr=>by obtain ⟨bx,h1,h2⟩:=h;exact ⟨bx,bkKept h1 hg fun r e=>(hr r e).2,h2⟩) ?assign ?body ?done ?stop
  case assign=>
   rintro l' pre ⟨⟨a,y⟩,hx⟩ W K' hI hK
   dsimp only [SX.enc,stv]
   gi_wp2
   exact hK _ _ ((Bl.refl W).alloc _) ⟨hI.kp.bl ((Bl.refl W).alloc _),hI.b.alloc _,fun D hD=>(((Bl.refl W).alloc _).block D (heap_lt (hI.dk D hD))).trans (hI.dk D hD),hI.all⟩ ⟨W.heap.size,Bk.new W _ _,rfl⟩
  case body=>
   rintro l' pre ⟨⟨a,y⟩,hx⟩ a1 W hl' hI ⟨bx,hbx,rfl⟩
   have HI:=Lib.hid hI
   have HBx:=Lib.hid hbx
   have t0:W.cell? ⟨tb,0,none⟩=some (.pointer (some ⟨K.p,0,none⟩)):=(HT3.out.kpc hI.kp).cell 0
   have tl:=(HT3.out.kpc hI.kp).lt
   have k5:W.cell? ⟨K.p,5,none⟩=some (.map (some K.h)):=(HE3.out.kpc hI.kp).k.kb.cell 5
   have kl:=(HE3.out.kpc hI.kp).k.kb.lt
   have b0:W.cell? ⟨bx,0,none⟩=some (.int .i64 (a:Int)):=hbx.cell 0
   have b1:W.cell? ⟨bx,1,none⟩=some (.int .i64 (y.prod:Int)):=hbx.cell 1
   have b2:W.cell? ⟨bx,2,none⟩=some (.int .i64 (y.dot:Int)):=hbx.cell 2
   have b3:W.cell? ⟨bx,3,none⟩=some (.int .i64 (y.frm:Int)):=hbx.cell 3
   have bl:=hbx.lt
   have hmx:Tryz.prog.follows .mixedOrders=true:=by kernel_rfl
   have HMp:=Lib.hid (((HE3.out.kpc hI.kp).k.has).of_block (w':=W.drew) rfl)
   clear hI hbx
   by_cases hm:(a,y) ∈ P
   ·have hlk:(Instr.lookup 88 (.map (some K.h)) (.agg #[.int .i64 (a:Int),.int .i64 (y.prod:Int),.int .i64 (y.dot:Int),.int .i64 (y.frm:Int)]) false).run Tryz.prog W.drew=.ok (.bool true) W.drew:=HMp.out.look_yes st_law Tryz.underlying88 hx hm (key_st hx)
    have hEnd:postR (ClI w w3 P [D0]) (ClX w rb P [D0]) (pre ++ [⟨(a,y),hx⟩]) W .normal { tmps:=#[],defers:=[] } W.drew:=⟨KeepsOthers.drew W,(KpC.refl W).drew,HI.out.kp,HI.out.b.drew,HI.out.dk,fun z hz=>by
     rcases List.mem_append.mp hz with h | h
     ·exact HI.out.all z h
     ·rw [List.mem_singleton] at h;subst h;exact hm⟩
    gi_wp2
    gi_region_with (fail)
    all_goals
     gi_wp2
     exact hEnd
   ·have hlk:(Instr.lookup 88 (.map (some K.h)) (.agg #[.int .i64 (a:Int),.int .i64 (y.prod:Int),.int .i64 (y.dot:Int),.int .i64 (y.frm:Int)]) false).run Tryz.prog W.drew=.ok (.bool false) W.drew:=HMp.out.look_no st_law Tryz.underlying88 hx hm (key_st hx)
    have hres:=HR3.out.kpc HI.out.kp
    have r0:W.cell? ⟨rb,0,none⟩=some (.bool false):=hres.cell 0
    have rf:W.frozen? ⟨rb,0,none⟩=false:=hres.free 0
    have rl:=hres.lt
    have hEnd:postR (ClI w w3 P [D0]) (ClX w rb P [D0]) (pre ++ [⟨(a,y),hx⟩]) W .ret { tmps:=#[],defers:=[] } (W.drew.setCell ⟨rb,0,none⟩ (.bool false)):=⟨(KeepsOthers.drew W).trans (KeepsOthers.setCell _ _ _),((Fr.of_bl (S:=fun k=>k=rb) HI.out.b).drew.setCell (p:=⟨rb,0,none⟩) (.inl rfl) _).bl (fun k hk e=>by have:=HRb.out;omega),fun D hD=>(Below.heap_setCell _ _ _ D fun e=>by
      have h1:=HI.out.dk D hD
      have e:D=rb:=e
      rw [e,show W.heap[rb]?=_ from hres] at h1
      cases h1).trans (HI.out.dk D hD),hres.drew.put 0 _,⟨_,List.mem_append.mpr (.inr (List.mem_singleton.mpr rfl)),hm⟩⟩
    gi_wp2
    gi_region_with (fail)
    all_goals
     gi_wp2
     exact hEnd
  case stop=>
   rintro D ys W hD hreq hX hdk
   gi_wp2
   refine HLeave.out _ _ (D :: [D0]) W false rfl hX.b (List.nodup_cons.2 ⟨fun hm=>by have:=HDlt1.out D hm;omega,HNd1.out⟩) (fun E hE=>?_) (fun E hE=>?_) hX.res ?_
   ·rcases List.mem_cons.1 hE with rfl | hE
    ·exact Nat.le_trans HI0.out.b.size hD
    ·exact HDlo1.out E hE
   ·rcases List.mem_cons.1 hE with rfl | hE
    ·exact hdk
    ·exact hX.dk E hE
   ·obtain ⟨y,hy,hn⟩:=hX.no
    exact ⟨fun h=>(by cases h),fun h=>(hn (h.2.1 y.1 (hreq y hy))).elim⟩
  case done=>
   rintro D1 ys1 W1 hD1 hq1 hr1 hI1 hk1
   have HI1:=Lib.hid hI1
   have HQ1:Hid (∀ s,ReqB ⟨G.t,G.n,G.s,ps⟩ P s→s ∈ P):=fun s hs=>by obtain ⟨y,h1,h2⟩:=hq1 s hs;rw [← h2];exact hI1.all y h1
   have HDk2:Hid (DK [D1,D0] W1):=fun E hE=>by
    rcases List.mem_cons.1 hE with rfl | hE
    ·exact hk1
    ·exact hI1.dk E hE
   have HDlt2:Hid (∀ D ∈ [D1,D0],D < W1.heap.size):=fun E hE=>heap_lt (HDk2.out E hE)
   have HNd2:Hid (([D1,D0]:List Nat).Nodup):=List.nodup_cons.2 ⟨fun hm=>by have:=HDlt1.out D1 hm;omega,HNd1.out⟩
   have HDlo2:Hid (∀ D ∈ [D1,D0],w.heap.size≤D):=fun E hE=>by
    rcases List.mem_cons.1 hE with rfl | hE
    ·exact Nat.le_trans HI0.out.b.size hD1
    ·exact HDlo1.out E hE
   clear hs1 s1 sl1 hq1 hr1 hI1 hk1 hD1
   gi_wp2
   rw [roundsIn_succ]
   have s2:W1.cell? ⟨sb,2,none⟩=some (.func (.func 47) #[.pointer (some ⟨K.p,0,none⟩)] #[]):=(HS3.out.kpc HI1.out.kp).cell 2
   have sl2:=(HS3.out.kpc HI1.out.kp).lt
   gi_wp2
   have hseq2:=read_in G ps base K V P B xs W1 (HE3.out.kpc HI1.out.kp)
   obtain ⟨N2,hs2⟩:=hseq2
   refine rangeM_in (gf:=47) (rv:=.pointer (some ⟨K.p,0,none⟩)) rfl (enters_of Tryz.func47 (by kernel_rfl) rfl) hs2 rfl (ClI w w3 P [D1,D0]) (ClX w rb P [D1,D0])
    (ClI.abv HI1.out.kp.1 HI1.out.b.size HDlt2.out) (ClX.abv HI1.out.b.size (HR3.out.kpc HI1.out.kp).lt HDlt2.out) ⟨HI1.out.kp,HI1.out.b,HDk2.out,fun y hy=>by simp at hy⟩
    (fun x a1 W=>∃ bx,Bk W bx 96 #[.int .i64 (x.1.1:Int),.int .i64 (x.1.2.prod:Int),.int .i64 (x.1.2.dot:Int),.int .i64 (x.1.2.frm:Int)]∧a1 = { tmps:=#[.pointer (some ⟨K.p,0,none⟩),.pointer (some ⟨tb,0,none⟩),.pointer (some ⟨rb,0,none⟩),undef,.func (.func 47) #[.pointer (some ⟨K.p,0,none⟩)] #[],.pointer (some ⟨bx,0,none⟩),.pointer (some ⟨K.p,0,none⟩),.func (.func 45) #[.pointer (some ⟨K.p,0,none⟩)] #[],.pointer (some ⟨K.p,0,none⟩),.func (.func 46) #[.pointer (some ⟨K.p,0,none⟩)] #[],.pointer (some ⟨K.p,0,none⟩),.func (.func 47) #[.pointer (some ⟨K.p,0,none⟩)] #[],.pointer (some ⟨K.p,0,none⟩),.func (.func 48) #[.pointer (some ⟨K.p,0,none⟩)] #[],.slice (some ⟨sb,0,none⟩) 4 4,.int .i64 4,.int .i64 2,.bool true,.pointer (some ⟨sb,2,none⟩),.func (.func 47) #[.pointer (some ⟨K.p,0,none⟩)] #[],.func (.func 47) #[.pointer (some ⟨K.p,0,none⟩)] #[],stv x.1,undef,undef,undef,undef,undef,undef,undef,.int .i64 2],defers:=[] })
    (fun x a1 _ X Y row h hg hr=>by obtain ⟨bx,h1,h2⟩:=h;exact ⟨bx,bkKept h1 hg fun r e=>(hr r e).2,h2⟩) ?assign ?body ?done ?stop
   case assign=>
    rintro l' pre ⟨⟨a,y⟩,hx⟩ W K' hI hK
    dsimp only [SX.enc,stv]
    gi_wp2
    exact hK _ _ ((Bl.refl W).alloc _) ⟨hI.kp.bl ((Bl.refl W).alloc _),hI.b.alloc _,fun D hD=>(((Bl.refl W).alloc _).block D (heap_lt (hI.dk D hD))).trans (hI.dk D hD),hI.all⟩ ⟨W.heap.size,Bk.new W _ _,rfl⟩
   case body=>
    rintro l' pre ⟨⟨a,y⟩,hx⟩ a1 W hl' hI ⟨bx,hbx,rfl⟩
    have HI:=Lib.hid hI
    have HBx:=Lib.hid hbx
    have t0:W.cell? ⟨tb,0,none⟩=some (.pointer (some ⟨K.p,0,none⟩)):=(HT3.out.kpc hI.kp).cell 0
    have tl:=(HT3.out.kpc hI.kp).lt
    have k5:W.cell? ⟨K.p,5,none⟩=some (.map (some K.h)):=(HE3.out.kpc hI.kp).k.kb.cell 5
    have kl:=(HE3.out.kpc hI.kp).k.kb.lt
    have b0:W.cell? ⟨bx,0,none⟩=some (.int .i64 (a:Int)):=hbx.cell 0
    have b1:W.cell? ⟨bx,1,none⟩=some (.int .i64 (y.prod:Int)):=hbx.cell 1
    have b2:W.cell? ⟨bx,2,none⟩=some (.int .i64 (y.dot:Int)):=hbx.cell 2
    have b3:W.cell? ⟨bx,3,none⟩=some (.int .i64 (y.frm:Int)):=hbx.cell 3
    have bl:=hbx.lt
    have hmx:Tryz.prog.follows .mixedOrders=true:=by kernel_rfl
    have HMp:=Lib.hid (((HE3.out.kpc hI.kp).k.has).of_block (w':=W.drew) rfl)
    clear hI hbx
    by_cases hm:(a,y) ∈ P
    ·have hlk:(Instr.lookup 88 (.map (some K.h)) (.agg #[.int .i64 (a:Int),.int .i64 (y.prod:Int),.int .i64 (y.dot:Int),.int .i64 (y.frm:Int)]) false).run Tryz.prog W.drew=.ok (.bool true) W.drew:=HMp.out.look_yes st_law Tryz.underlying88 hx hm (key_st hx)
     have hEnd:postR (ClI w w3 P [D1,D0]) (ClX w rb P [D1,D0]) (pre ++ [⟨(a,y),hx⟩]) W .normal { tmps:=#[],defers:=[] } W.drew:=⟨KeepsOthers.drew W,(KpC.refl W).drew,HI.out.kp,HI.out.b.drew,HI.out.dk,fun z hz=>by
      rcases List.mem_append.mp hz with h | h
      ·exact HI.out.all z h
      ·rw [List.mem_singleton] at h;subst h;exact hm⟩
     gi_wp2
     gi_region_with (fail)
     all_goals
      gi_wp2
      exact hEnd
    ·have hlk:(Instr.lookup 88 (.map (some K.h)) (.agg #[.int .i64 (a:Int),.int .i64 (y.prod:Int),.int .i64 (y.dot:Int),.int .i64 (y.frm:Int)]) false).run Tryz.prog W.drew=.ok (.bool false) W.drew:=HMp.out.look_no st_law Tryz.underlying88 hx hm (key_st hx)
     have hres:=HR3.out.kpc HI.out.kp
     have r0:W.cell? ⟨rb,0,none⟩=some (.bool false):=hres.cell 0
     have rf:W.frozen? ⟨rb,0,none⟩=false:=hres.free 0
     have rl:=hres.lt
     have hEnd:postR (ClI w w3 P [D1,D0]) (ClX w rb P [D1,D0]) (pre ++ [⟨(a,y),hx⟩]) W .ret { tmps:=#[],defers:=[] } (W.drew.setCell ⟨rb,0,none⟩ (.bool false)):=⟨(KeepsOthers.drew W).trans (KeepsOthers.setCell _ _ _),((Fr.of_bl (S:=fun k=>k=rb) HI.out.b).drew.setCell (p:=⟨rb,0,none⟩) (.inl rfl) _).bl (fun k hk e=>by have:=HRb.out;omega),fun D hD=>(Below.heap_setCell _ _ _ D fun e=>by
       have h1:=HI.out.dk D hD
       have e:D=rb:=e
       rw [e,show W.heap[rb]?=_ from hres] at h1
       cases h1).trans (HI.out.dk D hD),hres.drew.put 0 _,⟨_,List.mem_append.mpr (.inr (List.mem_singleton.mpr rfl)),hm⟩⟩
     gi_wp2
     gi_region_with (fail)
     all_goals
      gi_wp2
      exact hEnd
   case stop=>
    rintro D ys W hD hreq hX hdk
    gi_wp2
    refine HLeave.out _ _ (D :: [D1,D0]) W false rfl hX.b (List.nodup_cons.2 ⟨fun hm=>by have:=HDlt2.out D hm;omega,HNd2.out⟩) (fun E hE=>?_) (fun E hE=>?_) hX.res ?_
    ·rcases List.mem_cons.1 hE with rfl | hE
     ·exact Nat.le_trans HI1.out.b.size hD
     ·exact HDlo2.out E hE
    ·rcases List.mem_cons.1 hE with rfl | hE
     ·exact hdk
     ·exact hX.dk E hE
    ·obtain ⟨y,hy,hn⟩:=hX.no
     exact ⟨fun h=>(by cases h),fun h=>(hn (h.2.2.1 y.1 (hreq y hy))).elim⟩
   case done=>
    rintro D2 ys2 W2 hD2 hq2 hr2 hI2 hk2
    have HI2:=Lib.hid hI2
    have HQ2:Hid (∀ s,ReqR ⟨G.t,G.n,G.s,ps⟩ P xs G.lw s→s ∈ P):=fun s hs=>by obtain ⟨y,h1,h2⟩:=hq2 s hs;rw [← h2];exact hI2.all y h1
    have HDk3:Hid (DK [D2,D1,D0] W2):=fun E hE=>by
     rcases List.mem_cons.1 hE with rfl | hE
     ·exact hk2
     ·exact hI2.dk E hE
    have HDlt3:Hid (∀ D ∈ [D2,D1,D0],D < W2.heap.size):=fun E hE=>heap_lt (HDk3.out E hE)
    have HNd3:Hid (([D2,D1,D0]:List Nat).Nodup):=List.nodup_cons.2 ⟨fun hm=>by have:=HDlt2.out D2 hm;omega,HNd2.out⟩
    have HDlo3:Hid (∀ D ∈ [D2,D1,D0],w.heap.size≤D):=fun E hE=>by
     rcases List.mem_cons.1 hE with rfl | hE
     ·exact Nat.le_trans HI1.out.b.size hD2
     ·exact HDlo2.out E hE
    clear hs2 s2 sl2 hq2 hr2 hI2 hk2 hD2
    gi_wp2
    rw [roundsIn_succ]
    have s3:W2.cell? ⟨sb,3,none⟩=some (.func (.func 48) #[.pointer (some ⟨K.p,0,none⟩)] #[]):=(HS3.out.kpc HI2.out.kp).cell 3
    have sl3:=(HS3.out.kpc HI2.out.kp).lt
    gi_wp2
    have hseq3:=letOn_in G ps base K V P B xs W2 (HE3.out.kpc HI2.out.kp)
    obtain ⟨N3,hs3⟩:=hseq3
    refine rangeM_in (gf:=48) (rv:=.pointer (some ⟨K.p,0,none⟩)) rfl (enters_of Tryz.func48 (by kernel_rfl) rfl) hs3 rfl (ClI w w3 P [D2,D1,D0]) (ClX w rb P [D2,D1,D0])
     (ClI.abv HI2.out.kp.1 HI2.out.b.size HDlt3.out) (ClX.abv HI2.out.b.size (HR3.out.kpc HI2.out.kp).lt HDlt3.out) ⟨HI2.out.kp,HI2.out.b,HDk3.out,fun y hy=>by simp at hy⟩
     (fun x a1 W=>∃ bx,Bk W bx 96 #[.int .i64 (x.1.1:Int),.int .i64 (x.1.2.prod:Int),.int .i64 (x.1.2.dot:Int),.int .i64 (x.1.2.frm:Int)]∧a1 = { tmps:=#[.pointer (some ⟨K.p,0,none⟩),.pointer (some ⟨tb,0,none⟩),.pointer (some ⟨rb,0,none⟩),undef,.func (.func 48) #[.pointer (some ⟨K.p,0,none⟩)] #[],.pointer (some ⟨bx,0,none⟩),.pointer (some ⟨K.p,0,none⟩),.func (.func 45) #[.pointer (some ⟨K.p,0,none⟩)] #[],.pointer (some ⟨K.p,0,none⟩),.func (.func 46) #[.pointer (some ⟨K.p,0,none⟩)] #[],.pointer (some ⟨K.p,0,none⟩),.func (.func 47) #[.pointer (some ⟨K.p,0,none⟩)] #[],.pointer (some ⟨K.p,0,none⟩),.func (.func 48) #[.pointer (some ⟨K.p,0,none⟩)] #[],.slice (some ⟨sb,0,none⟩) 4 4,.int .i64 4,.int .i64 3,.bool true,.pointer (some ⟨sb,3,none⟩),.func (.func 48) #[.pointer (some ⟨K.p,0,none⟩)] #[],.func (.func 48) #[.pointer (some ⟨K.p,0,none⟩)] #[],stv x.1,undef,undef,undef,undef,undef,undef,undef,.int .i64 3],defers:=[] })
     (fun x a1 _ X Y row h hg hr=>by obtain ⟨bx,h1,h2⟩:=h;exact ⟨bx,bkKept h1 hg fun r e=>(hr r e).2,h2⟩) ?assign ?body ?done ?stop
    case assign=>
     rintro l' pre ⟨⟨a,y⟩,hx⟩ W K' hI hK
     dsimp only [SX.enc,stv]
     gi_wp2
     exact hK _ _ ((Bl.refl W).alloc _) ⟨hI.kp.bl ((Bl.refl W).alloc _),hI.b.alloc _,fun D hD=>(((Bl.refl W).alloc _).block D (heap_lt (hI.dk D hD))).trans (hI.dk D hD),hI.all⟩ ⟨W.heap.size,Bk.new W _ _,rfl⟩
    case body=>
     rintro l' pre ⟨⟨a,y⟩,hx⟩ a1 W hl' hI ⟨bx,hbx,rfl⟩
     have HI:=Lib.hid hI
     have HBx:=Lib.hid hbx
     have t0:W.cell? ⟨tb,0,none⟩=some (.pointer (some ⟨K.p,0,none⟩)):=(HT3.out.kpc hI.kp).cell 0
     have tl:=(HT3.out.kpc hI.kp).lt
     have k5:W.cell? ⟨K.p,5,none⟩=some (.map (some K.h)):=(HE3.out.kpc hI.kp).k.kb.cell 5
     have kl:=(HE3.out.kpc hI.kp).k.kb.lt
     have b0:W.cell? ⟨bx,0,none⟩=some (.int .i64 (a:Int)):=hbx.cell 0
     have b1:W.cell? ⟨bx,1,none⟩=some (.int .i64 (y.prod:Int)):=hbx.cell 1
     have b2:W.cell? ⟨bx,2,none⟩=some (.int .i64 (y.dot:Int)):=hbx.cell 2
     have b3:W.cell? ⟨bx,3,none⟩=some (.int .i64 (y.frm:Int)):=hbx.cell 3
     have bl:=hbx.lt
     have hmx:Tryz.prog.follows .mixedOrders=true:=by kernel_rfl
     have HMp:=Lib.hid (((HE3.out.kpc hI.kp).k.has).of_block (w':=W.drew) rfl)
     clear hI hbx
     by_cases hm:(a,y) ∈ P
     ·have hlk:(Instr.lookup 88 (.map (some K.h)) (.agg #[.int .i64 (a:Int),.int .i64 (y.prod:Int),.int .i64 (y.dot:Int),.int .i64 (y.frm:Int)]) false).run Tryz.prog W.drew=.ok (.bool true) W.drew:=HMp.out.look_yes st_law Tryz.underlying88 hx hm (key_st hx)
      have hEnd:postR (ClI w w3 P [D2,D1,D0]) (ClX w rb P [D2,D1,D0]) (pre ++ [⟨(a,y),hx⟩]) W .normal { tmps:=#[],defers:=[] } W.drew:=⟨KeepsOthers.drew W,(KpC.refl W).drew,HI.out.kp,HI.out.b.drew,HI.out.dk,fun z hz=>by
       rcases List.mem_append.mp hz with h | h
       ·exact HI.out.all z h
       ·rw [List.mem_singleton] at h;subst h;exact hm⟩
      gi_wp2
      gi_region_with (fail)
      all_goals
       gi_wp2
       exact hEnd
     ·have hlk:(Instr.lookup 88 (.map (some K.h)) (.agg #[.int .i64 (a:Int),.int .i64 (y.prod:Int),.int .i64 (y.dot:Int),.int .i64 (y.frm:Int)]) false).run Tryz.prog W.drew=.ok (.bool false) W.drew:=HMp.out.look_no st_law Tryz.underlying88 hx hm (key_st hx)
      have hres:=HR3.out.kpc HI.out.kp
      have r0:W.cell? ⟨rb,0,none⟩=some (.bool false):=hres.cell 0
      have rf:W.frozen? ⟨rb,0,none⟩=false:=hres.free 0
      have rl:=hres.lt
      have hEnd:postR (ClI w w3 P [D2,D1,D0]) (ClX w rb P [D2,D1,D0]) (pre ++ [⟨(a,y),hx⟩]) W .ret { tmps:=#[],defers:=[] } (W.drew.setCell ⟨rb,0,none⟩ (.bool false)):=⟨(KeepsOthers.drew W).trans (KeepsOthers.setCell _ _ _),((Fr.of_bl (S:=fun k=>k=rb) HI.out.b).drew.setCell (p:=⟨rb,0,none⟩) (.inl rfl) _).bl (fun k hk e=>by have:=HRb.out;omega),fun D hD=>(Below.heap_setCell _ _ _ D fun e=>by
        have h1:=HI.out.dk D hD
        have e:D=rb:=e
        rw [e,show W.heap[rb]?=_ from hres] at h1
        cases h1).trans (HI.out.dk D hD),hres.drew.put 0 _,⟨_,List.mem_append.mpr (.inr (List.mem_singleton.mpr rfl)),hm⟩⟩
      gi_wp2
      gi_region_with (fail)
      all_goals
       gi_wp2
       exact hEnd
    case stop=>
     rintro D ys W hD hreq hX hdk
     gi_wp2
     refine HLeave.out _ _ (D :: [D2,D1,D0]) W false rfl hX.b (List.nodup_cons.2 ⟨fun hm=>by have:=HDlt3.out D hm;omega,HNd3.out⟩) (fun E hE=>?_) (fun E hE=>?_) hX.res ?_
     ·rcases List.mem_cons.1 hE with rfl | hE
      ·exact Nat.le_trans HI2.out.b.size hD
      ·exact HDlo3.out E hE
     ·rcases List.mem_cons.1 hE with rfl | hE
      ·exact hdk
      ·exact hX.dk E hE
     ·obtain ⟨y,hy,hn⟩:=hX.no
      exact ⟨fun h=>(by cases h),fun h=>(hn (h.2.2.2 y.1 (hreq y hy))).elim⟩
    case done=>
     rintro D3 ys3 W3 hD3 hq3 hr3 hI3 hk3
     have HI3:=Lib.hid hI3
     have HQ3:Hid (∀ s,ReqL ⟨G.t,G.n,G.s,ps⟩ P s→s ∈ P):=fun s hs=>by obtain ⟨y,h1,h2⟩:=hq3 s hs;rw [← h2];exact hI3.all y h1
     have HDk4:Hid (DK [D3,D2,D1,D0] W3):=fun E hE=>by
      rcases List.mem_cons.1 hE with rfl | hE
      ·exact hk3
      ·exact hI3.dk E hE
     have HDlt4:Hid (∀ D ∈ [D3,D2,D1,D0],D < W3.heap.size):=fun E hE=>heap_lt (HDk4.out E hE)
     have HNd4:Hid (([D3,D2,D1,D0]:List Nat).Nodup):=List.nodup_cons.2 ⟨fun hm=>by have:=HDlt3.out D3 hm;omega,HNd3.out⟩
     have HDlo4:Hid (∀ D ∈ [D3,D2,D1,D0],w.heap.size≤D):=fun E hE=>by
      rcases List.mem_cons.1 hE with rfl | hE
      ·exact Nat.le_trans HI2.out.b.size hD3
      ·exact HDlo3.out E hE
     clear hs3 s3 sl3 hq3 hr3 hI3 hk3 hD3
     gi_wp2
     rw [roundsIn_succ]
     have r0:W3.cell? ⟨rb,0,none⟩=some (.bool false):=(HR3.out.kpc HI3.out.kp).cell 0
     have rf:W3.frozen? ⟨rb,0,none⟩=false:=(HR3.out.kpc HI3.out.kp).free 0
     have rl:=(HR3.out.kpc HI3.out.kp).lt
     gi_wp2
     refine HLeave.out _ _ [D3,D2,D1,D0] (W3.setCell ⟨rb,0,none⟩ (.bool true)) true rfl ?_ HNd4.out HDlo4.out (fun E hE=>?_) ((HR3.out.kpc HI3.out.kp).put 0 _) ⟨fun _=>⟨HQ0.out,HQ1.out,HQ2.out,HQ3.out⟩,fun _=>rfl⟩
     ·exact ((Fr.of_bl (S:=fun k=>k=rb) HI3.out.b).setCell (p:=⟨rb,0,none⟩) (.inl rfl) _).bl fun k hk e=>by have:=HRb.out;omega
     ·exact (Below.heap_setCell _ _ _ E fun e=>by
       have h1:=HDk4.out E hE
       have h2:=HR3.out.kpc HI3.out.kp
       have e:E=rb:=e
       rw [e,show W3.heap[rb]?=_ from h2] at h1
       cases h1).trans (HDk4.out E hE)
end Go.Proofs.YtdfhhbncmdpoeaaGreat
