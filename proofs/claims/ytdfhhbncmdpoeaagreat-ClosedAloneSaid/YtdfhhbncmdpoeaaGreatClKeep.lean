/- closed.keep: what stands in sets, each item once. -/
import Derived.Test.YtdfhhbncmdpoeaaGreatClPut
import Derived.Test.YtdfhhbncmdpoeaaGreatClMay
import Derived.Test.YtdfhhbncmdpoeaaGreatGRS
import Derived.Deep.CutRange
import Derived.LoopN
set_option maxRecDepth 100000
set_option maxHeartbeats 8000000
namespace Go.Proofs.YtdfhhbncmdpoeaaGreat
open Go.RowKit
open Go.Maps (Keyed)
def SetsX (w:World) (B:Nat) (A:Option Addr) (L:List (List Ix)):Prop:=
 ∃ vs:List Value,Rd w B A vs∧vs.length=L.length∧∀ (i:Nat) (l:List Ix),L[i]?=some l→∃ Ai ci,vs[i]?=some (.slice Ai l.length ci)∧Rd w B Ai (ixRow l)
theorem SetsX.below {w w':World} {B:Nat} {A:Option Addr} {L:List (List Ix)} (h:SetsX w B A L) (hb:Below B w w'):SetsX w' B A L:=by
 obtain ⟨vs,h1,h2,h3⟩:=h
 refine ⟨vs,h1.below hb,h2,fun i l hl=>?_⟩
 obtain ⟨Ai,ci,h4,h5⟩:=h3 i l hl
 exact ⟨Ai,ci,h4,h5.below hb⟩
theorem SetsX.bl {w w':World} {B:Nat} {A:Option Addr} {L:List (List Ix)} (h:SetsX w B A L) (hB:B≤w.heap.size) (hb:Bl w w'):SetsX w' B A L:=h.below ⟨hb.os,hb.tape,hb.output,by have:=hb.size;omega,fun k hk=>hb.block k (by omega)⟩
theorem SetsX.at_ {w:World} {B:Nat} {A:Option Addr} {L:List (List Ix)} (h:SetsX w B A L) {i:Nat} (hi:i < L.length):∃ b off Ai ci,A=some ⟨b,off,none⟩∧b < B∧w.cell? ⟨b,off + i,none⟩=some (.slice Ai L[i].length ci)∧Rd w B Ai (ixRow L[i]):=by
 obtain ⟨vs,h1,h2,h3⟩:=h
 obtain ⟨Ai,ci,h4,h5⟩:=h3 i _ (List.getElem?_eq_getElem hi)
 obtain ⟨b,off,e,hb,hc⟩:=h1 (by omega)
 exact ⟨b,off,Ai,ci,e,hb,hc i _ h4,h5⟩
def Ix.im (x:Ix):Ch.Im:=⟨x.prod.toNat,x.dot.toNat,x.frm.toNat⟩
theorem ix_im (y:Ch.Im):y.ix.im=y:=by obtain ⟨a,b,c⟩:=y;rfl
def rowS (L:List (List Ix)) (a:Nat):List St4:=(L.getD a []).map fun x=>(a,x.im)
def doneS (L:List (List Ix)) (a k:Nat):List St4:=(List.range a).flatMap (rowS L) ++ (rowS L a).take k
def putS (l:List St4):List St4:=l.foldl putL []
theorem putS_snoc (l:List St4) (s:St4):putS (l ++ [s])=putL (putS l) s:=by unfold putS;rw [List.foldl_append];rfl
theorem mem_putL {P:List St4} {s t:St4}:t ∈ putL P s↔t ∈ P∨t=s:=by
 unfold putL
 split
 ·rename_i h
  constructor
  ·exact .inl
  ·rintro (h1 | rfl)
   ·exact h1
   ·exact h
 ·simp
theorem mem_putS {l:List St4} {t:St4}:t ∈ putS l↔t ∈ l:=by
 have key:∀ (l:List St4) (P:List St4),t ∈ l.foldl putL P↔t ∈ P∨t ∈ l:=by
  intro l
  induction l with
  | nil=>intro P;simp
  | cons x l ih=>intro P;rw [List.foldl_cons,ih,mem_putL,List.mem_cons];simp only [or_assoc]
 rw [putS,key];simp
theorem putL_len (P:List St4) (s:St4):(putL P s).length≤P.length + 1:=by unfold putL;split <;> simp
theorem putS_len (l:List St4):(putS l).length≤l.length:=by
 have key:∀ (l:List St4) (P:List St4),(l.foldl putL P).length≤P.length + l.length:=by
  intro l
  induction l with
  | nil=>intro P;simp
  | cons x l ih=>intro P;rw [List.foldl_cons];have:=ih (putL P x);have:=putL_len P x;simp only [List.length_cons];omega
 have:=key l []
 simp at this
 exact this
theorem doneS_step {L:List (List Ix)} {a k:Nat} {l:List Ix} (hl:L[a]?=some l) (hk:k < l.length):doneS L a (k + 1)=doneS L a k ++ [(a,l[k].im)]:=by
 have e:rowS L a=l.map fun x=>(a,x.im):=by unfold rowS;rw [List.getD_eq_getElem?_getD,hl];rfl
 unfold doneS
 rw [e,List.append_assoc,take_snoc (by rw [List.length_map];exact hk),List.getElem_map]
theorem doneS_next {L:List (List Ix)} {a k:Nat} {l:List Ix} (hl:L[a]?=some l) (hk:k=l.length):doneS L a k=doneS L (a + 1) 0:=by
 have e:rowS L a=l.map fun x=>(a,x.im):=by unfold rowS;rw [List.getD_eq_getElem?_getD,hl];rfl
 unfold doneS
 rw [List.range_succ,List.flatMap_append,e,hk,List.take_of_length_le (by simp)]
 simp [e]
theorem doneS_len {L:List (List Ix)} {M:Nat} (hM:∀ l ∈ L,l.length≤M) (a k:Nat):(doneS L a k).length≤a * M + k:=by
 have hr:∀ b,(rowS L b).length≤M:=fun b=>by
  unfold rowS
  rw [List.length_map,List.getD_eq_getElem?_getD]
  cases e:L[b]? with
  | none=>exact Nat.zero_le _
  | some l=>exact hM l (List.mem_of_getElem? e)
 have key:∀ a,((List.range a).flatMap (rowS L)).length≤a * M:=by
  intro a
  induction a with
  | zero=>simp
  | succ a ih=>rw [List.range_succ,List.flatMap_append,List.length_append,Nat.succ_mul,List.flatMap_cons,List.flatMap_nil,List.append_nil];have:=hr a;omega
 unfold doneS
 rw [List.length_append]
 have:=key a
 have:=List.length_take_le k (rowS L a)
 omega
theorem mem_done {L:List (List Ix)} {t:St4}:t ∈ doneS L L.length 0↔∃ l,L[t.1]?=some l∧∃ x ∈ l,x.im=t.2:=by
 unfold doneS
 rw [List.take_zero,List.append_nil,List.mem_flatMap]
 constructor
 ·rintro ⟨a,ha,h⟩
  rw [List.mem_range] at ha
  unfold rowS at h
  rw [List.getD_eq_getElem?_getD,List.getElem?_eq_getElem ha,List.mem_map] at h
  obtain ⟨x,hx,rfl⟩:=h
  exact ⟨L[a],List.getElem?_eq_getElem ha,x,hx,rfl⟩
 ·rintro ⟨l,hl,x,hx,h⟩
  refine ⟨t.1,List.mem_range.2 (Ch.lt_of_get hl),?_⟩
  unfold rowS
  rw [List.getD_eq_getElem?_getD,hl,List.mem_map]
  exact ⟨x,hx,by rw [h]⟩
def standsB (ps:List Gr.Pr) (L:List (List Ix)):Bool:=(List.range L.length).all fun a=>(L.getD a []).all (standB ps a)
theorem standsB_iff {ps:List Gr.Pr} {L:List (List Ix)}:standsB ps L=true↔∀ a l,L[a]?=some l→∀ x ∈ l,standB ps a x=true:=by
 unfold standsB
 rw [List.all_eq_true]
 constructor
 ·intro h a l hl x hx
  have:=h a (List.mem_range.2 (Ch.lt_of_get hl))
  rw [List.getD_eq_getElem?_getD,hl,List.all_eq_true] at this
  exact this x hx
 ·intro h a ha
  rw [List.mem_range] at ha
  rw [List.getD_eq_getElem?_getD,List.getElem?_eq_getElem ha,List.all_eq_true]
  exact fun x hx=>h a L[a] (List.getElem?_eq_getElem ha) x hx
def keepB (g:Gr.Gm) (m:Nat) (L:List (List Ix)):Bool:=okB g && decide (0 < L.length∧L.length≤m + 1) && standsB g.prods L
def KeepP (G:Kg) (g:Gr.Gm) (m:Nat) (L:List (List Ix)) (w:World) (e:Ending) (w':World):Prop:=
 (keepB g m L=true∧∃ K V,e=.returned (.tuple #[.pointer (some ⟨K.p,0,none⟩),.bool true])∧KeptR { G with lw:=L.length - 1 } g w.heap.size K V (putS (doneS L L.length 0)) w'∧Bl w w')∨
 (keepB g m L=false∧e=.returned (.tuple #[.pointer none,.bool false])∧Bl w w')
section
variable {α:Type} {kt:TypeId} {kl:α→Lit} {ok:α→Prop} {w:World} {b:Nat}
theorem MapH.at_map [DecidableEq α] (hb:w.heap[b]?=some (.map #[] 0)):MapH kt kl ok w b []:=by
 obtain ⟨es,clock,h1,h2⟩:=World.ownsMap_made w Tryz.prog kt (plainElem (H:=Unit) Tryz.prog 4)
 rw [(MapKept.heap_alloc w _).1] at h1
 injection h1 with h1
 injection h1 with h1 h3
 subst h1 h3
 exact ⟨.map [],0,⟨_,_,hb,h2⟩,Nat.le_refl _,fun _ _=>rfl,fun k h=>by simp [Maps.has] at h⟩
theorem MapV.at_map (hb:w.heap[b]?=some (.map #[] 0)):MapV kt kl ok w b 0 (fun _=>nilS):=by
 obtain ⟨es,clock,h1,h2⟩:=World.ownsMap_made w Tryz.prog kt heldR
 rw [(MapKept.heap_alloc w _).1] at h1
 injection h1 with h1
 injection h1 with h1 h3
 subst h1 h3
 exact ⟨.map [],⟨_,_,hb,h2⟩,fun _ _=>rfl,fun k h=>by simp [Maps.has] at h⟩
end
theorem three_maps (w:World) {h:Nat} (h0:w.heap.size≤h) (h1:h < w.heap.size + 3) (o:Obj):((((w.alloc (.map #[] 0)).alloc (.map #[] 0)).alloc (.map #[] 0)).alloc o).heap[h]?=some (.map #[] 0):=by
 have e:h=w.heap.size∨h=w.heap.size + 1∨h=w.heap.size + 2:=by omega
 have s1:(w.alloc (.map #[] 0)).heap.size=w.heap.size + 1:=World.size_alloc _ _
 have s2:((w.alloc (.map #[] 0)).alloc (.map #[] 0)).heap.size=w.heap.size + 2:=by rw [World.size_alloc,s1]
 have s3:(((w.alloc (.map #[] 0)).alloc (.map #[] 0)).alloc (.map #[] 0)).heap.size=w.heap.size + 3:=by rw [World.size_alloc,s2]
 rw [Below.heap_alloc _ _ _ (by omega)]
 rcases e with rfl | rfl | rfl
 ·rw [Below.heap_alloc _ _ _ (by omega),Below.heap_alloc _ _ _ (by omega)]
  exact (MapKept.heap_alloc w _).1
 ·rw [Below.heap_alloc _ _ _ (by omega),← s1]
  exact (MapKept.heap_alloc (w.alloc (.map #[] 0)) _).1
 ·rw [← s2]
  exact (MapKept.heap_alloc ((w.alloc (.map #[] 0)).alloc (.map #[] 0)) _).1
theorem kept_new (G:Kg) (g:Gr.Gm) (base:Nat) (w:World) (hb:base≤w.heap.size) (h q e:Nat) (h0:w.heap.size≤h) (h1:h < w.heap.size + 3) (q0:w.heap.size≤q) (q1:q < w.heap.size + 3) (e0:w.heap.size≤e) (e1:e < w.heap.size + 3) (ne:h≠q∧h≠e∧q≠e) (p:Nat) (hp:p=w.heap.size + 3) :
  KeptR G g base ⟨p,h,q,e⟩ (fun _=>nilS) [] ((((w.alloc (.map #[] 0)).alloc (.map #[] 0)).alloc (.map #[] 0)).alloc (.cells #[.int .i64 G.t,.int .i64 G.n,.int .i64 G.s,.slice G.A G.len G.c,.slice G.Aw G.lw G.cw,.map (some h),.map (some q),.map (some e)] 92)) where
 kb:=by
  have h:=Bk.new (((w.alloc (.map #[] 0)).alloc (.map #[] 0)).alloc (.map #[] 0)) 92 (kcells G ⟨p,h,q,e⟩)
  rw [World.size_alloc,World.size_alloc,World.size_alloc] at h
  subst hp
  exact h
 has:=MapH.at_map (three_maps w h0 h1 _)
 ends:=MapH.at_map (three_maps w e0 e1 _)
 waits:=MapV.at_map (three_maps w q0 q1 _)
 rows:=fun _=>World.ownsRow_nil _ _ _ _
 apart:=fun _ _ _ b hb=>by simp [nilS,Value.ownBlock] at hb
 full:=fun _ hx=>absurd rfl hx
 ne:=ne
 low:=⟨by simp only;omega,by simp only;omega,by simp only;omega,by simp only;omega⟩
theorem kint_size:(Tryz.prog.info? 3).map (·.size)=some 1:=by kernel_rfl
theorem keep_any (G:Kg) (ps:List Gr.Pr) (As:Option Addr) (ls cs:Nat) (L:List (List Ix)) (w:World) (B:Nat) (hlen:G.len=ps.length) (hmax:G.len≤9223372036854775807) (hr:Prs w B G.A ps) (hlw:G.lw≤G.cw) (hls:ls=L.length) (hL:L.length≤100) (hM:∀ l ∈ L,l.length≤2000) (hs:SetsX w B As L) (hB:B≤w.heap.size) :
  Calls Tryz.prog 21 #[.agg #[.int .i64 G.t,.int .i64 G.n,.int .i64 G.s,.slice G.A G.len G.c],.slice G.Aw G.lw G.cw,.slice As ls cs] w (KeepP G ⟨G.t,G.n,G.s,ps⟩ G.lw L w):=by
 have HB0:Hid (Bl w (w.alloc (.cells #[.int .i64 G.t,.int .i64 G.n,.int .i64 G.s,.slice G.A G.len G.c] 24))):=(Bl.refl w).alloc _
 have HK0:=Lib.hid (Bk.new w 24 #[.int .i64 G.t,.int .i64 G.n,.int .i64 G.s,.slice G.A G.len G.c])
 have HRt:=Lib.hid (right_any G.t G.n G.s G.A G.len G.c ps (w.alloc (.cells #[.int .i64 G.t,.int .i64 G.n,.int .i64 G.s,.slice G.A G.len G.c] 24)) B hlen hmax (hr.bl hB HB0.out) (Nat.le_trans hB HB0.out.size))
 have HR:=Lib.hid (fun (wx:World) (hb:Bl w wx)=>hr.bl hB hb)
 have HSx:=Lib.hid (fun (wx:World) (hb:Bl w wx)=>hs.bl hB hb)
 have HL:=Lib.hid hlen
 have HLs:=Lib.hid hls
 have HDf:Hid (keepB ⟨G.t,G.n,G.s,ps⟩ G.lw L=(okB ⟨G.t,G.n,G.s,ps⟩ && decide (0 < L.length∧L.length≤G.lw + 1) && standsB ps L)):=rfl
 clear hr hlen hls hs
 generalize hob:okB ⟨G.t,G.n,G.s,ps⟩=ob at HRt HDf
 have HOb:=Lib.hid hob
 clear hob
 go_enter Tryz.func21,Tryz.ntmps21
 have k0:=HK0.out.cell 0
 have k1:=HK0.out.cell 1
 have k2:=HK0.out.cell 2
 have k3:=HK0.out.cell 3
 cases ob with
 | false=>
  have HQ:Hid (keepB ⟨G.t,G.n,G.s,ps⟩ G.lw L=false):=by show _=_;rw [HDf.out];rfl
  go_wp2_with (go_at_call 35;(with_reducible refine HRt.out.mono ?_);rintro e w1 ⟨rfl,hb1⟩;have HB1:=Lib.hid (HB0.out.trans hb1);clear hb1)
  go_ret2
  exact .inr ⟨HQ.out,rfl,HB1.out⟩
 | true=>
  by_cases h0:ls=0
  ·have HQ:Hid (keepB ⟨G.t,G.n,G.s,ps⟩ G.lw L=false):=by show _=_;rw [HDf.out,decide_eq_false (by have:=HLs.out;omega)];rfl
   subst h0
   go_wp2_with (go_at_call 35;(with_reducible refine HRt.out.mono ?_);rintro e w1 ⟨rfl,hb1⟩;have HB1:=Lib.hid (HB0.out.trans hb1);clear hb1)
   go_ret2
   exact .inr ⟨HQ.out,rfl,HB1.out⟩
  have h0':((ls:Int) == 0)=false:=by rw [beq_eq_false_iff_ne];omega
  have hls100:ls≤100:=by have:=HLs.out;omega
  have hls1:1≤ls:=by omega
  have hwr:wrap64 ((ls:Int) - 1)=(ls:Int) - 1:=by unfold wrap64;omega
  by_cases h1:(ls:Int) - 1 > (G.lw:Int)
  ·have HQ:Hid (keepB ⟨G.t,G.n,G.s,ps⟩ G.lw L=false):=by show _=_;rw [HDf.out,decide_eq_false (by have:=HLs.out;omega)];rfl
   go_wp2_with (go_at_call 35;(with_reducible refine HRt.out.mono ?_);rintro e w1 ⟨rfl,hb1⟩;have HB1:=Lib.hid (HB0.out.trans hb1);clear hb1)
   go_ret2
   exact .inr ⟨HQ.out,rfl,HB1.out⟩
  have HQ:Hid (keepB ⟨G.t,G.n,G.s,ps⟩ G.lw L=standsB ps L):=by show _=_;rw [HDf.out,decide_eq_true (by have:=HLs.out;omega)];rfl
  go_upto_region 3 with (go_at_call 35;(with_reducible refine HRt.out.mono ?_);rintro e w1 ⟨rfl,hb1⟩;have HB1:=Lib.hid (HB0.out.trans hb1);have HKb:=Lib.hid (HK0.out.bl hb1);clear hb1)
  have hcw:ls - 1≤G.cw:=by omega
  have hwr2:IntKind.i64.wrap ((ls:Int) - 1)=(ls:Int) - 1:=by rw [IntKind.wrap_i64];omega
  have hi0:(0:Int)≤(ls:Int) - 1:=by omega
  have hi1:(ls:Int) - 1≤(G.cw:Int):=by omega
  have hsl:=fun (wx:World)=>run_slice_head (P:=Tryz.prog) (t:=25) (e:=3) (size:=1) Tryz.underlying25 kint_size G.Aw G.lw G.cw (ls - 1) ((ls:Int) - 1) (by omega) hcw wx
  have hmm:=@run_makeMap Tryz.prog
  clear k0 k1 k2 k3 HRt
  go_cut [8] (fun s8 wx=>∃ K:Kw,s8=.pointer (some ⟨K.p,0,none⟩)∧Hid (KeptR { G with lw:=ls - 1 } ⟨G.t,G.n,G.s,ps⟩ w.heap.size K (fun _=>nilS) [] wx)∧Hid (Bk wx w.heap.size 24 #[.int .i64 G.t,.int .i64 G.n,.int .i64 G.s,.slice G.A G.len G.c])∧Hid (Bl w wx))
  case first=>
   have HPx:Hid (∀ wx,Bl w1 wx→wx.cell? ⟨w.heap.size,0,none⟩=some (.int .i64 G.t)∧wx.cell? ⟨w.heap.size,1,none⟩=some (.int .i64 G.n)∧wx.cell? ⟨w.heap.size,2,none⟩=some (.int .i64 G.s)∧wx.cell? ⟨w.heap.size,3,none⟩=some (.slice G.A G.len G.c)):=fun wx hbx=>by
    have h:=HKb.out.bl hbx
    exact ⟨h.cell 0,h.cell 1,h.cell 2,h.cell 3⟩
   have HBd:Hid (Bl w1 w1.drew):=(Bl.refl w1).drew
   go_region_held3 (fun wx=>wx.cell? ⟨w.heap.size,0,none⟩=some (.int .i64 G.t)∧wx.cell? ⟨w.heap.size,1,none⟩=some (.int .i64 G.n)∧wx.cell? ⟨w.heap.size,2,none⟩=some (.int .i64 G.s)∧wx.cell? ⟨w.heap.size,3,none⟩=some (.slice G.A G.len G.c))
    (first | exact HPx.out _ HBd.out | exact HPx.out _ (HBd.out.alloc _) | exact HPx.out _ ((HBd.out.alloc _).alloc _) | exact HPx.out _ (((HBd.out.alloc _).alloc _).alloc _) | exact HPx.out _ ((((HBd.out.alloc _).alloc _).alloc _).alloc _)) (fail)
   all_goals
    go_wp2_with fail
    go_meet
    have h:=kept_new { G with lw:=ls - 1 } ⟨G.t,G.n,G.s,ps⟩ w.heap.size w1 HB1.out.size
    refine ⟨⟨_,_,_,_⟩,rfl,KeptR.drew (h _ _ _ ?_ ?_ ?_ ?_ ?_ ?_ ?_ _ rfl),(((HKb.out.alloc _).alloc _).alloc _).alloc _,((((HB1.out.alloc _).alloc _).alloc _).alloc _).drew⟩
    all_goals omega
  case rest=>
   obtain ⟨K,rfl,HK,HG,HBw⟩:=hcut
   clear HKb HB1 hsl hmm HK0 HB0
   have HOk:=Lib.hid ((okB_iff _).1 HOb.out)
   go_wp2_with fail
   go_loopw [42] (fun i wr=>∃ (a:Nat) (V:Int × Nat→Value),a≤ls∧i=.int .i64 a∧Hid (KeptR { G with lw:=ls - 1 } ⟨G.t,G.n,G.s,ps⟩ w.heap.size K V (putS (doneS L a 0)) wr)∧Hid (Bk wr w.heap.size 24 #[.int .i64 G.t,.int .i64 G.n,.int .i64 G.s,.slice G.A G.len G.c])∧Hid (Bl w wr)∧Hid (∀ b l,b < a→L[b]?=some l→∀ x ∈ l,standB ps b x=true)) (fun i _=>ls - (intOf i).toNat)
   case atStart=>exact ⟨0,_,Nat.zero_le _,rfl,HK.out,HG.out,HBw.out,fun b l h=>by omega⟩
   case round=>
    obtain ⟨a,V,ha,rfl,HKr,HGr,HBr,HSr⟩:=hrel
    by_cases hlt:a < ls
    ·have hal:a < L.length:=by have:=HLs.out;omega
     obtain ⟨b,off,Ai,ci,eA,hbB,hc,hri⟩:=(HSx.out wr HBr.out).at_ hal
     have hbl:b < wr.heap.size:=Nat.lt_of_lt_of_le hbB (Nat.le_trans hB HBr.out.size)
     have i0:(0:Int)≤(a:Int):=by omega
     have i1:(a:Int) < (ls:Int):=by omega
     subst eA
     have HLa:Hid (L[a]?=some L[a]):=List.getElem?_eq_getElem hal
     have HMa:=Lib.hid (hM L[a] (List.getElem_mem hal))
     have HRi:=Lib.hid hri
     clear hri
     generalize hla:L[a]=l at *
     clear hla
     go_wp2_with fail
     have hl2:l.length≤2000:=HMa.out
     generalize wr=wo at *
     go_loopw [49] (fun i wr2=>∃ (k:Nat) (V2:Int × Nat→Value),k≤l.length∧i=.int .i64 k∧Hid (KeptR { G with lw:=ls - 1 } ⟨G.t,G.n,G.s,ps⟩ w.heap.size K V2 (putS (doneS L a k)) wr2)∧Hid (Bk wr2 w.heap.size 24 #[.int .i64 G.t,.int .i64 G.n,.int .i64 G.s,.slice G.A G.len G.c])∧Hid (Bl w wr2)∧Hid (∀ x ∈ l.take k,standB ps a x=true)) (fun i _=>l.length - (intOf i).toNat)
     case atStart=>exact ⟨0,_,Nat.zero_le _,rfl,HKr.out,HGr.out,HBr.out,fun x hx=>by simp at hx⟩
     case round=>
      obtain ⟨k,V2,hk,rfl,HK2,HG2,HB2,HS2⟩:=hrel
      by_cases hlt2:k < l.length
      ·have HRi2:Hid (Rd wr B Ai (ixRow l)):=HRi.out.keep fun p hp=>World.cell?_of_block ((HB2.out.block _ (by omega)).trans (HBr.out.block _ (by omega)).symm)
       obtain ⟨bi,oi,rfl,hbi,x0,x1,x2⟩:=HRi2.out.ix hlt2
       have hbil:bi < wr.heap.size:=Nat.lt_of_lt_of_le hbi (Nat.le_trans hB HB2.out.size)
       have i2:(0:Int)≤(k:Int):=by omega
       have i3:(k:Int) < (l.length:Int):=by omega
       have g0:=HG2.out.cell 0
       have g1:=HG2.out.cell 1
       have g2:=HG2.out.cell 2
       have g3:=HG2.out.cell 3
       have gl:=HG2.out.lt
       have HNx:Hid (l.take (k + 1)=l.take k ++ [l[k]]):=take_snoc hlt2
       have HDn:=Lib.hid (doneS_step HLa.out hlt2)
       have HXm:Hid (l[k] ∈ l):=List.getElem_mem hlt2
       generalize l[k]=x at *
       have HMay:=Lib.hid (fun (wx:World) (hb:Bl w wx)=>cmay_any G.t G.n G.s G.A G.len G.c ps a x wx B HL.out (HR.out wx hb) (Nat.le_trans hB hb.size))
       have HBi:Hid (Bl wr (wr.alloc (.cells #[.int .i64 x.prod,.int .i64 x.dot,.int .i64 x.frm] 44))):=(Bl.refl wr).alloc _
       have HXi:Hid (Bk (wr.alloc (.cells #[.int .i64 x.prod,.int .i64 x.dot,.int .i64 x.frm] 44)) wr.heap.size 44 #[.int .i64 x.prod,.int .i64 x.dot,.int .i64 x.frm]):=Bk.new wr _ _
       by_cases hst:standB ps a x=true
       ·have HPl:Hid ((putS (doneS L a k)).length < 1000000):=by
         have h1:=putS_len (doneS L a k)
         have h2:=doneS_len hM a k
         show _ < _
         have:a * 2000≤100 * 2000:=Nat.mul_le_mul_right _ (by omega)
         omega
        obtain ⟨y,rfl,⟨p,hp,hd⟩,hf⟩:=standB_iff.1 hst
        have hi:=Ch.lt_of_get hp
        have hpok:=HOk.out.2.2.2.2.2.2.2 p (List.mem_of_getElem? hp)
        have hy1:y.prod < ps.length:=hi
        have hy2:ps.length≤60:=HOk.out.2.2.2.2.2.2.1
        have HStk:Hid (stOk (a,y)):=⟨by show a < 1000000;omega,by show y.prod < 1000000;omega,by show y.dot < 1000000;have:=hpok.2.2.1;omega,by show y.frm < 1000000;omega⟩
        have HIn:Hid (imIn ⟨G.t,G.n,G.s,ps⟩ y):=⟨p,hp,hd⟩
        have HSt:=Lib.hid hst
        rw [ix_im] at HDn
        clear hp hd hf hi hpok hst hy1 hy2
        unfold Ch.Im.ix at *
        dsimp only at x0 x1 x2 HMay HBi HXi
        rw [HSt.out] at HMay
        have HPut:=Lib.hid (fun (wx:World) (hb:Bl wr wx)=>kput_any { G with lw:=ls - 1 } ps w.heap.size K V2 (putS (doneS L a k)) (a,y) wx B (HK2.out.bl hb) HL.out (HR.out wx (HB2.out.trans hb)) (Nat.le_trans hB (HB2.out.trans hb).size) (HB2.out.trans hb).size HStk.out HIn.out HOb.out HPl.out)
        unfold stv at HPut
        dsimp only at HPut
        go_wp2_with (first
         | (go_at_call 43;(with_reducible refine (HMay.out _ (HB2.out.trans HBi.out)).mono ?_);rintro e w2 ⟨rfl,hb2⟩;have HB3:=Lib.hid (HBi.out.trans hb2);have HX3:=Lib.hid (HXi.out.bl hb2);have y0:w2.cell? ⟨wr.heap.size,0,none⟩=some (.int .i64 (y.prod:Int)):=HX3.out.cell 0;have y1:w2.cell? ⟨wr.heap.size,1,none⟩=some (.int .i64 (y.dot:Int)):=HX3.out.cell 1;have y2:w2.cell? ⟨wr.heap.size,2,none⟩=some (.int .i64 (y.frm:Int)):=HX3.out.cell 2;have yl:=HX3.out.lt;clear hb2)
         | (go_at_call 44;(with_reducible refine (HPut.out _ HB3.out).mono ?_);rintro e w3 ⟨rfl,V3,hp3⟩;have HP3:=Lib.hid hp3;clear hp3))
        go_roundw
        case rel=>
         have hfr:=HP3.out.fr
         have hr:=HP3.out.rel
         rw [← putS_snoc,← HDn.out] at hr
         have hno:=(HK2.out.bl HB3.out).notown (HG2.out.bl HB3.out) (by decide)
         have hbw:Bl w w3:=(HB2.out.trans HB3.out).fr hfr fun i hi h=>by have:=((HK2.out.bl HB3.out).ownlow h).1;omega
         refine ⟨k + 1,V3,by omega,by go_num,hr,(HG2.out.bl HB3.out).fr hfr hno,hbw,fun z hz=>?_⟩
         rw [HNx.out] at hz
         rcases List.mem_append.mp hz with hz | hz
         ·exact HS2.out z hz
         ·rw [List.mem_singleton] at hz;subst hz;exact HSt.out
        case measure=>simp [intOf];omega
       ·have HQ2:Hid (keepB ⟨G.t,G.n,G.s,ps⟩ G.lw L=false):=by
         show _=_
         rw [HQ.out,Bool.eq_false_iff]
         intro h
         exact hst (standsB_iff.1 h a l HLa.out x HXm.out)
        rw [Bool.not_eq_true] at hst
        rw [hst] at HMay
        obtain ⟨xp,xd,xf⟩:=x
        dsimp only at x0 x1 x2 HMay HBi HXi
        clear HDn HNx hst
        go_wp2_with (go_at_call 43;(with_reducible refine (HMay.out _ (HB2.out.trans HBi.out)).mono ?_);rintro e w2 ⟨rfl,hb2⟩;have HB3:=Lib.hid (HBi.out.trans hb2);clear hb2)
        go_ret2
        exact .inr ⟨HQ2.out,rfl,HB2.out.trans HB3.out⟩
      ·have hke:k=l.length:=by omega
       subst hke
       go_wp2_with fail
       go_roundw
       case rel=>
        refine ⟨a + 1,V2,by omega,by go_num,?_,HG2.out,HB2.out,fun b l2 hb hl2=>?_⟩
        ·rw [← doneS_next HLa.out rfl];exact HK2.out
        ·rcases Nat.lt_or_ge b a with h | h
         ·exact HSr.out b l2 h hl2
         ·have e:b=a:=by omega
          subst e
          have:=HLa.out
          rw [this] at hl2
          injection hl2 with hl2
          subst hl2
          have:=HS2.out
          rw [List.take_length] at this
          exact this
       case measure=>simp [intOf];omega
    ·have hae:a=ls:=by omega
     subst hae
     have HQ2:Hid (keepB ⟨G.t,G.n,G.s,ps⟩ G.lw L=true):=by
      show _=_
      rw [HQ.out]
      exact standsB_iff.2 fun b l hl=>HSr.out b l (by have:=Ch.lt_of_get hl;have:=HLs.out;omega) hl
     go_wp2_with fail
     go_ret2
     refine .inl ⟨HQ2.out,K,V,rfl,?_,HBr.out⟩
     rw [← HLs.out]
     exact HKr.out
end Go.Proofs.YtdfhhbncmdpoeaaGreat
