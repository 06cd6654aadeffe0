/- gram.Right: may a grammar be? -/
import Derived.Test.YtdfhhbncmdpoeaaGreatBaseS
import Derived.Test.YtdfhhbncmdpoeaaGreatFactS
import Derived.OwnWalk
set_option maxRecDepth 100000
set_option maxHeartbeats 1000000
namespace Go.Proofs.YtdfhhbncmdpoeaaGreat
open Go.RowKit
theorem below_any (n m:Int) (w:World):Calls Tryz.prog 63 #[.int .i64 n,.int .i64 m] w fun e w'=>e=.returned (.bool (belowB n m))∧w=w':=by
 by_cases h1:0≤n
 ·by_cases h2:n < m
  ·have HG:Hid (belowB n m=true):=(belowB_iff n m).2 ⟨h1,h2⟩
   go_enter Tryz.func63,Tryz.ntmps63
   go_wp2_with fail
   go_ret
   exact ⟨by rw [HG.out];rfl,rfl⟩
  ·have HG:Hid (belowB n m=false):=belowB_no (by omega)
   go_enter Tryz.func63,Tryz.ntmps63
   go_wp2_with fail
   go_ret
   exact ⟨by rw [HG.out];rfl,rfl⟩
 ·have HG:Hid (belowB n m=false):=belowB_no (by omega)
  go_enter Tryz.func63,Tryz.ntmps63
  go_wp2_with fail
  go_ret
  exact ⟨by rw [HG.out];rfl,rfl⟩
theorem rightSym_any (t n s:Int) (A:Option Addr) (len c:Nat) (b:Bool) (k:Int) (w:World) :
  Calls Tryz.prog 93 #[.agg #[.int .i64 t,.int .i64 n,.int .i64 s,.slice A len c],.agg #[.bool b,.int .i64 k]] w fun e w'=>e=.returned (.bool (okSyB t n ⟨b,k⟩))∧Bl w w':=by
 cases b with
 | true=>
  have HG:Hid (okSyB t n ⟨true,k⟩=belowB k n):=rfl
  go_enter Tryz.func93,Tryz.ntmps93
  go_wp2_with fail
  refine (below_any k n _).mono ?_
  rintro e w' ⟨rfl,rfl⟩
  go_wp2_with fail
  go_ret
  exact ⟨by rw [HG.out];rfl,((Bl.refl w).alloc _).alloc _⟩
 | false=>
  have HG:Hid (okSyB t n ⟨false,k⟩=belowB k t):=rfl
  go_enter Tryz.func93,Tryz.ntmps93
  go_wp2_with fail
  refine (below_any k t _).mono ?_
  rintro e w' ⟨rfl,rfl⟩
  go_wp2_with fail
  go_ret
  exact ⟨by rw [HG.out];rfl,((Bl.refl w).alloc _).alloc _⟩
theorem rightProd_any (t n s:Int) (A:Option Addr) (len c:Nat) (l:Int) (Ax:Option Addr) (lx cx:Nat) (ss:List Gr.Sy) (w:World) (B:Nat) (hlen:lx=ss.length) (hr:Rd w B Ax (syRow ss)) (hB:B≤w.heap.size) :
  Calls Tryz.prog 64 #[.agg #[.int .i64 t,.int .i64 n,.int .i64 s,.slice A len c],.agg #[.int .i64 l,.slice Ax lx cx]] w fun e w'=>e=.returned (.bool (okPrB t n ⟨l,ss⟩))∧Bl w w':=by
 have HL:=Lib.hid hlen;clear hlen
 have HA:=Lib.hid hr;clear hr
 have HB0:Hid (Bl w ((w.alloc (.cells #[.int .i64 t,.int .i64 n,.int .i64 s,.slice A len c] 24)).alloc (.cells #[.int .i64 l,.slice Ax lx cx] 42))):=((Bl.refl w).alloc _).alloc _
 have HK0:=Lib.hid ((Bk.new w 24 #[.int .i64 t,.int .i64 n,.int .i64 s,.slice A len c]).alloc (.cells #[.int .i64 l,.slice Ax lx cx] 42))
 by_cases h1:0≤l∧l < n
 ·have hb:Hid (belowB l n=true):=(belowB_iff l n).2 h1
  obtain ⟨h1a,h1b⟩:=h1
  by_cases h8:8 < lx
  ·have HG:Hid (okPrB t n ⟨l,ss⟩=false):=okPrB_no (by have:=HL.out;omega)
   go_enter Tryz.func64,Tryz.ntmps64
   go_wp2_with fail
   refine (below_any l n _).mono ?_
   rintro e w' ⟨rfl,rfl⟩
   rw [hb.out]
   go_wp2_with fail
   go_ret
   exact ⟨by rw [HG.out];rfl,HB0.out⟩
  ·go_enter Tryz.func64,Tryz.ntmps64
   go_wp2_with fail
   refine (below_any l n _).mono ?_
   rintro e w' ⟨rfl,rfl⟩
   rw [hb.out]
   go_wp2_with fail
   generalize hw0:(w.alloc (.cells #[.int .i64 t,.int .i64 n,.int .i64 s,.slice A len c] 24)).alloc (.cells #[.int .i64 l,.slice Ax lx cx] 42)=w0 at HB0 HK0 ⊢
   have HW0:=Lib.hid hw0;clear hw0
   go_loopw [22] (fun i wr=>∃ k:Nat,k≤lx∧i=.int .i64 k∧Hid (∀ x ∈ ss.take k,okSyB t n x=true)∧Hid (Bl w0 wr)) (fun i _=>lx - (intOf i).toNat)
   case atStart=>exact ⟨0,Nat.zero_le _,rfl,by simp [Hid],Bl.refl w0⟩
   case round=>
    obtain ⟨k,hk,rfl,HF,HB⟩:=hrel
    by_cases hlt:k < lx
    ·have hj:k < ss.length:=by have:=HL.out;omega
     obtain ⟨b,off,rfl,hbB,hc0,hc1⟩:=(HA.out.bl hB (HB0.out.trans HB.out)).sym hj
     have HBad:=Lib.hid (fun h=>okPrB_one (t:=t) (n:=n) (l:=l) hj h)
     have HGood:=Lib.hid (all_snoc hj HF.out)
     generalize ss[k]=x at *
     obtain ⟨xb,xn⟩:=x
     simp only at hc0 hc1
     clear hj
     have HKr:=Lib.hid (HK0.out.bl HB.out)
     have k0:wr.cell? ⟨w.heap.size,0,none⟩=some (.int .i64 t):=HKr.out.cell 0
     have k1:wr.cell? ⟨w.heap.size,1,none⟩=some (.int .i64 n):=HKr.out.cell 1
     have k2:wr.cell? ⟨w.heap.size,2,none⟩=some (.int .i64 s):=HKr.out.cell 2
     have k3:wr.cell? ⟨w.heap.size,3,none⟩=some (.slice A len c):=HKr.out.cell 3
     have klt:w.heap.size < wr.heap.size:=HKr.out.lt
     cases hx:okSyB t n ⟨xb,xn⟩ with
     | true=>
      have HX:=Lib.hid hx;clear hx
      go_wp2_with fail
      refine (rightSym_any t n s A len c xb xn _).mono ?_
      rintro e w1 ⟨rfl,hb1⟩
      rw [HX.out]
      have HB1:=Lib.hid ((HB.out.alloc _).trans hb1);clear hb1
      go_wp2_with fail
      go_roundw
      case rel=>exact ⟨k + 1,by omega,by go_num,HGood.out HX.out,HB1.out⟩
      case measure=>simp [intOf];omega
     | false=>
      have HX:=Lib.hid hx;clear hx
      have HG:=Lib.hid (HBad.out HX.out)
      go_wp2_with fail
      refine (rightSym_any t n s A len c xb xn _).mono ?_
      rintro e w1 ⟨rfl,hb1⟩
      rw [HX.out]
      have HB1:=Lib.hid ((HB.out.alloc _).trans hb1);clear hb1
      go_wp2_with fail
      go_ret
      exact ⟨by rw [HG.out];rfl,HB0.out.trans HB1.out⟩
    ·go_wp2_with fail
     go_ret
     have hg:okPrB t n ⟨l,ss⟩=true:=okPrB_all h1a h1b (by have:=HL.out;omega) (by
      have h:=HF.out
      rw [List.take_of_length_le (by have:=HL.out;omega)] at h
      exact h)
     exact ⟨by rw [hg];rfl,HB0.out.trans HB.out⟩
 ·have hb:Hid (belowB l n=false):=belowB_no (by omega)
  have HG:Hid (okPrB t n ⟨l,ss⟩=false):=okPrB_no (by omega)
  clear h1
  go_enter Tryz.func64,Tryz.ntmps64
  go_wp2_with fail
  refine (below_any l n _).mono ?_
  rintro e w' ⟨rfl,rfl⟩
  rw [hb.out]
  go_wp2_with fail
  go_ret
  exact ⟨by rw [HG.out];rfl,HB0.out⟩
theorem right_any (t n s:Int) (A:Option Addr) (len c:Nat) (ps:List Gr.Pr) (w:World) (B:Nat) (hlen:len=ps.length) (hmax:len≤9223372036854775807) (hr:Prs w B A ps) (hB:B≤w.heap.size) :
  Calls Tryz.prog 35 #[.agg #[.int .i64 t,.int .i64 n,.int .i64 s,.slice A len c]] w fun e w'=>e=.returned (.bool (okB ⟨t,n,s,ps⟩))∧Bl w w':=by
 have HL:=Lib.hid hlen;clear hlen
 have HA:=Lib.hid hr;clear hr
 have HB0:Hid (Bl w (w.alloc (.cells #[.int .i64 t,.int .i64 n,.int .i64 s,.slice A len c] 24))):=(Bl.refl w).alloc _
 have HK0:=Lib.hid (Bk.new w 24 #[.int .i64 t,.int .i64 n,.int .i64 s,.slice A len c])
 by_cases h1:t < 0
 ·have HG:Hid (okB ⟨t,n,s,ps⟩=false):=okB_no (by omega)
  go_enter Tryz.func35,Tryz.ntmps35
  go_wp2_with fail
  go_ret
  exact ⟨by rw [HG.out];rfl,HB0.out⟩
 by_cases h2:16 < t
 ·have HG:Hid (okB ⟨t,n,s,ps⟩=false):=okB_no (by omega)
  go_enter Tryz.func35,Tryz.ntmps35
  go_wp2_with fail
  go_ret
  exact ⟨by rw [HG.out];rfl,HB0.out⟩
 by_cases h3:n < 1
 ·have HG:Hid (okB ⟨t,n,s,ps⟩=false):=okB_no (by omega)
  go_enter Tryz.func35,Tryz.ntmps35
  go_wp2_with fail
  go_ret
  exact ⟨by rw [HG.out];rfl,HB0.out⟩
 by_cases h4:24 < n
 ·have HG:Hid (okB ⟨t,n,s,ps⟩=false):=okB_no (by omega)
  go_enter Tryz.func35,Tryz.ntmps35
  go_wp2_with fail
  go_ret
  exact ⟨by rw [HG.out];rfl,HB0.out⟩
 by_cases h5:0≤s∧s < n
 ·have hb:Hid (belowB s n=true):=(belowB_iff s n).2 h5
  obtain ⟨h5a,h5b⟩:=h5
  by_cases h6:60 < len
  ·have HG:Hid (okB ⟨t,n,s,ps⟩=false):=okB_no (by have:=HL.out;omega)
   go_enter Tryz.func35,Tryz.ntmps35
   go_wp2_with fail
   refine (below_any s n _).mono ?_
   rintro e w' ⟨rfl,rfl⟩
   rw [hb.out]
   go_wp2_with fail
   go_ret
   exact ⟨by rw [HG.out];rfl,HB0.out⟩
  ·go_enter Tryz.func35,Tryz.ntmps35
   go_wp2_with fail
   refine (below_any s n _).mono ?_
   rintro e w' ⟨rfl,rfl⟩
   rw [hb.out]
   go_wp2_with fail
   generalize hw0:w.alloc (.cells #[.int .i64 t,.int .i64 n,.int .i64 s,.slice A len c] 24)=w0 at HB0 HK0 ⊢
   have HW0:=Lib.hid hw0;clear hw0
   go_loopw [38] (fun i wr=>∃ k:Nat,k≤len∧i=.int .i64 k∧Hid (∀ x ∈ ps.take k,okPrB t n x=true)∧Hid (Bl w0 wr)) (fun i _=>len - (intOf i).toNat)
   case atStart=>exact ⟨0,Nat.zero_le _,rfl,by simp [Hid],Bl.refl w0⟩
   case round=>
    obtain ⟨k,hk,rfl,HF,HB⟩:=hrel
    by_cases hlt:k < len
    ·have hj:k < ps.length:=by have:=HL.out;omega
     obtain ⟨b,off,Ax,cx,rfl,hbB,hrx,hc0,hc1⟩:=(HA.out.bl hB (HB0.out.trans HB.out)).at_ hj
     have HBad:=Lib.hid (fun h=>okB_one (t:=t) (n:=n) (s:=s) hj h)
     have HGood:=Lib.hid (all_snoc hj HF.out)
     have HRX:=Lib.hid hrx
     generalize ps[k]=x at *
     obtain ⟨xl,xs⟩:=x
     simp only at hc0 hc1
     clear hj hrx
     have HKr:=Lib.hid (HK0.out.bl HB.out)
     have k0:wr.cell? ⟨w.heap.size,0,none⟩=some (.int .i64 t):=HKr.out.cell 0
     have k1:wr.cell? ⟨w.heap.size,1,none⟩=some (.int .i64 n):=HKr.out.cell 1
     have k2:wr.cell? ⟨w.heap.size,2,none⟩=some (.int .i64 s):=HKr.out.cell 2
     have k3:wr.cell? ⟨w.heap.size,3,none⟩=some (.slice (some ⟨b,off,none⟩) len c):=HKr.out.cell 3
     have klt:w.heap.size < wr.heap.size:=HKr.out.lt
     have hBr:B≤wr.heap.size:=Nat.le_trans hB (HB0.out.trans HB.out).size
     cases hx:okPrB t n ⟨xl,xs⟩ with
     | true=>
      have HX:=Lib.hid hx;clear hx
      go_wp2_with fail
      refine (rightProd_any t n s _ len c xl Ax xs.length cx xs _ B rfl (HRX.out.alloc hBr _) (by simp;omega)).mono ?_
      rintro e w1 ⟨rfl,hb1⟩
      rw [HX.out]
      have HB1:=Lib.hid ((HB.out.alloc _).trans hb1);clear hb1
      go_wp2_with fail
      go_roundw
      case rel=>exact ⟨k + 1,by omega,by go_num,HGood.out HX.out,HB1.out⟩
      case measure=>simp [intOf];omega
     | false=>
      have HX:=Lib.hid hx;clear hx
      have HG:=Lib.hid (HBad.out HX.out)
      go_wp2_with fail
      refine (rightProd_any t n s _ len c xl Ax xs.length cx xs _ B rfl (HRX.out.alloc hBr _) (by simp;omega)).mono ?_
      rintro e w1 ⟨rfl,hb1⟩
      rw [HX.out]
      have HB1:=Lib.hid ((HB.out.alloc _).trans hb1);clear hb1
      go_wp2_with fail
      go_ret
      exact ⟨by rw [HG.out];rfl,HB0.out.trans HB1.out⟩
    ·go_wp2_with fail
     go_ret
     have hg:okB ⟨t,n,s,ps⟩=true:=okB_all (by omega) (by omega) (by omega) (by omega) h5a h5b (by have:=HL.out;omega) (by
      have h:=HF.out
      rw [List.take_of_length_le (by have:=HL.out;omega)] at h
      exact h)
     exact ⟨by rw [hg];rfl,HB0.out.trans HB.out⟩
 ·have hb:Hid (belowB s n=false):=belowB_no (by omega)
  have HG:Hid (okB ⟨t,n,s,ps⟩=false):=okB_no (by omega)
  clear h5
  go_enter Tryz.func35,Tryz.ntmps35
  go_wp2_with fail
  refine (below_any s n _).mono ?_
  rintro e w' ⟨rfl,rfl⟩
  rw [hb.out]
  go_wp2_with fail
  go_ret
  exact ⟨by rw [HG.out];rfl,HB0.out⟩
end Go.Proofs.YtdfhhbncmdpoeaaGreat
namespace Go.Proofs.YtdfhhbncmdpoeaaGreat
open Go.RowKit
theorem of_int_info:(Tryz.prog.info? 3).map (fun i=>(i.zero,i.size,i.bytes))=some (some (.int .i64 0),1,8):=by kernel_rfl
def ofK (ps:List Gr.Pr) (non:Int) (k:Nat):List Nat:=(List.range k).filter fun i=>match ps[i]? with | some p=>decide (p.left=non) | none=>false
theorem ofK_yes {ps:List Gr.Pr} {non:Int} {k:Nat} (h:k < ps.length) (e:ps[k].left=non):ofK ps non (k + 1)=ofK ps non k ++ [k]:=by
 unfold ofK
 rw [List.range_succ,List.filter_append]
 simp [h,e]
theorem ofK_no {ps:List Gr.Pr} {non:Int} {k:Nat} (h:k < ps.length) (e:ps[k].left≠non):ofK ps non (k + 1)=ofK ps non k:=by
 unfold ofK
 rw [List.range_succ,List.filter_append]
 simp [h,e]
theorem ofK_len (ps:List Gr.Pr) (non:Int) (k:Nat):(ofK ps non k).length≤k:=by
 have:=List.length_filter_le (fun i=>match ps[i]? with | some p=>decide (p.left=non) | none=>false) (List.range k)
 rw [List.length_range] at this
 exact this
def IMakes (xs:List Int) (w:World) (e:Ending) (w':World):Prop:=
 ∃ A c,e=.returned (.slice A xs.length c)∧xs.length≤c∧w'.ownsRow w.heap.size 3 1 (.slice A xs.length c) xs.length (ins xs)∧Bl w w'
def OfRel (ps:List Gr.Pr) (non:Int) (cs:Array Value) (w:World) (k:Nat) (v:Value) (wr:World):Prop:=
 wr.ownsRow w.heap.size 3 1 v (ofK ps non k).length (ins (ns (ofK ps non k)))∧Bk wr w.heap.size 24 cs∧Bl w wr
section
variable {ps:List Gr.Pr} {non:Int} {cs:Array Value} {w wr w2:World} {k:Nat} {v v':Value}
theorem OfRel.own (h:OfRel ps non cs w k v wr):wr.ownsRow w.heap.size 3 1 v (ofK ps non k).length (ins (ns (ofK ps non k))):=h.1
theorem OfRel.b (h:OfRel ps non cs w k v wr):Bl w wr:=h.2.2
theorem OfRel.alloc (h:OfRel ps non cs w k v wr) (o:Obj):OfRel ps non cs w k v (wr.alloc o):=⟨h.1.alloc o,h.2.1.alloc o,h.2.2.alloc o⟩
theorem OfRel.skip (h:OfRel ps non cs w k v wr) (hk:k < ps.length) (e:ps[k].left≠non):OfRel ps non cs w (k + 1) v wr:=by
 unfold OfRel;rw [ofK_no hk e];exact h
theorem OfRel.put (h:OfRel ps non cs w k v wr) (hk:k < ps.length) (e:ps[k].left=non)
  (ho:w2.ownsRow w.heap.size 3 1 v' ((ofK ps non k).length + 1) (ins (ns (ofK ps non k)) ++ [.int .i64 (k:Int)])) (hg:wr.grownBy w2 v.ownBlock):OfRel ps non cs w (k + 1) v' w2:=by
 refine ⟨?_,h.2.1.grown hg (fun e=>h.2.1.row h.1 (by decide) e.symm),h.2.2.grown hg fun j hj=>(h.1.lt j hj).1⟩
 rw [ofK_yes hk e,ns_append,ins_append,List.length_append]
 exact ho
theorem OfRel.done (h:OfRel ps non cs w k v wr) (hk:k=ps.length):IMakes (ns (ofK ps non ps.length)) w (.returned v) wr:=by
 subst hk
 obtain ⟨A,c,rfl,hc⟩:=own_slice h.1
 refine ⟨A,c,by rw [ns_len],by rw [ns_len];exact hc,?_,h.2.2⟩
 rw [ns_len]
 exact h.1
end
theorem of_any (t n s non:Int) (A:Option Addr) (len c:Nat) (ps:List Gr.Pr) (w:World) (B:Nat) (hlen:len=ps.length) (hmax:len≤1000000000) (hr:Prs w B A ps) (hB:B≤w.heap.size) :
  Calls Tryz.prog 77 #[.agg #[.int .i64 t,.int .i64 n,.int .i64 s,.slice A len c],.int .i64 non] w (IMakes (ns (ofK ps non ps.length)) w):=by
 obtain ⟨i0,hi,hz0,hz1,hz2⟩:=info_parts of_int_info
 have HL:=Lib.hid hlen;clear hlen
 have HA:=Lib.hid hr;clear hr
 have H0:Hid (OfRel ps non #[.int .i64 t,.int .i64 n,.int .i64 s,.slice A len c] w 0 (.slice none 0 0) (w.alloc (.cells #[.int .i64 t,.int .i64 n,.int .i64 s,.slice A len c] 24))):=
  ⟨World.ownsRow_nil _ _ _ _,Bk.new w _ _,(Bl.refl w).alloc _⟩
 go_enter Tryz.func77,Tryz.ntmps77
 go_wp2_with fail
 go_loopw [5,11] (fun v i wr=>∃ k:Nat,k≤len∧i=.int .i64 k∧Hid (OfRel ps non #[.int .i64 t,.int .i64 n,.int .i64 s,.slice A len c] w k v wr)) (fun _ i _=>len - (intOf i).toNat)
 case atStart=>exact ⟨0,Nat.zero_le _,rfl,H0⟩
 case round=>
  obtain ⟨k,hk,rfl,HR⟩:=hrel
  by_cases hlt:k < len
  ·have hj:k < ps.length:=by have:=HL.out;omega
   obtain ⟨b,off,Ax,cx,rfl,hbB,hrx,hc0,hc1⟩:=(HA.out.bl hB HR.out.b).at_ hj
   have hsz:w.heap.size≤wr.heap.size:=HR.out.b.size
   have hlk:=ofK_len ps non k
   by_cases he:ps[k].left=non
   ·have hq:(ps[k].left == non)=true:=by simpa using he
    have HN:=Lib.hid (fun (v':Value) (w2:World) (o1 o2:Obj) ho hg=>((HR.out.alloc o1).alloc o2).put (v':=v') (w2:=w2) hj he ho hg)
    have HO:=Lib.hid HR.out.own
    generalize ps[k]=x at hc0 hc1 hq
    obtain ⟨xl,xs⟩:=x
    simp only at hc0 hc1 hq
    clear hrx hj he
    go_wp2_with (at_builtin;refine wpList_append_own _ rfl (.tmp 20) (.tmp 22) 25 rfl w.heap.size 3 i0 (.int .i64 0) 1 8 Tryz.underlying25 hi hz0 hz1 hz2 rfl (by decide) _ _ _ rfl ((HO.out.alloc _).alloc _) ⟨wr.heap.size + 1,0,none⟩ 1 1 [.int .i64 (k:Int)] rfl rfl (by have h:=one_new (wr.alloc (.cells #[.int .i64 xl,.slice Ax xs.length cx] 42)) (.int .i64 (k:Int)) 3;rw [World.size_alloc] at h;exact h) (by simp [Value.oneCell']) (by simp only [maxLen];omega) (by omega) (by simp;omega) ?_;intro v' w2 hown' hgrow _;have HX:=Lib.hid (HN.out _ _ _ _ hown' hgrow);clear hown' hgrow)
    go_roundw
    case rel=>exact ⟨k + 1,by omega,by go_num,HX⟩
    case measure=>simp [intOf];omega
   ·have hq:(ps[k].left == non)=false:=by simpa using he
    have HX:=Lib.hid (fun o=>(HR.out.skip hj he).alloc o)
    generalize ps[k]=x at hc0 hc1 hq
    obtain ⟨xl,xs⟩:=x
    simp only at hc0 hc1 hq
    clear hrx hj he
    go_wp2_with fail
    go_roundw
    case rel=>exact ⟨k + 1,by omega,by go_num,HX.out _⟩
    case measure=>simp [intOf];omega
  ·have HD:=Lib.hid (HR.out.done (by have:=HL.out;omega))
   go_wp2_with fail
   go_ret
   exact HD.out
end Go.Proofs.YtdfhhbncmdpoeaaGreat
namespace Go.Proofs.YtdfhhbncmdpoeaaGreat
open Go.RowKit
theorem itake_succ_eq {l r:List Int} {k:Nat} (h1:k < l.length) (h2:k < r.length) (h:l.take k=r.take k) (hc:l[k]=r[k]):l.take (k + 1)=r.take (k + 1):=by
 rw [List.take_succ_eq_append_getElem h1,List.take_succ_eq_append_getElem h2,h,hc]
theorem isame_any (A A':Option Addr) (len len' cap cap':Nat) (l r:List Int) (w:World) (B:Nat) (hl:len=l.length) (hl':len'=r.length) (hmax:len≤9223372036854775807)
  (hr:Rd w B A (ins l)) (hr':Rd w B A' (ins r)) :
  Calls Tryz.prog 11 #[.slice A len cap,.slice A' len' cap'] w (Quiet (.bool (decide (l=r))) w):=by
 have HL:=Lib.hid hl;clear hl
 have HL':=Lib.hid hl';clear hl'
 have HR:=Lib.hid hr;clear hr
 have HR':=Lib.hid hr';clear hr'
 by_cases hne:len=len'
 ·have hq:((len:Int) != (len':Int))=false:=by simp;omega
  have HN:=Lib.hid hne;clear hne
  go_enter Tryz.func11,Tryz.ntmps11
  go_wp2
  go_loopw [5] (fun i wr=>∃ (k q:Nat),k≤len∧i=.int .i64 k∧wr=w.drewN q∧Hid (l.take k=r.take k)) (fun i _=>len - (intOf i).toNat)
  case atStart=>exact ⟨0,0,by omega,rfl,rfl,by simp [Hid]⟩
  case round=>
   obtain ⟨k,q,hk,rfl,rfl,HT⟩:=hrel
   by_cases hlt:k < len
   ·have hj:k < l.length:=by have:=HL.out;omega
    have hj':k < r.length:=by have:=HL'.out;have:=HN.out;omega
    obtain ⟨b,off,rfl,_,hcell⟩:=HR.out.int hj
    obtain ⟨b',off',rfl,_,hcell'⟩:=HR'.out.int hj'
    have hlt':k < len':=by have:=HN.out;omega
    have HS:=Lib.hid (itake_succ_eq hj hj' HT.out)
    have HD:=Lib.hid (fun (h:l=r)=>(by subst h;rfl:l[k]=r[k]))
    generalize l[k]=c at hcell HS HD
    generalize r[k]=c' at hcell' HS HD
    clear hj hj'
    by_cases hcc:c=c'
    ·have hq2:(c != c')=false:=by simp [hcc]
     have HC:=Lib.hid hcc;clear hcc
     go_wp2
     go_quiet (fail)
     go_wp2
     go_roundw
     case rel=>exact ⟨k + 1,_,by omega,by go_num,rfl,HS.out HC.out⟩
     case measure=>simp [intOf];omega
    ·have hq2:(c != c')=true:=by simpa using hcc
     have hf:decide (l=r)=false:=by simp;intro h;exact hcc (HD.out h)
     have HF:=Lib.hid hf;clear hf
     go_wp2
     go_quiet (fail)
     go_wp2
     go_ret
     exact ⟨by rw [HF.out];rfl,_,World.drewN_drewN _ _ _⟩
   ·go_wp2
    go_ret
    have e:l=r:=by
     have h1:=HT.out;have h2:=HL.out;have h3:=HL'.out;have h4:=HN.out
     rw [List.take_of_length_le (by omega),List.take_of_length_le (by omega)] at h1
     exact h1
    exact ⟨by rw [decide_eq_true e];rfl,_,rfl⟩
 ·have hq:((len:Int) != (len':Int))=true:=by simp;omega
  have hf:decide (l=r)=false:=by simp;rintro rfl;have:=HL.out;have:=HL'.out;omega
  have HF:=Lib.hid hf;clear hf
  go_enter Tryz.func11,Tryz.ntmps11
  go_wp2
  go_ret
  exact ⟨by rw [HF.out];rfl,0,rfl⟩
end Go.Proofs.YtdfhhbncmdpoeaaGreat
