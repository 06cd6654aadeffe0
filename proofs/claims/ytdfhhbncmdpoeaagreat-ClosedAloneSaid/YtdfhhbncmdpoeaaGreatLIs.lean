/- A make as a step of a region that draws. -/
import Derived.Test.YtdfhhbncmdpoeaaGreatBaseS
import Derived.Test.YtdfhhbncmdpoeaaGreatRows
import Derived.Test.YtdfhhbncmdpoeaaGreatPlainS
import Derived.Test.YtdfhhbncmdpoeaaGreatFactS
import Derived.Test.YtdfhhbncmdpoeaaGreatKFof
import Derived.Test.YtdfhhbncmdpoeaaGreatPlainR
import Derived.Laws.OwnMore
import Derived.RegionTactic
import Derived.BigQuiet
import Derived.Deep.QuietTactic
set_option maxRecDepth 100000
set_option maxHeartbeats 4000000
namespace Go.Proofs.YtdfhhbncmdpoeaaGreat
open Go.RowKit
end Go.Proofs.YtdfhhbncmdpoeaaGreat
namespace Go.Proofs.YtdfhhbncmdpoeaaGreat
open Go.RowKit
end Go.Proofs.YtdfhhbncmdpoeaaGreat
namespace Go.Proofs.YtdfhhbncmdpoeaaGreat
open Go.RowKit
theorem okT_below (t:Int):Wd.okT t=belowB t 16:=by
 rw [Bool.eq_iff_iff,Wd.okT_iff,belowB_iff];omega
theorem okW_all {xs:List Int} (h:xs.length≤24):Wd.okW xs=xs.all fun t=>belowB t 16:=by
 unfold Wd.okW
 rw [decide_eq_true h,Bool.true_and]
 exact congrArg (fun f=>xs.all f) (funext okT_below)
theorem fits_all {n:Int} {xs:List Int} (h:Wd.okW xs=true):Wd.fits n xs=xs.all fun t=>belowB t n:=by
 have hx:=((Wd.okW_iff xs).1 h).2
 rw [Bool.eq_iff_iff,Wd.fits_iff,List.all_eq_true]
 constructor
 ·intro ⟨_,h2⟩ t ht
  exact (belowB_iff _ _).2 ⟨(hx t ht).1,h2 t ht⟩
 ·intro h2
  exact ⟨h,fun t ht=>((belowB_iff _ _).1 (h2 t ht)).2⟩
theorem fits_no {n:Int} {xs:List Int} (h:Wd.okW xs=false):Wd.fits n xs=false:=by unfold Wd.fits;rw [h];rfl
theorem all_no {xs:List Int} {f:Int→Bool} {k:Nat} (hk:k < xs.length) (h:f xs[k]=false):xs.all f=false:=by
 rw [Bool.eq_false_iff]
 intro e
 have:=List.all_eq_true.1 e _ (List.getElem_mem hk)
 rw [h] at this;cases this
theorem all_yes {xs:List Int} {f:Int→Bool} (h:∀ x ∈ xs.take xs.length,f x=true):xs.all f=true:=by
 rw [List.take_length] at h
 exact List.all_eq_true.2 h
end Go.Proofs.YtdfhhbncmdpoeaaGreat
namespace Go.Proofs.YtdfhhbncmdpoeaaGreat
def chkOf (g:Gr.Gm):Nat × Nat:=if okB g then Sd.faultOf g else (0,1)
theorem chkOf_no {g:Gr.Gm} (h:okB g=false):chkOf g=(0,1):=by unfold chkOf;rw [if_neg (by rw [h];decide)]
theorem chkOf_ok {g:Gr.Gm} (h:okB g=true):chkOf g=Sd.faultOf g:=by unfold chkOf;rw [if_pos h]
end Go.Proofs.YtdfhhbncmdpoeaaGreat
namespace Go.Proofs.YtdfhhbncmdpoeaaGreat
open Go.RowKit
abbrev SoundC:Prop:=∀ (t n s:Int) (A:Option Addr) (len c:Nat) (ps:List Gr.Pr) (w:World) (B:Nat),len=ps.length→len≤9223372036854775807→PrsC w B A ps→B≤w.heap.size→
 Calls Tryz.prog 27 #[.agg #[.int .i64 t,.int .i64 n,.int .i64 s,.slice A len c]] w fun e w'=>
  e=.returned (.tuple #[.int .i64 (chkOf ⟨t,n,s,ps⟩).1,.int .i64 (chkOf ⟨t,n,s,ps⟩).2])∧Bl w w'
end Go.Proofs.YtdfhhbncmdpoeaaGreat
namespace Go.Proofs.YtdfhhbncmdpoeaaGreat
open Go.RowKit
section
variable {nl:Nat→Bool} {r:List Gr.Sy} {j k:Nat}
theorem allNull_succ (hj:j < r.length):Fi.allNull nl (r.take (j + 1))=(Fi.allNull nl (r.take j) && (r[j].non && nl r[j].n.toNat)):=by
 unfold Fi.allNull
 rw [List.take_succ_eq_append_getElem hj,List.all_append,List.all_cons,List.all_nil,Bool.and_true]
theorem allNull_no (hj:j < k) (hk:k≤r.length) (h:(r[j].non && nl r[j].n.toNat)=false):Fi.allNull nl (r.take k)=false:=by
 rw [Bool.eq_false_iff]
 intro e
 unfold Fi.allNull at e
 rw [List.all_eq_true] at e
 have hm:r[j] ∈ r.take k:=by
  rw [List.mem_iff_getElem]
  exact ⟨j,by rw [List.length_take];omega,by rw [List.getElem_take]⟩
 have:=e _ hm
 rw [this] at h
 cases h
theorem isStep_at {ps:List Gr.Pr} {i:Nat} (hi:i < ps.length) (hk:k < ps[i].right.length):Lf.isStep ps nl (i,k)=(ps[i].right[k].non && Fi.allNull nl (ps[i].right.take k)):=by
 unfold Lf.isStep
 rw [List.getElem?_eq_getElem hi]
 dsimp only
 rw [List.getElem?_eq_getElem hk]
theorem to_at {ps:List Gr.Pr} {i:Nat} (hi:i < ps.length) (hk:k < ps[i].right.length):Lf.to ps (i,k)=ps[i].right[k].n.toNat:=by
 unfold Lf.to
 rw [List.getElem?_eq_getElem hi]
 dsimp only
 rw [List.getElem?_eq_getElem hk]
end
theorem lis_any (t n s:Int) (A:Option Addr) (len c:Nat) (ps:List Gr.Pr) (An:Option Addr) (ln cn:Nat) (cur:Rk.Fs) (i k:Nat) (w:World) (B:Nat)
  (hlen:len=ps.length) (hr:Prs w B A ps) (hB:B≤w.heap.size) (hok:okB ⟨t,n,s,ps⟩=true) (hln:ln=cur.length) (hcn:cur.length=n.toNat) (hrn:Rd w B An (fcRow (fz cur)))
  (hi:i < ps.length) (hk:k < ps[i].right.length) :
  Calls Tryz.prog 92 #[.agg #[.int .i64 t,.int .i64 n,.int .i64 s,.slice A len c],.slice An ln cn,.agg #[.int .i64 i,.int .i64 k]] w
   fun e w'=>e=.returned (.bool (Lf.isStep ps (fun m=>decide (Rk.rk cur m≠0)) (i,k)))∧Bl w w':=by
 have HB0:Hid (Bl w ((w.alloc (.cells #[.int .i64 t,.int .i64 n,.int .i64 s,.slice A len c] 24)).alloc (.cells #[.int .i64 i,.int .i64 k] 121))):=((Bl.refl w).alloc _).alloc _
 have HK0:=Lib.hid ((Bk.new w 24 #[.int .i64 t,.int .i64 n,.int .i64 s,.slice A len c]).alloc (.cells #[.int .i64 i,.int .i64 k] 121))
 have HS0:Hid (Bk ((w.alloc (.cells #[.int .i64 t,.int .i64 n,.int .i64 s,.slice A len c] 24)).alloc (.cells #[.int .i64 i,.int .i64 k] 121)) (w.heap.size + 1) 121 #[.int .i64 i,.int .i64 k]):=by
  have h:=Bk.new (w.alloc (.cells #[.int .i64 t,.int .i64 n,.int .i64 s,.slice A len c] 24)) 121 #[.int .i64 i,.int .i64 k]
  rw [show (w.alloc (.cells #[.int .i64 t,.int .i64 n,.int .i64 s,.slice A len c] 24)).heap.size=w.heap.size + 1 by simp] at h
  exact h
 obtain ⟨b,off,Ax,cx,rfl,hbB,hrx,hc0,hc1⟩:=(hr.bl hB HB0.out).at_ hi
 have hst:=isStep_at (nl:=fun m=>decide (Rk.rk cur m≠0)) hi hk
 obtain ⟨⟨o1,o2⟩,o3,o4⟩:=ok_syms hok hi
 rw [hst]
 clear hst
 have hi60:len≤60:=by obtain ⟨_,_,h⟩:=ok_nons hok;omega
 have hil:i < len:=by omega
 clear hr hc0 o1 o2
 generalize ps[i].right=right at *
 generalize hres:(right[k].non && Fi.allNull (fun m=>decide (Rk.rk cur m≠0)) (right.take k))=res
 have HRes:=Lib.hid hres;clear hres
 have HX:=Lib.hid hrx;clear hrx
 have HF:=Lib.hid (hrn.bl hB HB0.out);clear hrn
 have HSy:Hid (∀ x ∈ right,x.non=true→0≤x.n∧x.n < n):=o4
 have HLn:Hid (ln=n.toNat):=by unfold Hid;omega
 have HCn:=Lib.hid hcn
 have h8:right.length≤8:=o3
 clear hlen hi hln hcn o4 hok o3
 go_enter Tryz.func92,Tryz.ntmps92
 go_wp2_with fail
 generalize hw0:(w.alloc (.cells #[.int .i64 t,.int .i64 n,.int .i64 s,.slice (some ⟨b,off,none⟩) len c] 24)).alloc (.cells #[.int .i64 i,.int .i64 k] 121)=w0 at *
 have HW:=Lib.hid hw0;clear hw0
 have g3:w0.cell? ⟨w.heap.size,3,none⟩=some (.slice (some ⟨b,off,none⟩) len c):=HK0.out.cell 3
 have s0:w0.cell? ⟨w.heap.size + 1,0,none⟩=some (.int .i64 (i:Int)):=HS0.out.cell 0
 have s1:w0.cell? ⟨w.heap.size + 1,1,none⟩=some (.int .i64 (k:Int)):=HS0.out.cell 1
 have e1:decide ((i:Int) < 0)=false:=decide_eq_false (by omega)
 have e2:decide ((len:Int)≤(i:Int))=false:=decide_eq_false (by omega)
 have e3:decide ((k:Int) < 0)=false:=decide_eq_false (by omega)
 have e4:decide ((right.length:Int)≤(k:Int))=false:=decide_eq_false (by omega)
 have i0:(0:Int)≤(i:Int):=by omega
 have i1:(i:Int) < (len:Int):=by omega
 go_quiet (fail)
 go_wp2_with fail
 go_loopw [7] (fun x wr=>∃ j:Nat,j≤k∧x=.int .i64 j∧Hid (Fi.allNull (fun m=>decide (Rk.rk cur m≠0)) (right.take j)=true)∧Hid (Bl w0 wr)) (fun x _=>k - (intOf x).toNat)
 case atStart=>exact ⟨0,Nat.zero_le _,rfl,rfl,by first | exact Bl.refl w0 | exact (Bl.refl w0).drew | exact (Bl.refl w0).drewN _⟩
 case round=>
  obtain ⟨j,hj,rfl,HT,HBr⟩:=hrel
  have HB:=Lib.hid (HB0.out.trans HBr.out)
  have HK:=Lib.hid (HK0.out.bl HBr.out)
  have HS:=Lib.hid (HS0.out.bl HBr.out)
  have g3:wr.cell? ⟨w.heap.size,3,none⟩=some (.slice (some ⟨b,off,none⟩) len c):=HK.out.cell 3
  have s0:wr.cell? ⟨w.heap.size + 1,0,none⟩=some (.int .i64 (i:Int)):=HS.out.cell 0
  have s1:wr.cell? ⟨w.heap.size + 1,1,none⟩=some (.int .i64 (k:Int)):=HS.out.cell 1
  have hc1:wr.cell? ⟨b,off + i * 2 + 1,none⟩=some (.slice Ax right.length cx):=(Below.cell HBr.out (World.block_lt_of_cell? _ _ hc1)).trans hc1
  have glt:w.heap.size < wr.heap.size:=HK.out.lt
  have slt:w.heap.size + 1 < wr.heap.size:=HS.out.lt
  have hBr:B≤wr.heap.size:=Nat.le_trans hB HB.out.size
  have hBw:B≤w0.heap.size:=Nat.le_trans hB HB0.out.size
  by_cases hlt:j < k
  ·have hjr:j < right.length:=by omega
   obtain ⟨bs,os,rfl,hbs,q0,q1⟩:=(HX.out.bl hBw HBr.out).sym hjr
   have HSucc:=Lib.hid (allNull_succ (nl:=fun m=>decide (Rk.rk cur m≠0)) hjr)
   have HNo:=Lib.hid (fun h=>allNull_no (nl:=fun m=>decide (Rk.rk cur m≠0)) hlt (Nat.le_of_lt hk) h)
   have HSk:=Lib.hid (HSy.out _ (List.getElem_mem hjr))
   generalize right[j]=y at *
   obtain ⟨yb,yn⟩:=y
   simp only at q0 q1
   clear hjr
   cases yb with
   | false=>
    have HG:=Lib.hid (HNo.out rfl)
    go_wp2_with fail
    go_ret
    exact ⟨by rw [← HRes.out,HG.out,Bool.and_false];rfl,(HB.out.alloc _)⟩
   | true=>
    obtain ⟨m,hme,hmlt⟩:∃ m:Nat,yn=(m:Int)∧m < ln:=by
     have:=HSk.out rfl
     have:=HLn.out
     exact ⟨yn.toNat,by simp only at *;omega,by simp only at *;omega⟩
    subst hme
    have hml:m < (fz cur).length:=by rw [fz_len];have:=HLn.out;have:=HCn.out;omega
    obtain ⟨bf,off2,rfl,hbf,f0,f1⟩:=(HF.out.bl hBw HBr.out).fact hml
    rw [fz_rank] at f0
    have hbw:bf < wr.heap.size:=by omega
    have f0a:(wr.alloc (.cells #[.bool true,.int .i64 (m:Int)] 39)).cell? ⟨bf,off2 + m * 2,none⟩=some (.int .i64 (Rk.rk cur m:Int)):=(World.cell?_alloc_lt _ _ _ hbw).trans f0
    clear hml f1 f0
    have hmi0:(0:Int)≤(m:Int):=by omega
    have hmi1:(m:Int) < (ln:Int):=by omega
    by_cases r1:Rk.rk cur m=0
    ·have HG:=Lib.hid (HNo.out (by
      show (true && decide (Rk.rk cur ((m:Int)).toNat≠0))=false
      rw [Int.toNat_natCast,r1];rfl))
     rw [r1] at f0a
     go_wp2_with fail
     go_ret
     exact ⟨by rw [← HRes.out,HG.out,Bool.and_false];rfl,HB.out.alloc _⟩
    ·have hq:(((Rk.rk cur m:Nat):Int) == 0)=false:=by simp;omega
     have HY:Hid (Fi.allNull (fun m=>decide (Rk.rk cur m≠0)) (right.take (j + 1))=true):=by
      rw [HSucc.out,HT.out]
      show (true && (true && decide (Rk.rk cur ((m:Int)).toNat≠0)))=true
      rw [Int.toNat_natCast,decide_eq_true r1];rfl
     clear r1
     generalize Rk.rk cur m=x at f0a hq
     go_wp2_with fail
     go_roundw
     case rel=>exact ⟨j + 1,by omega,by go_num,HY.out,HBr.out.alloc _⟩
     case measure=>simp [intOf];omega
  ·have hjk:j=k:=by omega
   subst hjk
   obtain ⟨bs,os,rfl,hbs,q0,q1⟩:=(HX.out.bl hBw HBr.out).sym hk
   have HR2:Hid (right[j].non=res):=by
    have:=HRes.out
    rw [HT.out,Bool.and_true] at this
    exact this
   generalize right[j]=y at q0 q1 HR2
   obtain ⟨yb,yn⟩:=y
   simp only at q0 q1
   have j0:(0:Int)≤(j:Int):=by omega
   have j1:(j:Int) < (right.length:Int):=by omega
   go_wp2_with fail
   go_quiet (fail)
   go_wp2_with fail
   go_ret
   exact ⟨by rw [← HR2.out];rfl,by first | exact HB.out.drewN _ | exact HB.out.drew | exact HB.out⟩
end Go.Proofs.YtdfhhbncmdpoeaaGreat
