/- span.fit: is a grammar sound, and does a word fit it? -/
import Derived.Test.YtdfhhbncmdpoeaaGreatWordS
import Derived.Test.YtdfhhbncmdpoeaaGreatFillS
import Derived.Test.YtdfhhbncmdpoeaaGreatSdCheck
import Derived.Test.YtdfhhbncmdpoeaaGreatRows
import Derived.Test.YtdfhhbncmdpoeaaGreatBaseS
import Derived.Test.YtdfhhbncmdpoeaaGreatPlainR
import Derived.OwnWalk
set_option maxRecDepth 100000
set_option maxHeartbeats 3200000
namespace Go.Proofs.YtdfhhbncmdpoeaaGreat
open Go.RowKit
theorem spfit_any (t n s:Int) (A:Option Addr) (len c:Nat) (ps:List Gr.Pr) (Aw:Option Addr) (lw cw:Nat) (xs:List Int) (w:World) (B:Nat) (hlen:len=ps.length) (hmax:len≤9223372036854775807) (hr:PrsC w B A ps) (hlw:lw=xs.length) (hmw:lw≤9223372036854775807) (hrw:Rd w B Aw (ins xs)) (hB:B≤w.heap.size) :
  Calls Tryz.prog 40 #[.agg #[.int .i64 t,.int .i64 n,.int .i64 s,.slice A len c],.slice Aw lw cw] w fun e w'=>e=.returned (.bool (fitB ⟨t,n,s,ps⟩ xs))∧Bl w w':=by
 have HB0:Hid (Bl w (w.alloc (.cells #[.int .i64 t,.int .i64 n,.int .i64 s,.slice A len c] 24))):=(Bl.refl w).alloc _
 have HCh:=Lib.hid (fun (wx:World) (hb:Bl w wx)=>check_law t n s A len c ps wx B hlen hmax (hr.bl hB hb) (Nat.le_trans hB hb.size))
 have HFt:=Lib.hid (fun (wx:World) (hb:Bl w wx)=>dfits_any t n s A len c Aw lw cw xs wx B hlw hmw (hrw.bl hB hb) (Nat.le_trans hB hb.size))
 have HF:Hid (fitB ⟨t,n,s,ps⟩ xs=(decide ((chkOf ⟨t,n,s,ps⟩).2=0) && Wd.fits t xs)):=rfl
 have HK0:=Lib.hid (Bk.new w 24 #[.int .i64 t,.int .i64 n,.int .i64 s,.slice A len c])
 clear hr hrw hlen hlw
 generalize chkOf ⟨t,n,s,ps⟩=ch at HCh HF
 obtain ⟨c1,c2⟩:=ch
 generalize Wd.fits t xs=ft at HFt HF
 simp only at HCh HF
 by_cases h0:c2=0
 ·subst h0
  go_enter Tryz.func40,Tryz.ntmps40
  go_wp2_with fail
  refine (HCh.out _ HB0.out).mono ?_
  rintro e w1 ⟨rfl,hb1⟩
  have HB1:=Lib.hid (HB0.out.trans hb1)
  have HK1:=Lib.hid (HK0.out.bl hb1)
  have k0:w1.cell? ⟨w.heap.size,0,none⟩=some (.int .i64 t):=HK1.out.cell 0
  have k1:w1.cell? ⟨w.heap.size,1,none⟩=some (.int .i64 n):=HK1.out.cell 1
  have k2:w1.cell? ⟨w.heap.size,2,none⟩=some (.int .i64 s):=HK1.out.cell 2
  have k3:w1.cell? ⟨w.heap.size,3,none⟩=some (.slice A len c):=HK1.out.cell 3
  have kl:=HK1.out.lt
  clear hb1
  go_wp2_with fail
  refine (HFt.out _ HB1.out).mono ?_
  rintro e w2 ⟨rfl,hb2⟩
  have HB2:=Lib.hid (HB1.out.trans hb2)
  clear hb2
  go_wp2_with fail
  go_ret
  exact ⟨by rw [HF.out];simp,HB2.out⟩
 ·have hq:((c2:Int) == 0)=false:=by rw [beq_eq_false_iff_ne];omega
  have HQ:Hid (fitB ⟨t,n,s,ps⟩ xs=false):=by rw [HF.out,decide_eq_false h0];rfl
  clear h0
  go_enter Tryz.func40,Tryz.ntmps40
  go_wp2_with fail
  refine (HCh.out _ HB0.out).mono ?_
  rintro e w1 ⟨rfl,hb1⟩
  have HB1:=Lib.hid (HB0.out.trans hb1)
  clear hb1
  go_wp2_with fail
  go_ret
  exact ⟨by rw [HQ.out];rfl,HB1.out⟩
end Go.Proofs.YtdfhhbncmdpoeaaGreat
namespace Go.Proofs.YtdfhhbncmdpoeaaGreat
open Go.RowKit
noncomputable def allN (g:Gr.Gm) (u:List Int) (i:Nat):Nat:=Sp.rowN g (u.drop (i / 25)) (i % 25)
theorem allN_lt (g:Gr.Gm) (u:List Int) (i:Nat):allN g u i < 4294967296:=Sp.rowN_lt _ _ _
theorem allN_at (g:Gr.Gm) (u:List Int) {a i:Nat} (hi:i < 25):allN g u (25 * a + i)=Sp.rowN g (u.drop a) i:=by
 unfold allN
 rw [show (25 * a + i) / 25=a by omega,show (25 * a + i) % 25=i by omega]
def nus (N:Nat) (F:Nat→Nat):List Value:=us ((List.range N).map F)
theorem nus_len (N:Nat) (F:Nat→Nat):(nus N F).length=N:=by simp [nus,us]
theorem nus_at {N:Nat} (F:Nat→Nat) {i:Nat} (hi:i < N):(nus N F)[i]?=some (.int .u32 (F i:Int)):=by simp [nus,us,hi]
theorem nus_get {N:Nat} {F:Nat→Nat} {j:Nat} {v:Value} (h:(nus N F)[j]?=some v):j < N∧v=.int .u32 (F j:Int):=by
 have hj:j < N:=by
  rcases Nat.lt_or_ge j N with h1 | h1
  ·exact h1
  ·rw [List.getElem?_eq_none (by rw [nus_len];exact h1)] at h;cases h
 rw [nus_at F hj] at h
 injection h with h
 exact ⟨hj,h.symm⟩
section
variable {t:TypeId} {w:World} {g N:Nat} {F:Nat→Nat}
theorem Wn.rd (h:Wn t w g N F):Rd w w.heap.size (some ⟨g,0,none⟩) (nus N F):=fun _=>⟨g,0,rfl,h.lt,fun j v hv=>by
 obtain ⟨hj,rfl⟩:=nus_get hv
 rw [Nat.zero_add]
 exact h.cell hj⟩
theorem Wn.of_own {base n c:Nat} (h:w.ownsRow base t 25 (.slice (some ⟨g,0,none⟩) n c) n (nus (25 * n) F)):Wn t w g (25 * n) F∧base≤g:=by
 obtain ⟨h1,h2⟩:=h
 rcases h2 with ⟨h3,_⟩ | ⟨g',cap,cur,h3,hb,hg,hn,_,hcs,htake⟩
 ·injection h3 with h3;cases h3
 ·injection h3 with h3 _ h4
  injection h3 with h3
  injection h3 with h3 _ _
  subst h3
  subst h4
  refine ⟨⟨cur,hg,?_,fun i hi=>?_⟩,hb⟩
  ·rw [hcs];have:=Nat.mul_le_mul_right 25 hn;omega
  ·have h5:=nus_at F hi
   rw [← htake,List.getElem?_take,if_pos (by omega)] at h5
   rw [← h5]
   simp
end
theorem zeros_nus (m:Nat):(madeCells (Value.cells (.agg rc0)) (m * 25)).toList=nus (25 * m) (fun _=>0):=by
 apply List.ext_getElem?
 intro i
 have hc:Value.cells (.agg rc0)=rc0:=rfl
 rcases Nat.lt_or_ge i (m * 25) with h | h
 ·rw [nus_at _ (by omega),hc]
  unfold madeCells
  have hs:rc0.size=25:=rc_size _
  rw [hs]
  have h2:rc0[i % 25]! = .int .u32 0:=by
   have h3:rc0[i % 25]?=some (.int .u32 ((0:Nat):Int)):=rc_at (fun _=>0) (Nat.mod_lt _ (by decide))
   rw [getElem!_def,h3]
   rfl
  simp [h,h2]
 ·rw [List.getElem?_eq_none (by rw [Array.length_toList,size_madeCells];exact h),List.getElem?_eq_none (by rw [nus_len];omega)]
def RowsPost (g:Gr.Gm) (xs:List Int) (w:World) (e:Ending) (w':World):Prop:=
 (fitB g xs=true→∃ b,e=.returned (.slice (some ⟨b,0,none⟩) (xs.length + 1) (xs.length + 1))∧w.heap.size≤b∧Wn 137 w' b (25 * (xs.length + 1)) (allN g xs))∧(fitB g xs=false→e=.returned (.slice none 0 0))∧Bl w w'
theorem row_size:(Tryz.prog.info? 137).map (·.size)=some 25:=by kernel_rfl
theorem undr_start {g:Gr.Gm} {F:Nat→Nat} {u:List Int} {k:Nat} (hz:∀ i,i < 25 * (k + 1)→F i=0) (hd:∀ i,25 * (k + 1)≤i→i < 25 * (u.length + 1)→F i=allN g u i):Sp.Undr g F k (u.drop k):=by
 refine ⟨fun n hn j hj=>?_,fun n hj=>?_,fun a h1 h2 i hi=>?_⟩
 ·rw [hz _ (by omega),Nat.zero_testBit] at hj;cases hj
 ·rw [hz _ (by omega),Nat.zero_testBit] at hj;cases hj
 ·rw [List.length_drop] at h2
  rw [hd _ (by omega) (by omega),allN_at g u hi,List.drop_drop]
theorem sprows_any (t n s:Int) (A:Option Addr) (len c:Nat) (ps:List Gr.Pr) (Aw:Option Addr) (lw cw:Nat) (xs:List Int) (w:World) (B:Nat) (hlen:len=ps.length) (hmax:len≤9223372036854775807) (hr:PrsC w B A ps) (hlw:lw=xs.length) (hmw:lw≤9223372036854775807) (hcw:lw≤cw) (hrw:Rd w B Aw (ins xs)) (hB:B≤w.heap.size) :
  Calls Tryz.prog 18 #[.agg #[.int .i64 t,.int .i64 n,.int .i64 s,.slice A len c],.slice Aw lw cw] w (RowsPost ⟨t,n,s,ps⟩ xs w):=by
 have HB0:Hid (Bl w (w.alloc (.cells #[.int .i64 t,.int .i64 n,.int .i64 s,.slice A len c] 24))):=(Bl.refl w).alloc _
 have HFt:=Lib.hid (fun (wx:World) (hb:Bl w wx)=>spfit_any t n s A len c ps Aw lw cw xs wx B hlen hmax (hr.bl hB hb) hlw hmw (hrw.bl hB hb) (Nat.le_trans hB hb.size))
 have HK0:=Lib.hid (Bk.new w 24 #[.int .i64 t,.int .i64 n,.int .i64 s,.slice A len c])
 cases hf:fitB ⟨t,n,s,ps⟩ xs with
 | false=>
  rw [hf] at HFt
  have HFf:=Lib.hid hf
  clear hf hr hrw hlen hlw
  go_enter Tryz.func18,Tryz.ntmps18
  go_wp2_with fail
  refine (HFt.out _ HB0.out).mono ?_
  rintro e w1 ⟨rfl,hb1⟩
  have HB1:=Lib.hid (HB0.out.trans hb1)
  clear hb1
  go_wp2_with fail
  go_ret
  exact ⟨fun h=>(by rw [HFf.out] at h;cases h),fun _=>rfl,HB1.out⟩
 | true=>
  rw [hf] at HFt
  have HFf:=Lib.hid hf
  obtain ⟨hok,hv,h24⟩:=fit_good hf
  have HOk:=Lib.hid hok
  have HV:=Lib.hid hv
  have hw24:lw≤24:=by omega
  have HP:Hid (∀ wx,Bl w wx→Prs wx B A ps):=fun _ hb=>(hr.bl hB hb).prs
  have HX:Hid (∀ wx,Bl w wx→Rd wx B Aw (ins xs)):=fun _ hb=>hrw.bl hB hb
  have HL:=Lib.hid hlw
  have HLn:=Lib.hid hlen
  obtain ⟨i0,hi,hz0,hz1,hz2⟩:=info_parts row_info
  clear hf hr hrw hlen hlw hok hv h24
  go_enter Tryz.func18,Tryz.ntmps18
  go_wp2_with fail
  refine (HFt.out _ HB0.out).mono ?_
  rintro e w1 ⟨rfl,hb1⟩
  have HB1:=Lib.hid (HB0.out.trans hb1)
  have HK1:=Lib.hid (HK0.out.bl hb1)
  clear hb1
  go_wp2_with (refine wpList_make_full _ rfl (.tmp 13) (.tmp 13) 51 rfl w1.heap.size 137 i0 (.agg rc0) 25 Tryz.underlying51 hi hz0 hz1 .i64 .i64 ((lw:Int) + 1) ((lw:Int) + 1) (lw + 1) rfl rfl (by omega) (by omega) (by rw [hz2];omega) (by simp only [maxLen];omega) (Nat.le_refl _) ?_;intro w2 hown2 hg2;have HO2:=Lib.hid hown2;have HB2:=Lib.hid (HB1.out.grown hg2 (fun k hk=>by cases hk));have HB12:Hid (Bl w1 w2):=(Bl.refl w1).grown hg2 (fun k hk=>by cases hk);clear hown2 hg2)
  have hz0:(madeCells (Value.cells (.agg rc0)) ((lw + 1) * 25)).toList=nus (25 * (lw + 1)) (fun _=>0):=zeros_nus (lw + 1)
  have HO3:Hid (w2.ownsRow w1.heap.size 137 25 (.slice (some ⟨w1.heap.size,0,none⟩) (lw + 1) (lw + 1)) (lw + 1) (nus (25 * (lw + 1)) (fun _=>0))):=by rw [← hz0];exact HO2.out
  have HW2:=Lib.hid (Wn.of_own HO3.out).1
  have HK2:=Lib.hid (HK1.out.bl HB12.out)
  have hw1:w.heap.size < w1.heap.size:=HK1.out.lt
  obtain ⟨g,hg⟩:∃ g:Nat,g=w1.heap.size:=⟨_,rfl⟩
  rw [← hg] at HW2 ⊢
  have hBg:B≤g:=by omega
  have hwg:w.heap.size≠g:=by omega
  have hgw:w.heap.size≤g:=by omega
  clear HO2 HO3 hz0 hg
  go_wp2_with fail
  go_loopw [6] (fun v wr=>∃ (k:Nat) (F:Nat→Nat),k≤lw + 1∧v=.int .i64 ((k:Int) - 1)∧Hid (Wn 137 wr g (25 * (lw + 1)) F)∧Hid (∀ i,F i < 4294967296)∧Hid (∀ i,i < 25 * k→F i=0)∧Hid (∀ i,25 * k≤i→i < 25 * (lw + 1)→F i=allN ⟨t,n,s,ps⟩ xs i)∧Hid (Fr (fun k=>k=g) w2 wr)) (fun v _=>(intOf v + 1).toNat)
  case atStart=>exact ⟨lw + 1,fun _=>0,Nat.le_refl _,by go_num,HW2.out,(fun _=>show (0:Nat) < 4294967296 by decide),(fun _ _=>rfl),(fun i h1 h2=>by omega),Fr.refl _ _⟩
  case round=>
   obtain ⟨k,F,hk,rfl,HW,HF,HZ,HD,HFr⟩:=hrel
   cases k with
   | zero=>
    go_wp2_with fail
    go_ret
    exact ⟨fun _=>⟨g,by rw [← HL.out];rfl,hgw,by rw [← HL.out];exact HW.out.congr (fun i hi=>HD.out i (by omega) hi)⟩,fun h=>(by rw [HFf.out] at h;cases h),(HB2.out.fr HFr.out (fun i hi e=>by omega))⟩
   | succ j=>
    have hj:((j + 1:Nat):Int) - 1=(j:Int):=by omega
    rw [hj]
    have hw12:w1.heap.size≤w2.heap.size:=HB12.out.size
    have hwr:w2.heap.size≤wr.heap.size:=HFr.out.size
    have HPr:Hid (Prs wr B A ps):=(HP.out _ HB2.out).far_fr (by omega) hBg HFr.out
    have HXr:Hid (Rd wr B Aw (ins xs)):=(HX.out _ HB2.out).far_fr (by omega) hBg HFr.out
    have HKc:=Lib.hid (HK2.out.fr HFr.out hwg)
    have HXc:Hid (Rd wr B (if cw=j then Aw else Aw.map (·.add (j * 1))) (ins (xs.drop j))):=HXr.out.ins_cut (by have:=HL.out;omega)
    have hsl:=fun (wx:World)=>run_slice_tail (P:=Tryz.prog) (t:=25) (e:=3) (size:=1) Tryz.underlying25 int_size Aw lw cw j (j:Int) rfl (by omega) wx
    have hsl2:=fun (wx:World)=>run_slice_tail (P:=Tryz.prog) (t:=51) (e:=137) (size:=25) Tryz.underlying51 row_size (some ⟨g,0,none⟩) (lw + 1) (lw + 1) j (j:Int) rfl (by omega) wx
    rw [if_neg (show ¬ (lw + 1=j) by omega)] at hsl2
    have hadd:(some (⟨g,0,none⟩:Addr)).map (·.add (j * 25))=some ⟨g,25 * j,none⟩:=by
     simp only [Option.map_some,Addr.add]
     split
     ·rename_i h0;obtain rfl:j=0:=by omega
      rfl
     ·rw [Nat.zero_add,Nat.mul_comm]
    rw [hadd,show lw + 1 - j=lw - j + 1 by omega] at hsl2
    clear hadd
    generalize (if cw=j then Aw else Aw.map (·.add (j * 1)))=A2 at HXc hsl
    have HU:Hid (Sp.Undr ⟨t,n,s,ps⟩ F j (xs.drop j)):=undr_start HZ.out (fun i h1 h2=>HD.out i h1 (by rw [HL.out];exact h2))
    have HFill:=Lib.hid (fun (wx:World) (hb:Bl wr wx)=>spfill_any t n s A len c ps A2 (lw - j) (cw - j) (xs.drop j) g (25 * (lw + 1)) j (lw - j + 1) F wx B HLn.out HOk.out HV.out (HPr.out.bl (by omega) hb) (by rw [List.length_drop,← HL.out]) (by omega) (by omega) (HXc.out.bl (by omega) hb) (Nat.le_trans (by omega) hb.size) hBg (HW.out.bl hb) (by omega) HF.out HU.out)
    have tk1:True:=trivial
    go_wp2_with fail
    go_region_held3 (fun w'=>w'.cell? ⟨w.heap.size,0,none⟩=some (.int .i64 t)∧w'.cell? ⟨w.heap.size,1,none⟩=some (.int .i64 n)∧w'.cell? ⟨w.heap.size,2,none⟩=some (.int .i64 s)∧w'.cell? ⟨w.heap.size,3,none⟩=some (.slice A len c)) (exact ⟨HKc.out.cell 0,HKc.out.cell 1,HKc.out.cell 2,HKc.out.cell 3⟩) (first
     | (go_at_call 41;have _t:=tk1;((with_reducible refine (HFill.out _ (Bl.refl wr).drew).mono ?_);rintro e v1 ⟨rfl,F',hw1',hf1,hlt1,hout1,hrow1⟩;have HF1:=Lib.hid (Fr.undrew hf1);have HKc:=Lib.hid (HKc.out.fr HF1.out hwg);have HW1:=Lib.hid hw1';have HLt1:=Lib.hid hlt1;have HOut1:=Lib.hid hout1;have HRow1:=Lib.hid hrow1;clear hw1' hf1 hlt1 hout1 hrow1;clear tk1)))
    have HZ':Hid (∀ i,i < 25 * j→F' i=0):=fun i hi=>(HOut1.out i (.inl hi)).trans (HZ.out i (by omega))
    have HD':Hid (∀ i,25 * j≤i→i < 25 * (lw + 1)→F' i=allN ⟨t,n,s,ps⟩ xs i):=fun i h1 h2=>by
     by_cases h3:i < 25 * j + 25
     ·have h4:=HRow1.out (i - 25 * j) (by omega)
      rw [← allN_at _ _ (show i - 25 * j < 25 by omega),show 25 * j + (i - 25 * j)=i by omega] at h4
      exact h4
     ·exact (HOut1.out i (.inr (by omega))).trans (HD.out i (by omega) h2)
    go_wp2_with fail
    go_roundw
    case rel=>exact ⟨j,F',by omega,by go_num,HW1.out,HLt1.out,HZ'.out,HD'.out,HFr.out.same HF1.out⟩
    case measure=>simp [intOf]
end Go.Proofs.YtdfhhbncmdpoeaaGreat
namespace Go.Proofs.YtdfhhbncmdpoeaaGreat
open Go.RowKit
def RdP (w:World) (P:Nat→Prop) (A:Option Addr) (xs:List Value):Prop:=
 0 < xs.length→∃ b off,A=some ⟨b,off,none⟩∧P b∧∀ j u,xs[j]?=some u→w.cell? ⟨b,off + j,none⟩=some u
section
variable {w w':World} {P Q:Nat→Prop} {A:Option Addr} {xs:List Value} {B:Nat}
theorem RdP.keep (h:RdP w P A xs) (hk:∀ b,P b→w'.heap[b]?=w.heap[b]?):RdP w' P A xs:=fun hn=>by
 obtain ⟨b,off,e,hb,hc⟩:=h hn
 exact ⟨b,off,e,hb,fun j u hu=>(World.cell?_of_block (hk b hb)).trans (hc j u hu)⟩
theorem RdP.nil:RdP w P A []:=fun h=>absurd h (by simp)
end
section
variable {w w':World} {P Q:Nat→Prop} {v:Value} {m:Nat} {f:Nat→Nat→Bool} {A:Option Addr} {fs:List (Nat→Nat→Bool)}
end
section
variable (f:Nat→Nat→Bool) (at_:Nat→Bool)
end
end Go.Proofs.YtdfhhbncmdpoeaaGreat
