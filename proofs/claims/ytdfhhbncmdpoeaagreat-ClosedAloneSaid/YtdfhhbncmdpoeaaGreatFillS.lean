/- span.of: what a row tells of a symbol. -/
import Derived.Test.YtdfhhbncmdpoeaaGreatRowsS
import Derived.Test.YtdfhhbncmdpoeaaGreatBaseS
import Derived.BigQuiet
import Derived.Deep.RegionHeld3
import Derived.Deep.LoopGhost
set_option maxRecDepth 100000
set_option maxHeartbeats 3200000
namespace Go.Proofs.YtdfhhbncmdpoeaaGreat
open Go.RowKit
theorem bit_and (y k:Nat) (hy:y < 4294967296):bits .and .u32 ((y:Int) / 2 ^ k) 1=(((y.testBit k).toNat:Nat):Int):=by
 have e1:(y:Int) / 2 ^ k=((y / 2 ^ k:Nat):Int):=by
  rw [Int.natCast_ediv,Int.natCast_pow];rfl
 have h1:y / 2 ^ k < 4294967296:=Nat.lt_of_le_of_lt (Nat.div_le_self _ _) hy
 rw [e1,show (1:Int)=((1:Nat):Int) from rfl,u32_and_nat _ _ h1 (by decide),Nat.and_one_is_mod]
 congr 1
 rw [Nat.testBit_eq_decide_div_mod_eq]
 rcases Nat.mod_two_eq_zero_or_one (y / 2 ^ k) with h | h <;> rw [h] <;> rfl
theorem bit_one (y k:Nat) (hy:y < 4294967296):(bits .and .u32 ((y:Int) / 2 ^ k) 1 == 1)=y.testBit k:=by
 rw [bit_and y k hy];cases y.testBit k <;> rfl
theorem bit_zero (y k:Nat) (hy:y < 4294967296):(bits .and .u32 ((y:Int) / 2 ^ k) 1 == 0) = !y.testBit k:=by
 rw [bit_and y k hy];cases y.testBit k <;> rfl
def ofE' (F:Nat→Nat) (r:Nat) (xs:List Int) (s:Gr.Sy):Nat:=if s.non=true then F (25 * r + s.n.toNat) else if xs[0]?=some s.n then 2 else 0
def ofO' (F:Nat→Nat) (r:Nat) (xs:List Int) (s:Gr.Sy):Bool:=if s.non=true then (F (25 * r + 24)).testBit s.n.toNat else decide (xs.length=0∨(xs[0]?=some s.n∧xs.length=1))
theorem ofE_drop (F:Nat→Nat) (o:Nat) (u:List Int) (s:Gr.Sy) (a:Nat):ofE' F (o + a) (u.drop a) s=Sp.ofE F o u s a:=by
 unfold ofE' Sp.ofE
 rw [List.getElem?_drop,Nat.add_zero]
theorem ofO_drop (F:Nat→Nat) (o:Nat) (u:List Int) (s:Gr.Sy) {a:Nat} (ha:a≤u.length):ofO' F (o + a) (u.drop a) s=Sp.ofO F o u s a:=by
 unfold ofO' Sp.ofO
 rw [List.getElem?_drop,Nat.add_zero,List.length_drop]
 split
 ·rfl
 ·apply decide_eq_decide.2
  constructor
  ·rintro (h | h)
   ·exact .inl (by omega)
   ·exact .inr ⟨h.1,by omega⟩
  ·rintro (h | h)
   ·exact .inl (by omega)
   ·exact .inr ⟨h.1,by omega⟩
theorem spof_any (b:Bool) (n:Int) (A:Option Addr) (lw cw:Nat) (xs:List Int) (g N r:Nat) (F:Nat→Nat) (w:World) (B:Nat) (hlw:lw=xs.length) (hmw:lw≤1000) (hn0:0≤n) (hn:b=true→n < 24) (hr:Rd w B A (ins xs)) (hB:B≤w.heap.size)
  (hW:Wn 137 w g N F) (hN:25 * r + 25≤N) (hF:∀ i,F i < 4294967296) :
  Calls Tryz.prog 121 #[.agg #[.bool b,.int .i64 n],.slice A lw cw,.pointer (some ⟨g,25 * r,none⟩)] w fun e w'=>e=.returned (.tuple #[.int .u32 (ofE' F r xs ⟨b,n⟩:Int),.bool (ofO' F r xs ⟨b,n⟩)])∧Bl w w':=by
 have HB0:Hid (Bl w (w.alloc (.cells #[.bool b,.int .i64 n] 39))):=(Bl.refl w).alloc _
 have HK0:=Lib.hid (Bk.new w 39 #[.bool b,.int .i64 n])
 have HR:=Lib.hid (hr.bl hB HB0.out)
 have HW:=Lib.hid (hW.bl HB0.out)
 clear hr hW
 cases b with
 | true=>
  obtain ⟨k,rfl⟩:∃ k:Nat,n=(k:Int):=⟨n.toNat,by omega⟩
  have hk:k < 24:=by have:=hn rfl;omega
  have c1:=HW.out.cell (show 25 * r + k < N by omega)
  have c2:=HW.out.cell (show 25 * r + 24 < N by omega)
  have hE:Hid (ofE' F r xs ⟨true,(k:Int)⟩=F (25 * r + k)):=rfl
  have hO:Hid (ofO' F r xs ⟨true,(k:Int)⟩=(F (25 * r + 24)).testBit k):=rfl
  have k0:(w.alloc (.cells #[.bool true,.int .i64 (k:Int)] 39)).cell? ⟨w.heap.size,0,none⟩=some (.bool true):=HK0.out.cell 0
  have k1:(w.alloc (.cells #[.bool true,.int .i64 (k:Int)] 39)).cell? ⟨w.heap.size,1,none⟩=some (.int .i64 (k:Int)):=HK0.out.cell 1
  have hgl:g < (w.alloc (.cells #[.bool true,.int .i64 (k:Int)] 39)).heap.size:=HW.out.lt
  have HY:=Lib.hid (bit_one (F (25 * r + 24)) k (hF _))
  clear hF
  generalize F (25 * r + k)=x at c1 hE
  generalize F (25 * r + 24)=y at c2 hO HY
  go_enter Tryz.func121,Tryz.ntmps121
  go_wp2
  go_quiet (fail)
  go_wp2
  go_ret2
  exact ⟨by rw [hE.out,hO.out,← HY.out];rfl,HB0.out.drewN _⟩
 | false=>
  have k0:(w.alloc (.cells #[.bool false,.int .i64 n] 39)).cell? ⟨w.heap.size,0,none⟩=some (.bool false):=HK0.out.cell 0
  have k1:(w.alloc (.cells #[.bool false,.int .i64 n] 39)).cell? ⟨w.heap.size,1,none⟩=some (.int .i64 n):=HK0.out.cell 1
  cases xs with
  | nil=>
   have hl0:lw=0:=hlw
   subst hl0
   clear hlw hmw HR HW hN hF
   have hE:Hid (ofE' F r [] ⟨false,n⟩=0):=rfl
   have hO:Hid (ofO' F r [] ⟨false,n⟩=true):=by unfold ofO';rw [if_neg (fun e=>Bool.noConfusion e)];exact decide_eq_true (.inl rfl)
   go_enter Tryz.func121,Tryz.ntmps121
   go_wp2_with fail
   go_ret2
   exact ⟨by rw [hE.out,hO.out];rfl,HB0.out⟩
  | cons x xs=>
   obtain ⟨b,off,rfl,_,hcell⟩:=HR.out.int (show 0 < (x :: xs).length from Nat.succ_pos _)
   have hcell:(w.alloc (.cells #[.bool false,.int .i64 n] 39)).cell? ⟨b,off,none⟩=some (.int .i64 x):=hcell
   have HL0:Hid (lw=xs.length + 1):=hlw
   have hlz:((lw:Int) == 0)=false:=by have:lw=xs.length + 1:=hlw;rw [beq_eq_false_iff_ne];omega
   have hpos:(0:Int) < (lw:Int):=by have:lw=xs.length + 1:=hlw;omega
   clear hlw
   by_cases hx:x=n
   ·subst hx
    have hE:Hid (ofE' F r (x :: xs) ⟨false,x⟩=2):=by unfold ofE';rw [if_neg (fun e=>Bool.noConfusion e)];exact if_pos rfl
    have hO:Hid (ofO' F r (x :: xs) ⟨false,x⟩=((lw:Int) == 1)):=by
     unfold ofO'
     rw [if_neg (fun e=>Bool.noConfusion e),Bool.eq_iff_iff,decide_eq_true_eq,beq_iff_eq]
     have hl0:=HL0.out
     constructor
     ·rintro (h | h)
      ·cases h
      ·have:=h.2;rw [List.length_cons] at this;omega
     ·intro h;exact .inr ⟨rfl,by rw [List.length_cons];omega⟩
    go_enter Tryz.func121,Tryz.ntmps121
    go_wp2
    go_quiet (fail)
    go_wp2
    go_ret2
    exact ⟨by rw [hE.out,hO.out];rfl,HB0.out.drewN _⟩
   ·have hE:Hid (ofE' F r (x :: xs) ⟨false,n⟩=0):=by
     unfold ofE'
     rw [if_neg (fun e=>Bool.noConfusion e)]
     exact if_neg (fun e=>hx (by injection e))
    have hO:Hid (ofO' F r (x :: xs) ⟨false,n⟩=false):=by
     unfold ofO'
     rw [if_neg (fun e=>Bool.noConfusion e)]
     refine decide_eq_false ?_
     rintro (h | h)
     ·cases h
     ·exact hx (by have:=h.1;injection this)
    go_enter Tryz.func121,Tryz.ntmps121
    go_wp2
    go_quiet (fail)
    go_wp2
    go_ret2
    exact ⟨by rw [hE.out,hO.out];rfl,HB0.out.drewN _⟩
end Go.Proofs.YtdfhhbncmdpoeaaGreat
namespace Go.Proofs.YtdfhhbncmdpoeaaGreat
open Go.RowKit
theorem Rd.ins_cut {w:World} {B:Nat} {A:Option Addr} {l:List Int} (h:Rd w B A (ins l)) {k cap:Nat} (hc:l.length≤cap):Rd w B (if cap=k then A else A.map (·.add (k * 1))) (ins (l.drop k)):=fun hn=>by
 rw [ins_len,List.length_drop] at hn
 obtain ⟨b,off,e,hb,hcell⟩:=h (by rw [ins_len];omega)
 rw [if_neg (by omega)]
 refine ⟨b,off + k * 1,?_,hb,fun j u hu=>?_⟩
 ·subst e
  simp only [Option.map_some,Addr.add]
  split
  ·rename_i h0;rw [h0];rfl
  ·rfl
 ·rw [Nat.add_assoc]
  refine hcell (k * 1 + j) u ?_
  rw [← hu]
  unfold ins
  rw [List.map_drop,List.getElem?_drop,Nat.mul_one]
theorem int_size:(Tryz.prog.info? 3).map (·.size)=some 1:=by kernel_rfl
theorem shl_nat (x k:Nat):(x:Int) * 2 ^ k % 4294967296=(((x <<< k) % 4294967296:Nat):Int):=by
 rw [Nat.shiftLeft_eq,Int.natCast_emod,Int.natCast_mul,Int.natCast_pow];rfl
theorem thr_any (b:Bool) (n:Int) (A:Option Addr) (lw cw:Nat) (u:List Int) (g N o cr:Nat) (F:Nat→Nat) (fr:Nat) (w:World) (B:Nat) (hlw:lw=u.length) (hmw:lw≤24) (hcw:lw≤cw) (hn0:0≤n) (hn:b=true→n < 24) (hr:Rd w B A (ins u)) (hB:B≤w.heap.size)
  (hW:Wn 137 w g N F) (hN:25 * (o + lw) + 25≤N) (hF:∀ i,F i < 4294967296) (hfr:fr < 4294967296) :
  Calls Tryz.prog 101 #[.agg #[.bool b,.int .i64 n],.slice A lw cw,.slice (some ⟨g,25 * o,none⟩) (lw + 1) cr,.int .u32 (fr:Int)] w fun e w'=>e=.returned (.tuple #[.int .u32 (Sp.thrE F o u ⟨b,n⟩ fr (lw + 1):Int),.bool (Sp.thrO F o u ⟨b,n⟩ fr (lw + 1))])∧Bl w w':=by
 have HB0:Hid (Bl w (w.alloc (.cells #[.bool b,.int .i64 n] 39))):=(Bl.refl w).alloc _
 have HK0:=Lib.hid (Bk.new w 39 #[.bool b,.int .i64 n])
 have HR:=Lib.hid hr
 have HW:=Lib.hid hW
 have HL:=Lib.hid hlw
 have HFb:=Lib.hid hF
 have HN:=Lib.hid hN
 have HN0:=Lib.hid hn0
 have HNt:=Lib.hid hn
 clear hr hW hlw hF hN hn0 hn
 obtain ⟨off,hoff⟩:∃ off:Nat,off=25 * o:=⟨_,rfl⟩
 have HOff:=Lib.hid hoff
 rw [← hoff]
 clear hoff
 go_enter Tryz.func101,Tryz.ntmps101
 go_wp2_with fail
 go_loopw [10,11,17] (fun x y i wr=>∃ k:Nat,k≤lw + 1∧i=.int .i64 k∧x=.int .u32 (Sp.thrE F o u ⟨b,n⟩ fr k:Int)∧y=.bool (Sp.thrO F o u ⟨b,n⟩ fr k)∧Hid (Bl (w.alloc (.cells #[.bool b,.int .i64 n] 39)) wr)) (fun _ _ i _=>lw + 1 - (intOf i).toNat)
 case atStart=>exact ⟨0,Nat.zero_le _,rfl,rfl,rfl,Bl.refl _⟩
 case round=>
  obtain ⟨k,hk,rfl,rfl,rfl,HB⟩:=hrel
  have HBw:=Lib.hid (HB0.out.trans HB.out)
  by_cases hlt:k < lw + 1
  ·have HE1:Hid (Sp.thrE F o u ⟨b,n⟩ fr (k + 1)=if fr.testBit k then Sp.thrE F o u ⟨b,n⟩ fr k ||| (Sp.ofE F o u ⟨b,n⟩ k <<< k) % 4294967296 else Sp.thrE F o u ⟨b,n⟩ fr k):=rfl
   have HO1:Hid (Sp.thrO F o u ⟨b,n⟩ fr (k + 1)=if fr.testBit k then Sp.thrO F o u ⟨b,n⟩ fr k || Sp.ofO F o u ⟨b,n⟩ k else Sp.thrO F o u ⟨b,n⟩ fr k):=rfl
   have hk32:min k 32=k:=by omega
   have hbit:(bits .and .u32 ((fr:Int) / 2 ^ k) 1 == 1)=fr.testBit k:=bit_one fr k hfr
   have hx32:=Sp.thrE_lt (F:=F) (o:=o) (u:=u) ⟨b,n⟩ fr k
   have HX32:=Lib.hid hx32
   clear hx32
   generalize Sp.thrE F o u ⟨b,n⟩ fr k=x at *
   cases hb:fr.testBit k with
   | false=>
    rw [hb] at hbit HE1 HO1
    clear hb
    generalize Sp.thrO F o u ⟨b,n⟩ fr k=y at *
    go_wp2_with fail
    go_roundw
    case rel=>exact ⟨k + 1,by omega,by go_num,by rw [HE1.out];rfl,by rw [HO1.out];rfl,HB.out⟩
    case measure=>simp [intOf];omega
   | true=>
    rw [hb] at hbit HE1 HO1
    clear hb
    have HRc:Hid (Rd wr wr.heap.size (if cw=k then A else A.map (·.add (k * 1))) (ins (u.drop k))):=by
     have h:=(HR.out.bl hB HBw.out).ins_cut (k:=k) (cap:=cw) (by have:=HL.out;omega)
     exact h.more (Nat.le_trans hB HBw.out.size)
    have hsl:=fun (wx:World)=>run_slice_tail (P:=Tryz.prog) (t:=25) (e:=3) (size:=1) Tryz.underlying25 int_size A lw cw k (k:Int) rfl (by omega) wx
    generalize (if cw=k then A else A.map (·.add (k * 1)))=A2 at HRc hsl
    have HWc:=Lib.hid (HW.out.bl HBw.out)
    have HKc:=Lib.hid (HK0.out.bl HB.out)
    have HOf:=Lib.hid (fun (wx:World) (hb:Bl wr wx)=>spof_any b n A2 (lw - k) (cw - k) (u.drop k) g N (o + k) F wx wr.heap.size (by rw [List.length_drop,← HL.out]) (by omega) HN0.out HNt.out (HRc.out.bl (Nat.le_refl _) hb) hb.size (HWc.out.bl hb) (by have:=HN.out;omega) HFb.out)
    rw [ofE_drop,ofO_drop F o u ⟨b,n⟩ (show k≤u.length by have:=HL.out;omega)] at HOf
    have hptr:off + k * 25=25 * (o + k):=by have:=HOff.out;omega
    have HPt:=Lib.hid hptr
    rw [← hptr] at HOf
    clear hptr
    generalize Sp.ofE F o u ⟨b,n⟩ k=m at *
    generalize Sp.ofO F o u ⟨b,n⟩ k=q at *
    have HSh:Hid (bits .or .u32 (x:Int) ((m:Int) * 2 ^ k % 4294967296)=((x ||| (m <<< k) % 4294967296:Nat):Int)):=by
     unfold Hid
     rw [shl_nat,or_nat _ _ HX32.out (Nat.mod_lt _ (by decide))]
    have tk1:True:=trivial
    have HBc:=Lib.hid (Bl.refl wr)
    generalize hy:Sp.thrO F o u ⟨b,n⟩ fr k=y at *
    clear hy
    cases y with
    | false=>
     go_wp2_with fail
     go_region_held3 (fun w'=>w'.cell? ⟨w.heap.size,0,none⟩=some (.bool b)∧w'.cell? ⟨w.heap.size,1,none⟩=some (.int .i64 n)) (exact ⟨HKc.out.cell 0,HKc.out.cell 1⟩) (first
      | (go_at_call 121;have _t:=tk1;((with_reducible refine (HOf.out _ (Bl.refl wr).drew).mono ?_);rintro e v1 ⟨rfl,hb1⟩;have HBc:=Lib.hid (Bl.undrew hb1);have HKc:=Lib.hid (HKc.out.bl HBc.out);clear hb1;clear tk1)))
     go_wp2_with fail
     go_roundw
     case rel=>exact ⟨k + 1,by omega,by go_num,by rw [HE1.out,HSh.out];rfl,by rw [HO1.out];rfl,HB.out.trans HBc.out⟩
     case measure=>simp [intOf];omega
    | true=>
     go_wp2_with fail
     go_region_held3 (fun w'=>w'.cell? ⟨w.heap.size,0,none⟩=some (.bool b)∧w'.cell? ⟨w.heap.size,1,none⟩=some (.int .i64 n)) (exact ⟨HKc.out.cell 0,HKc.out.cell 1⟩) (first
      | (go_at_call 121;have _t:=tk1;((with_reducible refine (HOf.out _ (Bl.refl wr).drew).mono ?_);rintro e v1 ⟨rfl,hb1⟩;have HBc:=Lib.hid (Bl.undrew hb1);have HKc:=Lib.hid (HKc.out.bl HBc.out);clear hb1;clear tk1)))
     go_wp2_with fail
     go_roundw
     case rel=>exact ⟨k + 1,by omega,by go_num,by rw [HE1.out,HSh.out];rfl,by rw [HO1.out];rfl,HB.out.trans HBc.out⟩
     case measure=>simp [intOf];omega
  ·have hke:k=lw + 1:=by omega
   subst hke
   go_wp2_with fail
   go_ret2
   exact ⟨rfl,HBw.out⟩
end Go.Proofs.YtdfhhbncmdpoeaaGreat
namespace Go.Proofs.YtdfhhbncmdpoeaaGreat
open Go.RowKit
theorem put_no {fn:Func} (h:fn.results=#[]) (tmps:Array Value) (P:Program) (w:World):(results fn tmps).run P w=.ok (.tuple #[]) w:=by simp [results,h]
def RPut (g N:Nat) (F':Nat→Nat) (w:World) (e:Ending) (w':World):Prop:=e=.returned (.tuple #[])∧Wn 137 w' g N F'∧Fr (fun k=>k=g) w w'
theorem putF_no {F:Nat→Nat} {o:Nat} {u:List Int} {p:Gr.Pr} {L E:Nat} (hL:p.left.toNat=L) (hE:(Sp.wk F o u p.right).1=E) (hb:(Sp.wk F o u p.right).2=false):upN F (25 * o + L) (F (25 * o + L) ||| E)=Sp.putF F o u p:=by
 funext i
 unfold upN Sp.putF
 rw [hL,hE,hb]
 by_cases e:i=25 * o + L
 ·rw [if_pos e,if_pos e,e]
 ·rw [if_neg e,if_neg e,if_neg (fun h=>Bool.noConfusion h.2)]
theorem putF_yes {F:Nat→Nat} {o:Nat} {u:List Int} {p:Gr.Pr} {L E:Nat} (hL:p.left.toNat=L) (hL24:L < 24) (hE:(Sp.wk F o u p.right).1=E) (hb:(Sp.wk F o u p.right).2=true) :
  upN (upN F (25 * o + L) (F (25 * o + L) ||| E)) (25 * o + 24) (F (25 * o + 24) ||| 2 ^ L)=Sp.putF F o u p:=by
 funext i
 unfold upN Sp.putF
 rw [hL,hE,hb]
 by_cases e:i=25 * o + L
 ·rw [if_neg (by omega),if_pos e,if_pos e,e]
 ·rw [if_neg e,if_neg e]
  by_cases e2:i=25 * o + 24
  ·rw [if_pos e2,if_pos ⟨e2,rfl⟩,e2]
  ·rw [if_neg e2,if_neg (fun h=>e2 h.1)]
theorem spput_any (p:Gr.Pr) (L:Nat) (Ax:Option Addr) (lx cx:Nat) (A:Option Addr) (lw cw:Nat) (u:List Int) (g N o cr:Nat) (F:Nat→Nat) (w:World) (B:Nat) (hL:p.left=(L:Int)) (hL24:L < 24) (hlx:lx=p.right.length) (hlx8:lx≤8) (hsy:∀ s ∈ p.right,Sp.SyG s)
  (hlw:lw=u.length) (hmw:lw≤24) (hcw:lw≤cw) (hrx:Rd w B Ax (syRow p.right)) (hr:Rd w B A (ins u)) (hB:B≤w.heap.size)
  (hW:Wn 137 w g N F) (hN:25 * (o + lw) + 25≤N) (hF:∀ i,F i < 4294967296) :
  Calls Tryz.prog 70 #[.agg #[.int .i64 (L:Int),.slice Ax lx cx],.slice A lw cw,.slice (some ⟨g,25 * o,none⟩) (lw + 1) cr] w (RPut g N (Sp.putF F o u p) w):=by
 have HB0:Hid (Bl w (w.alloc (.cells #[.int .i64 (L:Int),.slice Ax lx cx] 42))):=(Bl.refl w).alloc _
 have HK0:=Lib.hid (Bk.new w 42 #[.int .i64 (L:Int),.slice Ax lx cx])
 have HR:=Lib.hid (hr.bl hB HB0.out)
 have HX:=Lib.hid (hrx.bl hB HB0.out)
 have HW:=Lib.hid (hW.bl HB0.out)
 have HG:Hid (g < w.heap.size):=hW.lt
 have HL:=Lib.hid hlw
 have HLx:=Lib.hid hlx
 have HFb:=Lib.hid hF
 have HN:=Lib.hid hN
 have HSy:=Lib.hid hsy
 have hB1:B≤(w.alloc (.cells #[.int .i64 (L:Int),.slice Ax lx cx] 42)).heap.size:=by simp;omega
 clear hr hrx hW hlw hF hN hsy hlx
 have hov:((lw:Int) == 0)=decide (u.length=0):=by
  rw [Bool.eq_iff_iff,beq_iff_eq,decide_eq_true_eq]
  have:=HL.out
  omega
 have HOv:=Lib.hid hov
 clear hov
 obtain ⟨off,hoff⟩:∃ off:Nat,off=25 * o:=⟨_,rfl⟩
 have HOff:=Lib.hid hoff
 rw [← hoff]
 clear hoff
 go_enter Tryz.func70,Tryz.ntmps70
 go_wp2_with fail
 generalize hw1:w.alloc (.cells #[.int .i64 (L:Int),.slice Ax lx cx] 42)=w1 at *
 have HW1:=Lib.hid hw1
 clear hw1
 go_loopw [6,7,17] (fun x y i wr=>∃ k:Nat,k≤lx∧i=.int .i64 k∧x=.int .u32 ((Sp.wk F o u (p.right.take k)).1:Int)∧y=.bool (Sp.wk F o u (p.right.take k)).2∧Hid (Bl w1 wr)) (fun _ _ i _=>lx - (intOf i).toNat)
 case atStart=>exact ⟨0,Nat.zero_le _,rfl,rfl,by rw [HOv.out];rfl,Bl.refl _⟩
 case round=>
  obtain ⟨k,hk,rfl,rfl,rfl,HB⟩:=hrel
  have HBw:=Lib.hid (HB0.out.trans HB.out)
  by_cases hlt:k < lx
  ·have hj:k < p.right.length:=by have:=HLx.out;omega
   have HT:=Lib.hid (Sp.wk_take (F:=F) (o:=o) (u:=u) hj)
   have HSk:=Lib.hid (HSy.out _ (List.getElem_mem hj))
   obtain ⟨bs,os,rfl,hbs,c0,c1⟩:=(HX.out.bl hB1 HB.out).sym hj
   generalize p.right[k]=y at c0 c1 HT HSk
   obtain ⟨yb,yn⟩:=y
   simp only at c0 c1
   have HXb:=Lib.hid (Sp.wk_lt (F:=F) (o:=o) (u:=u) (p.right.take k))
   have HTh:=Lib.hid (fun (wx:World) (hb:Bl wr wx)=>thr_any yb yn A lw cw u g N o cr F (Sp.wk F o u (p.right.take k)).1 wx wr.heap.size HL.out hmw hcw HSk.out.1 HSk.out.2 ((HR.out.bl hB1 (HB.out.trans hb)).more (Nat.le_trans hB1 HB.out.size)) hb.size (HW.out.bl (HB.out.trans hb)) HN.out HFb.out HXb.out)
   rw [← HOff.out] at HTh
   have hbs1:bs < wr.heap.size:=by have:=HB.out.size;omega
   clear hj
   generalize Sp.wk F o u (p.right.take k)=xy at *
   obtain ⟨x,y⟩:=xy
   simp only at HT HTh HXb
   have i0:(0:Int)≤(k:Int):=by omega
   have i1:(k:Int) < (lx:Int):=by omega
   cases y with
   | false=>
    go_wp2_with fail
    refine (HTh.out _ ((Bl.refl wr).alloc _)).mono ?_
    rintro e v1 ⟨rfl,hb1⟩
    have HB1:=Lib.hid (((Bl.refl wr).alloc (.cells #[.bool yb,.int .i64 yn] 39)).trans hb1)
    clear hb1
    go_wp2_with fail
    go_roundw
    case rel=>exact ⟨k + 1,by omega,by go_num,by rw [HT.out,HL.out],by rw [HT.out,HL.out];rfl,HB.out.trans HB1.out⟩
    case measure=>simp [intOf];omega
   | true=>
    go_wp2_with fail
    refine (HTh.out _ ((Bl.refl wr).alloc _)).mono ?_
    rintro e v1 ⟨rfl,hb1⟩
    have HB1:=Lib.hid (((Bl.refl wr).alloc (.cells #[.bool yb,.int .i64 yn] 39)).trans hb1)
    clear hb1
    go_wp2_with fail
    go_roundw
    case rel=>exact ⟨k + 1,by omega,by go_num,by rw [HT.out,HL.out],by rw [HT.out];rfl,HB.out.trans HB1.out⟩
    case measure=>simp [intOf];omega
  ·have hke:k=p.right.length:=by have:=HLx.out;omega
   have HE:Hid (p.right.take k=p.right):=List.take_of_length_le (by omega)
   rw [HE.out]
   clear hke
   have HXb:=Lib.hid (Sp.wk_lt (F:=F) (o:=o) (u:=u) p.right)
   have HNo:=Lib.hid (fun E (hE:(Sp.wk F o u p.right).1=E) hb=>putF_no (F:=F) (o:=o) (u:=u) (p:=p) (L:=L) (by rw [hL];rfl) hE hb)
   have HYes:=Lib.hid (fun E (hE:(Sp.wk F o u p.right).1=E) hb=>putF_yes (F:=F) (o:=o) (u:=u) (p:=p) (L:=L) (by rw [hL];rfl) hL24 hE hb)
   generalize Sp.wk F o u p.right=xy at *
   obtain ⟨x,y⟩:=xy
   simp only at HNo HYes HXb
   have HNo:=Lib.hid (HNo.out x rfl)
   have HYes:=Lib.hid (HYes.out x rfl)
   rw [← HOff.out] at HNo HYes
   have HWc:=Lib.hid (HW.out.bl HB.out)
   have HKc:=Lib.hid (HK0.out.bl HB.out)
   have q1:off + L < N:=by have:=HOff.out;have:=HN.out;omega
   have q2:off + 24 < N:=by have:=HOff.out;have:=HN.out;omega
   have kc:wr.cell? ⟨g,off + L,none⟩=some (.int .u32 (F (off + L):Int)):=HWc.out.cell q1
   have kf:=HWc.out.free (off + L)
   have kg:=HWc.out.lt
   have p0:wr.cell? ⟨w.heap.size,0,none⟩=some (.int .i64 (L:Int)):=HKc.out.cell 0
   have plt:=HKc.out.lt
   have hor:bits .or .u32 (F (off + L):Int) (x:Int)=((F (off + L) ||| x:Nat):Int):=or_nat _ _ (HFb.out _) HXb.out
   have HOr:=Lib.hid hor
   clear hor
   have HFL:=Lib.hid (HFb.out (off + 24))
   have hne:off + L≠off + 24:=by omega
   have HP9:=Lib.hid (HWc.out.put q1 (F (off + L) ||| x))
   rw [← HOr.out] at HP9
   have i0:(0:Int) < (lw:Int) + 1:=by omega
   have i1:(L:Int) < 24:=by omega
   have i2:(0:Int)≤(L:Int):=by omega
   go_wp2_with fail
   go_region
   have HP9:=Lib.hid (HP9.out.bl ((Bl.refl _).drew))
   have HK9:Hid (Bk (wr.setCell ⟨g,off + L,none⟩ (.int .u32 (bits .or .u32 (F (off + L):Int) (x:Int)))).drew w.heap.size 42 #[.int .i64 (L:Int),.slice Ax lx cx]):=(HKc.out.far (p:=⟨g,off + L,none⟩) (show w.heap.size≠g by have:=HG.out;omega) _).drew
   have HF9:Hid (Fr (fun k=>k=g) w (wr.setCell ⟨g,off + L,none⟩ (.int .u32 (bits .or .u32 (F (off + L):Int) (x:Int)))).drew):=((Fr.of_bl HBw.out).own _ _).drew
   generalize (wr.setCell ⟨g,off + L,none⟩ (.int .u32 (bits .or .u32 (F (off + L):Int) (x:Int)))).drew=w9 at *
   clear kc kf kg p0 plt
   cases y with
   | false=>
    have HNo2:=Lib.hid (HNo.out rfl)
    go_wp2_with fail
    go_end0
    exact ⟨rfl,by rw [← HNo2.out];exact HP9.out,HF9.out⟩
   | true=>
    have HYes2:=Lib.hid (HYes.out rfl)
    have kc:w9.cell? ⟨g,off + 24,none⟩=some (.int .u32 (F (off + 24):Int)):=by
     have h:=HP9.out.cell q2
     unfold upN at h
     rwa [if_neg (fun e=>hne e.symm)] at h
    have kf:=HP9.out.free (off + 24)
    have kg:=HP9.out.lt
    have p0:w9.cell? ⟨w.heap.size,0,none⟩=some (.int .i64 (L:Int)):=HK9.out.cell 0
    have plt:=HK9.out.lt
    have hl32:min L 32=L:=by omega
    have HP11:=Lib.hid (HP9.out.put q2 (F (off + 24) ||| 2 ^ L))
    rw [HYes2.out] at HP11
    go_wp2_with fail
    go_region
    have hpow:(2:Int) ^ L % 4294967296=((2 ^ L:Nat):Int):=by
     have h1:2 ^ L < 2 ^ 32:=Nat.pow_lt_pow_right (by decide) (by omega)
     have h2:((2 ^ L:Nat):Int)=(2:Int) ^ L:=by rw [Int.natCast_pow];rfl
     rw [← h2]
     have h3:((2 ^ L:Nat):Int) < 4294967296:=by
      have:(2:Nat) ^ 32=4294967296:=rfl
      omega
     exact Int.emod_eq_of_lt (Int.natCast_nonneg _) h3
    have hor2:bits .or .u32 (F (off + 24):Int) (2 ^ L % 4294967296)=((F (off + 24) ||| 2 ^ L:Nat):Int):=by
     rw [hpow]
     exact or_nat _ _ HFL.out (Nat.lt_of_lt_of_le (Nat.pow_lt_pow_right (by decide) (show L < 32 by omega)) (by decide))
    rw [← hor2] at HP11
    go_end0
    exact ⟨rfl,HP11.out.bl (Bl.refl _).drew,(HF9.out.own _ _).drew⟩
end Go.Proofs.YtdfhhbncmdpoeaaGreat
namespace Go.Proofs.YtdfhhbncmdpoeaaGreat
open Go.RowKit
section
variable {P:Program} {w:World} {ops:Array Oper} {o:Oper} {a:Act} {K:Act→World→Prop} {Q:Exit→Act→World→Prop} {E:Prop}
theorem qstep_load_row {C:World→Prop} {K:Act→Prop} (hgd:o.guard=none) (ty:TypeId) (x:Operand) (ho:o.op=.load ty x) (b off:Nat) (f:Nat→Nat) (d:TypeDesc) (hx:a.eval x=.pointer (some ⟨b,off,none⟩)) (hu:P.underlying ty=some d)
  (hd:(match d with | .struct _ | .array _ _=>true | _=>false)=true) (hi:(P.info? ty).map (·.size)=some 25) (hc:∀ w,C w→∀ i,i < 25→w.cell? ⟨b,off + i,none⟩=some (.int .u32 (f i:Int)))
  (h:K (a.put o.dst (.agg (rc f)))):if Region.wanted o (yielded ops a.tmps)=true then o.quiet P a C K else K (a.put o.dst undef):=by
 have hw:Region.wanted o (yielded ops a.tmps)=true:=by simp [Region.wanted,hgd]
 rw [if_pos hw]
 refine ⟨.agg (rc f),fun w hC=>?_,h⟩
 have hrun:=run_load_row (P:=P) w ty b off f d hu hd hi (hc w hC)
 unfold Oper.quietAt execOp
 simp only [ho,hx,Instr.loadAt,Instr.sureAddr,Sem.run_bind,Sem.run_pure,Result.andThen_ok,hrun]
 exact ⟨rfl,rfl⟩
theorem run_eql_any (ty:TypeId) (x y:Operand) (f h:Nat→Nat) (hm:P.eqGuardType P.depth ty=false) (he:∀ w,(Op.equalIn 10000 ty (.agg (rc f)) (.agg (rc h))).run P w=.ok (sameN 25 f h) w) (w:World) :
  ((do eqGuard .eql ty x y (.agg (rc f)) (.agg (rc h));binOp .eql ty (.agg (rc f)) (.agg (rc h))):Sem Value).run P w=.ok (.bool (sameN 25 f h)) w:=by
 rw [Sem.run_bind,run_eqGuard_agg w .eql ty x y _ _ hm,Result.andThen_ok,run_eql_struct,he,Result.andThen_ok]
theorem qstep_eql_row {C:World→Prop} {K:Act→Prop} (hgd:o.guard=none) (ty ty2 ty3:TypeId) (x y:Operand) (ho:o.op=.binOp .eql ty x y ty2) (f h:Nat→Nat) (hx:a.eval x=.agg (rc f)) (hy:a.eval y=.agg (rc h)) (hm:P.eqGuardType P.depth ty3=false)
  (he:∀ w,(Op.equalIn 10000 ty3 (.agg (rc f)) (.agg (rc h))).run P w=.ok (sameN 25 f h) w) (ht:ty3=ty) (hk:K (a.put o.dst (.bool (sameN 25 f h)))):if Region.wanted o (yielded ops a.tmps)=true then o.quiet P a C K else K (a.put o.dst undef):=by
 subst ht
 have hw:Region.wanted o (yielded ops a.tmps)=true:=by simp [Region.wanted,hgd]
 rw [if_pos hw]
 refine ⟨.bool (sameN 25 f h),fun w hC=>?_,hk⟩
 have hrun:=run_eql_any (P:=P) ty3 x y f h hm he w
 unfold Oper.quietAt execOp
 simp only [ho,hx,hy,hrun,Sem.run_bind,Sem.run_pure,Result.andThen_ok]
 exact ⟨rfl,rfl⟩
end
theorem Rd.far_fr {w w':World} {B g:Nat} {A:Option Addr} {xs:List Value} (h:Rd w B A xs) (hB:B≤w.heap.size) (hg:B≤g) (hf:Fr (fun k=>k=g) w w'):Rd w' B A xs:=
 h.keep fun p hp=>hf.cell (by omega) (fun e=>by omega)
theorem Prs.far_fr {w w':World} {B g:Nat} {A:Option Addr} {ps:List Gr.Pr} (h:Prs w B A ps) (hB:B≤w.heap.size) (hg:B≤g) (hf:Fr (fun k=>k=g) w w'):Prs w' B A ps:=
 h.keep fun _ _ hr=>hr.far_fr hB hg hf
theorem spfill_any (t n s:Int) (Ag:Option Addr) (lg cg:Nat) (ps:List Gr.Pr) (A:Option Addr) (lw cw:Nat) (u:List Int) (g N o cr:Nat) (F:Nat→Nat) (w:World) (B:Nat)
  (hlg:lg=ps.length) (hok:Gr.Ok ⟨t,n,s,ps⟩) (hv:Wi.Lives ⟨t,n,s,ps⟩) (hrg:Prs w B Ag ps) (hlw:lw=u.length) (hmw:lw≤24) (hcw:lw≤cw) (hr:Rd w B A (ins u)) (hB:B≤w.heap.size) (hgB:B≤g)
  (hW:Wn 137 w g N F) (hN:25 * (o + lw) + 25≤N) (hF:∀ i,F i < 4294967296) (hU:Sp.Undr ⟨t,n,s,ps⟩ F o u) :
  Calls Tryz.prog 41 #[.agg #[.int .i64 t,.int .i64 n,.int .i64 s,.slice Ag lg cg],.slice A lw cw,.slice (some ⟨g,25 * o,none⟩) (lw + 1) cr] w fun e w'=>e=.returned (.tuple #[])∧
   ∃ F',Wn 137 w' g N F'∧Fr (fun k=>k=g) w w'∧(∀ i,F' i < 4294967296)∧(∀ i,i < 25 * o∨25 * o + 25≤i→F' i=F i)∧(∀ i,i < 25→F' (25 * o + i)=Sp.rowN ⟨t,n,s,ps⟩ u i):=by
 have hlg60:lg≤60:=by have:=hok.2.2.2.2.2.2.1;have h:ps.length≤60:=this;omega
 have HB0:Hid (Bl w (w.alloc (.cells #[.int .i64 t,.int .i64 n,.int .i64 s,.slice Ag lg cg] 24))):=(Bl.refl w).alloc _
 have HK0:=Lib.hid (Bk.new w 24 #[.int .i64 t,.int .i64 n,.int .i64 s,.slice Ag lg cg])
 have HR:=Lib.hid (hr.bl hB HB0.out)
 have HP:=Lib.hid (hrg.bl hB HB0.out)
 have HW:=Lib.hid (hW.bl HB0.out)
 have HG:Hid (g < w.heap.size):=hW.lt
 have HL:=Lib.hid hlw
 have HLg:=Lib.hid hlg
 have HFb:=Lib.hid hF
 have HN:=Lib.hid hN
 have HU:=Lib.hid hU
 have HOk:=Lib.hid hok
 have HV:=Lib.hid hv
 have hB1:B≤(w.alloc (.cells #[.int .i64 t,.int .i64 n,.int .i64 s,.slice Ag lg cg] 24)).heap.size:=by simp;omega
 clear hr hrg hW hlw hF hN hU hok hv hlg
 obtain ⟨off,hoff⟩:∃ off:Nat,off=25 * o:=⟨_,rfl⟩
 have HOff:=Lib.hid hoff
 rw [← hoff]
 clear hoff
 have hz25:rc0.size=25:=rc_size _
 have hzi:(Tryz.prog.info? 137).map (·.size)=some 25:=by kernel_rfl
 have hgt:Tryz.prog.eqGuardType Tryz.prog.depth 137=false:=by kernel_rfl
 go_enter Tryz.func41,Tryz.ntmps41
 go_wp2_with fail
 generalize hw1:w.alloc (.cells #[.int .i64 t,.int .i64 n,.int .i64 s,.slice Ag lg cg] 24)=w1 at *
 have HW1:=Lib.hid hw1
 clear hw1
 go_loopg [] (Sp.gap F off 25) (fun q wr=>∃ Fc:Nat→Nat,Hid (Wn 137 wr g N Fc)∧Hid (Fr (fun k=>k=g) w1 wr)∧Hid (Sp.Undr ⟨t,n,s,ps⟩ Fc o u)∧Hid (∀ i,Fc i < 4294967296)∧Hid (∀ i,i < off∨off + 25≤i→Fc i=F i)∧Hid (Sp.gap Fc off 25≤q))
 case atStart=>exact ⟨F,HW.out,Fr.refl _ _,HU.out,HFb.out,fun _ _=>rfl,Nat.le_refl _⟩
 case round=>
  obtain ⟨Fc,HWr,HFr,HUr,HFc,HOut,HGap⟩:=hrel
  have HRound:=Lib.hid (fun qs (hqs:∀ p ∈ qs,p ∈ ps)=>Sp.round_all (g:=⟨t,n,s,ps⟩) HOk.out HV.out (by have:=HL.out;omega) qs Fc hqs HUr.out HFc.out)
  have hrow:∀ i,i < 25→wr.cell? ⟨g,off + i,none⟩=some (.int .u32 (Fc (off + i):Int)):=fun i hi=>HWr.out.cell (by have:=HN.out;have:=HOff.out;omega)
  have HRow:=Lib.hid hrow
  clear hrow
  have i0:(0:Int) < (lw:Int) + 1:=by omega
  have H6:=Lib.hid (Bk.new wr 137 rc0)
  obtain ⟨wq,hwq⟩:∃ wq:World,wq=wr:=⟨_,rfl⟩
  have HKr:=Lib.hid ((HK0.out.fr HFr.out (show ¬ (w.heap.size=g) by have:=HG.out;omega)).alloc (.cells rc0 137))
  go_wp2_with (first
   | ((with_reducible refine wpList_load_row ?hg 137 (.tmp 10) ?ho g off (fun i=>Fc (off + i)) _ ?hx Tryz.underlying137 rfl hzi HRow.out ?_);(case ho=>with_reducible rfl);(case hg=>rfl);(case hx=>rfl))
   | (with_reducible refine wpList_alloc_agg rfl 137 rfl rc0 25 row_zero ?_)
   | ((with_reducible refine wpList_store_bk ?hg 137 (.tmp 6) (.tmp 11) ?ho wr.heap.size 137 rc0 (rc (fun i=>Fc (off + i))) ?hx ?hy H6.out ?hs ?hi (rc_one _) ?_);(case hs=>rw [hz25,rc_size]);(case ho=>with_reducible rfl);(case hg=>rfl);(case hx=>rfl);(case hy=>rfl);(case hi=>rw [rc_size];exact hzi);intro wa hba hfa;have HBa:=Lib.hid hba;have HFa:=Lib.hid hfa;clear hba hfa;have kg3:wa.cell? ⟨w.heap.size,3,none⟩=some (.slice Ag lg cg):=(HKr.out.fr HFa.out (show ¬ (w.heap.size=wr.heap.size) by have:=HK0.out.lt;have:=HFr.out.size;omega)).cell 3;have kgl:w.heap.size < wa.heap.size:=(HKr.out.fr HFa.out (show ¬ (w.heap.size=wr.heap.size) by have:=HK0.out.lt;have:=HFr.out.size;omega)).lt))
  have hws:w1.heap.size≤wr.heap.size:=HFr.out.size
  have HKa:Hid (Bk wa w.heap.size 24 #[.int .i64 t,.int .i64 n,.int .i64 s,.slice Ag lg cg]):=HKr.out.fr HFa.out (show ¬ (w.heap.size=wr.heap.size) by have:=HK0.out.lt;omega)
  have HWa:Hid (Wn 137 wa g N Fc):=(HWr.out.bl ((Bl.refl wr).alloc _)).fr HFa.out (show ¬ (g=wr.heap.size) by have:=HWr.out.lt;omega)
  have HFra:Hid (Fr (fun k=>k=g) w1 wa):=(HFr.out.alloc _).trans HFa.out (fun i hi e=>by omega)
  have hgne:wr.heap.size≠g:=by have:=HWr.out.lt;omega
  have hwa:w1.heap.size≤wa.heap.size:=HFra.out.size
  clear kg3 kgl H6 HFa
  obtain ⟨gb,hgb⟩:∃ gb:Nat,gb=wr.heap.size:=⟨_,rfl⟩
  rw [← hgb] at HBa hgne ⊢
  clear hgb
  go_loopw [15] (fun i wy=>∃ k:Nat,k≤lg∧i=.int .i64 k∧Hid (Wn 137 wy g N (Sp.round Fc o u (ps.take k)))∧Hid (Fr (fun k=>k=g) wa wy)) (fun i _=>lg - (intOf i).toNat)
  case atStart=>exact ⟨0,Nat.zero_le _,rfl,HWa.out,Fr.refl _ _⟩
  case round=>
   obtain ⟨k,hk,rfl,HWy,HFy⟩:=hrel
   have HFy1:Hid (Fr (fun k=>k=g) w1 wr):=HFra.out.same HFy.out
   have hwy:w1.heap.size≤wr.heap.size:=HFy1.out.size
   by_cases hlt:k < lg
   ·have hj:k < ps.length:=by have:=HLg.out;omega
    have HT:=Lib.hid (Sp.round_take (F:=Fc) (o:=o) (u:=u) hj)
    have hmem:ps[k] ∈ ps:=List.getElem_mem hj
    have hoks:=HOk.out.2.2.2.2.2.2.2 _ hmem
    have hl24:=Sp.low_left HOk.out hmem
    have HSy:=Lib.hid (Sp.ok_syg HOk.out hmem)
    obtain ⟨b,of_,Ax,c,rfl,hbB,hrx,c0,c1⟩:=(HP.out.far_fr hB1 hgB HFy1.out).at_ hj
    have hx8:ps[k].right.length≤8:=hoks.2.2.1
    have HBd:=Lib.hid ((HRound.out (ps.take k) (fun p hp=>List.mem_of_mem_take hp)).2.1)
    generalize ps[k]=p at *
    obtain ⟨L,hL⟩:∃ L:Nat,p.left=(L:Int):=⟨p.left.toNat,hl24.2.symm⟩
    have hL24:L < 24:=by have:=hl24.1;omega
    rw [hL] at c0
    clear hj hmem hoks hl24
    have hbw:b < wr.heap.size:=by omega
    have HPut:=Lib.hid (fun (wx:World) (hb:Bl wr wx)=>spput_any p L Ax p.right.length c A lw cw u g N o cr (Sp.round Fc o u (ps.take k)) wx B hL hL24 rfl hx8 HSy.out HL.out hmw hcw (hrx.bl (by omega) hb) ((HR.out.far_fr hB1 hgB HFy1.out).bl (by omega) hb) (Nat.le_trans (by omega) hb.size) (HWy.out.bl hb) HN.out HBd.out)
    rw [← HOff.out] at HPut
    have i1:(0:Int)≤(k:Int):=by omega
    have i2:(k:Int) < (lg:Int):=by omega
    clear hrx
    go_wp2_with fail
    refine (HPut.out _ ((Bl.refl wr).alloc _)).mono ?_
    rintro e v1 ⟨rfl,hw1',hf1⟩
    have HW1':=Lib.hid hw1'
    have HF1:Hid (Fr (fun k=>k=g) wa v1):=(HFy.out.alloc (.cells #[.int .i64 (L:Int),.slice Ax p.right.length c] 42)).same hf1
    clear hw1' hf1
    go_wp2_with fail
    go_roundw
    case rel=>exact ⟨k + 1,by omega,by go_num,by rw [HT.out];exact HW1'.out,HF1.out⟩
    case measure=>simp [intOf];omega
   ·have hke:k=lg:=by omega
    have HTk:Hid (ps.take k=ps):=List.take_of_length_le (by have:=HLg.out;omega)
    rw [HTk.out] at HWy
    have HRn:=Lib.hid (HRound.out ps (fun _ h=>h))
    clear HTk
    generalize Sp.round Fc o u ps=R at *
    have HBy:=Lib.hid (HBa.out.fr HFy.out hgne)
    have HrowR:Hid (∀ i,i < 25→wr.cell? ⟨g,off + i,none⟩=some (.int .u32 (R (off + i):Int))):=fun i hi=>HWy.out.cell (by have:=HN.out;have:=HOff.out;omega)
    have HrowB:Hid (∀ i,i < 25→wr.cell? ⟨gb,0 + i,none⟩=some (.int .u32 (Fc (off + i):Int))):=fun i hi=>by rw [HBy.out.cell,Nat.zero_add];exact rc_at _ hi
    go_wp2_with fail
    refine wp_region_quiet_lit (by kernel_rfl) (by kernel_rfl) ?_
    quiet_step (fail)
    quiet_step (fail)
    refine wpQuiet_step (fun K hK=>?_)
    refine qstep_load_row rfl 137 (.tmp 25) rfl g off (fun i=>R (off + i)) _ rfl Tryz.underlying137 rfl hzi (fun w hC=>by obtain ⟨_,rfl⟩:=hC;exact HrowR.out) ?_
    refine hK _ ?_
    clear hK K
    refine wpQuiet_step (fun K hK=>?_)
    refine qstep_load_row rfl 137 (.tmp 6) rfl gb 0 (fun i=>Fc (off + i)) _ rfl Tryz.underlying137 rfl hzi (fun w hC=>by obtain ⟨_,rfl⟩:=hC;exact HrowB.out) ?_
    refine hK _ ?_
    clear hK K
    refine wpQuiet_step (fun K hK=>?_)
    refine qstep_eql_row rfl 137 137 137 (.tmp 26) (.tmp 27) rfl (fun i=>R (off + i)) (fun i=>Fc (off + i)) rfl rfl hgt (fun w=>eql_row w _ _) rfl ?_
    refine hK _ ?_
    clear hK K
    refine wpQuiet_nil ?_
    intro _ hw'
    obtain ⟨nq,hw''⟩:=hw'
    subst hw''
    have HWq:Hid (Wn 137 (wr.drewN nq) g N R):=HWy.out.bl ((Bl.refl _).drewN _)
    have HFq:Hid (Fr (fun k=>k=g) w1 (wr.drewN nq)):=HFy1.out.drewN _
    have HSame:=Lib.hid (sameN_iff (n:=25) (f:=fun i=>R (off + i)) (h:=fun i=>Fc (off + i)))
    generalize sameN 25 (fun i=>R (off + i)) (fun i=>Fc (off + i))=bb at *
    generalize wr.drewN nq=wz at *
    have HOutR:Hid (∀ i,i < off∨off + 25≤i→R i=F i):=fun i hi=>(HRn.out.2.2.2.1 i (by rw [← HOff.out];exact hi)).trans (HOut.out i hi)
    cases bb with
    | true=>
     have hsm:∀ i,i < 25→R (off + i)=Fc (off + i):=HSame.out.mp rfl
     have hRF:R=Fc:=by
      funext i
      by_cases hi:i < off∨off + 25≤i
      ·rw [HOutR.out i hi,HOut.out i hi]
      ·have h:=hsm (i - off) (by omega)
       rwa [show off + (i - off)=i by omega] at h
     have HD:Hid (∀ i,i < 25→R (25 * o + i)=Sp.rowN ⟨t,n,s,ps⟩ u i):=fun i hi=>by
      have h:=HUr.out.done HOk.out (by have:=HL.out;omega) (HRn.out.2.2.2.2 hRF) hi
      rw [hRF];exact h
     clear hsm hRF
     go_wp2_with fail
     refine bodyPost_ret (put_no rfl _ _ _) rfl ?_
     exact ⟨rfl,R,HWq.out,((Fr.of_bl HB0.out).same HFq.out),HRn.out.2.1,HOutR.out,(by rw [HOff.out];exact HD.out)⟩
    | false=>
     have HLess:Hid (Sp.gap R off 25 < Sp.gap Fc off 25):=by
      have hex:∃ j,j < 25∧Fc (off + j)≠R (off + j):=by
       apply Classical.byContradiction
       intro hno
       have h:false=true:=HSame.out.mpr (fun i hi=>by
        apply Classical.byContradiction
        intro hne
        exact hno ⟨i,hi,fun e=>hne e.symm⟩)
       cases h
      obtain ⟨j,hj,hne⟩:=hex
      exact Sp.gap_lt HRn.out.2.2.1 HRn.out.2.1 hj hne
     go_wp2_with fail
     go_roundg (Sp.gap R off 25)
     case measure=>have h1:=HLess.out;have h2:=HGap.out;exact Nat.lt_of_lt_of_le h1 h2
     case rel=>exact ⟨R,HWq.out,HFq.out,HRn.out.1,HRn.out.2.1,HOutR.out,Nat.le_refl _⟩
end Go.Proofs.YtdfhhbncmdpoeaaGreat
