/- left.Recursive: which nonterminals are left-recursive. -/
import Derived.Test.YtdfhhbncmdpoeaaGreatLeftS
import Derived.Test.YtdfhhbncmdpoeaaGreatPlainS
import Derived.WalkSpells
set_option maxRecDepth 100000
set_option maxHeartbeats 4000000
namespace Go.Proofs.YtdfhhbncmdpoeaaGreat
open Go.RowKit
def SetTo (g:Gr.Gm) (z j:Nat):Prop:=z < 4294967296∧(∀ q,q < j→z.testBit q=Sd.leftB g q)∧∀ q,j≤q→z.testBit q=false
theorem SetTo.zero (g:Gr.Gm):SetTo g 0 0:=⟨by decide,fun q hq=>absurd hq (by omega),fun q _=>Nat.zero_testBit q⟩
theorem SetTo.no {g:Gr.Gm} {z j:Nat} (h:SetTo g z j) (hn:Sd.leftB g j=false):SetTo g z (j + 1):=by
 refine ⟨h.1,fun q hq=>?_,fun q hq=>h.2.2 q (by omega)⟩
 rcases Nat.lt_or_ge q j with h1 | h1
 ·exact h.2.1 q h1
 ·obtain rfl:q=j:=by omega
  rw [h.2.2 q (Nat.le_refl _),hn]
theorem SetTo.yes {g:Gr.Gm} {z j:Nat} (h:SetTo g z j) (hj:j < 32) (hy:Sd.leftB g j=true):SetTo g (z ||| 2 ^ j) (j + 1):=by
 refine ⟨Lf.bit_lt h.1 hj,fun q hq=>?_,fun q hq=>?_⟩
 ·rw [Lf.bit_or]
  rcases Nat.lt_or_ge q j with h1 | h1
  ·rw [h.2.1 q h1,decide_eq_false (by omega),Bool.or_false]
  ·obtain rfl:q=j:=by omega
   rw [hy,decide_eq_true rfl,Bool.or_true]
 ·rw [Lf.bit_or,h.2.2 q (by omega),decide_eq_false (by omega)];rfl
theorem recursive_any (t n s:Int) (A:Option Addr) (len c:Nat) (ps:List Gr.Pr) (w:World) (B:Nat) (hlen:len=ps.length) (hmax:len≤9223372036854775807) (hr:Prs w B A ps) (hB:B≤w.heap.size) (hok:okB ⟨t,n,s,ps⟩=true) :
  Calls Tryz.prog 79 #[.agg #[.int .i64 t,.int .i64 n,.int .i64 s,.slice A len c]] w fun e w'=>
   ∃ z:Nat,e=.returned (.int .u32 (z:Int))∧SetTo ⟨t,n,s,ps⟩ z n.toNat∧Bl w w':=by
 have HL:=Lib.hid hlen;clear hlen
 have HP:Hid (∀ w',Bl w w'→Prs w' w'.heap.size A ps):=fun _ hb=>(hr.bl hB hb).more (Nat.le_trans hB hb.size)
 clear hr hB
 have HOK:=Lib.hid hok
 have HLf:Hid (∀ m,Sd.leftB ⟨t,n,s,ps⟩ m=true↔Lf.LeftRec ps (Fi.nulls ⟨t,n,s,ps⟩) m):=fun m=>Sd.left_is (g:=⟨t,n,s,ps⟩) ((okB_iff _).1 hok)
 obtain ⟨n1,n2,n3⟩:=ok_nons hok
 obtain ⟨N,rfl⟩:∃ N:Nat,n=(N:Int):=⟨n.toNat,by omega⟩
 clear hok
 have HB0:Hid (Bl w (w.alloc (.cells #[.int .i64 t,.int .i64 N,.int .i64 s,.slice A len c] 24))):=(Bl.refl w).alloc _
 have HK0:=Lib.hid (Bk.new w 24 #[.int .i64 t,.int .i64 N,.int .i64 s,.slice A len c])
 have q0:∀ (w:World),(binOp .neq 186 (.slice none 0 0) (.slice none 0 0)).run Tryz.prog w=.ok (.bool false) w:=fun w=>run_neq_slice_nil_any w _ _ none 0 0 0 0 Tryz.underlying186
 have q1:∀ (w:World) (a:Addr) (n c:Nat),(binOp .neq 186 (.slice (some a) n c) (.slice none 0 0)).run Tryz.prog w=.ok (.bool true) w:=fun w a n c=>run_neq_slice_nil_any w _ _ (some a) n c 0 0 Tryz.underlying186
 go_enter Tryz.func79,Tryz.ntmps79
 go_wp2_with fail
 refine (right_any t N s A len c ps _ _ HL.out hmax (HP.out _ HB0.out) (Nat.le_refl _)).mono ?_
 rintro e w1 ⟨rfl,hb1⟩
 rw [HOK.out]
 have HB1:=Lib.hid (HB0.out.trans hb1)
 have HK1:=Lib.hid (HK0.out.bl hb1)
 clear hb1 HB0 HK0
 have k0:w1.cell? ⟨w.heap.size,0,none⟩=some (.int .i64 t):=HK1.out.cell 0
 have k1:w1.cell? ⟨w.heap.size,1,none⟩=some (.int .i64 (N:Int)):=HK1.out.cell 1
 have k2:w1.cell? ⟨w.heap.size,2,none⟩=some (.int .i64 s):=HK1.out.cell 2
 have k3:w1.cell? ⟨w.heap.size,3,none⟩=some (.slice A len c):=HK1.out.cell 3
 have klt:w.heap.size < w1.heap.size:=HK1.out.lt
 go_wp2_with fail
 refine (steps_any t N s A len c ps _ _ HL.out (HP.out _ HB1.out) (Nat.le_refl _) HOK.out).mono ?_
 rintro e w2 ⟨bm,rfl,_,hmp,hb2⟩
 have HB2:=Lib.hid (HB1.out.trans hb2)
 have HK2:=Lib.hid (HK1.out.bl hb2)
 have HM2:=Lib.hid hmp
 clear hmp hb2 HB1 HK1 k0 k1 k2 k3 klt
 have k1:w2.cell? ⟨w.heap.size,1,none⟩=some (.int .i64 (N:Int)):=HK2.out.cell 1
 have klt:w.heap.size < w2.heap.size:=HK2.out.lt
 go_wp2_with fail
 go_loopw [3,13] (fun v i wr=>∃ (j z:Nat),j≤N∧i=.int .i64 j∧v=.int .u32 (z:Int)∧Hid (SetTo ⟨t,(N:Int),s,ps⟩ z j)∧Hid (Bl w2 wr)) (fun _ i _=>N - (intOf i).toNat)
 case atStart=>exact ⟨0,0,Nat.zero_le _,rfl,rfl,SetTo.zero _,Bl.refl _⟩
 case round=>
  obtain ⟨j,z,hj,rfl,rfl,HZ,HBr⟩:=hrel
  have HKr:=Lib.hid (HK2.out.bl HBr.out)
  by_cases hlt:j < N
  ·have k0:wr.cell? ⟨w.heap.size,0,none⟩=some (.int .i64 t):=HKr.out.cell 0
   have k1:wr.cell? ⟨w.heap.size,1,none⟩=some (.int .i64 (N:Int)):=HKr.out.cell 1
   have k2:wr.cell? ⟨w.heap.size,2,none⟩=some (.int .i64 s):=HKr.out.cell 2
   have k3:wr.cell? ⟨w.heap.size,3,none⟩=some (.slice A len c):=HKr.out.cell 3
   have klt:w.heap.size < wr.heap.size:=HKr.out.lt
   go_wp2_with fail
   refine (way_any t N s A len c ps _ bm j _ _ HL.out (HP.out _ (HB2.out.trans HBr.out)) (Nat.le_refl _) HOK.out (show j < ((N:Int)).toNat from hlt) (HM2.out.bl HBr.out)).mono ?_
   rintro e w3 ⟨h,hb3⟩
   have HB3:=Lib.hid (HBr.out.trans hb3)
   clear hb3 k0 k1 k2 k3 klt
   rcases h with ⟨hno,rfl⟩ | ⟨g,cap,l,hw,hne,_,rfl,_⟩
   ·have HX:=Lib.hid (HZ.out.no (Bool.eq_false_iff.2 (fun h2=>hno ((HLf.out j).1 h2))))
    clear hno
    go_wp2_with fail
    go_roundw
    case rel=>exact ⟨j + 1,z,by omega,by go_num,rfl,HX.out,HB3.out⟩
    case measure=>simp [intOf];omega
   ·have hj32:j < 32:=by omega
    have HX:=Lib.hid (HZ.out.yes hj32 ((HLf.out j).2 ⟨l,hne,hw⟩))
    have HOr:=Lib.hid (bit_put (z:=z) HZ.out.1 hj32)
    clear hw hne
    go_wp2_with fail
    go_roundw
    case rel=>exact ⟨j + 1,z ||| 2 ^ j,by omega,by go_num,by rw [HOr.out],HX.out,HB3.out⟩
    case measure=>simp [intOf];omega
  ·have hje:j=N:=by omega
   subst hje
   have HX:=Lib.hid HZ.out
   go_wp2_with fail
   go_ret
   exact ⟨z,rfl,HX.out,HB2.out.trans HBr.out⟩
end Go.Proofs.YtdfhhbncmdpoeaaGreat
