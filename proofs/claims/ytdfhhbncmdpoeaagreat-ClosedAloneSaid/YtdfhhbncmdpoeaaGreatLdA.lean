/- A derivation on its way, in memory: the grammar, the word, its rows, the facts, the place, and the list of what is left. -/
import Derived.Test.YtdfhhbncmdpoeaaGreatPlainS
import Derived.Test.YtdfhhbncmdpoeaaGreatHTab
import Derived.Test.YtdfhhbncmdpoeaaGreatBaseS
import Derived.Test.YtdfhhbncmdpoeaaGreatFactS
import Derived.BigQuiet
import Derived.WalkSmall
import Derived.Deep.LoopGhost
set_option maxRecDepth 100000
set_option maxHeartbeats 3200000
namespace Go.Proofs.YtdfhhbncmdpoeaaGreat
open Go.RowKit
structure LdE where
 t:Int
 n:Int
 s:Int
 A:Option Addr
 len:Nat
 c:Nat
 ps:List Gr.Pr
 Aw:Option Addr
 lw:Nat
 cw:Nat
 u:List Int
 K:Nat
 Ar:Option Addr
 cr:Nat
 Af:Option Addr
 lf:Nat
 cf:Nat
 fs:List Fc
 dd:Nat
 lo:Nat
 B:Nat
def LdE.g (E:LdE):Gr.Gm:=⟨E.t,E.n,E.s,E.ps⟩
noncomputable def LdE.F (E:LdE):Nat→Nat:=allN E.g E.u
def LdE.f (E:LdE) (n:Nat):Nat:=(E.fs.getD n ⟨0,0⟩).prod.toNat
structure LdOk (E:LdE):Prop where
 len:E.len=E.ps.length
 lw:E.lw=E.u.length
 lw24:E.lw≤24
 ok:Gr.Ok E.g
 lives:Wi.Lives E.g
 fits:Ld.Fits E.g E.f
 flen:E.lf=E.fs.length
 fnons:(E.lf:Int)=E.n
 fpos:∀ x ∈ E.fs,0≤x.prod
 K2:E.K≤2
theorem LdOk.full {E:LdE} (_:LdOk E):Ld.Full E.g E.F E.u:=fun _ _ _ hi=>allN_at E.g E.u hi
theorem LdOk.u24 {E:LdE} (h:LdOk E):E.u.length≤24:=by have:=h.lw;have:=h.lw24;omega
def LdE.cells (E:LdE) (a:Nat) (vl:Value):Array Value:=#[.int .i64 E.t,.int .i64 E.n,.int .i64 E.s,.slice E.A E.len E.c,.slice E.Aw E.lw E.cw,.int .i64 (E.K:Int),.slice E.Ar (E.lw + 1) E.cr,.slice E.Af E.lf E.cf,.int .i64 (a:Int),vl]
noncomputable def lfRow (E:LdE):List Gr.Sy→List Value
 | []=>[]
 | s :: r=>lfRow E r ++ [.bool s.non,.int .i64 s.n,.int .u32 (Ld.fromN E.K E.g E.u (s :: r):Int)]
theorem lfRow_cons (E:LdE) (s:Gr.Sy) (r:List Gr.Sy):lfRow E (s :: r)=lfRow E r ++ [.bool s.non,.int .i64 s.n,.int .u32 (Ld.fromN E.K E.g E.u (s :: r):Int)]:=rfl
theorem lfRow_len (E:LdE):∀ l,(lfRow E l).length=l.length * 3
 | []=>rfl
 | s :: r=>by rw [lfRow_cons,List.length_append,lfRow_len E r,List.length_cons];simp;omega
structure LdEnv (E:LdE) (w:World):Prop where
 prs:Prs w E.B E.A E.ps
 wd:Rd w E.B E.Aw (ins E.u)
 rows:Rd w E.B E.Ar (nus (25 * (E.lw + 1)) E.F)
 facts:RdP w (fun b=>b≠E.dd∧b < E.lo) E.Af (fcRow E.fs)
 hB:E.B≤E.dd
 hd:E.dd < E.lo
 hlo:E.lo≤w.heap.size
def FrD (E:LdE) (w w':World):Prop:=Fr (fun k=>k=E.dd∨E.lo≤k) w w'∧KeepT 3 w w'
theorem FrD.refl (E:LdE) (w:World):FrD E w w:=⟨Fr.refl _ _,KeepT.refl _ _⟩
theorem FrD.trans {E:LdE} {a b c:World} (h:FrD E a b) (k:FrD E b c):FrD E a c:=⟨Fr.same h.1 k.1,h.2.trans k.2⟩
theorem FrD.of_bl {E:LdE} {a b:World} (h:Bl a b):FrD E a b:=⟨Fr.of_bl h,KeepT.of_bl h⟩
theorem FrD.bl {E:LdE} {a b c:World} (h:FrD E a b) (k:Bl b c):FrD E a c:=⟨Fr.after h.1 k,h.2.bl k⟩
theorem LdEnv.fr1 {E:LdE} {w w':World} (h:LdEnv E w) (hf:Fr (fun k=>k=E.dd∨E.lo≤k) w w'):LdEnv E w':=by
 have hBs:E.B≤w.heap.size:=Nat.le_trans h.hB (Nat.le_trans (Nat.le_of_lt h.hd) h.hlo)
 have hno:∀ k,k=E.dd∨E.lo≤k→E.B≤k:=fun k hk=>by have:=h.hB;have:=h.hd;omega
 have hr:∀ A xs,Rd w E.B A xs→Rd w' E.B A xs:=fun A xs hx=>hx.fr hBs hf (hx.notin hno)
 refine ⟨h.prs.keep hr,hr _ _ h.wd,hr _ _ h.rows,h.facts.keep fun b hb=>?_,h.hB,h.hd,Nat.le_trans h.hlo hf.size⟩
 exact hf.block b (Nat.lt_of_lt_of_le hb.2 h.hlo) fun hs=>by have:=hb.1;have:=hb.2;omega
theorem LdEnv.fr {E:LdE} {w w':World} (h:LdEnv E w) (hf:FrD E w w'):LdEnv E w':=h.fr1 hf.1
theorem LdEnv.bl {E:LdE} {w w':World} (h:LdEnv E w) (hb:Bl w w'):LdEnv E w':=h.fr (FrD.of_bl hb)
structure DvR (E:LdE) (a:Nat) (l:List Gr.Sy) (vl:Value) (w:World):Prop where
 bd:Bk w E.dd 80 (E.cells a vl)
 st:w.ownsRow E.lo 133 3 vl l.length (lfRow E l)
 env:LdEnv E w
theorem DvR.bl {E:LdE} {a:Nat} {l:List Gr.Sy} {vl:Value} {w w':World} (h:DvR E a l vl w) (hb:Bl w w'):DvR E a l vl w':=⟨h.bd.bl hb,own_bl h.st hb,h.env.bl hb⟩
theorem Rd.nrow {w:World} {B:Nat} {A:Option Addr} {len:Nat} {F:Nat→Nat} (h:Rd w B A (nus (25 * len) F)) (hl:0 < len):∃ b off,A=some ⟨b,off,none⟩∧b < B∧∀ k i,k < len→i < 25→w.cell? ⟨b,off + k * 25 + i,none⟩=some (.int .u32 (F (25 * k + i):Int)):=by
 obtain ⟨b,off,e,hb,hc⟩:=h (by rw [nus_len];omega)
 refine ⟨b,off,e,hb,fun k i hk hi=>?_⟩
 rw [show off + k * 25 + i=off + (25 * k + i) by omega]
 exact hc _ _ (nus_at F (by omega))
end Go.Proofs.YtdfhhbncmdpoeaaGreat
namespace Go.Proofs.YtdfhhbncmdpoeaaGreat
open Go.RowKit
theorem ofO_tok (F:Nat→Nat) {u:List Int} {k:Nat} {n:Int} (hk:k < u.length) (hx:u[k]=n):Sp.ofO F 0 u ⟨false,n⟩ k=decide (k + 1=u.length):=by
 unfold Sp.ofO
 rw [if_neg (fun e=>Bool.noConfusion e)]
 apply decide_eq_decide.2
 constructor
 ·rintro (h | h)
  ·omega
  ·exact h.2
 ·intro h
  exact .inr ⟨by rw [List.getElem?_eq_getElem hk,hx],h⟩
theorem tok_end {lw k:Nat} {u:List Int} (hl:lw=u.length):decide (k + 1=u.length)=(((k:Int) + 1) == (lw:Int)):=by
 rw [Bool.eq_iff_iff,decide_eq_true_eq,beq_iff_eq]
 omega
theorem ldof_any (E:LdE) (hE:LdOk E) (a k:Nat) (l:List Gr.Sy) (vl:Value) (b:Bool) (n:Int) (w:World) (hD:DvR E a l vl w) (hk:k≤E.lw) (hn0:0≤n) (hn:b=true→n < 24) :
  Calls Tryz.prog 97 #[.pointer (some ⟨E.dd,0,none⟩),.agg #[.bool b,.int .i64 n],.int .i64 (k:Int)] w fun e w'=>e=.returned (.tuple #[.int .u32 (Sp.ofE E.F 0 E.u ⟨b,n⟩ k:Int),.bool (Sp.ofO E.F 0 E.u ⟨b,n⟩ k)])∧Bl w w':=by
 have HB0:Hid (Bl w (w.alloc (.cells #[.bool b,.int .i64 n] 39))):=(Bl.refl w).alloc _
 have HK0:=Lib.hid (Bk.new w 39 #[.bool b,.int .i64 n])
 have HD:=Lib.hid (hD.bl HB0.out)
 have HL:=Lib.hid hE.lw
 have HE:=Lib.hid hE
 clear hD hE
 have dl:=HD.out.bd.lt
 have d4:(w.alloc (.cells #[.bool b,.int .i64 n] 39)).cell? ⟨E.dd,4,none⟩=some (.slice E.Aw E.lw E.cw):=HD.out.bd.cell 4
 have d6:(w.alloc (.cells #[.bool b,.int .i64 n] 39)).cell? ⟨E.dd,6,none⟩=some (.slice E.Ar (E.lw + 1) E.cr):=HD.out.bd.cell 6
 obtain ⟨br,off,har,hbr,hcell⟩:=HD.out.env.rows.nrow (Nat.succ_pos _)
 have hbr:br < (w.alloc (.cells #[.bool b,.int .i64 n] 39)).heap.size:=by have h1:=HD.out.env.hB;have h2:=HD.out.env.hd;have h3:=HD.out.env.hlo;omega
 rw [har] at d6
 cases b with
 | true=>
  obtain ⟨m,rfl⟩:∃ m:Nat,n=(m:Int):=⟨n.toNat,by omega⟩
  have hm:m < 24:=by have:=hn rfl;omega
  have c1:=hcell k m (by omega) (by omega)
  have c2:=hcell k 24 (by omega) (by omega)
  have hX:Hid (Sp.ofE E.F 0 E.u ⟨true,(m:Int)⟩ k=E.F (25 * k + m)):=by unfold Hid Sp.ofE;rw [if_pos rfl,Nat.zero_add];rfl
  have hO:Hid (Sp.ofO E.F 0 E.u ⟨true,(m:Int)⟩ k=(E.F (25 * k + 24)).testBit m):=by unfold Hid Sp.ofO;rw [if_pos rfl,Nat.zero_add];rfl
  have k0:(w.alloc (.cells #[.bool true,.int .i64 (m:Int)] 39)).cell? ⟨w.heap.size,0,none⟩=some (.bool true):=HK0.out.cell 0
  have k1:(w.alloc (.cells #[.bool true,.int .i64 (m:Int)] 39)).cell? ⟨w.heap.size,1,none⟩=some (.int .i64 (m:Int)):=HK0.out.cell 1
  have HY:=Lib.hid (bit_one (E.F (25 * k + 24)) m (allN_lt _ _ _))
  have hkl:(k:Int) < ((E.lw + 1:Nat):Int):=by omega
  have hk0:(0:Int)≤(k:Int):=by omega
  clear hcell hn hn0
  generalize E.F (25 * k + m)=x at c1 hX
  generalize E.F (25 * k + 24)=y at c2 hO HY
  go_enter Tryz.func97,Tryz.ntmps97
  go_wp2
  go_quiet (fail)
  go_wp2
  go_ret2
  exact ⟨by rw [hX.out,hO.out,← HY.out];rfl,HB0.out.drewN _⟩
 | false=>
  have k0:(w.alloc (.cells #[.bool false,.int .i64 n] 39)).cell? ⟨w.heap.size,0,none⟩=some (.bool false):=HK0.out.cell 0
  have k1:(w.alloc (.cells #[.bool false,.int .i64 n] 39)).cell? ⟨w.heap.size,1,none⟩=some (.int .i64 n):=HK0.out.cell 1
  clear hcell hbr d6 har
  by_cases hkl:k=E.lw
  ·subst hkl
   have hX:Hid (Sp.ofE E.F 0 E.u ⟨false,n⟩ E.lw=0):=by
    unfold Hid Sp.ofE
    rw [if_neg (fun e=>Bool.noConfusion e),if_neg]
    rw [List.getElem?_eq_none (by rw [← HL.out];exact Nat.le_refl _)];exact fun e=>by cases e
   have hO:Hid (Sp.ofO E.F 0 E.u ⟨false,n⟩ E.lw=true):=by unfold Hid Sp.ofO;rw [if_neg (fun e=>Bool.noConfusion e)];exact decide_eq_true (.inl HL.out)
   clear hn hn0 hk
   go_enter Tryz.func97,Tryz.ntmps97
   go_wp2_with fail
   go_ret2
   exact ⟨by rw [hX.out,hO.out];rfl,HB0.out⟩
  ·have hkl2:k < E.u.length:=by have:=HL.out;omega
   obtain ⟨bw,ow,haw,hbw,hcw⟩:=HD.out.env.wd.int hkl2
   rw [haw] at d4
   have hbw:bw < (w.alloc (.cells #[.bool false,.int .i64 n] 39)).heap.size:=by have h1:=HD.out.env.hB;have h2:=HD.out.env.hd;have h3:=HD.out.env.hlo;omega
   have hq:((k:Int) == (E.lw:Int))=false:=by rw [beq_eq_false_iff_ne];omega
   have hlt:(k:Int) < (E.lw:Int):=by omega
   have hk0:(0:Int)≤(k:Int):=by omega
   have hge:E.u[k]?=some E.u[k]:=List.getElem?_eq_getElem hkl2
   clear haw hk
   by_cases hx:E.u[k]=n
   ·have hw24:=HE.out.lw24
    have hwr:wrap64 ((k:Int) + 1)=(k:Int) + 1:=by unfold wrap64;omega
    have hX:Hid (Sp.ofE E.F 0 E.u ⟨false,n⟩ k=2):=by unfold Hid Sp.ofE;rw [if_neg (fun e=>Bool.noConfusion e)];exact if_pos (by rw [hge,hx])
    have hO:Hid (Sp.ofO E.F 0 E.u ⟨false,n⟩ k=(((k:Int) + 1) == (E.lw:Int))):=(ofO_tok E.F hkl2 hx).trans (tok_end HL.out)
    rw [hx] at hcw
    clear hx hge hn hn0 hkl hkl2
    go_enter Tryz.func97,Tryz.ntmps97
    go_wp2
    go_quiet (fail)
    go_wp2
    go_quiet (fail)
    go_wp2
    go_ret2
    exact ⟨by rw [hX.out,hO.out];rfl,(HB0.out.drewN _).drewN _⟩
   ·have hX:Hid (Sp.ofE E.F 0 E.u ⟨false,n⟩ k=0):=by
     unfold Hid Sp.ofE
     rw [if_neg (fun e=>Bool.noConfusion e)]
     exact if_neg (fun e=>hx (by rw [hge] at e;injection e))
    have hO:Hid (Sp.ofO E.F 0 E.u ⟨false,n⟩ k=false):=by
     unfold Hid Sp.ofO
     rw [if_neg (fun e=>Bool.noConfusion e)]
     refine decide_eq_false ?_
     rintro (h | h)
     ·omega
     ·exact hx (by have:=h.1;rw [hge] at this;injection this)
    have hxn:(E.u[k] == n)=false:=by rw [beq_eq_false_iff_ne];exact hx
    generalize E.u[k]=y at hcw hxn
    clear hx hge hn hn0 hkl hkl2
    go_enter Tryz.func97,Tryz.ntmps97
    go_wp2
    go_quiet (fail)
    go_wp2
    go_ret2
    exact ⟨by rw [hX.out,hO.out];rfl,HB0.out.drewN _⟩
end Go.Proofs.YtdfhhbncmdpoeaaGreat
namespace Go.Proofs.YtdfhhbncmdpoeaaGreat
open Go.RowKit
theorem bits_yes {j:Nat} {f:Nat→Bool} (h:f j=true):Sp.bitsN j f ||| 1 <<< j=Sp.bitsN (j + 1) f:=by
 apply Nat.eq_of_testBit_eq
 intro t
 rw [Nat.testBit_or,Sp.bitsN_bit,Sp.bitsN_bit,Nat.one_shiftLeft,Nat.testBit_two_pow,Bool.eq_iff_iff]
 simp only [Bool.or_eq_true,Bool.and_eq_true,decide_eq_true_eq]
 constructor
 ·rintro (⟨h1,h2⟩ | h1)
  ·exact ⟨by omega,h2⟩
  ·subst h1;exact ⟨by omega,h⟩
 ·rintro ⟨h1,h2⟩
  by_cases e:t=j
  ·exact .inr e.symm
  ·exact .inl ⟨by omega,h2⟩
theorem bits_no {j:Nat} {f:Nat→Bool} (h:f j=false):Sp.bitsN j f=Sp.bitsN (j + 1) f:=by
 apply Nat.eq_of_testBit_eq
 intro t
 rw [Sp.bitsN_bit,Sp.bitsN_bit,Bool.eq_iff_iff]
 simp only [Bool.and_eq_true,decide_eq_true_eq]
 constructor
 ·rintro ⟨h1,h2⟩;exact ⟨by omega,h2⟩
 ·rintro ⟨h1,h2⟩
  by_cases e:t=j
  ·subst e;rw [h] at h2;cases h2
  ·exact ⟨by omega,h2⟩
theorem bits_lt25 {j:Nat} {f:Nat→Bool} (h:j≤25):Sp.bitsN j f < 4294967296:=by
 have h1:=Sp.bitsN_lt j f
 have h2:2 ^ j≤2 ^ 25:=Nat.pow_le_pow_right (by decide) h
 have h3:(2:Nat) ^ 25 < 4294967296:=by decide
 omega
theorem and_shl (x k y:Nat) (hy:y < 4294967296):bits .and .u32 ((x:Int) * 2 ^ k % 4294967296) (y:Int)=((((x <<< k) % 4294967296) &&& y:Nat):Int):=by
 rw [shl_nat,u32_and_nat _ _ (Nat.mod_lt _ (by decide)) hy]
theorem one_shl {k:Nat} (hk:k≤24):(1:Int) * 2 ^ k % (4294967296:Int)=((1 <<< k:Nat):Int):=by
 have h1:(1:Nat) <<< k < 4294967296:=by
  rw [Nat.one_shiftLeft]
  exact Nat.lt_of_le_of_lt (Nat.pow_le_pow_right (by decide) hk) (by decide)
 have h2:=shl_nat 1 k
 rw [Nat.mod_eq_of_lt h1] at h2
 exact h2
theorem ldthr_any (E:LdE) (hE:LdOk E) (a:Nat) (l:List Gr.Sy) (vl:Value) (b:Bool) (n:Int) (r:List Gr.Sy) (w:World) (hD:DvR E a l vl w) (hs:Gr.okSy E.g ⟨b,n⟩) (hr:Ld.RowG E.g r) :
  Calls Tryz.prog 68 #[.pointer (some ⟨E.dd,0,none⟩),.agg #[.bool b,.int .i64 n],.int .u32 (Ld.fromN E.K E.g E.u r:Int)] w fun e w'=>e=.returned (.int .u32 (Ld.fromN E.K E.g E.u (⟨b,n⟩ :: r):Int))∧Bl w w':=by
 have HB0:Hid (Bl w (w.alloc (.cells #[.bool b,.int .i64 n] 39))):=(Bl.refl w).alloc _
 have HK0:=Lib.hid (Bk.new w 39 #[.bool b,.int .i64 n])
 have HD:=Lib.hid hD
 have HE:=Lib.hid hE
 have HS:=Lib.hid hs
 have HR:=Lib.hid hr
 have hw24:=hE.lw24
 have HL:=Lib.hid hE.lw
 have hn0:=hs.1
 have hn24:b=true→n < 24:=(Ld.okSy_syg hE.ok hs).2
 have HN0:=Lib.hid hn0
 have HNt:=Lib.hid hn24
 have d6:(w.alloc (.cells #[.bool b,.int .i64 n] 39)).cell? ⟨E.dd,6,none⟩=some (.slice E.Ar (E.lw + 1) E.cr):=(hD.bl HB0.out).bd.cell 6
 have dl:=(hD.bl HB0.out).bd.lt
 have hbl:Ld.fromN E.K E.g E.u r < 4294967296:=Nat.lt_of_lt_of_le (Ld.fromN_lt hE.u24) (by decide)
 have HBl:=Lib.hid hbl
 obtain ⟨beh,hbeh⟩:∃ beh:Nat,beh=Ld.fromN E.K E.g E.u r:=⟨_,rfl⟩
 have HBeh:=Lib.hid hbeh
 rw [← hbeh]
 rw [← hbeh] at HBl
 clear hD hE hs hr hn0 hn24 hbl hbeh
 go_enter Tryz.func68,Tryz.ntmps68
 go_wp2_with fail
 go_loopw [7,16] (fun x i wr=>∃ k:Nat,k≤E.lw + 1∧i=.int .i64 k∧x=.int .u32 (Sp.bitsN k (Ld.mayB E.K E.g E.u (⟨b,n⟩ :: r)):Int)∧Hid (Bl (w.alloc (.cells #[.bool b,.int .i64 n] 39)) wr)) (fun _ i _=>E.lw + 1 - (intOf i).toNat)
 case atStart=>exact ⟨0,Nat.zero_le _,rfl,rfl,Bl.refl _⟩
 case round=>
  obtain ⟨k,hk,rfl,rfl,HB⟩:=hrel
  have HBw:=Lib.hid (HB0.out.trans HB.out)
  by_cases hlt:k < E.lw + 1
  ·have HKc:=Lib.hid (HK0.out.bl HB.out)
   have k0:wr.cell? ⟨w.heap.size,0,none⟩=some (.bool b):=HKc.out.cell 0
   have k1:wr.cell? ⟨w.heap.size,1,none⟩=some (.int .i64 n):=HKc.out.cell 1
   have HM:Hid (((Sp.ofE E.F 0 E.u ⟨b,n⟩ k <<< k) % 4294967296) &&& beh≠0∨(Sp.ofO E.F 0 E.u ⟨b,n⟩ k=true∧E.K=2)↔Ld.mayB E.K E.g E.u (⟨b,n⟩ :: r) k=true):=by
    unfold Hid
    rw [HBeh.out,Ld.mayB_iff]
    exact Ld.through_iff HE.out.full HE.out.ok HE.out.lives HE.out.u24 HS.out HR.out (by have:=HL.out;omega)
   have hk32:min k 32=k:=by omega
   have HOf:=Lib.hid (ldof_any E HE.out a k l vl b n wr (HD.out.bl HBw.out) (by omega) HN0.out HNt.out)
   have hand:=and_shl (Sp.ofE E.F 0 E.u ⟨b,n⟩ k) k beh HBl.out
   have HS1:Hid ((2:Int) ^ k % (4294967296:Int)=(((1 <<< k:Nat)):Int)):=by
    have h:=one_shl (k:=k) (by omega)
    rwa [Int.one_mul] at h
   have HBi:=Lib.hid (bits_lt25 (j:=k) (f:=Ld.mayB E.K E.g E.u (⟨b,n⟩ :: r)) (by omega))
   have HOne:Hid ((1:Nat) <<< k < 4294967296):=by
    unfold Hid
    rw [Nat.one_shiftLeft]
    exact Nat.lt_of_le_of_lt (Nat.pow_le_pow_right (by decide) (by omega:k≤24)) (by decide)
   generalize hx:Sp.ofE E.F 0 E.u ⟨b,n⟩ k=x at *
   generalize hy:Sp.ofO E.F 0 E.u ⟨b,n⟩ k=y at *
   clear hx hy
   generalize hz:((x <<< k) % 4294967296) &&& beh=z at *
   clear hz
   have HOr:=Lib.hid (fun h=>or_nat (Sp.bitsN k (Ld.mayB E.K E.g E.u (⟨b,n⟩ :: r))) (1 <<< k) h HOne.out)
   cases hm:Ld.mayB E.K E.g E.u (⟨b,n⟩ :: r) k with
   | true=>
    rw [hm] at HM
    have HY:=Lib.hid (bits_yes hm)
    have HMx:=Lib.hid (HM.out.mpr rfl)
    clear hm HM
    have HOrr:=Lib.hid (HOr.out HBi.out)
    by_cases hz0:z=0
    ·obtain ⟨hy1,hK2⟩:y=true∧E.K=2:=by
      rcases HMx.out with h | h
      ·exact absurd hz0 h
      ·exact h
     subst hz0
     subst hy1
     have hk2:((E.K:Int) == 2)=true:=by rw [hK2];rfl
     clear hK2 HMx
     go_wp2_with (go_at_call 97;(with_reducible refine HOf.out.mono ?_);rintro e w1 ⟨rfl,hb1⟩;have HB1:=Lib.hid (HBw.out.trans hb1);have HB2:=Lib.hid (HB.out.trans hb1);have d5:w1.cell? ⟨E.dd,5,none⟩=some (.int .i64 (E.K:Int)):=(HD.out.bl HB1.out).bd.cell 5;have dl1:=(HD.out.bl HB1.out).bd.lt;clear hb1)
     go_roundw
     case rel=>exact ⟨k + 1,by omega,by go_num,by rw [HS1.out,HOrr.out,HY.out],HB2.out⟩
     case measure=>simp [intOf];omega
    ·have hz1:((z:Int) == 0)=false:=by rw [beq_eq_false_iff_ne];omega
     clear HMx
     go_wp2_with (go_at_call 97;(with_reducible refine HOf.out.mono ?_);rintro e w1 ⟨rfl,hb1⟩;have HB1:=Lib.hid (HBw.out.trans hb1);have HB2:=Lib.hid (HB.out.trans hb1);have d5:w1.cell? ⟨E.dd,5,none⟩=some (.int .i64 (E.K:Int)):=(HD.out.bl HB1.out).bd.cell 5;have dl1:=(HD.out.bl HB1.out).bd.lt;clear hb1)
     go_roundw
     case rel=>exact ⟨k + 1,by omega,by go_num,by rw [HS1.out,HOrr.out,HY.out],HB2.out⟩
     case measure=>simp [intOf];omega
   | false=>
    rw [hm] at HM
    have HY:=Lib.hid (bits_no hm)
    have HMx:Hid (¬ (z≠0∨(y=true∧E.K=2))):=fun h=>by have:=HM.out.mp h;cases this
    clear hm HM
    obtain rfl:z=0:=by
     rcases Nat.eq_zero_or_pos z with h | h
     ·exact h
     ·exact absurd (.inl (by omega)) HMx.out
    cases y with
    | false=>
     clear HMx
     go_wp2_with (go_at_call 97;(with_reducible refine HOf.out.mono ?_);rintro e w1 ⟨rfl,hb1⟩;have HB1:=Lib.hid (HBw.out.trans hb1);have HB2:=Lib.hid (HB.out.trans hb1);have d5:w1.cell? ⟨E.dd,5,none⟩=some (.int .i64 (E.K:Int)):=(HD.out.bl HB1.out).bd.cell 5;have dl1:=(HD.out.bl HB1.out).bd.lt;clear hb1)
     go_roundw
     case rel=>exact ⟨k + 1,by omega,by go_num,by rw [← HY.out],HB2.out⟩
     case measure=>simp [intOf];omega
    | true=>
     have hk2:((E.K:Int) == 2)=false:=by
      rw [beq_eq_false_iff_ne]
      intro h
      exact HMx.out (.inr ⟨rfl,by omega⟩)
     clear HMx
     go_wp2_with (go_at_call 97;(with_reducible refine HOf.out.mono ?_);rintro e w1 ⟨rfl,hb1⟩;have HB1:=Lib.hid (HBw.out.trans hb1);have HB2:=Lib.hid (HB.out.trans hb1);have d5:w1.cell? ⟨E.dd,5,none⟩=some (.int .i64 (E.K:Int)):=(HD.out.bl HB1.out).bd.cell 5;have dl1:=(HD.out.bl HB1.out).bd.lt;clear hb1)
     go_roundw
     case rel=>exact ⟨k + 1,by omega,by go_num,by rw [← HY.out],HB2.out⟩
     case measure=>simp [intOf];omega
  ·have hke:k=E.lw + 1:=by omega
   subst hke
   have HX:Hid (Sp.bitsN (E.lw + 1) (Ld.mayB E.K E.g E.u (⟨b,n⟩ :: r))=Ld.fromN E.K E.g E.u (⟨b,n⟩ :: r)):=by unfold Hid Ld.fromN;rw [HL.out]
   go_wp2_with fail
   go_ret
   exact ⟨by rw [HX.out];rfl,HBw.out⟩
end Go.Proofs.YtdfhhbncmdpoeaaGreat
namespace Go.Proofs.YtdfhhbncmdpoeaaGreat
open Go.RowKit
theorem two_shl {k:Nat} (hk:k≤24):(2:Int) ^ k % (4294967296:Int)=(((1 <<< k:Nat)):Int):=by
 have h:=one_shl hk
 rwa [Int.one_mul] at h
section
variable {E:LdE} {a:Nat} {l r:List Gr.Sy} {s:Gr.Sy} {vl:Value} {w:World}
theorem DvR.form (h:DvR E a (s :: r) vl w):∃ g cl,vl=.slice (some ⟨g,0,none⟩) (r.length + 1) cl∧E.lo≤g∧g < w.heap.size∧r.length + 1≤cl∧cl≤maxLen∧w.cell? ⟨g,r.length * 3,none⟩=some (.bool s.non)∧w.cell? ⟨g,r.length * 3 + 1,none⟩=some (.int .i64 s.n)∧w.cell? ⟨g,r.length * 3 + 2,none⟩=some (.int .u32 (Ld.fromN E.K E.g E.u (s :: r):Int)):=by
 have hst:=h.st
 rw [List.length_cons] at hst
 obtain ⟨g,cl,hv,hlo,hlt⟩:=World.ownsRow.form hst (Nat.succ_pos _)
 subst hv
 have hcl:r.length + 1≤cl:=by obtain ⟨_,_,hv,h⟩:=own_form hst;cases hv;exact h
 have hcm:cl≤maxLen:=by
  rcases hst.2 with ⟨_,h0⟩ | ⟨g',cap',cur',hv,_,_,_,h1,_,_⟩
  ·omega
  ·cases hv;exact h1
 have hl:=lfRow_len E r
 refine ⟨g,cl,rfl,hlo,hlt,hcl,hcm,?_,?_,?_⟩
 ·rw [hst.cellAt (r.length * 3) (by omega),lfRow_cons,List.getElem?_append_right (by omega),hl,Nat.sub_self];rfl
 ·rw [hst.cellAt (r.length * 3 + 1) (by omega),lfRow_cons,List.getElem?_append_right (by omega),hl,Nat.add_sub_cancel_left];rfl
 ·rw [hst.cellAt (r.length * 3 + 2) (by omega),lfRow_cons,List.getElem?_append_right (by omega),hl,Nat.add_sub_cancel_left];rfl
theorem FrD.cell9 {cs:Array Value} (hb:Bk w E.dd 80 cs) (i:Nat) (v:Value):FrD E w (w.setCell ⟨E.dd,i,none⟩ v):=⟨(Fr.refl _ w).setCell (p:=⟨E.dd,i,none⟩) (.inl (.inl rfl)) v,KeepT.put_bk hb (by decide) v⟩
theorem DvR.pop {g cl:Nat} (h:DvR E a (s :: r) (.slice (some ⟨g,0,none⟩) (r.length + 1) cl) w):DvR E a r (.slice (some ⟨g,0,none⟩) r.length cl) (w.setCell ⟨E.dd,9,none⟩ (.slice (some ⟨g,0,none⟩) r.length cl)):=by
 have hst:=h.st
 rw [List.length_cons,lfRow_cons] at hst
 refine ⟨h.bd.put 9 _,?_,h.env.fr (FrD.cell9 h.bd 9 _)⟩
 refine own_fr (S:=fun k=>k=E.dd) (ownsRow_pop (lfRow_len E r) hst) ((Fr.refl _ w).own 9 _) fun k hv e=>?_
 exact h.bd.row hst (by decide) (by rw [← e];exact hv)
theorem DvR.step (h:DvR E a l vl w) (a':Nat):DvR E a' l vl (w.setCell ⟨E.dd,8,none⟩ (.int .i64 (a':Int))):=by
 refine ⟨h.bd.put 8 _,?_,h.env.fr (FrD.cell9 h.bd 8 _)⟩
 exact own_fr (S:=fun k=>k=E.dd) h.st ((Fr.refl _ w).own 8 _) fun k hv e=>h.bd.row h.st (by decide) (by rw [← e];exact hv)
end
theorem ldfrom_any (E:LdE) (hE:LdOk E) (a:Nat) (l:List Gr.Sy) (vl:Value) (w:World) (hD:DvR E a l vl w) (hn:l.length≤1000000) :
  Calls Tryz.prog 66 #[.pointer (some ⟨E.dd,0,none⟩)] w fun e w'=>e=.returned (.int .u32 (Ld.fromN E.K E.g E.u l:Int))∧Bl w w':=by
 have dl:=hD.bd.lt
 cases l with
 | nil=>
  obtain ⟨Al,cl,hv,_⟩:=own_form hD.st
  subst hv
  have d9:w.cell? ⟨E.dd,9,none⟩=some (.slice Al 0 cl):=hD.bd.cell 9
  have d4:w.cell? ⟨E.dd,4,none⟩=some (.slice E.Aw E.lw E.cw):=hD.bd.cell 4
  have hl:=hE.lw
  have hw24:=hE.lw24
  have HX:Hid ((2:Int) ^ E.lw % (4294967296:Int)=(Ld.fromN E.K E.g E.u []:Int)):=by
   unfold Hid
   rw [two_shl hw24,Ld.fromN_nil,Nat.one_shiftLeft,hl]
  have hk32:min E.lw 32=E.lw:=by omega
  clear hD hE hl
  go_enter Tryz.func66,Tryz.ntmps66
  go_wp2_with fail
  go_ret
  exact ⟨by rw [← HX.out];rfl,Bl.refl w⟩
 | cons s r=>
  obtain ⟨g,cl,hv,hlo,hlt,hcl,hcm,c0,c1,c2⟩:=hD.form
  subst hv
  have d9:w.cell? ⟨E.dd,9,none⟩=some (.slice (some ⟨g,0,none⟩) (r.length + 1) cl):=hD.bd.cell 9
  simp only [maxLen] at hcm
  rw [List.length_cons] at hn
  have i0:(0:Int)≤(r.length:Int):=by omega
  have i1:(r.length:Int) < ((r.length + 1:Nat):Int):=by omega
  have e1:(((r.length + 1:Nat):Int) - 1)=(r.length:Int):=by omega
  have e2:(r.length:Int).toNat=r.length:=by omega
  have hq:(((r.length + 1:Nat):Int) == 0)=false:=by rw [beq_eq_false_iff_ne];omega
  generalize Ld.fromN E.K E.g E.u (s :: r)=x at *
  generalize r.length=m at *
  clear hD hE c0 c1
  go_enter Tryz.func66,Tryz.ntmps66
  go_wp2
  go_quiet (fail)
  go_wp2
  go_ret
  exact ⟨rfl,(Bl.refl w).drewN _⟩
def LnE:Option (Gr.Sy × List Gr.Sy)→Ending
 | none=>.returned (.tuple #[.int .i64 0,.bool false])
 | some (s,_)=>.returned (.tuple #[.int .i64 s.n,.bool true])
def LnL:Option (Gr.Sy × List Gr.Sy)→List Gr.Sy
 | none=>[]
 | some (_,r)=>r
theorem ldnext_any (E:LdE) (hE:LdOk E) (a:Nat) (l:List Gr.Sy) (vl:Value) (w:World) (hD:DvR E a l vl w) (ha:a≤E.lw) (hn:l.length≤1000000) :
  Calls Tryz.prog 38 #[.pointer (some ⟨E.dd,0,none⟩)] w fun e w'=>e=LnE (Ld.nextOf E.u.length a l).2∧(∃ vl',DvR E (Ld.nextOf E.u.length a l).1 (LnL (Ld.nextOf E.u.length a l).2) vl' w')∧FrD E w w':=by
 obtain ⟨z,hz⟩:∃ z,z=Ld.nextOf E.u.length a l:=⟨_,rfl⟩
 rw [← hz]
 have HZ:=Lib.hid hz.symm
 have HD:=Lib.hid hD
 have HE:=Lib.hid hE
 have HL:=Lib.hid hE.lw
 have hw24:=hE.lw24
 clear hz hD hE
 go_enter Tryz.func38,Tryz.ntmps38
 go_wp2_with fail
 go_loopg [] (l.length + 1) (fun g wr=>∃ (a':Nat) (l':List Gr.Sy),l'.length + 1=g∧a'≤E.lw∧l'.length≤1000000∧Hid (Ld.nextOf E.u.length a' l'=z)∧Hid (∃ vl',DvR E a' l' vl' wr)∧Hid (FrD E w wr))
 case atStart=>exact ⟨a,l,rfl,ha,hn,HZ.out,⟨_,HD.out⟩,FrD.refl E w⟩
 case round=>
  obtain ⟨a',l',hg,ha',hn',HN,HR,HF⟩:=hrel
  obtain ⟨vl',hd⟩:=HR.out
  clear HR
  have dl:=hd.bd.lt
  cases l' with
  | nil=>
   obtain ⟨Al,cl,hv,_⟩:=own_form hd.st
   subst hv
   have d9:wr.cell? ⟨E.dd,9,none⟩=some (.slice Al 0 cl):=hd.bd.cell 9
   have HX:=Lib.hid hd
   have HZ2:Hid (z=(a',none)):=HN.out.symm
   clear hd
   go_wp2_with fail
   go_ret2
   rw [HZ2.out]
   exact ⟨rfl,⟨_,HX.out⟩,HF.out⟩
  | cons s r=>
   obtain ⟨g0,cl,hv,hlo,hlt,hcl,hcm,c0,c1,c2⟩:=hd.form
   subst hv
   have d9:wr.cell? ⟨E.dd,9,none⟩=some (.slice (some ⟨g0,0,none⟩) (r.length + 1) cl):=hd.bd.cell 9
   have f9:wr.frozen? ⟨E.dd,9,none⟩=false:=hd.bd.free 9
   simp only [maxLen] at hcm
   rw [List.length_cons] at hn' hg
   have i0:(0:Int)≤(r.length:Int):=by omega
   have i1:(r.length:Int) < ((r.length + 1:Nat):Int):=by omega
   have i2:(r.length:Int)≤(cl:Int):=by omega
   have e1:(((r.length + 1:Nat):Int) - 1)=(r.length:Int):=by omega
   have e2:(r.length:Int).toNat=r.length:=by omega
   have hq:(0:Int) < ((r.length + 1:Nat):Int):=by omega
   have HXx:=Lib.hid hd
   clear hd
   generalize hx:Ld.fromN E.K E.g E.u (s :: r)=x at *
   clear hx
   cases hs:s.non with
   | true=>
    rw [hs] at c0
    have HZ2:Hid (z=(a',some (s,r))):=by unfold Hid;rw [← HN.out,Ld.nextOf_non hs]
    have HP:Hid (∃ vl2,DvR E a' r vl2 ((wr.setCell ⟨E.dd,9,none⟩ (.slice (some ⟨g0,0,none⟩) r.length cl)).alloc (.cells #[.bool true,.int .i64 s.n,.int .u32 (x:Int)] 133))):=⟨_,HXx.out.pop.bl ((Bl.refl _).alloc _)⟩
    have HF2:Hid (FrD E w ((wr.setCell ⟨E.dd,9,none⟩ (.slice (some ⟨g0,0,none⟩) r.length cl)).alloc (.cells #[.bool true,.int .i64 s.n,.int .u32 (x:Int)] 133))):=(HF.out.trans (FrD.cell9 HXx.out.bd 9 _)).bl ((Bl.refl _).alloc _)
    clear HXx HN HF
    go_wp2_with fail
    go_ret2
    rw [HZ2.out]
    exact ⟨rfl,HP.out,HF2.out⟩
   | false=>
    rw [hs] at c0
    have d8:wr.cell? ⟨E.dd,8,none⟩=some (.int .i64 (a':Int)):=HXx.out.bd.cell 8
    have f8:wr.frozen? ⟨E.dd,8,none⟩=false:=HXx.out.bd.free 8
    have d4:wr.cell? ⟨E.dd,4,none⟩=some (.slice E.Aw E.lw E.cw):=HXx.out.bd.cell 4
    have HP:Hid (DvR E a' r (.slice (some ⟨g0,0,none⟩) r.length cl) ((wr.setCell ⟨E.dd,9,none⟩ (.slice (some ⟨g0,0,none⟩) r.length cl)).alloc (.cells #[.bool false,.int .i64 s.n,.int .u32 (x:Int)] 133))):=HXx.out.pop.bl ((Bl.refl _).alloc _)
    have HF2:Hid (FrD E w ((wr.setCell ⟨E.dd,9,none⟩ (.slice (some ⟨g0,0,none⟩) r.length cl)).alloc (.cells #[.bool false,.int .i64 s.n,.int .u32 (x:Int)] 133))):=(HF.out.trans (FrD.cell9 HXx.out.bd 9 _)).bl ((Bl.refl _).alloc _)
    clear HXx HF
    by_cases hal:a' < E.lw
    ·have hlt2:(a':Int) < (E.lw:Int):=by omega
     have HZ2:Hid (Ld.nextOf E.u.length (a' + 1) r=z):=by
      have h1:=HN.out
      have h2:=HL.out
      rw [Ld.nextOf_tok hs,if_pos (by omega)] at h1
      exact h1
     clear HN
     go_wp2
     go_quiet (fail)
     go_wp2
     go_roundg (r.length + 1)
     case rel=>exact ⟨a' + 1,r,rfl,by omega,by omega,HZ2.out,⟨_,(HP.out.bl ((Bl.refl _).drewN _)).step (a' + 1)⟩,(HF2.out.bl ((Bl.refl _).drewN _)).trans (FrD.cell9 (HP.out.bl ((Bl.refl _).drewN _)).bd 8 _)⟩
     case measure=>omega
    ·have hlt2:¬ ((a':Int) < (E.lw:Int)):=by omega
     have HZ2:Hid (Ld.nextOf E.u.length a' r=z):=by
      have h1:=HN.out
      have h2:=HL.out
      rw [Ld.nextOf_tok hs,if_neg (by omega)] at h1
      exact h1
     clear HN
     go_wp2
     go_quiet (fail)
     go_wp2
     go_roundg (r.length + 1)
     case rel=>exact ⟨a',r,rfl,by omega,by omega,HZ2.out,⟨_,HP.out.bl ((Bl.refl _).drewN _)⟩,HF2.out.bl ((Bl.refl _).drewN _)⟩
     case measure=>omega
end Go.Proofs.YtdfhhbncmdpoeaaGreat
