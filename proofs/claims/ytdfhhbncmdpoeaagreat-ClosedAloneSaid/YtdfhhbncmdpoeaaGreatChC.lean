/- cmp.Compare of ints. -/
import Derived.Test.YtdfhhbncmdpoeaaGreatRows
import Derived.Test.YtdfhhbncmdpoeaaGreatBaseS
import Derived.Test.YtdfhhbncmdpoeaaGreatFactS
import Derived.Test.YtdfhhbncmdpoeaaGreatProg
import Derived.Test.YtdfhhbncmdpoeaaGreatChA
import Derived.Test.YtdfhhbncmdpoeaaGreatChFol
import Derived.Shelf.SlSortCmp.WholeK
import Derived.Shelf.SlGeneric
import Derived.Ground.SlsfProg
import Derived.Deep.RegionHeld3
import Derived.Deep.DeepCutAuto
import Derived.Shelf.SlSortCmp.NoneTotal
set_option maxRecDepth 100000
set_option maxHeartbeats 8000000
namespace Go.Proofs.YtdfhhbncmdpoeaaGreat
open Go.RowKit
theorem isnan_any (x:Int) (w:World):Calls Tryz.prog 119 #[.int .i64 x] w fun e w'=>e=.returned (.bool false)∧w'=w:=by
 go_enter Tryz.func119,Tryz.ntmps119
 have hq:(x != x)=false:=by simp
 go_wp2
 go_ret
 exact ⟨rfl,rfl⟩
def cmpI (x y:Int):Int:=if x < y then -1 else if y < x then 1 else 0
theorem cmpi_any (x y:Int) (w:World):Calls Tryz.prog 91 #[.int .i64 x,.int .i64 y] w fun e w'=>e=.returned (.int .i64 (cmpI x y))∧w'=w:=by
 go_enter Tryz.func91,Tryz.ntmps91
 go_wp2_with fail
 refine (isnan_any x w).mono ?_
 rintro e w1 ⟨rfl,rfl⟩
 go_wp2_with fail
 refine (isnan_any y _).mono ?_
 rintro e w1 ⟨rfl,rfl⟩
 by_cases h1:x < y
 ·have e1:cmpI x y = -1:=by unfold cmpI;rw [if_pos h1]
  go_wp2_with fail
  go_ret
  exact ⟨by rw [e1];rfl,rfl⟩
 ·by_cases h2:y < x
  ·have e1:cmpI x y=1:=by unfold cmpI;rw [if_neg h1,if_pos h2]
   go_wp2_with fail
   go_ret
   exact ⟨by rw [e1];rfl,rfl⟩
  ·have e1:cmpI x y=0:=by unfold cmpI;rw [if_neg h1,if_neg h2]
   go_wp2_with fail
   go_ret
   exact ⟨by rw [e1];rfl,rfl⟩
end Go.Proofs.YtdfhhbncmdpoeaaGreat
namespace Go.Proofs.YtdfhhbncmdpoeaaGreat
open Go.Shelf
def sortIm_ren:Go.Shelf.Ren:=⟨fun | 6=>57 | 15=>89 | 14=>88 | 28=>117 | 29=>118 | 20=>109 | 21=>110 | 22=>111 | 23=>112 | 24=>113 | 25=>114 | 26=>115 | 27=>116 | 46=>125 | 47=>126 | 48=>127 | 49=>128 | 50=>129 | 57=>130 | n=>n,fun | 22=>45 | 24=>44 | 25=>115 | 3=>3 | 39=>166 | 0=>0 | 53=>126 | 55=>199 | 4=>4 | 46=>192 | 45=>191 | 50=>82 | 5=>5 | 9=>9 | 66=>206 | 70=>210 | 76=>212 | 77=>213 | n=>n,fun | n=>n⟩
theorem sortIm:Go.Proofs.SlLaysF0.n6 Tryz.prog sortIm_ren:={
 mixed:=by kernel_rfl
 f6:=⟨Tryz.f57.name,by decide,Tryz.func57.trans (congrArg some (by kernel_rfl))⟩
 f14:=⟨Tryz.f88.name,by decide,Tryz.func88.trans (congrArg some (by kernel_rfl))⟩
 f15:=Tryz.func89.trans (congrArg some (by kernel_rfl))
 f20:=⟨Tryz.f109.name,by decide,Tryz.func109.trans (congrArg some (by kernel_rfl))⟩
 f21:=⟨Tryz.f110.name,by decide,Tryz.func110.trans (congrArg some (by kernel_rfl))⟩
 f22:=⟨Tryz.f111.name,by decide,Tryz.func111.trans (congrArg some (by kernel_rfl))⟩
 f23:=⟨Tryz.f112.name,by decide,Tryz.func112.trans (congrArg some (by kernel_rfl))⟩
 f24:=⟨Tryz.f113.name,by decide,Tryz.func113.trans (congrArg some (by kernel_rfl))⟩
 f25:=⟨Tryz.f114.name,by decide,Tryz.func114.trans (congrArg some (by kernel_rfl))⟩
 f26:=⟨Tryz.f115.name,by decide,Tryz.func115.trans (congrArg some (by kernel_rfl))⟩
 f27:=⟨Tryz.f116.name,by decide,Tryz.func116.trans (congrArg some (by kernel_rfl))⟩
 f28:=Tryz.func117.trans (congrArg some (by kernel_rfl))
 f29:=Tryz.func118.trans (congrArg some (by kernel_rfl))
 f46:=⟨Tryz.f125.name,by decide,Tryz.func125.trans (congrArg some (by kernel_rfl))⟩
 f47:=Tryz.func126.trans (congrArg some (by kernel_rfl))
 f48:=Tryz.func127.trans (congrArg some (by kernel_rfl))
 f49:=⟨Tryz.f128.name,by decide,Tryz.func128.trans (congrArg some (by kernel_rfl))⟩
 f50:=⟨Tryz.f129.name,by decide,Tryz.func129.trans (congrArg some (by kernel_rfl))⟩
 f57:=⟨Tryz.f130.name,by decide,Tryz.func130.trans (congrArg some (by kernel_rfl))⟩
 t0:=Tryz.underlying0
 a0:=Tryz.isAgg0
 z0:=Tryz.sizeOf0
 v0:=Tryz.zeroValue0
 t3:=Tryz.underlying3
 a3:=Tryz.isAgg3
 z3:=Tryz.sizeOf3
 v3:=Tryz.zeroValue3
 t4:=Tryz.underlying4
 a4:=Tryz.isAgg4
 z4:=Tryz.sizeOf4
 v4:=Tryz.zeroValue4
 t5:=Tryz.underlying5
 a5:=Tryz.isAgg5
 z5:=Tryz.sizeOf5
 v5:=Tryz.zeroValue5
 t9:=Tryz.underlying9
 a9:=Tryz.isAgg9
 z9:=Tryz.sizeOf9
 v9:=Tryz.zeroValue9
 t22:=Tryz.underlying45
 a22:=Tryz.isAgg45
 z22:=Tryz.sizeOf45
 v22:=Tryz.zeroValue45
 t25:=Tryz.underlying115
 a25:=Tryz.isAgg115
 z25:=Tryz.sizeOf115
 v25:=Tryz.zeroValue115
 t39:=Tryz.underlying166
 a39:=Tryz.isAgg166
 z39:=Tryz.sizeOf166
 v39:=Tryz.zeroValue166
 t45:=Tryz.underlying191
 a45:=Tryz.isAgg191
 z45:=Tryz.sizeOf191
 v45:=Tryz.zeroValue191
 t46:=Tryz.underlying192
 a46:=Tryz.isAgg192
 z46:=Tryz.sizeOf192
 v46:=Tryz.zeroValue192
 t50:=Tryz.underlying82
 a50:=Tryz.isAgg82
 z50:=Tryz.sizeOf82
 v50:=Tryz.zeroValue82
 t53:=Tryz.underlying126
 a53:=Tryz.isAgg126
 z53:=Tryz.sizeOf126
 v53:=Tryz.zeroValue126
 t55:=Tryz.underlying199
 a55:=Tryz.isAgg199
 z55:=Tryz.sizeOf199
 v55:=Tryz.zeroValue199
 t66:=Tryz.underlying206
 a66:=Tryz.isAgg206
 z66:=Tryz.sizeOf206
 v66:=Tryz.zeroValue206
 t70:=Tryz.underlying210
 a70:=Tryz.isAgg210
 z70:=Tryz.sizeOf210
 v70:=Tryz.zeroValue210
 t76:=Tryz.underlying212
 a76:=Tryz.isAgg212
 z76:=Tryz.sizeOf212
 v76:=Tryz.zeroValue212
 t77:=Tryz.underlying213
 a77:=Tryz.isAgg213
 z77:=Tryz.sizeOf213
 v77:=Tryz.zeroValue213 }
end Go.Proofs.YtdfhhbncmdpoeaaGreat
namespace Go.Proofs.YtdfhhbncmdpoeaaGreat
open Go.RowKit
open Go.Sort (grow alloc_eq_grow grow_grow drew_grow)
def orL:List Int→Int
 | []=>0
 | x :: l=>if x=0 then orL l else x
theorem orL_drop:∀ (l:List Int) (k:Nat),(∀ x ∈ l.take k,x=0)→orL l=orL (l.drop k)
 | [],k,_=>by simp
 | x :: l,0,_=>rfl
 | x :: l,k + 1,h=>by
  have hx:x=0:=h x (by simp)
  rw [List.drop_succ_cons,← orL_drop l k (fun y hy=>h y (by rw [List.take_succ_cons];exact List.mem_cons_of_mem _ hy))]
  unfold orL
  rw [if_pos hx]
  cases l <;> rfl
theorem or_any (A:Option Addr) (l:List Int) (len c:Nat) (w:World) (B:Nat) (hlen:len=l.length) (hmax:l.length≤1000000) (hr:Rd w B A (ins l)) (hB:B≤w.heap.size) :
  Calls Tryz.prog 90 #[.slice A len c] w fun e w'=>e=.returned (.int .i64 (orL l))∧w'=w:=by
 have HL:=Lib.hid hlen
 have HR:=Lib.hid hr
 have hmx:len≤1000000:=by omega
 clear hr hlen hmax
 go_enter Tryz.func90,Tryz.ntmps90
 go_wp2_with fail
 go_loopw [8] (fun i wr=>∃ k:Nat,k≤len∧i=.int .i64 k∧Hid (∀ x ∈ l.take k,x=0)∧wr=w) (fun i _=>len - (intOf i).toNat)
 case atStart=>exact ⟨0,Nat.zero_le _,rfl,(fun x hx=>by simp at hx),rfl⟩
 case round=>
  obtain ⟨k,hk,rfl,HZ,rfl⟩:=hrel
  by_cases hlt:k < len
  ·have hlt2:k < l.length:=by have:=HL.out;omega
   have hik:(k:Int) < (len:Int):=by omega
   obtain ⟨b,off,rfl,hb,hc⟩:=HR.out.int hlt2
   have hbl:b < wr.heap.size:=by omega
   by_cases hz:l[k]=0
   ·have HZ2:Hid (∀ x ∈ l.take (k + 1),x=0):=fun x hx=>by
     rw [List.take_add_one,List.getElem?_eq_getElem hlt2] at hx
     rcases List.mem_append.1 hx with h | h
     ·exact HZ.out x h
     ·have:x=l[k]:=by simpa using h
      rw [this,hz]
    rw [hz] at hc
    clear hz hlt2
    go_wp2_with fail
    go_roundw
    case rel=>exact ⟨k + 1,by omega,by go_num,HZ2.out,trivial⟩
    case measure=>simp [intOf];omega
   ·have HRes:Hid (orL l=l[k]):=by
     show orL l=_
     rw [orL_drop l k HZ.out,List.drop_eq_getElem_cons hlt2]
     unfold orL
     rw [if_neg hz]
    have hq:(l[k] == 0)=false:=beq_eq_false_iff_ne.2 hz
    generalize l[k]=y at *
    clear hz hlt2
    go_wp2_with fail
    go_ret
    exact ⟨by rw [HRes.out];rfl,rfl⟩
  ·have HRes:Hid (orL l=0):=by
    show orL l=_
    rw [orL_drop l k HZ.out,List.drop_of_length_le (by have:=HL.out;omega)];rfl
   have hik:¬ (k:Int) < (len:Int):=by omega
   go_wp2_with fail
   go_ret
   exact ⟨by rw [HRes.out];rfl,rfl⟩
def cmpIm (x y:Ch.Im):Int:=orL [cmpI (x.prod:Int) (y.prod:Int),cmpI (x.dot:Int) (y.dot:Int),cmpI (x.frm:Int) (y.frm:Int)]
theorem cmpI_nat (a b:Nat):cmpI (a:Int) (b:Int)=if a < b then -1 else if b < a then 1 else 0:=by
 unfold cmpI
 by_cases h1:a < b
 ·rw [if_pos h1,if_pos (by omega)]
 ·rw [if_neg h1,if_neg (by omega)]
  by_cases h2:b < a
  ·rw [if_pos h2,if_pos (by omega)]
  ·rw [if_neg h2,if_neg (by omega)]
theorem cmpIm_lt (x y:Ch.Im):cmpIm x y < 0↔Ch.lt x y:=by
 unfold cmpIm orL orL orL orL Ch.lt
 rw [cmpI_nat,cmpI_nat,cmpI_nat]
 by_cases h1:x.prod < y.prod
 ·simp [h1]
 ·by_cases h2:y.prod < x.prod
  ·simp [h1,h2];omega
  ·by_cases h3:x.dot < y.dot
   ·simp [h1,h2,h3];omega
   ·by_cases h4:y.dot < x.dot
    ·simp [h1,h2,h3,h4];omega
    ·by_cases h5:x.frm < y.frm
     ·simp [h1,h2,h3,h4,h5];omega
     ·by_cases h6:y.frm < x.frm
      ·simp [h1,h2,h3,h4,h5,h6]
      ·simp [h1,h2,h3,h4,h5,h6]
theorem ltOf_im (x y:Ch.Im):Go.Proofs.ltOf cmpIm x y=decide (Ch.lt x y):=by
 unfold Go.Proofs.ltOf
 exact decide_eq_decide.2 (cmpIm_lt x y)
theorem swo_im:Go.Sort.SWO (Go.Proofs.ltOf cmpIm) where
 irrefl x:=by rw [ltOf_im];exact decide_eq_false (Ch.lt_irrefl x)
 trans x y z h1 h2:=by
  rw [ltOf_im] at *
  exact decide_eq_true (Ch.lt_trans (of_decide_eq_true h1) (of_decide_eq_true h2))
 ntrans x y z h1 h2:=by
  rw [ltOf_im] at *
  have h1:=of_decide_eq_false h1
  have h2:=of_decide_eq_false h2
  refine decide_eq_false ?_
  unfold Ch.lt at *
  omega
theorem inorder_any (x y:Ch.Im) (W:World):Calls Tryz.prog 58 #[.agg #[.int .i64 (x.prod:Int),.int .i64 (x.dot:Int),.int .i64 (x.frm:Int)],.agg #[.int .i64 (y.prod:Int),.int .i64 (y.dot:Int),.int .i64 (y.frm:Int)]] W fun e w'=>
  e=.returned (.int .i64 (cmpIm x y))∧∃ q os',w'=grow (W.drewN q) os':=by
 have HX:Hid (Bk ((W.alloc (.cells #[.int .i64 (x.prod:Int),.int .i64 (x.dot:Int),.int .i64 (x.frm:Int)] 44)).alloc (.cells #[.int .i64 (y.prod:Int),.int .i64 (y.dot:Int),.int .i64 (y.frm:Int)] 44)) W.heap.size 44 #[.int .i64 (x.prod:Int),.int .i64 (x.dot:Int),.int .i64 (x.frm:Int)]):=(Bk.new W _ _).alloc _
 have HY:Hid (Bk ((W.alloc (.cells #[.int .i64 (x.prod:Int),.int .i64 (x.dot:Int),.int .i64 (x.frm:Int)] 44)).alloc (.cells #[.int .i64 (y.prod:Int),.int .i64 (y.dot:Int),.int .i64 (y.frm:Int)] 44)) (W.heap.size + 1) 44 #[.int .i64 (y.prod:Int),.int .i64 (y.dot:Int),.int .i64 (y.frm:Int)]):=by
  have h:=Bk.new (W.alloc (.cells #[.int .i64 (x.prod:Int),.int .i64 (x.dot:Int),.int .i64 (x.frm:Int)] 44)) 44 #[.int .i64 (y.prod:Int),.int .i64 (y.dot:Int),.int .i64 (y.frm:Int)]
  rw [World.size_alloc] at h
  exact h
 have HG:Hid ((W.alloc (.cells #[.int .i64 (x.prod:Int),.int .i64 (x.dot:Int),.int .i64 (x.frm:Int)] 44)).alloc (.cells #[.int .i64 (y.prod:Int),.int .i64 (y.dot:Int),.int .i64 (y.frm:Int)] 44)=grow W #[.cells #[.int .i64 (x.prod:Int),.int .i64 (x.dot:Int),.int .i64 (x.frm:Int)] 44,.cells #[.int .i64 (y.prod:Int),.int .i64 (y.dot:Int),.int .i64 (y.frm:Int)] 44]):=by
  show _=_
  rw [alloc_eq_grow,alloc_eq_grow,grow_grow];rfl
 have HPx:Hid (∀ wx,Bl ((W.alloc (.cells #[.int .i64 (x.prod:Int),.int .i64 (x.dot:Int),.int .i64 (x.frm:Int)] 44)).alloc (.cells #[.int .i64 (y.prod:Int),.int .i64 (y.dot:Int),.int .i64 (y.frm:Int)] 44)) wx→wx.cell? ⟨W.heap.size,0,none⟩=some (.int .i64 (x.prod:Int))∧wx.cell? ⟨W.heap.size,1,none⟩=some (.int .i64 (x.dot:Int))∧wx.cell? ⟨W.heap.size,2,none⟩=some (.int .i64 (x.frm:Int))∧wx.cell? ⟨W.heap.size + 1,0,none⟩=some (.int .i64 (y.prod:Int))∧wx.cell? ⟨W.heap.size + 1,1,none⟩=some (.int .i64 (y.dot:Int))∧wx.cell? ⟨W.heap.size + 1,2,none⟩=some (.int .i64 (y.frm:Int))):=fun wx hb=>by
  have h1:=HX.out.bl hb
  have h2:=HY.out.bl hb
  exact ⟨h1.cell 0,h1.cell 1,h1.cell 2,h2.cell 0,h2.cell 1,h2.cell 2⟩
 have HC1:=Lib.hid (cmpi_any (x.prod:Int) (y.prod:Int))
 have HC2:=Lib.hid (cmpi_any (x.dot:Int) (y.dot:Int))
 have HC3:=Lib.hid (cmpi_any (x.frm:Int) (y.frm:Int))
 have HCe:Hid (cmpIm x y=orL [cmpI (x.prod:Int) (y.prod:Int),cmpI (x.dot:Int) (y.dot:Int),cmpI (x.frm:Int) (y.frm:Int)]):=rfl
 generalize cmpIm x y=cc at *
 generalize cmpI (x.prod:Int) (y.prod:Int)=c1 at *
 generalize cmpI (x.dot:Int) (y.dot:Int)=c2 at *
 generalize cmpI (x.frm:Int) (y.frm:Int)=c3 at *
 generalize (x.prod:Int)=xp at *
 generalize (x.dot:Int)=xd at *
 generalize (x.frm:Int)=xf at *
 generalize (y.prod:Int)=yp at *
 generalize (y.dot:Int)=yd at *
 generalize (y.frm:Int)=yf at *
 go_enter Tryz.func58,Tryz.ntmps58
 go_upto_region 1 with fail
 generalize (W.alloc (.cells #[.int .i64 xp,.int .i64 xd,.int .i64 xf] 44)).alloc (.cells #[.int .i64 yp,.int .i64 yd,.int .i64 yf] 44)=w1 at *
 have HBd:Hid (Bl w1 w1.drew):=(Bl.refl w1).drew
 have HBa:Hid (Bl w1 ((w1.alloc (.cells #[.int .i64 c1,.int .i64 c2,.int .i64 c3] 3)).drew)):=((Bl.refl w1).alloc _).drew
 have HOr:=Lib.hid (or_any (some ⟨w1.heap.size,0,none⟩) [c1,c2,c3] 3 3 ((w1.alloc (.cells #[.int .i64 c1,.int .i64 c2,.int .i64 c3] 3)).drew) (w1.heap.size + 1) rfl (by simp) (rd_newB w1 3 #[.int .i64 c1,.int .i64 c2,.int .i64 c3]) (by show _≤(w1.alloc _).heap.size;rw [World.size_alloc];exact Nat.le_refl _))
 have tk1:True:=trivial
 have tk2:True:=trivial
 have tk3:True:=trivial
 have tk4:True:=trivial
 go_region_held3 (fun wx=>wx.cell? ⟨W.heap.size,0,none⟩=some (.int .i64 xp)∧wx.cell? ⟨W.heap.size,1,none⟩=some (.int .i64 xd)∧wx.cell? ⟨W.heap.size,2,none⟩=some (.int .i64 xf)∧wx.cell? ⟨W.heap.size + 1,0,none⟩=some (.int .i64 yp)∧wx.cell? ⟨W.heap.size + 1,1,none⟩=some (.int .i64 yd)∧wx.cell? ⟨W.heap.size + 1,2,none⟩=some (.int .i64 yf))
  (first | exact HPx.out _ HBd.out | exact HPx.out _ HBa.out) (first
  | (go_at_call 91;have _t:=tk1;((with_reducible refine (HC1.out _).mono ?_);rintro e v2 ⟨rfl,rfl⟩;clear tk1))
  | (go_at_call 91;have _t:=tk2;((with_reducible refine (HC2.out _).mono ?_);rintro e v2 ⟨rfl,rfl⟩;clear tk2))
  | (go_at_call 91;have _t:=tk3;((with_reducible refine (HC3.out _).mono ?_);rintro e v2 ⟨rfl,rfl⟩;clear tk3))
  | (go_at_call 90;have _t:=tk4;((with_reducible refine HOr.out.mono ?_);rintro e v2 ⟨rfl,rfl⟩;clear tk4))
  | fail)
 all_goals
  go_wp2_with fail
  go_ret
  exact ⟨by rw [HCe.out];rfl,1,_,by rw [HG.out,alloc_eq_grow,grow_grow,drew_grow];rfl⟩
end Go.Proofs.YtdfhhbncmdpoeaaGreat
namespace Go.Proofs.YtdfhhbncmdpoeaaGreat
open Go.RowKit Go.Sort
open Go.Proofs
instance:Inhabited Ch.Im:=⟨⟨0,0,0⟩⟩
theorem imRow_cell (l:List Ch.Im) {t:Nat} (h:t < l.length * 3):(imRow l)[t]?=some ((imc l.toArray[t / 3]!)[t % 3]!):=by
 have hi:t / 3 < l.length:=by omega
 have e:=rowN_at imc_len l (t / 3) (t % 3) hi (by omega)
 rw [show t / 3 * 3 + t % 3=t by omega] at e
 have e:(imRow l)[t]?=(imc l[t / 3])[t % 3]?:=e
 rw [e]
 have e2:l.toArray[t / 3]! = l[t / 3]:=by simp [hi]
 rw [e2,List.getElem?_eq_getElem (by rw [imc_len];omega)]
 congr 1
 rw [List.getElem!_eq_getElem?_getD,List.getElem?_eq_getElem (by rw [imc_len];omega)]
 rfl
theorem holds_im {w:World} {base g cap:Nat} {e:TypeId} {l:List Ch.Im} (h:w.ownsRow base e 3 (.slice (some ⟨g,0,none⟩) l.length cap) l.length (imRow l)):HoldsK imc 3 w g 0 l.toArray:=by
 intro j hj
 have hj:j < l.length * 3:=by simpa using hj
 refine ⟨?_,by rw [Nat.zero_add];exact h.frozenAt j⟩
 rw [Nat.zero_add,h.cellAt j hj,imRow_cell l hj,get_flatK _ _ _ _ (by simpa using hj)]
 rfl
theorem own_sorted {w:World} {base g cap n:Nat} {e:TypeId} {l:List Ch.Im} {d':Array Ch.Im} {os:Array Obj} (h:w.ownsRow base e 3 (.slice (some ⟨g,0,none⟩) l.length cap) l.length (imRow l)) (hs:d'.size=l.length) :
  (sortWorldK imc 3 w g 0 n d' os).ownsRow base e 3 (.slice (some ⟨g,0,none⟩) l.length cap) l.length (imRow d'.toList)∧Fr (fun k=>k=g) w (sortWorldK imc 3 w g 0 n d' os):=by
 have hlt:=(h.lt g rfl).2
 have hH:=holds_im h
 have hH2:HoldsK imc 3 (sortWorldK imc 3 w g 0 n d' os) g 0 d':=holdsK_grow imc 3 _ os g 0 d' (by unfold putRowK;simpa using hlt) (holdsK_putRowK imc 3 (Sort.ahead w n) g 0 l.toArray d' hH (by simp [hs]))
 rcases h.2 with ⟨h0,_⟩ | ⟨g',cap',cur,hv,hbase,hg,h1,h2,h3,_⟩
 ·cases h0
 cases hv
 have hb':(sortWorldK imc 3 w g 0 n d' os).heap[g]?=some (.cells (putCells id 0 (flatK imc 3 d') cur) e (0,0)):=by
  unfold sortWorldK putRowK
  rw [heap_grow_old _ _ (by simpa using hlt)]
  simp [putRow,mapBlock,Sort.ahead,Array.getElem?_modify,hg,onCells]
 have hsz:(putCells id 0 (flatK imc 3 d') cur).size=cap * 3:=by simp [putCells,h3]
 refine ⟨⟨by rw [imRow_len];simp [hs],.inr ⟨g,cap,_,rfl,hbase,hb',h1,h2,hsz,?_⟩⟩,?_⟩
 ·apply List.ext_getElem?
  intro t
  by_cases ht:t < l.length * 3
  ·have ht2:t < d'.toList.length * 3:=by simpa [hs] using ht
   rw [List.getElem?_take_of_lt ht,Array.getElem?_toList,imRow_cell d'.toList ht2]
   have hc:=(hH2.cell (i:=t / 3) (c:=t % 3) (by omega) (by omega)).1
   rw [show 0 + t / 3 * 3 + t % 3=t by omega] at hc
   have hb2:Bk (sortWorldK imc 3 w g 0 n d' os) g e (putCells id 0 (flatK imc 3 d') cur):=hb'
   rw [hb2.cell] at hc
   exact hc
  ·rw [List.getElem?_take_eq_none (by omega),List.getElem?_eq_none (by rw [imRow_len];simp [hs];omega)]
 ·refine ⟨rfl,rfl,rfl,by unfold sortWorldK putRowK;simp,fun k hk hne=>?_⟩
  unfold sortWorldK putRowK
  rw [heap_grow_old _ _ (by simpa using hk)]
  have:g≠k:=fun e=>hne e.symm
  simp [putRow,mapBlock,Sort.ahead,Array.getElem?_modify,this]
theorem sorted_im {d d':Array Ch.Im} (hn:d.toList.Nodup) (hp:PermIn 0 d.size d d') (hs:SortedIn (Go.Proofs.ltOf cmpIm) 0 d.size d'):d'.toList.Perm d.toList∧Ch.Inc d'.toList∧d'.size=d.size:=by
 obtain ⟨h1,_,h3⟩:=hp
 have hp:d'.toList.Perm d.toList:=by
  have e1:d'.extract 0 d.size=d':=by rw [← h1];exact Array.extract_size ..
  have e2:d.extract 0 d.size=d:=Array.extract_size ..
  rw [e1,e2] at h3
  exact h3
 refine ⟨hp,?_,h1⟩
 have hn':d'.toList.Nodup:=hp.nodup_iff.2 hn
 unfold Ch.Inc
 rw [List.pairwise_iff_getElem]
 intro i j hi hj hij
 have hi2:i < d'.size:=by simpa using hi
 have hj2:j < d'.size:=by simpa using hj
 have h:=hs i j (Nat.zero_le _) hij (by omega)
 rw [ltOf_im,getElem!_pos d' j hj2,getElem!_pos d' i hi2] at h
 have h:=of_decide_eq_false h
 have hne:d'.toList[i]≠d'.toList[j]:=fun e=>by
  have:=(List.nodup_iff_pairwise_ne.1 hn')
  rw [List.pairwise_iff_getElem] at this
  exact this i j hi hj hij e
 rcases Ch.lt_total hne with h2 | h2
 ·exact h2
 ·exact absurd (by simpa using h2) h
theorem sort_any (base:Nat) (v:Value) (l:List Ch.Im) (w:World) (ho:w.ownsRow base 44 3 v l.length (imRow l)) (hn:l.Nodup) (hl:l.length≤1000000) :
  Calls Tryz.prog 57 #[v,.func (.func 58) #[] #[]] w fun e w'=>e=.returned (.tuple #[])∧∃ l',l'.Perm l∧Ch.Inc l'∧w'.ownsRow base 44 3 v l.length (imRow l')∧Fr (fun k=>v.ownBlock=some k) w w':=by
 rcases ho.2 with ⟨hv,h0⟩ | ⟨g,cap,cur,hv,hbase,hg,h1,h2,h3,_⟩
 ·have hl0:l=[]:=List.eq_nil_of_length_eq_zero h0
  subst hl0 hv
  refine (AnyF.slices_SortFunc_none (P:=Tryz.prog) (ρ:=sortIm_ren) sortIm none 0 _ w).mono ?_
  rintro e w' ⟨rfl,rfl⟩
  exact ⟨rfl,[],List.Perm.refl _,List.Pairwise.nil,ho,Fr.refl _ _⟩
 ·subst hv
  have hlt:=(ho.lt g rfl).2
  have eg:∀ args w,(callFunc 58 args).run Tryz.prog w=.ok (.enter 58 args) w:=enters_of Tryz.func58 (by kernel_rfl) rfl
  refine (AnyQ.slices_SortFunc (P:=Tryz.prog) (ρ:=sortIm_ren) sortIm 3 Tryz.isAgg44 Tryz.sizeOf44 imc (fun _=>rfl) imc_one cmpIm swo_im 58 #[] g 0 cap l.toArray w eg (fun _ _ _ _ x y=>inorder_any x y _) (holds_im ho) hlt (by simp;omega)).mono ?_
  rintro e w' ⟨rfl,d',n,os,hp,hs,rfl⟩
  obtain ⟨p1,p2,p3⟩:=sorted_im (by simpa using hn) hp hs
  obtain ⟨o1,o2⟩:=own_sorted (n:=n) (os:=os) ho (d':=d') (by simpa using p3)
  exact ⟨rfl,d'.toList,by simpa using p1,p2,o1,o2.mono fun k _ e=>by rw [e];rfl⟩
end Go.Proofs.YtdfhhbncmdpoeaaGreat
namespace Go.Proofs.YtdfhhbncmdpoeaaGreat
open Go.RowKit
open Ch (St)
def FillP (G:Fg) (g:Gr.Gm) (wd:List Int) (base m:Nat) (F:Fl) (f:St) (a:Nat) (w:World) (e:Ending) (w':World):Prop:=
 e=.returned (.tuple #[])∧∃ vs' f',Fil G base m (F.to vs') f' w'∧Tr m F vs' w w'∧Ch.Good g wd (a + 1) 0 f'∧Ch.Inc (f'.S a)∧∀ b,b < a→f'.S b=f.S b
theorem MapS.same {α:Type} [DecidableEq α] {kt:TypeId} {kl:α→Lit} {ok:α→Prop} {w:World} {b:Nat} {l l':List α} (h:MapS kt kl ok w b l) (hl:l.length=l'.length) (hm:∀ x,x ∈ l'↔x ∈ l):MapS kt kl ok w b l':=by
 obtain ⟨D,n,h1,h2,h3⟩:=h
 exact ⟨D,n,h1,by omega,fun x hx=>by rw [h3 x hx];congr 2;exact decide_eq_decide.2 (hm x).symm⟩
theorem Fil.sorted {G:Fg} {base m:Nat} {F:Fl} {f:St} {w w':World} {a:Nat} {l':List Ch.Im} (h:Fil G base m F f w) (ha:a < m) (hp:l'.Perm (f.S a)) (ho:w'.ownsRow base 44 3 (F.vs a) (f.S a).length (imRow l')) (hf:Fr (fun k=>(F.vs a).ownBlock=some k) w w') :
  Fil G base m F ⟨Ch.upd f.S a l',f.E⟩ w'∧Tr m F F.vs w w':=by
 have hr:=h.rows a ha
 obtain ⟨tc,ht,hts,htv⟩:=h.trow
 have va:∀ {k:Nat} {t:TypeId} {cs:Array Value},Bk w k t cs→44≠t→(F.vs a).ownBlock≠some k:=fun hb hne=>hb.row hr hne
 refine ⟨{ h with fb:=h.fb.fr hf (va h.fb (by decide)),hrow:=?_,erow:=?_,trow:=Wv.fr ⟨tc,ht,hts,htv⟩ hf (va ht (by decide)),rows:=?_,hmap:=?_,emap:=fun i hi=>MapS.fr (h.emap i hi) hf (MapS.row (h.emap i hi) hr) },⟨hf.mono fun k _ e=>⟨a,ha,.inr (.inr (.inr e))⟩,fun _ _ _ h=>.inl h⟩⟩
 ·obtain ⟨c,h1,h2⟩:=h.hrow
  exact Wv.fr ⟨c,h1,h2⟩ hf (va h1 (by decide))
 ·obtain ⟨c,h1,h2⟩:=h.erow
  exact Wv.fr ⟨c,h1,h2⟩ hf (va h1 (by decide))
 ·intro i hi
  show World.ownsRow _ base _ 3 (F.vs i) (Ch.upd f.S a l' i).length (imRow (Ch.upd f.S a l' i))
  by_cases e:i=a
  ·subst e;rw [Ch.upd_same,hp.length_eq];exact ho
  ·rw [Ch.upd_other _ _ e]
   exact own_fr (h.rows i hi) hf fun k hk hk2=>h.apart i a hi ha e k hk hk2
 ·intro i hi
  show IMap _ (F.hs i) (Ch.upd f.S a l' i)
  have h1:=MapS.fr (h.hmap i hi) hf (MapS.row (h.hmap i hi) hr)
  by_cases e:i=a
  ·subst e;rw [Ch.upd_same];exact MapS.same h1 hp.length_eq.symm fun x=>hp.mem_iff
  ·rw [Ch.upd_other _ _ e];exact h1
theorem it_in {g:Gr.Gm} {wd:List Int} {b:Nat} {y:Ch.Im} (h:Ch.It g wd b y):imIn g y:=by
 obtain ⟨_,_,p,hp,hd,_⟩:=h.means
 exact ⟨p,hp,hd⟩
theorem fill_any (G:Fg) (ps:List Gr.Pr) (wd:List Int) (base m:Nat) (F:Fl) (f:St) (a:Nat) (w:World) (h:Fil G base m F f w) (hm:m=wd.length + 1) (ha:a < m) (hm2:m≤25) (hlen:G.len=ps.length) (hlw:G.lw=wd.length) (hok:okB ⟨G.t,G.n,G.s,ps⟩=true) (hr:Prs w base G.A ps) (hrw:Rd w base G.Aw (ins wd))
  (hG:Ch.Good ⟨G.t,G.n,G.s,ps⟩ wd a 0 f) (hb:base≤w.heap.size) :
  Calls Tryz.prog 30 #[.pointer (some ⟨F.f,0,none⟩),.int .i64 (a:Int)] w (FillP G ⟨G.t,G.n,G.s,ps⟩ wd base m F f a w):=by
 have HF:=Lib.hid h
 have HG:=Lib.hid hG
 have HOk:Hid (Gr.Ok ⟨G.t,G.n,G.s,ps⟩):=(okB_iff _).1 hok
 have HR:=Lib.hid (fun (vs':Nat→Value) (wx:World) (ht:Tr m F vs' w wx)=>hr.below (ht.under h (Below.refl _ _)))
 have HRw:=Lib.hid (fun (vs':Nat→Value) (wx:World) (ht:Tr m F vs' w wx)=>hrw.below (ht.under h (Below.refl _ _)))
 have HFol:=Lib.hid (fun (vs':Nat→Value) (f':St) (xp xd xf:Nat) (wx:World) (ht:Tr m F vs' w wx) (hf:Fil G base m (F.to vs') f' wx) hS hE hx hxf=>follow_any G ps wd base m (F.to vs') f' a xp xd xf wx hf hm ha (by omega) hlen hlw hok (hr.below (ht.under h (Below.refl _ _))) (hrw.below (ht.under h (Below.refl _ _))) hS hE hx hxf (Nat.le_trans hb ht.fr.size))
 have ha0:(0:Int)≤(a:Int):=by omega
 have ha1:(a:Int) < (m:Int):=by omega
 clear h hG hm hlen hlw hok hr hrw
 go_enter Tryz.func30,Tryz.ntmps30
 go_wp2_with fail
 go_loopw [4] (fun i wr=>∃ (k:Nat) (vs':Nat→Value) (f':St),k≤13500∧i=.int .i64 k∧Hid (Fil G base m (F.to vs') f' wr)∧Hid (Tr m F vs' w wr)∧Hid (Ch.Good ⟨G.t,G.n,G.s,ps⟩ wd a k f')∧Hid (∀ b,b < a→f'.S b=f.S b)) (fun i _=>20000 - (intOf i).toNat)
 case atStart=>exact ⟨0,F.vs,f,Nat.zero_le _,rfl,HF.out,Tr.refl _ _ _,HG.out,fun _ _=>rfl⟩
 case round=>
  obtain ⟨k,vs',f',hk,rfl,HFk,HT,HGk,HB⟩:=hrel
  obtain ⟨Av,cv,hv,hcv⟩:=own_form (HFk.out.rows a ha)
  have f7:wr.cell? ⟨F.f,7,none⟩=some (.slice (some ⟨F.tb,0,none⟩) m m):=HFk.out.fb.cell 7
  have f8:wr.cell? ⟨F.tb,a,none⟩=some (.slice Av (f'.S a).length cv):=by have h:wr.cell? ⟨F.tb,a,none⟩=some (vs' a):=HFk.out.trow.cell ha;have hv:vs' a=_:=hv;rw [hv] at h;exact h
  have hlf:F.f < wr.heap.size:=HFk.out.fb.lt
  have hSm:∀ b,b < m→(f'.S b).length≤13500:=fun b hbm=>by
   have h1:=Ch.few (HGk.out.nodup b) (a:=b) (fun x hx=>(HGk.out.sound b x hx).small HOk.out)
   omega
  have HS:Hid (∀ b,b < m→(f'.S b).length≤100000∧∀ y ∈ f'.S b,imIn ⟨G.t,G.n,G.s,ps⟩ y∧y.frm < m):=fun b hbm=>
   ⟨Nat.le_trans (hSm b hbm) (by omega),fun y hy=>⟨it_in (HGk.out.sound b y hy),by have:=(HGk.out.sound b y hy).means.1;omega⟩⟩
  have HE:Hid ((f'.E a).length≤100000):=by have:=HGk.out.fewE HOk.out;show _≤_;omega
  have hla:=hSm a ha
  clear hSm
  by_cases hlt:k < (f'.S a).length
  ·have hik:(k:Int) < ((f'.S a).length:Int):=by omega
   have hmem:=List.getElem_mem hlt
   have HSt:=Lib.hid (HGk.out.step (List.getElem?_eq_getElem hlt))
   have HIn:=Lib.hid ((HS.out a ha).2 _ hmem)
   have hro:=HFk.out.rows a ha
   rw [hv] at hro
   obtain ⟨b,off,rfl,hbb,c0,c1,c2⟩:=(rd_ownN hro).item hlt
   clear hro hmem hv
   generalize (f'.S a)[k]=y at *
   obtain ⟨yp,yd,yf⟩:=y
   simp only at c0 c1 c2
   have HCall:=Lib.hid (HFol.out vs' f' yp yd yf wr HT.out HFk.out HS.out HE.out HIn.out.1 HIn.out.2)
   go_wp2_with fail
   refine HCall.out.mono ?_
   rintro e w2 ⟨rfl,vs2,hf2,ht2⟩
   have HF2:=Lib.hid hf2
   have HT2:Hid (Tr m F vs2 w w2):=HT.out.trans ht2
   have HB2:Hid (∀ b,b < a→(Ch.followI ⟨G.t,G.n,G.s,ps⟩ wd f' a ⟨yp,yd,yf⟩).S b=f.S b):=fun b hb'=>(Ch.follow_other _ _ _ _ _ hb').trans (HB.out b hb')
   clear hf2 ht2 f7 f8 hlf c0 c1 c2
   go_wp2_with fail
   go_roundw
   case rel=>exact ⟨k + 1,vs2,_,by omega,by go_num,HF2.out,HT2.out,HSt.out,HB2.out⟩
   case measure=>simp [intOf];omega
  ·have hik:¬ (k:Int) < ((f'.S a).length:Int):=by omega
   have HSort:=Lib.hid (sort_any base (vs' a) (f'.S a) wr (HFk.out.rows a ha) (HGk.out.nodup a) (by omega))
   rw [show vs' a=.slice Av (f'.S a).length cv from hv] at HSort
   have hv2:vs' a=.slice Av (f'.S a).length cv:=hv
   have HV:=Lib.hid hv2
   have HDone:=Lib.hid (fun (l:List Ch.Im) (hp:l.Perm (f'.S a))=>HGk.out.done (by omega) hp)
   clear hv hv2
   go_wp2_with fail
   refine HSort.out.mono ?_
   rintro e w2 ⟨rfl,l',hp,hi,ho,hf⟩
   rw [← HV.out] at ho hf
   obtain ⟨hf2,ht2⟩:=HFk.out.sorted ha hp ho hf
   have HRes:Hid (FillP G ⟨G.t,G.n,G.s,ps⟩ wd base m F f a w (.returned (.tuple #[])) w2):=by
    refine ⟨rfl,vs',⟨Ch.upd f'.S a l',f'.E⟩,hf2,HT.out.trans ht2,HDone.out l' hp,?_,fun b hb'=>?_⟩
    ·show Ch.Inc (Ch.upd f'.S a l' a)
     rw [Ch.upd_same];exact hi
    ·show Ch.upd f'.S a l' b=f.S b
     rw [Ch.upd_other _ _ (by omega)];exact HB.out b hb'
   clear ho hf hf2 ht2 f7 f8 hlf
   go_wp2_with fail
   go_end0
   exact HRes.out
end Go.Proofs.YtdfhhbncmdpoeaaGreat
