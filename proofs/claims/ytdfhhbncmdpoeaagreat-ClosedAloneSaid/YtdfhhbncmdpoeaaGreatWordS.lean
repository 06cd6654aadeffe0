/- word.Right, word.Fits: may a word be, and does it fit? -/
import Derived.Test.YtdfhhbncmdpoeaaGreatLIs
import Derived.Test.YtdfhhbncmdpoeaaGreatRefS
import Derived.Test.YtdfhhbncmdpoeaaGreatPlainS
set_option maxRecDepth 100000
set_option maxHeartbeats 1600000
namespace Go.Proofs.YtdfhhbncmdpoeaaGreat
open Go.RowKit
theorem dbelow_any (n m:Int) (w:World):Calls Tryz.prog 83 #[.int .i64 n,.int .i64 m] w fun e w'=>e=.returned (.bool (belowB n m))∧w=w':=by
 by_cases h1:0≤n
 ·by_cases h2:n < m
  ·have HG:Hid (belowB n m=true):=(belowB_iff n m).2 ⟨h1,h2⟩
   go_enter Tryz.func83,Tryz.ntmps83
   go_wp2_with fail
   go_ret
   exact ⟨by rw [HG.out];rfl,rfl⟩
  ·have HG:Hid (belowB n m=false):=belowB_no (by omega)
   go_enter Tryz.func83,Tryz.ntmps83
   go_wp2_with fail
   go_ret
   exact ⟨by rw [HG.out];rfl,rfl⟩
 ·have HG:Hid (belowB n m=false):=belowB_no (by omega)
  go_enter Tryz.func83,Tryz.ntmps83
  go_wp2_with fail
  go_ret
  exact ⟨by rw [HG.out];rfl,rfl⟩
theorem allBelow_any (A:Option Addr) (len cap:Nat) (xs:List Int) (many:Int) (w:World) (B:Nat) (hlen:len=xs.length) (hmax:len≤9223372036854775807) (hr:Rd w B A (ins xs)) :
  Calls Tryz.prog 54 #[.slice A len cap,.int .i64 many] w fun e w'=>e=.returned (.bool (xs.all fun t=>belowB t many))∧w=w':=by
 have HL:=Lib.hid hlen;clear hlen
 have HA:=Lib.hid hr;clear hr
 go_enter Tryz.func54,Tryz.ntmps54
 go_wp2_with fail
 go_loopw [6,9] (fun _ i wr=>∃ k:Nat,k≤len∧i=.int .i64 k∧wr=w∧Hid (∀ x ∈ xs.take k,belowB x many=true)) (fun _ i _=>len - (intOf i).toNat)
 case atStart=>exact ⟨0,Nat.zero_le _,rfl,rfl,by simp [Hid]⟩
 case round=>
  obtain ⟨k,hk,rfl,rfl,HF⟩:=hrel
  by_cases hlt:k < len
  ·have hj:k < xs.length:=by have:=HL.out;omega
   obtain ⟨b,off,rfl,_,hcell⟩:=HA.out.int hj
   have HBad:=Lib.hid (fun h=>all_no (f:=fun t=>belowB t many) hj h)
   have HGood:=Lib.hid (all_snoc (P:=fun t=>belowB t many=true) hj HF.out)
   generalize xs[k]=x at hcell HBad HGood
   clear hj
   cases hx:belowB x many with
   | true=>
    have HX:=Lib.hid hx;clear hx
    go_wp2_with fail
    refine (dbelow_any x many _).mono ?_
    rintro e w' ⟨rfl,rfl⟩
    rw [HX.out]
    go_wp2_with fail
    go_roundw
    case rel=>exact ⟨k + 1,by omega,by go_num,by trivial,HGood.out HX.out⟩
    case measure=>simp [intOf];omega
   | false=>
    have HX:=Lib.hid hx;clear hx
    have HG:=Lib.hid (HBad.out HX.out)
    go_wp2_with fail
    refine (dbelow_any x many _).mono ?_
    rintro e w' ⟨rfl,rfl⟩
    rw [HX.out]
    go_wp2_with fail
    go_ret
    exact ⟨by rw [HG.out];rfl,rfl⟩
  ·go_wp2_with fail
   go_ret
   have hg:(xs.all fun t=>belowB t many)=true:=all_yes (by
    have h:=HF.out
    rw [show k=xs.length by have:=HL.out;omega] at h
    exact h)
   exact ⟨by rw [hg];rfl,rfl⟩
theorem dright_any (A:Option Addr) (len cap:Nat) (xs:List Int) (w:World) (B:Nat) (hlen:len=xs.length) (hmax:len≤9223372036854775807) (hr:Rd w B A (ins xs)) :
  Calls Tryz.prog 53 #[.slice A len cap] w fun e w'=>e=.returned (.bool (Wd.okW xs))∧w=w':=by
 have HL:=Lib.hid hlen;clear hlen
 have HA:=Lib.hid hr;clear hr
 by_cases h24:len≤24
 ·have HG:Hid (Wd.okW xs=xs.all fun t=>belowB t 16):=okW_all (by have:=HL.out;omega)
  go_enter Tryz.func53,Tryz.ntmps53
  go_wp2_with fail
  refine (allBelow_any A len cap xs 16 _ B HL.out hmax HA.out).mono ?_
  rintro e w' ⟨rfl,rfl⟩
  go_wp2_with fail
  go_ret
  exact ⟨by rw [HG.out];rfl,rfl⟩
 ·have HG:Hid (Wd.okW xs=false):=Wd.okW_long (by have:=HL.out;omega)
  go_enter Tryz.func53,Tryz.ntmps53
  go_wp2_with fail
  go_ret
  exact ⟨by rw [HG.out];rfl,rfl⟩
theorem dfits_any (t n s:Int) (Ag:Option Addr) (lg cg:Nat) (A:Option Addr) (len cap:Nat) (xs:List Int) (w:World) (B:Nat) (hlen:len=xs.length) (hmax:len≤9223372036854775807) (hr:Rd w B A (ins xs)) (hB:B≤w.heap.size) :
  Calls Tryz.prog 28 #[.agg #[.int .i64 t,.int .i64 n,.int .i64 s,.slice Ag lg cg],.slice A len cap] w fun e w'=>e=.returned (.bool (Wd.fits t xs))∧Bl w w':=by
 have HL:=Lib.hid hlen;clear hlen
 have HA:=Lib.hid (hr.alloc hB (.cells #[.int .i64 t,.int .i64 n,.int .i64 s,.slice Ag lg cg] 24));clear hr
 have HB0:Hid (Bl w (w.alloc (.cells #[.int .i64 t,.int .i64 n,.int .i64 s,.slice Ag lg cg] 24))):=(Bl.refl w).alloc _
 cases ho:Wd.okW xs with
 | true=>
  have HO:=Lib.hid ho
  have HG:Hid (Wd.fits t xs=xs.all fun x=>belowB x t):=fits_all ho
  clear ho
  go_enter Tryz.func28,Tryz.ntmps28
  go_wp2_with fail
  refine (dright_any A len cap xs _ B HL.out hmax HA.out).mono ?_
  rintro e w' ⟨rfl,rfl⟩
  rw [HO.out]
  go_wp2_with fail
  refine (allBelow_any A len cap xs t _ B HL.out hmax HA.out).mono ?_
  rintro e w' ⟨rfl,rfl⟩
  go_wp2_with fail
  go_ret
  exact ⟨by rw [HG.out];rfl,HB0.out⟩
 | false=>
  have HO:=Lib.hid ho
  have HG:Hid (Wd.fits t xs=false):=fits_no ho
  clear ho
  go_enter Tryz.func28,Tryz.ntmps28
  go_wp2_with fail
  refine (dright_any A len cap xs _ B HL.out hmax HA.out).mono ?_
  rintro e w' ⟨rfl,rfl⟩
  rw [HO.out]
  go_wp2_with fail
  go_ret
  exact ⟨by rw [HG.out];rfl,HB0.out⟩
end Go.Proofs.YtdfhhbncmdpoeaaGreat
namespace Go.Proofs.YtdfhhbncmdpoeaaGreat
open Go.RowKit
theorem rdright_any (A:Option Addr) (len cap:Nat) (xs:List Int) (w:World) (B:Nat) (hlen:len=xs.length) (hmax:len≤9223372036854775807) (hr:Rd w B A (ins xs)) :
  Calls Tryz.prog 34 #[.slice A len cap] w fun e w'=>e=.returned (.bool (Wd.okW xs))∧w=w':=by
 have HL:=Lib.hid hlen;clear hlen
 have HA:=Lib.hid hr;clear hr
 by_cases h24:24 < len
 ·have HG:Hid (Wd.okW xs=false):=Wd.okW_long (by have:=HL.out;omega)
  go_enter Tryz.func34,Tryz.ntmps34
  go_wp2_with fail
  go_ret
  exact ⟨by rw [HG.out];rfl,rfl⟩
 ·go_enter Tryz.func34,Tryz.ntmps34
  go_wp2_with fail
  go_loopw [3] (fun i wr=>∃ k:Nat,k≤len∧i=.int .i64 k∧wr=w∧Hid (∀ x ∈ xs.take k,Wd.okT x=true)) (fun i _=>len - (intOf i).toNat)
  case atStart=>exact ⟨0,Nat.zero_le _,rfl,rfl,by simp [Hid]⟩
  case round=>
   obtain ⟨k,hk,rfl,rfl,HF⟩:=hrel
   by_cases hlt:k < len
   ·have hj:k < xs.length:=by have:=HL.out;omega
    obtain ⟨b,off,rfl,_,hcell⟩:=HA.out.int hj
    have HBad:=Lib.hid (fun h=>Wd.okW_one hj h)
    have HGood:=Lib.hid (all_snoc (P:=fun t=>Wd.okT t=true) hj HF.out)
    generalize xs[k]=x at hcell HBad HGood
    clear hj
    by_cases h1:x < 0
    ·have HG:=Lib.hid (HBad.out (by rw [okT_below];exact belowB_no (.inl h1)))
     go_wp2_with fail
     go_ret
     exact ⟨by rw [HG.out];rfl,rfl⟩
    by_cases h2:15 < x
    ·have HG:=Lib.hid (HBad.out (by rw [okT_below];exact belowB_no (.inr (by omega))))
     go_wp2_with fail
     go_ret
     exact ⟨by rw [HG.out];rfl,rfl⟩
    have HX:=Lib.hid (HGood.out ((Wd.okT_iff x).2 ⟨by omega,by omega⟩))
    go_wp2_with fail
    go_roundw
    case rel=>exact ⟨k + 1,by omega,by go_num,by trivial,HX.out⟩
    case measure=>simp [intOf];omega
   ·go_wp2_with fail
    go_ret
    have hg:Wd.okW xs=true:=Wd.okW_of (by have:=HL.out;omega) (by
     have h:=HF.out
     rw [List.take_of_length_le (by have:=HL.out;omega)] at h
     exact h)
    exact ⟨by rw [hg];rfl,rfl⟩
theorem rdfits_any (t n s:Int) (Ag:Option Addr) (lg cg:Nat) (A:Option Addr) (len cap:Nat) (xs:List Int) (w:World) (B:Nat) (hlen:len=xs.length) (hmax:len≤9223372036854775807) (hr:Rd w B A (ins xs)) (hB:B≤w.heap.size) :
  Calls Tryz.prog 16 #[.agg #[.int .i64 t,.int .i64 n,.int .i64 s,.slice Ag lg cg],.slice A len cap] w fun e w'=>e=.returned (.bool (Wd.fits t xs))∧Bl w w':=by
 have HL:=Lib.hid hlen;clear hlen
 have HA:=Lib.hid (hr.alloc hB (.cells #[.int .i64 t,.int .i64 n,.int .i64 s,.slice Ag lg cg] 24));clear hr
 have HB0:Hid (Bl w (w.alloc (.cells #[.int .i64 t,.int .i64 n,.int .i64 s,.slice Ag lg cg] 24))):=(Bl.refl w).alloc _
 have HK0:=Lib.hid (Bk.new w 24 #[.int .i64 t,.int .i64 n,.int .i64 s,.slice Ag lg cg])
 cases ho:Wd.okW xs with
 | true=>
  have HO:=Lib.hid ho
  have HG:Hid (Wd.fits t xs=xs.all fun x=>belowB x t):=fits_all ho
  have HN:Hid (∀ x ∈ xs,0≤x):=fun x hx=>(((Wd.okW_iff xs).1 ho).2 x hx).1
  clear ho
  go_enter Tryz.func16,Tryz.ntmps16
  go_wp2_with fail
  refine (rdright_any A len cap xs _ B HL.out hmax HA.out).mono ?_
  rintro e w' ⟨rfl,rfl⟩
  rw [HO.out]
  go_wp2_with fail
  generalize hw0:w.alloc (.cells #[.int .i64 t,.int .i64 n,.int .i64 s,.slice Ag lg cg] 24)=w0 at HB0 HK0 HA ⊢
  have HW0:=Lib.hid hw0;clear hw0
  go_loopw [5] (fun i wr=>∃ (k q:Nat),k≤len∧i=.int .i64 k∧wr=w0.drewN q∧Hid (∀ x ∈ xs.take k,belowB x t=true)) (fun i _=>len - (intOf i).toNat)
  case atStart=>exact ⟨0,0,Nat.zero_le _,rfl,rfl,by simp [Hid]⟩
  case round=>
   obtain ⟨k,q,hk,rfl,rfl,HF⟩:=hrel
   have k0:w0.cell? ⟨w.heap.size,0,none⟩=some (.int .i64 t):=HK0.out.cell 0
   by_cases hlt:k < len
   ·have hj:k < xs.length:=by have:=HL.out;omega
    obtain ⟨b,off,rfl,_,hcell⟩:=HA.out.int hj
    have HBad:=Lib.hid (fun h=>all_no (f:=fun x=>belowB x t) hj h)
    have HGood:=Lib.hid (all_snoc (P:=fun x=>belowB x t=true) hj HF.out)
    have hx0:=HN.out _ (List.getElem_mem hj)
    generalize xs[k]=x at hcell HBad HGood hx0
    clear hj
    by_cases h1:t≤x
    ·have HG':=Lib.hid (HBad.out (belowB_no (.inr h1)))
     go_wp2
     go_quiet (fail)
     go_wp2
     go_ret
     exact ⟨by rw [HG.out,HG'.out];rfl,((HB0.out.drewN _).drewN _)⟩
    ·have HX:=Lib.hid (HGood.out ((belowB_iff x t).2 ⟨hx0,by omega⟩))
     go_wp2
     go_quiet (fail)
     go_wp2
     go_roundw
     case rel=>exact ⟨k + 1,_,by omega,by go_num,by trivial,HX.out⟩
     case measure=>simp [intOf];omega
   ·go_wp2
    go_ret
    have hg:(xs.all fun x=>belowB x t)=true:=all_yes (by
     have h:=HF.out
     rw [show k=xs.length by have:=HL.out;omega] at h
     exact h)
    exact ⟨by rw [HG.out,hg];rfl,(HB0.out.drewN _)⟩
 | false=>
  have HO:=Lib.hid ho
  have HG:Hid (Wd.fits t xs=false):=fits_no ho
  clear ho
  go_enter Tryz.func16,Tryz.ntmps16
  go_wp2_with fail
  refine (rdright_any A len cap xs _ B HL.out hmax HA.out).mono ?_
  rintro e w' ⟨rfl,rfl⟩
  rw [HO.out]
  go_wp2_with fail
  go_ret
  exact ⟨by rw [HG.out];rfl,HB0.out⟩
end Go.Proofs.YtdfhhbncmdpoeaaGreat
namespace Go.Proofs.YtdfhhbncmdpoeaaGreat
open Go.RowKit
def fitB (g:Gr.Gm) (xs:List Int):Bool:=decide ((chkOf g).2=0) && Wd.fits g.terms xs
theorem fitB_iff {g:Gr.Gm} {xs:List Int}:fitB g xs=true↔(chkOf g).2=0∧Wd.fits g.terms xs=true:=by
 unfold fitB
 rw [Bool.and_eq_true,decide_eq_true_eq]
theorem fit_good {g:Gr.Gm} {xs:List Int} (h:fitB g xs=true):Gr.Ok g∧Wi.Lives g∧xs.length≤24:=by
 obtain ⟨h1,h2⟩:=fitB_iff.mp h
 cases ho:okB g with
 | false=>rw [chkOf_no ho] at h1;cases h1
 | true=>
  rw [chkOf_ok ho] at h1
  have hok:=(okB_iff g).1 ho
  have hs:=Sd.sound_iff.1 h1
  refine ⟨hok,fun n h0 hn=>?_,?_⟩
  ·have h3:=hs.lives hok (n:=n.toNat) (by omega)
   rwa [Int.toNat_of_nonneg h0] at h3
  ·exact ((Wd.okW_iff xs).1 ((Wd.fits_iff _ _).1 h2).1).1
theorem rfit_any (t n s:Int) (A:Option Addr) (len c:Nat) (ps:List Gr.Pr) (Aw:Option Addr) (lw cw:Nat) (xs:List Int) (w:World) (B:Nat) (hlen:len=ps.length) (hmax:len≤9223372036854775807) (hr:Prs w B A ps) (hlw:lw=xs.length) (hmw:lw≤9223372036854775807) (hrw:Rd w B Aw (ins xs)) (hB:B≤w.heap.size) :
  Calls Tryz.prog 7 #[.agg #[.int .i64 t,.int .i64 n,.int .i64 s,.slice A len c],.slice Aw lw cw] w fun e w'=>e=.returned (.bool (fitB ⟨t,n,s,ps⟩ xs))∧Bl w w':=by
 have HB0:Hid (Bl w (w.alloc (.cells #[.int .i64 t,.int .i64 n,.int .i64 s,.slice A len c] 24))):=(Bl.refl w).alloc _
 have HCh:=Lib.hid (fun (wx:World) (hb:Bl w wx)=>rcheck_any t n s A len c ps wx B hlen hmax (hr.bl hB hb) (Nat.le_trans hB hb.size))
 have HFt:=Lib.hid (fun (wx:World) (hb:Bl w wx)=>rdfits_any t n s A len c Aw lw cw xs wx B hlw hmw (hrw.bl hB hb) (Nat.le_trans hB hb.size))
 have HF:Hid (fitB ⟨t,n,s,ps⟩ xs=(decide ((chkOf ⟨t,n,s,ps⟩).2=0) && Wd.fits t xs)):=rfl
 have HK0:=Lib.hid (Bk.new w 24 #[.int .i64 t,.int .i64 n,.int .i64 s,.slice A len c])
 clear hr hrw hlen hlw
 generalize chkOf ⟨t,n,s,ps⟩=ch at HCh HF
 obtain ⟨c1,c2⟩:=ch
 generalize Wd.fits t xs=ft at HFt HF
 simp only at HCh HF
 by_cases h0:c2=0
 ·subst h0
  go_enter Tryz.func7,Tryz.ntmps7
  go_wp2_with fail
  refine (HCh.out _ HB0.out).mono ?_
  rintro e w1 ⟨rfl,hb1⟩
  have HB1:=Lib.hid (HB0.out.trans hb1)
  have HK1:=Lib.hid (HK0.out.bl hb1)
  have k0:w1.cell? ⟨w.heap.size,0,none⟩=some (.int .i64 t):=HK1.out.cell 0
  have k1:w1.cell? ⟨w.heap.size,1,none⟩=some (.int .i64 n):=HK1.out.cell 1
  have k2:w1.cell? ⟨w.heap.size,2,none⟩=some (.int .i64 s):=HK1.out.cell 2
  have k3:w1.cell? ⟨w.heap.size,3,none⟩=some (.slice A len c):=HK1.out.cell 3
  have kl:=HK1.out.lt
  clear hb1
  go_wp2_with fail
  refine (HFt.out _ HB1.out).mono ?_
  rintro e w2 ⟨rfl,hb2⟩
  have HB2:=Lib.hid (HB1.out.trans hb2)
  clear hb2
  go_wp2_with fail
  go_ret
  exact ⟨by rw [HF.out];simp,HB2.out⟩
 ·have hq:((c2:Int) == 0)=false:=by rw [beq_eq_false_iff_ne];omega
  have HQ:Hid (fitB ⟨t,n,s,ps⟩ xs=false):=by rw [HF.out,decide_eq_false h0];rfl
  clear h0
  go_enter Tryz.func7,Tryz.ntmps7
  go_wp2_with fail
  refine (HCh.out _ HB0.out).mono ?_
  rintro e w1 ⟨rfl,hb1⟩
  have HB1:=Lib.hid (HB0.out.trans hb1)
  clear hb1
  go_wp2_with fail
  go_ret
  exact ⟨by rw [HQ.out];rfl,HB1.out⟩
end Go.Proofs.YtdfhhbncmdpoeaaGreat
