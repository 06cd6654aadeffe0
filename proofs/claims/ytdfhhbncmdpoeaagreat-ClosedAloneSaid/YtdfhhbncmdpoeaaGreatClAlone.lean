/- The closed laws' large: are sets more than are looked at? -/
import Derived.Test.YtdfhhbncmdpoeaaGreatClKeep
import Derived.Test.YtdfhhbncmdpoeaaGreatClOnly
import Derived.Test.YtdfhhbncmdpoeaaGreatClAwk
import Derived.Test.YtdfhhbncmdpoeaaGreatLdC
import Derived.Test.YtdfhhbncmdpoeaaGreatWordS
import Derived.Test.YtdfhhbncmdpoeaaGreatTRep
import Derived.Test.YtdfhhbncmdpoeaaGreatGRS
import Derived.Test.YtdfhhbncmdpoeaaGreatClAns
import Derived.Deep.RegionWith
set_option maxRecDepth 100000
set_option maxHeartbeats 16000000
namespace Go.Proofs.YtdfhhbncmdpoeaaGreat
open Go.RowKit
def lgS (L:List (List Ix)):Bool:=decide (30 < L.length) || L.any fun l=>decide (200 < l.length)
theorem lgS_no {L:List (List Ix)} (h:lgS L=false):L.length≤30∧∀ l ∈ L,l.length≤200:=by
 unfold lgS at h
 rw [Bool.or_eq_false_iff,decide_eq_false_iff_not,List.any_eq_false] at h
 refine ⟨by omega,fun l hl=>?_⟩
 have h2:=h.2 l hl
 rw [decide_eq_true_eq] at h2
 omega
theorem large19_any (As:Option Addr) (ls cs:Nat) (L:List (List Ix)) (w:World) (B:Nat) (hls:ls=L.length) (hmax:ls≤9223372036854775807) (hs:SetsX w B As L) (hB:B≤w.heap.size) :
  Calls Tryz.prog 6 #[.slice As ls cs] w fun e w'=>e=.returned (.bool (lgS L))∧Bl w w':=by
 have HL:=Lib.hid hls
 have HS:=Lib.hid hs
 clear hls hs
 by_cases h30:30 < ls
 ·have d1:decide ((30:Int) < (ls:Int))=true:=decide_eq_true (by omega)
  have HX:Hid (lgS L=true):=by
   have h:=HL.out
   show lgS L=true
   unfold lgS
   rw [decide_eq_true (by omega)];rfl
  clear h30
  go_enter Tryz.func6,Tryz.ntmps6
  go_wp2_with fail
  go_ret
  exact ⟨by rw [HX.out];rfl,Bl.refl _⟩
 ·have d1:decide ((30:Int) < (ls:Int))=false:=decide_eq_false (by omega)
  have HS3:=Lib.hid h30
  clear h30
  go_enter Tryz.func6,Tryz.ntmps6
  go_wp2_with fail
  clear d1
  go_loopw [10] (fun i wr=>∃ k:Nat,k≤ls∧i=.int .i64 (k:Int)∧Hid (Bl w wr)∧Hid (∀ l ∈ L.take k,l.length≤200)) (fun i _=>ls - (intOf i).toNat)
  case atStart=>exact ⟨0,Nat.zero_le _,rfl,Bl.refl _,fun l hl=>by simp at hl⟩
  case round=>
   obtain ⟨k,hk,rfl,HBr,HT⟩:=hrel
   by_cases hlt:k < ls
   ·have hj:k < L.length:=by have:=HL.out;omega
    obtain ⟨b,off,Ai,ci,rfl,hb,hc,_⟩:=(HS.out.bl hB HBr.out).at_ hj
    have hbl:b < wr.heap.size:=Nat.lt_of_lt_of_le hb (Nat.le_trans hB HBr.out.size)
    have HM:Hid (L[k] ∈ L):=List.getElem_mem hj
    have HTk:Hid (L.take (k + 1)=L.take k ++ [L[k]]):=take_snoc hj
    generalize L[k]=l at *
    clear hj
    generalize hll:l.length=m at *
    have HLm:=Lib.hid hll
    clear hll
    have j0:(0:Int)≤(k:Int):=by omega
    have j1:(k:Int) < (ls:Int):=by omega
    by_cases hm:200 < m
    ·have d2:decide ((200:Int) < (m:Int))=true:=decide_eq_true (by omega)
     have HX:Hid (lgS L=true):=by
      have h:=HLm.out
      show lgS L=true
      unfold lgS
      rw [Bool.or_eq_true,List.any_eq_true]
      exact .inr ⟨l,HM.out,decide_eq_true (by omega)⟩
     clear hm
     go_wp2_with fail
     go_ret
     exact ⟨by rw [HX.out];rfl,HBr.out⟩
    ·have d2:decide ((200:Int) < (m:Int))=false:=decide_eq_false (by omega)
     have HX:Hid (∀ l ∈ L.take (k + 1),l.length≤200):=fun l2 h2=>by
      rw [HTk.out,List.mem_append,List.mem_singleton] at h2
      rcases h2 with h2 | rfl
      ·exact HT.out l2 h2
      ·have:=HLm.out;omega
     clear hm
     go_wp2_with fail
     go_roundw
     case rel=>exact ⟨k + 1,by omega,by go_num,HBr.out,HX.out⟩
     case measure=>simp [intOf];omega
   ·go_wp2_with fail
    go_ret
    have HX:Hid (lgS L=false):=by
     have h:=HT.out
     have h2:=HL.out
     have h3:=HS3.out
     rw [List.take_of_length_le (by omega)] at h
     show lgS L=false
     unfold lgS
     rw [Bool.or_eq_false_iff,decide_eq_false_iff_not,List.any_eq_false]
     refine ⟨by omega,fun l hl=>?_⟩
     have:=h l hl
     rw [decide_eq_true_eq]
     omega
    exact ⟨by rw [HX.out];rfl,HBr.out⟩
end Go.Proofs.YtdfhhbncmdpoeaaGreat
namespace Go.Proofs.YtdfhhbncmdpoeaaGreat
open Go.RowKit
theorem calo_max {w:World} {base size n:Nat} {e:TypeId} {v:Value} {xs:List Value} (h:w.ownsRow base e size v n xs):n≤9223372036854775807:=by
 rcases h.2 with ⟨_,h0⟩ | ⟨_,_,_,_,_,_,h2,h1,_⟩
 ·rw [h0];exact Nat.zero_le _
 ·have h3:=Nat.le_trans h2 h1
  simp only [maxLen] at h3
  omega
theorem alone_says {g:Gr.Gm} {xs l os:List Int} {L:List (List Ix)} (hf:fitB g xs=true) (h:AloneP g xs L l) :
  ((Dv.replayOf (okB g) g os).2=0→(Dv.replayOf (okB g) g os).1=xs→os=l)∧((leadOf g xs 0).2=0→(leadOf g xs 0).1=l)∧((leadOf g xs 1).2=0→(leadOf g xs 1).1=l):=
 ⟨fun h1 h2=>alone_only h (by rw [← h1,← h2]),fun h1=>alone_only h (lead_told hf (by decide) h1),fun h1=>alone_only h (lead_told hf (by decide) h1)⟩
theorem closedAlone_any (t n s:Int) (A:Option Addr) (len c:Nat) (ps:List Gr.Pr) (Aw:Option Addr) (lw cw:Nat) (xs:List Int) (As:Option Addr) (ls cs:Nat) (L:List (List Ix)) (Al:Option Addr) (ll cl:Nat) (l:List Int) (Ao:Option Addr) (lo co:Nat) (os:List Int) (W:World) (hlen:len=ps.length) (hmax:len≤9223372036854775807) (hr:PrsC W W.heap.size A ps)
  (hlw:lw=xs.length) (hcw:lw≤cw) (hrw:Rd W W.heap.size Aw (ins xs)) (hmw:lw≤9223372036854775807) (hls:ls=L.length) (hms:ls≤9223372036854775807) (hs:SetsX W W.heap.size As L) (hll:ll=l.length) (hrl:Rd W W.heap.size Al (ins l)) (hml:ll≤9223372036854775807) (hlo:lo=os.length) (hro:Rd W W.heap.size Ao (ins os)) (hmo:lo≤9223372036854775807) :
  Calls Tryz.prog 3 #[.agg #[.int .i64 t,.int .i64 n,.int .i64 s,.slice A len c],.slice Aw lw cw,.slice As ls cs,.slice Al ll cl,.slice Ao lo co] W fun e w'=>e=.returned (.bool true)∧Bl W w':=by
 have HB0:Hid (Bl W (W.alloc (.cells #[.int .i64 t,.int .i64 n,.int .i64 s,.slice A len c] 24))):=(Bl.refl W).alloc _
 have HK0:=Lib.hid (Bk.new W 24 #[.int .i64 t,.int .i64 n,.int .i64 s,.slice A len c])
 have HL:=Lib.hid hlen
 have HLw:=Lib.hid hlw
 have HLs:=Lib.hid hls
 have HLl:=Lib.hid hll
 have HLo:=Lib.hid hlo
 have HPc:Hid (∀ w',Bl W w'→PrsC w' w'.heap.size A ps):=fun _ hb=>lprs_on hr hb
 have HXc:Hid (∀ w',Bl W w'→Rd w' w'.heap.size Aw (ins xs)):=fun _ hb=>lrd_on hrw hb
 have HLc:Hid (∀ w',Bl W w'→Rd w' w'.heap.size Al (ins l)):=fun _ hb=>lrd_on hrl hb
 have HOc:Hid (∀ w',Bl W w'→Rd w' w'.heap.size Ao (ins os)):=fun _ hb=>lrd_on hro hb
 have HSc:Hid (∀ w',Bl W w'→SetsX w' w'.heap.size As L):=fun _ hb=>hs.on hb
 clear hlen hlw hls hll hlo hr hrw hs hrl hro
 go_enter Tryz.func3,Tryz.ntmps3
 go_wp2_with fail
 refine (awake19_any _).mono ?_
 rintro e w1 ⟨rfl,hb1⟩
 have HB1:=Lib.hid (HB0.out.trans hb1)
 have HK1:=Lib.hid (HK0.out.bl hb1)
 clear hb1 HB0 HK0
 have k0:w1.cell? ⟨W.heap.size,0,none⟩=some (.int .i64 t):=HK1.out.cell 0
 have k1:w1.cell? ⟨W.heap.size,1,none⟩=some (.int .i64 n):=HK1.out.cell 1
 have k2:w1.cell? ⟨W.heap.size,2,none⟩=some (.int .i64 s):=HK1.out.cell 2
 have k3:w1.cell? ⟨W.heap.size,3,none⟩=some (.slice A len c):=HK1.out.cell 3
 have kl:=HK1.out.lt
 go_wp2_with fail
 refine (large17_any t n s A len c ps Aw lw cw w1 w1.heap.size HL.out hmax (by omega) (HPc.out w1 HB1.out).prs (Nat.le_refl _)).mono ?_
 rintro e w2 ⟨rfl,hb2⟩
 have HB2:=Lib.hid (HB1.out.trans hb2)
 have HK2:=Lib.hid (HK1.out.bl hb2)
 clear hb2 HB1 HK1 k0 k1 k2 k3 kl
 cases hl:lg17 ps lw with
 | true=>
  go_wp2_with fail
  go_ret
  exact ⟨rfl,HB2.out⟩
 | false=>
 have hl17:ps.length≤20∧(lw≤24→lw≤8):=by
  unfold lg17 at hl
  rw [Bool.or_eq_false_iff,Bool.or_eq_false_iff,Bool.or_eq_false_iff,decide_eq_false_iff_not,decide_eq_false_iff_not,Bool.and_eq_false_iff,decide_eq_false_iff_not,decide_eq_false_iff_not] at hl
  omega
 have HLg:=Lib.hid hl17
 clear hl hl17
 go_wp2_with fail
 refine (large19_any As ls cs L w2 w2.heap.size HLs.out hms (HSc.out w2 HB2.out) (Nat.le_refl _)).mono ?_
 rintro e w3 ⟨rfl,hb3⟩
 have HB3:=Lib.hid (HB2.out.trans hb3)
 have HK3:=Lib.hid (HK2.out.bl hb3)
 clear hb3 HB2 HK2
 cases hg:lgS L with
 | true=>
  clear hg
  go_wp2_with fail
  go_ret
  exact ⟨rfl,HB3.out⟩
 | false=>
 have HLS:=Lib.hid (lgS_no hg)
 clear hg
 have k0:w3.cell? ⟨W.heap.size,0,none⟩=some (.int .i64 t):=HK3.out.cell 0
 have k1:w3.cell? ⟨W.heap.size,1,none⟩=some (.int .i64 n):=HK3.out.cell 1
 have k2:w3.cell? ⟨W.heap.size,2,none⟩=some (.int .i64 s):=HK3.out.cell 2
 have k3:w3.cell? ⟨W.heap.size,3,none⟩=some (.slice A len c):=HK3.out.cell 3
 have kl:=HK3.out.lt
 go_wp2_with fail
 refine (rfit_any t n s A len c ps Aw lw cw xs w3 w3.heap.size HL.out hmax (HPc.out w3 HB3.out).prs HLw.out hmw (HXc.out w3 HB3.out) (Nat.le_refl _)).mono ?_
 rintro e w4 ⟨rfl,hb4⟩
 have HB4:=Lib.hid (HB3.out.trans hb4)
 have HK4:=Lib.hid (HK3.out.bl hb4)
 clear hb4 HB3 HK3 k0 k1 k2 k3 kl
 cases hf:fitB ⟨t,n,s,ps⟩ xs with
 | false=>
  clear hf
  go_wp2_with fail
  go_ret
  exact ⟨rfl,HB4.out⟩
 | true=>
 by_cases h8:100 < ll
 ·have d8:decide ((100:Int) < (ll:Int))=true:=decide_eq_true (by omega)
  clear h8 hf
  go_wp2_with fail
  go_ret
  exact ⟨rfl,HB4.out⟩
 have d8:decide ((100:Int) < (ll:Int))=false:=decide_eq_false (by omega)
 by_cases h9:100 < lo
 ·have d9:decide ((100:Int) < (lo:Int))=true:=decide_eq_true (by omega)
  clear h9 h8 hf
  go_wp2_with fail
  go_ret
  exact ⟨rfl,HB4.out⟩
 have d9:decide ((100:Int) < (lo:Int))=false:=decide_eq_false (by omega)
 have hl8:lw≤8:=HLg.out.2 (by have h:=(fit_good hf).2.2;have:=HLw.out;omega)
 have HF:=Lib.hid hf
 have hls9:L.length≤100:=by have:=HLS.out.1;omega
 have HM:Hid (∀ l ∈ L,l.length≤2000):=fun l hl=>by have:=HLS.out.2 l hl;omega
 clear hf
 have k0:w4.cell? ⟨W.heap.size,0,none⟩=some (.int .i64 t):=HK4.out.cell 0
 have k1:w4.cell? ⟨W.heap.size,1,none⟩=some (.int .i64 n):=HK4.out.cell 1
 have k2:w4.cell? ⟨W.heap.size,2,none⟩=some (.int .i64 s):=HK4.out.cell 2
 have k3:w4.cell? ⟨W.heap.size,3,none⟩=some (.slice A len c):=HK4.out.cell 3
 have kl:=HK4.out.lt
 have HLd:Hid (∀ (k:Nat) (wx:World),k≤2→Bl W wx→Calls Tryz.prog 8 #[.agg #[.int .i64 t,.int .i64 n,.int .i64 s,.slice A len c],.slice Aw lw cw,.int .i64 (k:Int)] wx (LPost (leadOf ⟨t,n,s,ps⟩ xs k) wx)):=fun k wx hk hb=>by
  have h:=lead_any t n s A len c ps Aw lw cw xs (k:Int) wx wx.heap.size HL.out hmax (HPc.out wx hb) HLw.out (by omega) hcw (HXc.out wx hb) (Nat.le_refl _)
  rwa [leadsOf_yes hk HF.out] at h
 have HL0:=Lib.hid (HLd.out 0 w4 (by omega) HB4.out)
 have HL1:Hid (∀ wx,Bl W wx→Calls Tryz.prog 8 #[.agg #[.int .i64 t,.int .i64 n,.int .i64 s,.slice A len c],.slice Aw lw cw,.int .i64 1] wx (LPost (leadOf ⟨t,n,s,ps⟩ xs 1) wx)):=fun wx hb=>HLd.out 1 wx (by omega) hb
 have HRp:Hid (∀ wx,Bl W wx→Calls Tryz.prog 10 #[.agg #[.int .i64 t,.int .i64 n,.int .i64 s,.slice A len c],.slice Ao lo co] wx (TWPost (Dv.replayOf (okB ⟨t,n,s,ps⟩) ⟨t,n,s,ps⟩ os) wx)):=fun wx hb=>treplay_any t n s A len c ps Ao lo co os wx wx.heap.size HL.out hmax (HPc.out wx hb).prs (Nat.le_refl _) HLo.out (by omega) (HOc.out wx hb)
 have HSay:=Lib.hid (fun h=>alone_says (g:=⟨t,n,s,ps⟩) (xs:=xs) (l:=l) (os:=os) (L:=L) HF.out h)
 have HSm:=Lib.hid (fun (M:List (List Ch.Im)) hI h0 h1=>alone_same (g:=⟨t,n,s,ps⟩) (u:=xs) (M:=M) HF.out hI h0 h1)
 have hn0:=leadOf_len ⟨t,n,s,ps⟩ xs 0
 have hn1:=leadOf_len ⟨t,n,s,ps⟩ xs 1
 clear HLd
 generalize leadOf ⟨t,n,s,ps⟩ xs 0=x at *
 generalize leadOf ⟨t,n,s,ps⟩ xs 1=y at *
 generalize Dv.replayOf (okB ⟨t,n,s,ps⟩) ⟨t,n,s,ps⟩ os=z at *
 obtain ⟨la,ea⟩:=x
 obtain ⟨lb,eb⟩:=y
 obtain ⟨lv,ev⟩:=z
 replace hn0:la.length≤2000:=hn0
 replace hn1:lb.length≤2000:=hn1
 have HSay:Hid (AloneP ⟨t,n,s,ps⟩ xs L l→(ev=0→lv=xs→os=l)∧(ea=0→la=l)∧(eb=0→lb=l)):=HSay.out
 have HSm:Hid (∀ M,Ch.IsSets ⟨t,n,s,ps⟩ xs M→ea=0→eb=0→(AloneP ⟨t,n,s,ps⟩ xs (ixs M) la↔la=lb)):=HSm.out
 go_wp2_with fail
 refine HL0.out.mono ?_
 rintro e w5 ⟨A4,c4,rfl,hc4,hr4,hb5⟩
 have HR4:=Lib.hid hr4
 have HB5:=Lib.hid (HB4.out.trans hb5)
 have HK5:=Lib.hid (HK4.out.bl hb5)
 clear hr4 hb5 k0 k1 k2 k3 kl HL0 HB4 HK4 d8 d9
 have k0:w5.cell? ⟨W.heap.size,0,none⟩=some (.int .i64 t):=HK5.out.cell 0
 have k1:w5.cell? ⟨W.heap.size,1,none⟩=some (.int .i64 n):=HK5.out.cell 1
 have k2:w5.cell? ⟨W.heap.size,2,none⟩=some (.int .i64 s):=HK5.out.cell 2
 have k3:w5.cell? ⟨W.heap.size,3,none⟩=some (.slice A len c):=HK5.out.cell 3
 have kl:=HK5.out.lt
 go_wp2_with fail
 refine (HL1.out _ HB5.out).mono ?_
 rintro e w6 ⟨A5,c5,rfl,hc5,hr5,hb6⟩
 have HRa:Hid (∀ wx,Bl w6 wx→Rd wx wx.heap.size A4 (ins la)):=fun wx hb=>lrd_on (lrd_on HR4.out hb6) hb
 have HRb:Hid (∀ wx,Bl w6 wx→Rd wx wx.heap.size A5 (ins lb)):=fun wx hb=>lrd_on hr5 hb
 have HB6:=Lib.hid (HB5.out.trans hb6)
 have HK6:=Lib.hid (HK5.out.bl hb6)
 clear hr5 hb6 k0 k1 k2 k3 kl HL1 HR4 HB5 HK5
 have k0:w6.cell? ⟨W.heap.size,0,none⟩=some (.int .i64 t):=HK6.out.cell 0
 have k1:w6.cell? ⟨W.heap.size,1,none⟩=some (.int .i64 n):=HK6.out.cell 1
 have k2:w6.cell? ⟨W.heap.size,2,none⟩=some (.int .i64 s):=HK6.out.cell 2
 have k3:w6.cell? ⟨W.heap.size,3,none⟩=some (.slice A len c):=HK6.out.cell 3
 have kl:=HK6.out.lt
 go_wp2_with fail
 refine (alone_any t n s A len c ps Aw lw cw xs As ls cs L Al ll cl l w6 w6.heap.size HL.out hmax (HPc.out w6 HB6.out) HLw.out hcw (HXc.out w6 HB6.out) HLs.out hls9 HM.out (HSc.out w6 HB6.out) HLl.out (by omega) (HLc.out w6 HB6.out) (Nat.le_refl _) (by omega)).mono ?_
 rintro e w7 ⟨b7,rfl,hi7,hb7⟩
 have HB67:Hid (Bl w6 w7):=hb7
 clear hb7 k0 k1 k2 k3 kl
 cases b7
 case' false=>
  clear hi7 HSay HRp
  go_upto_region 11 with fail
  obtain ⟨wz,hwz⟩:∃ wz:World,wz=w7:=⟨_,rfl⟩
  subst hwz
  have HB6z:Hid (Bl w6 wz):=HB67.out
 case' true=>
  have HS3:=Lib.hid (HSay.out (hi7.1 rfl))
  clear hi7 HSay
  have HB7:=Lib.hid (HB6.out.trans HB67.out)
  have HK7:=Lib.hid (HK6.out.bl HB67.out)
  have k0:w7.cell? ⟨W.heap.size,0,none⟩=some (.int .i64 t):=HK7.out.cell 0
  have k1:w7.cell? ⟨W.heap.size,1,none⟩=some (.int .i64 n):=HK7.out.cell 1
  have k2:w7.cell? ⟨W.heap.size,2,none⟩=some (.int .i64 s):=HK7.out.cell 2
  have k3:w7.cell? ⟨W.heap.size,3,none⟩=some (.slice A len c):=HK7.out.cell 3
  have kl:=HK7.out.lt
  go_wp2_with fail
  refine (HRp.out _ HB7.out).mono ?_
  rintro e w8 ⟨A7,n7,c7,rfl,hn7,ho7,hb8⟩
  have HR7:=Lib.hid (Rd.own ho7)
  have hm7:n7≤9223372036854775807:=calo_max ho7
  have HB68:=Lib.hid (HB67.out.trans hb8)
  have HB8:=Lib.hid (HB7.out.trans hb8)
  clear ho7 hb8 k0 k1 k2 k3 kl HRp HB7 HK7
  replace hn7:n7=lv.length:=hn7
  have HN7:=Lib.hid hn7
  have HR7:Hid (Rd w8 w8.heap.size A7 (ins lv)):=HR7.out
  clear hn7
  have HS1:Hid (∀ wx,Bl w8 wx→Calls Tryz.prog 11 #[.slice A7 n7 c7,.slice Aw lw cw] wx (Quiet (.bool (decide (lv=xs))) wx)):=fun wx hb=>isame_any A7 Aw n7 lw c7 cw lv xs wx wx.heap.size HN7.out HLw.out hm7 (lrd_on HR7.out hb) (HXc.out wx (HB8.out.trans hb))
  have HS2:Hid (∀ wx,Bl w8 wx→Calls Tryz.prog 11 #[.slice Ao lo co,.slice Al ll cl] wx (Quiet (.bool (decide (os=l))) wx)):=fun wx hb=>isame_any Ao Al lo ll co cl os l wx wx.heap.size HLo.out HLl.out (by omega) (HOc.out wx (HB8.out.trans hb)) (HLc.out wx (HB8.out.trans hb))
  have HSa:Hid (∀ wx,Bl w8 wx→Calls Tryz.prog 11 #[.slice A4 la.length c4,.slice Al ll cl] wx (Quiet (.bool (decide (la=l))) wx)):=fun wx hb=>isame_any A4 Al la.length ll c4 cl la l wx wx.heap.size rfl HLl.out (by omega) (HRa.out wx (HB68.out.trans hb)) (HLc.out wx (HB8.out.trans hb))
  have HSb:Hid (∀ wx,Bl w8 wx→Calls Tryz.prog 11 #[.slice A5 lb.length c5,.slice Al ll cl] wx (Quiet (.bool (decide (lb=l))) wx)):=fun wx hb=>isame_any A5 Al lb.length ll c5 cl lb l wx wx.heap.size rfl HLl.out (by omega) (HRb.out wx (HB68.out.trans hb)) (HLc.out wx (HB8.out.trans hb))
  go_upto_region 9 with fail
  go_cut [97] from 65 to 97 (fun v wx=>v=.bool false∧Hid (Bl w8 wx))
  case first=>
   have HBc:Hid (Bl w8 w8):=Bl.refl _
   have hev:ev=0∨ev≠0:=by omega
   have hea:ea=0∨ea≠0:=by omega
   have heb:eb=0∨eb≠0:=by omega
   have hcs:(ev=0∧lv=xs)∨(ev=0∧lv≠xs)∨ev≠0:=by
    rcases hev with h | h
    ·by_cases h2:lv=xs
     ·exact .inl ⟨h,h2⟩
     ·exact .inr (.inl ⟨h,h2⟩)
    ·exact .inr (.inr h)
   clear hev
   have HQa:Hid (ea=0→decide (la=l)=true):=fun h=>decide_eq_true (HS3.out.2.1 h)
   have HQb:Hid (eb=0→decide (lb=l)=true):=fun h=>decide_eq_true (HS3.out.2.2 h)
   have HQo:Hid (ev=0→lv=xs→decide (os=l)=true):=fun h h2=>decide_eq_true (HS3.out.1 h h2)
   generalize decide (la=l)=qa at *
   generalize decide (lb=l)=qb at *
   generalize decide (os=l)=qo at *
   generalize hqv:decide (lv=xs)=qv at *
   have hcs2:(ev=0∧qv=true∧qo=true)∨(ev=0∧qv=false)∨((ev:Int) == 0)=false:=by
    rcases hcs with ⟨h1,h2⟩ | ⟨h1,h2⟩ | h1
    ·exact .inl ⟨h1,by rw [← hqv];exact decide_eq_true h2,HQo.out h1 h2⟩
    ·exact .inr (.inl ⟨h1,by rw [← hqv];exact decide_eq_false h2⟩)
    ·exact .inr (.inr (by rw [beq_eq_false_iff_ne];omega))
   have hea2:(ea=0∧qa=true)∨((ea:Int) == 0)=false:=by
    rcases hea with h1 | h1
    ·exact .inl ⟨h1,HQa.out h1⟩
    ·exact .inr (by rw [beq_eq_false_iff_ne];omega)
   have heb2:(eb=0∧qb=true)∨((eb:Int) == 0)=false:=by
    rcases heb with h1 | h1
    ·exact .inl ⟨h1,HQb.out h1⟩
    ·exact .inr (by rw [beq_eq_false_iff_ne];omega)
   clear hcs hea heb HQa HQb HQo hqv HS3 HSm
   rcases hcs2 with ⟨rfl,rfl,rfl⟩ | ⟨rfl,rfl⟩ | hv0 <;> rcases hea2 with ⟨rfl,rfl⟩ | ha0 <;> rcases heb2 with ⟨rfl,rfl⟩ | hb0
   all_goals
    go_wp2_with (first
     | (go_at_call 11;((with_reducible refine (HS1.out _ HBc.out).mono ?_);rintro e vx ⟨rfl,qx,hqx⟩;have HBc:Hid (Bl w8 vx):=(by (show Bl _ _);rw [hqx];exact HBc.out.drewN _);clear hqx))
     | (go_at_call 11;((with_reducible refine (HS2.out _ HBc.out).mono ?_);rintro e vx ⟨rfl,qx,hqx⟩;have HBc:Hid (Bl w8 vx):=(by (show Bl _ _);rw [hqx];exact HBc.out.drewN _);clear hqx))
     | (go_at_call 11;((with_reducible refine (HSa.out _ HBc.out).mono ?_);rintro e vx ⟨rfl,qx,hqx⟩;have HBc:Hid (Bl w8 vx):=(by (show Bl _ _);rw [hqx];exact HBc.out.drewN _);clear hqx))
     | (go_at_call 11;((with_reducible refine (HSb.out _ HBc.out).mono ?_);rintro e vx ⟨rfl,qx,hqx⟩;have HBc:Hid (Bl w8 vx):=(by (show Bl _ _);rw [hqx];exact HBc.out.drewN _);clear hqx)))
    go_meet
    exact ⟨rfl,HBc.out⟩
  case' rest=>
   obtain ⟨rfl,HBc⟩:=hcut
   go_upto_region 11 with fail
   obtain ⟨wz,hwz⟩:∃ wz:World,wz=wc:=⟨_,rfl⟩
   subst hwz
   have HB6z:Hid (Bl w6 wz):=HB68.out.trans HBc.out
 all_goals
  have HBz:=Lib.hid (HB6.out.trans HB6z.out)
  have HKz:=Lib.hid (HK6.out.bl HB6z.out)
  have hea:ea=0∨((ea:Int) != 0)=true:=by
   by_cases h:ea=0
   ·exact .inl h
   ·exact .inr (by rw [bne_iff_ne];omega)
  have heb:eb=0∨((eb:Int) != 0)=true:=by
   by_cases h:eb=0
   ·exact .inl h
   ·exact .inr (by rw [bne_iff_ne];omega)
  rcases hea with rfl | ha0
  case inr=>
   go_wp2_with fail
   go_ret
   exact ⟨rfl,HBz.out⟩
  rcases heb with rfl | hb0
  case inr=>
   go_wp2_with fail
   go_ret
   exact ⟨rfl,HBz.out⟩
  have HSm2:Hid (∀ M,Ch.IsSets ⟨t,n,s,ps⟩ xs M→(AloneP ⟨t,n,s,ps⟩ xs (ixs M) la↔la=lb)):=fun M h=>HSm.out M h rfl rfl
  have HSets:Hid (∀ wx,Bl wz wx→Calls Tryz.prog 12 #[.agg #[.int .i64 t,.int .i64 n,.int .i64 s,.slice A len c],.slice Aw lw cw] wx (SetsP ⟨t,n,s,ps⟩ xs wx)):=fun wx hb=>csets_any t n s A len c ps Aw lw cw xs wx wx.heap.size HL.out hmax (HPc.out wx (HBz.out.trans hb)) HLw.out hmw (HXc.out wx (HBz.out.trans hb)) (Nat.le_refl _)
  have HAlo:Hid (∀ wx,Bl wz wx→∀ A6 M c6,Ch.IsSets ⟨t,n,s,ps⟩ xs M→SetsR wx A6 M→Calls Tryz.prog 9 #[.agg #[.int .i64 t,.int .i64 n,.int .i64 s,.slice A len c],.slice Aw lw cw,.slice A6 M.length c6,.slice A4 la.length c4] wx fun e w'=>e=.returned (.bool (decide (la=lb)))∧Bl wx w'):=fun wx hb A6 M c6 hI hS=>
   (alone_any t n s A len c ps Aw lw cw xs A6 M.length c6 (ixs M) A4 la.length c4 la wx wx.heap.size HL.out hmax (HPc.out wx (HBz.out.trans hb)) HLw.out hcw (HXc.out wx (HBz.out.trans hb)) (ixs_len M).symm (by rw [ixs_len,hI.1];have:=HLw.out;omega) (ixs_few (fit_good HF.out).1 hI HLg.out.1 (by have:=HLw.out;omega)) (setsX_of hS) rfl (by omega) (HRa.out wx (HB6z.out.trans hb)) (Nat.le_refl _) (by omega)).mono (by
    rintro e w' ⟨b,rfl,hi,hb'⟩
    have e:b=decide (la=lb):=by rw [Bool.eq_iff_iff,decide_eq_true_iff];exact hi.trans (HSm2.out M hI)
    rw [e]
    exact ⟨rfl,hb'⟩)
  have HSame:Hid (∀ wx,Bl wz wx→Calls Tryz.prog 11 #[.slice A4 la.length c4,.slice A5 lb.length c5] wx (Quiet (.bool (decide (la=lb))) wx)):=fun wx hb=>isame_any A4 A5 la.length lb.length c4 c5 la lb wx wx.heap.size rfl rfl (by omega) (HRa.out wx (HB6z.out.trans hb)) (HRb.out wx (HB6z.out.trans hb))
  clear HSm2 HSm
  generalize decide (la=lb)=qd at *
  have HX:Hid (∀ wx,Bl wz wx→wx.cell? ⟨W.heap.size,0,none⟩=some (.int .i64 t)∧wx.cell? ⟨W.heap.size,1,none⟩=some (.int .i64 n)∧wx.cell? ⟨W.heap.size,2,none⟩=some (.int .i64 s)∧wx.cell? ⟨W.heap.size,3,none⟩=some (.slice A len c)):=fun wx hb=>⟨(HKz.out.bl hb).cell 0,(HKz.out.bl hb).cell 1,(HKz.out.bl hb).cell 2,(HKz.out.bl hb).cell 3⟩
  have HBd:Hid (Bl wz wz.drew):=(Bl.refl wz).drew
  have tk1:True:=trivial
  have tk2:True:=trivial
  have tk3:True:=trivial
  go_upto_region 13 with fail
  cases qd
  all_goals
   go_region_held3 (fun wx=>wx.cell? ⟨W.heap.size,0,none⟩=some (.int .i64 t)∧wx.cell? ⟨W.heap.size,1,none⟩=some (.int .i64 n)∧wx.cell? ⟨W.heap.size,2,none⟩=some (.int .i64 s)∧wx.cell? ⟨W.heap.size,3,none⟩=some (.slice A len c)) (first | exact HX.out _ HBe3.out | exact HX.out _ HBe2.out | exact HX.out _ HBe1.out | exact HX.out _ HBd.out) (first
    | (go_at_call 12;have _t:=tk1;((with_reducible refine (HSets.out _ HBd.out).mono ?_);rintro e v1 ⟨A6,M,c6,rfl,_,hs6,hb1,hI6,_⟩;have HI6:=Lib.hid (hI6 HF.out);have HS6:=Lib.hid hs6;have HBe1:Hid (Bl wz v1):=HBd.out.trans hb1;clear hb1 hI6 hs6;clear tk1))
    | (go_at_call 9;have _t:=tk2;((with_reducible refine (HAlo.out _ HBe1.out _ _ _ HI6.out HS6.out).mono ?_);rintro e v2 ⟨rfl,hb1⟩;have HBe2:Hid (Bl wz v2):=HBe1.out.trans hb1;clear hb1;clear tk2))
    | (go_at_call 11;have _t:=tk3;((with_reducible refine (HSame.out _ HBe2.out).mono ?_);rintro e v3 ⟨rfl,qx,hqx⟩;have HBe3:Hid (Bl wz v3):=(by (show Bl _ _);rw [hqx];exact HBe2.out.drewN _);clear hqx;clear tk3)))
   go_wp2_with fail
   go_ret
   exact ⟨rfl,HBz.out.trans HBe3.out⟩
end Go.Proofs.YtdfhhbncmdpoeaaGreat
