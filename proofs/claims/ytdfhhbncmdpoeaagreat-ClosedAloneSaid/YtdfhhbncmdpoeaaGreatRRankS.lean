/- The reference's Right: may a grammar be? -/
import Derived.Test.YtdfhhbncmdpoeaaGreatBaseS
import Derived.Test.YtdfhhbncmdpoeaaGreatFactS
import Derived.Test.YtdfhhbncmdpoeaaGreatKFof
set_option maxRecDepth 100000
set_option maxHeartbeats 4000000
namespace Go.Proofs.YtdfhhbncmdpoeaaGreat
open Go.RowKit
theorem sy_neg {t n xn:Int} {xb:Bool} (h:xn < 0):okSyB t n ⟨xb,xn⟩=false:=belowB_no (.inl h)
theorem sy_non {t n xn:Int} (h:n≤xn):okSyB t n ⟨true,xn⟩=false:=belowB_no (.inr h)
theorem sy_term {t n xn:Int} (h:t≤xn):okSyB t n ⟨false,xn⟩=false:=belowB_no (.inr h)
theorem sy_non_ok {t n xn:Int} (h0:0≤xn) (h:xn < n):okSyB t n ⟨true,xn⟩=true:=(belowB_iff _ _).2 ⟨h0,h⟩
theorem sy_term_ok {t n xn:Int} (h0:0≤xn) (h:xn < t):okSyB t n ⟨false,xn⟩=true:=(belowB_iff _ _).2 ⟨h0,h⟩
theorem rright_any (t n s:Int) (A:Option Addr) (len c:Nat) (ps:List Gr.Pr) (w:World) (B:Nat) (hlen:len=ps.length) (hmax:len≤9223372036854775807) (hr:Prs w B A ps) (hB:B≤w.heap.size) :
  Calls Tryz.prog 26 #[.agg #[.int .i64 t,.int .i64 n,.int .i64 s,.slice A len c]] w fun e w'=>e=.returned (.bool (okB ⟨t,n,s,ps⟩))∧Bl w w':=by
 have HL:=Lib.hid hlen;clear hlen
 have HA:=Lib.hid hr;clear hr
 have HB0:Hid (Bl w (w.alloc (.cells #[.int .i64 t,.int .i64 n,.int .i64 s,.slice A len c] 24))):=(Bl.refl w).alloc _
 have HK0:=Lib.hid (Bk.new w 24 #[.int .i64 t,.int .i64 n,.int .i64 s,.slice A len c])
 by_cases h1:t < 0
 ·have HG:Hid (okB ⟨t,n,s,ps⟩=false):=okB_no (by omega)
  go_enter Tryz.func26,Tryz.ntmps26
  go_wp2_with fail
  go_ret
  exact ⟨by rw [HG.out];rfl,HB0.out⟩
 by_cases h2:16 < t
 ·have HG:Hid (okB ⟨t,n,s,ps⟩=false):=okB_no (by omega)
  go_enter Tryz.func26,Tryz.ntmps26
  go_wp2_with fail
  go_ret
  exact ⟨by rw [HG.out];rfl,HB0.out⟩
 by_cases h3:n < 1
 ·have HG:Hid (okB ⟨t,n,s,ps⟩=false):=okB_no (by omega)
  go_enter Tryz.func26,Tryz.ntmps26
  go_wp2_with fail
  go_ret
  exact ⟨by rw [HG.out];rfl,HB0.out⟩
 by_cases h4:24 < n
 ·have HG:Hid (okB ⟨t,n,s,ps⟩=false):=okB_no (by omega)
  go_enter Tryz.func26,Tryz.ntmps26
  go_wp2_with fail
  go_ret
  exact ⟨by rw [HG.out];rfl,HB0.out⟩
 by_cases h5:s < 0
 ·have HG:Hid (okB ⟨t,n,s,ps⟩=false):=okB_no (by omega)
  go_enter Tryz.func26,Tryz.ntmps26
  go_wp2_with fail
  go_ret
  exact ⟨by rw [HG.out];rfl,HB0.out⟩
 by_cases h6:n≤s
 ·have HG:Hid (okB ⟨t,n,s,ps⟩=false):=okB_no (by omega)
  go_enter Tryz.func26,Tryz.ntmps26
  go_wp2_with fail
  go_ret
  exact ⟨by rw [HG.out];rfl,HB0.out⟩
 by_cases h7:60 < len
 ·have HG:Hid (okB ⟨t,n,s,ps⟩=false):=okB_no (by have:=HL.out;omega)
  go_enter Tryz.func26,Tryz.ntmps26
  go_wp2_with fail
  go_ret
  exact ⟨by rw [HG.out];rfl,HB0.out⟩
 go_enter Tryz.func26,Tryz.ntmps26
 go_wp2_with fail
 generalize hw0:w.alloc (.cells #[.int .i64 t,.int .i64 n,.int .i64 s,.slice A len c] 24)=w0 at HB0 HK0 ⊢
 have HW0:=Lib.hid hw0;clear hw0
 go_loopw [3] (fun i wr=>∃ k:Nat,k≤len∧i=.int .i64 k∧Hid (∀ x ∈ ps.take k,okPrB t n x=true)∧Hid (Bl w0 wr)) (fun i _=>len - (intOf i).toNat)
 case atStart=>exact ⟨0,Nat.zero_le _,rfl,by simp [Hid],Bl.refl w0⟩
 case round=>
  obtain ⟨k,hk,rfl,HF,HB⟩:=hrel
  obtain ⟨wo,rfl⟩:∃ wo:World,wo=wr:=⟨_,rfl⟩
  have HKr:=Lib.hid (HK0.out.bl HB.out)
  have k0:wo.cell? ⟨w.heap.size,0,none⟩=some (.int .i64 t):=HKr.out.cell 0
  have k1:wo.cell? ⟨w.heap.size,1,none⟩=some (.int .i64 n):=HKr.out.cell 1
  have k2:wo.cell? ⟨w.heap.size,2,none⟩=some (.int .i64 s):=HKr.out.cell 2
  have k3:wo.cell? ⟨w.heap.size,3,none⟩=some (.slice A len c):=HKr.out.cell 3
  have klt:w.heap.size < wo.heap.size:=HKr.out.lt
  by_cases hlt:k < len
  ·have hj:k < ps.length:=by have:=HL.out;omega
   obtain ⟨b,off,Ax,cx,rfl,hbB,hrx,hc0,hc1⟩:=(HA.out.bl hB (HB0.out.trans HB.out)).at_ hj
   have HBad:=Lib.hid (fun h=>okB_one (t:=t) (n:=n) (s:=s) hj h)
   have HGood:=Lib.hid (all_snoc hj HF.out)
   have HRX:=Lib.hid hrx
   generalize ps[k]=x at *
   obtain ⟨xl,xs⟩:=x
   simp only at hc0 hc1
   clear hj hrx
   have hBr:B≤wo.heap.size:=Nat.le_trans hB (HB0.out.trans HB.out).size
   by_cases g1:xl < 0
   ·have HG:=Lib.hid (HBad.out (okPrB_no (.inl g1)))
    go_wp2_with fail
    go_ret
    exact ⟨by rw [HG.out];rfl,(HB0.out.trans HB.out).alloc _⟩
   by_cases g2:n≤xl
   ·have HG:=Lib.hid (HBad.out (okPrB_no (.inr (.inl g2))))
    go_wp2_with fail
    go_ret
    exact ⟨by rw [HG.out];rfl,(HB0.out.trans HB.out).alloc _⟩
   by_cases g3:8 < xs.length
   ·have HG:=Lib.hid (HBad.out (okPrB_no (.inr (.inr g3))))
    go_wp2_with fail
    go_ret
    exact ⟨by rw [HG.out];rfl,(HB0.out.trans HB.out).alloc _⟩
   have HB2:Hid (Bl w0 (wo.alloc (.cells #[.int .i64 xl,.slice Ax xs.length cx] 42))):=HB.out.alloc _
   have HP2:=Lib.hid (Bk.new wo 42 #[.int .i64 xl,.slice Ax xs.length cx])
   have HR2:=Lib.hid (HRX.out.alloc hBr (.cells #[.int .i64 xl,.slice Ax xs.length cx] 42))
   have hsz2:B≤(wo.alloc (.cells #[.int .i64 xl,.slice Ax xs.length cx] 42)).heap.size:=by simp;omega
   go_wp2_with fail
   generalize hw2:wo.alloc (.cells #[.int .i64 xl,.slice Ax xs.length cx] 42)=w2 at HB2 HP2 HR2 hsz2 ⊢
   have HW2:=Lib.hid hw2;clear hw2
   obtain ⟨gp,hgp⟩:∃ gp:Nat,gp=wo.heap.size:=⟨_,rfl⟩
   rw [← hgp] at HP2 ⊢
   have HGP:=Lib.hid hgp;clear hgp
   clear k0 k1 k2 k3 hc0 hc1
   go_loopw [5] (fun i wr=>∃ j:Nat,j≤xs.length∧i=.int .i64 j∧Hid (∀ x ∈ xs.take j,okSyB t n x=true)∧Hid (Bl w2 wr)) (fun i _=>xs.length - (intOf i).toNat)
   case atStart=>exact ⟨0,Nat.zero_le _,rfl,by simp [Hid],Bl.refl w2⟩
   case round=>
    obtain ⟨j,hjl,rfl,HFj,HBj⟩:=hrel
    have HKj:=Lib.hid (HK0.out.bl (HB2.out.trans HBj.out))
    have HPj:=Lib.hid (HP2.out.bl HBj.out)
    have k0:wr.cell? ⟨w.heap.size,0,none⟩=some (.int .i64 t):=HKj.out.cell 0
    have k1:wr.cell? ⟨w.heap.size,1,none⟩=some (.int .i64 n):=HKj.out.cell 1
    have p1:wr.cell? ⟨gp,1,none⟩=some (.slice Ax xs.length cx):=HPj.out.cell 1
    have klt2:w.heap.size < wr.heap.size:=HKj.out.lt
    have plt2:gp < wr.heap.size:=HPj.out.lt
    by_cases hlt2:j < xs.length
    ·obtain ⟨bx,ox,rfl,hbx,q0,q1⟩:=(HR2.out.bl hsz2 HBj.out).sym hlt2
     have HBad2:=Lib.hid (fun h=>okPrB_one (t:=t) (n:=n) (l:=xl) hlt2 h)
     have HGood2:=Lib.hid (all_snoc hlt2 HFj.out)
     generalize xs[j]=y at *
     obtain ⟨yb,yn⟩:=y
     simp only at q0 q1
     by_cases y1:yn < 0
     ·have HG:=Lib.hid (HBad.out (HBad2.out (sy_neg y1)))
      cases yb
      all_goals
       go_wp2_with fail
       go_ret
       exact ⟨by rw [HG.out];rfl,(HB0.out.trans (HB2.out.trans HBj.out)).alloc _⟩
     cases yb with
     | true=>
      by_cases y2:n≤yn
      ·have HG:=Lib.hid (HBad.out (HBad2.out (sy_non y2)))
       go_wp2_with fail
       go_ret
       exact ⟨by rw [HG.out];rfl,(HB0.out.trans (HB2.out.trans HBj.out)).alloc _⟩
      ·have HY:=Lib.hid (HGood2.out (sy_non_ok (by omega) (by omega)))
       go_wp2_with fail
       go_roundw
       case rel=>exact ⟨j + 1,by omega,by go_num,HY.out,HBj.out.alloc _⟩
       case measure=>simp [intOf];omega
     | false=>
      by_cases y2:t≤yn
      ·have HG:=Lib.hid (HBad.out (HBad2.out (sy_term y2)))
       go_wp2_with fail
       go_ret
       exact ⟨by rw [HG.out];rfl,(HB0.out.trans (HB2.out.trans HBj.out)).alloc _⟩
      ·have HY:=Lib.hid (HGood2.out (sy_term_ok (by omega) (by omega)))
       go_wp2_with fail
       go_roundw
       case rel=>exact ⟨j + 1,by omega,by go_num,HY.out,HBj.out.alloc _⟩
       case measure=>simp [intOf];omega
    ·have HY:=Lib.hid (HGood.out (okPrB_all (by omega) (by omega) (by omega) (by
      have h:=HFj.out
      rw [List.take_of_length_le (by omega)] at h
      exact h)))
     go_wp2_with fail
     go_roundw
     case rel=>exact ⟨k + 1,by omega,by go_num,HY.out,HB2.out.trans HBj.out⟩
     case measure=>simp [intOf];omega
  ·go_wp2_with fail
   go_ret
   have hg:okB ⟨t,n,s,ps⟩=true:=okB_all (by omega) (by omega) (by omega) (by omega) (by omega) (by omega) (by have:=HL.out;omega) (by
    have h:=HF.out
    rw [List.take_of_length_le (by have:=HL.out;omega)] at h
    exact h)
   exact ⟨by rw [hg];rfl,HB0.out.trans HB.out⟩
end Go.Proofs.YtdfhhbncmdpoeaaGreat
namespace Go.Proofs.YtdfhhbncmdpoeaaGreat
open Go.RowKit
theorem below9_any (left r:Int) (A:Option Addr) (len c:Nat) (right:List Gr.Sy) (Af:Option Addr) (lf cf:Nat) (l:List Fc) (terms:Bool) (w:World) (B:Nat)
  (hlen:len=right.length) (hmax:len≤1000000000) (hr:Rd w B A (syRow right)) (hlf:lf=l.length) (hrl:Rd w B Af (fcRow l)) (hB:B≤w.heap.size)
  (hs:∀ s ∈ right,s.non=true→0≤s.n∧s.n < (lf:Int)) (hp:∀ f ∈ l,0≤f.rank) :
  Calls Tryz.prog 59 #[.agg #[.int .i64 left,.slice A len c],.slice Af lf cf,.int .i64 r,.bool terms] w fun e w'=>e=.returned (.bool (leansB terms l r right))∧Bl w w':=by
 have HL:=Lib.hid hlen;clear hlen
 have HA:=Lib.hid hr;clear hr
 have HLF:=Lib.hid hlf;clear hlf
 have HF:=Lib.hid hrl;clear hrl
 have HS:=Lib.hid hs;clear hs
 have HP:=Lib.hid hp;clear hp
 have HB0:Hid (Bl w (w.alloc (.cells #[.int .i64 left,.slice A len c] 42))):=(Bl.refl w).alloc _
 have HK0:=Lib.hid (Bk.new w 42 #[.int .i64 left,.slice A len c])
 go_enter Tryz.func59,Tryz.ntmps59
 go_wp2_with fail
 generalize hw0:w.alloc (.cells #[.int .i64 left,.slice A len c] 42)=w0 at HB0 HK0 ⊢
 have HW0:=Lib.hid hw0;clear hw0
 go_loopw [9] (fun i wr=>∃ k:Nat,k≤len∧i=.int .i64 k∧Hid (∀ x ∈ right.take k,leanS terms l r x=true)∧Hid (Bl w0 wr)) (fun i _=>len - (intOf i).toNat)
 case atStart=>exact ⟨0,Nat.zero_le _,rfl,by simp [Hid],Bl.refl w0⟩
 case round=>
  obtain ⟨k,hk,rfl,HT,HBr⟩:=hrel
  have HB:=Lib.hid (HB0.out.trans HBr.out)
  have HK:=Lib.hid (HK0.out.bl HBr.out)
  have kk0:wr.cell? ⟨w.heap.size,1,none⟩=some (.slice A len c):=HK.out.cell 1
  have klt:w.heap.size < wr.heap.size:=HK.out.lt
  by_cases hlt:k < len
  ·have hj:k < right.length:=by have:=HL.out;omega
   have hBr:B≤wr.heap.size:=Nat.le_trans hB HB.out.size
   obtain ⟨b,off,rfl,hbB,q0,q1⟩:=(HA.out.bl hB HB.out).sym hj
   have HBad:=Lib.hid (fun h=>leansB_one (terms:=terms) (l:=l) (r:=r) hj h)
   have HGood:=Lib.hid (all_snoc hj HT.out)
   have HSk:=Lib.hid (HS.out _ (List.getElem_mem hj))
   generalize right[k]=y at *
   obtain ⟨yb,yn⟩:=y
   simp only at q0 q1
   clear hj
   cases yb with
   | false=>
    cases terms with
    | false=>
     have HG:=Lib.hid (HBad.out rfl)
     go_wp2_with fail
     go_ret
     exact ⟨by rw [HG.out];rfl,HB.out.alloc _⟩
    | true=>
     have HY:=Lib.hid (HGood.out rfl)
     go_wp2_with fail
     go_roundw
     case rel=>exact ⟨k + 1,by omega,by go_num,HY.out,HBr.out.alloc _⟩
     case measure=>simp [intOf];omega
   | true=>
    obtain ⟨m,hme,hmlt⟩:∃ m:Nat,yn=(m:Int)∧m < lf:=by
     have:=HSk.out rfl
     exact ⟨yn.toNat,by simp only at this;omega,by simp only at this;omega⟩
    subst hme
    have hml:m < l.length:=by have:=HLF.out;omega
    obtain ⟨bf,off2,rfl,hbf,f0,f1⟩:=(HF.out.bl hB HB.out).fact hml
    have HYes:=Lib.hid (fun h1 h2=>leanS_yes (terms:=terms) (r:=r) hml h1 h2)
    have HNo:=Lib.hid (fun h=>leanS_no (terms:=terms) (r:=r) hml h)
    have hpos:=HP.out _ (List.getElem_mem hml)
    generalize l[m]=x at f0 f1 HYes HNo hpos
    obtain ⟨xr,xp⟩:=x
    simp only at f0 f1 hpos
    have hbw:bf < wr.heap.size:=by omega
    have f0a:(wr.alloc (.cells #[.bool true,.int .i64 (m:Int)] 39)).cell? ⟨bf,off2 + m * 2,none⟩=some (.int .i64 xr):=(World.cell?_alloc_lt _ _ _ hbw).trans f0
    clear hml f1
    by_cases r1:xr=0
    ·have HG:=Lib.hid (HBad.out (HNo.out (.inl (by show xr < 1;omega))))
     subst r1
     go_wp2_with fail
     go_ret
     exact ⟨by rw [HG.out];rfl,HB.out.alloc _⟩
    have hq:(xr == 0)=false:=by simpa using r1
    by_cases r2:r≤xr
    ·have HG:=Lib.hid (HBad.out (HNo.out (.inr r2)))
     go_wp2_with fail
     go_ret
     exact ⟨by rw [HG.out];rfl,HB.out.alloc _⟩
    have HY:=Lib.hid (HGood.out (HYes.out (by show 1≤xr;omega) (by show xr < r;omega)))
    go_wp2_with fail
    go_roundw
    case rel=>exact ⟨k + 1,by omega,by go_num,HY.out,HBr.out.alloc _⟩
    case measure=>simp [intOf];omega
  ·go_wp2_with fail
   go_ret
   have hg:leansB terms l r right=true:=leansB_all (by
    have h:=HT.out
    rw [List.take_of_length_le (by have:=HL.out;omega)] at h
    exact h)
   exact ⟨by rw [hg];rfl,HB.out⟩
end Go.Proofs.YtdfhhbncmdpoeaaGreat
namespace Go.Proofs.YtdfhhbncmdpoeaaGreat
open Go.RowKit
theorem own_inj {gl gn k n c:Nat} (hk:(Value.slice (some ⟨gl,0,none⟩) n c).ownBlock=some k) (e:k=gn):gl=gn:=by
 have:gl=k:=by simpa [Value.ownBlock] using hk
 omega
structure RRel (t n s:Int) (A:Option Addr) (len c N cl gl cn gn gg:Nat) (w0:World) (cur nx:Rk.Fs) (w:World):Prop where
 bg:Bk w gg 24 #[.int .i64 t,.int .i64 n,.int .i64 s,.slice A len c]
 own:w.ownsRow w0.heap.size 73 2 (.slice (some ⟨gl,0,none⟩) N cl) N (fcRow (fz cur))
 nxt:w.ownsRow w0.heap.size 73 2 (.slice (some ⟨gn,0,none⟩) N cn) N (fcRow (fz nx))
 ne:gl≠gn
 len_:cur.length=N
 lenx:nx.length=N
 b:Bl w0 w
section
variable {t n s:Int} {A:Option Addr} {len c N cl gl cn gn gg:Nat} {w0:World} {cur nx nx':Rk.Fs} {w w':World}
theorem RRel.bl_ (h:RRel t n s A len c N cl gl cn gn gg w0 cur nx w) (hb:Bl w w'):RRel t n s A len c N cl gl cn gn gg w0 cur nx w':=
 ⟨h.bg.bl hb,own_bl h.own hb,own_bl h.nxt hb,h.ne,h.len_,h.lenx,h.b.trans hb⟩
theorem RRel.is (h:RRel t n s A len c N cl gl cn gn gg w0 cur nx w) (e:nx'=nx):RRel t n s A len c N cl gl cn gn gg w0 cur nx' w:=by subst e;exact h
theorem RRel.rd (h:RRel t n s A len c N cl gl cn gn gg w0 cur nx w):Rd w w.heap.size (some ⟨gl,0,none⟩) (fcRow (fz cur)):=own_rd h.own
theorem RRel.rank (h:RRel t n s A len c N cl gl cn gn gg w0 cur nx w) {m:Nat} (hm:m < N):w.cell? ⟨gl,m * 2,none⟩=some (.int .i64 (Rk.rk cur m:Int)):=by
 have hl:m < (fz cur).length:=by rw [fz_len,h.len_];exact hm
 have e:=(fcRow_at (fz cur) m hl).1
 rw [fz_rank] at e
 exact (h.own.cellAt _ (by omega)).trans e
theorem RRel.free (h:RRel t n s A len c N cl gl cn gn gg w0 cur nx w) (j:Nat):w.frozen? ⟨gn,j,none⟩=false:=h.nxt.frozenAt j
theorem RRel.isSome (h:RRel t n s A len c N cl gl cn gn gg w0 cur nx w) {j:Nat} (hj:j < N * 2):∃ u,w.cell? ⟨gn,j,none⟩=some u:=by
 have hl:j < (fcRow (fz nx)).length:=by rw [fcRow_len,fz_len,h.lenx];exact hj
 exact ⟨_,(h.nxt.cellAt j hj).trans (List.getElem?_eq_getElem hl)⟩
theorem RRel.glt (h:RRel t n s A len c N cl gl cn gn gg w0 cur nx w):gl < w.heap.size∧gn < w.heap.size:=⟨(h.own.lt gl rfl).2,(h.nxt.lt gn rfl).2⟩
theorem RRel.put (h:RRel t n s A len c N cl gl cn gn gg w0 cur nx w) {m r i:Nat} :
  RRel t n s A len c N cl gl cn gn gg w0 cur (nx.set m (r,i)) ((w.setCell ⟨gn,m * 2,none⟩ (.int .i64 r)).setCell ⟨gn,m * 2 + 1,none⟩ (.int .i64 i)):=by
 have hfr:Fr (fun k=>k=gn) w ((w.setCell ⟨gn,m * 2,none⟩ (.int .i64 r)).setCell ⟨gn,m * 2 + 1,none⟩ (.int .i64 i)):=((Fr.refl _ w).own _ _).own _ _
 have h1:=(h.nxt.stored (m * 2) (.int .i64 r)).1
 have h2:=(h1.stored (m * 2 + 1) (.int .i64 i)).1
 have hlow:=(h.nxt.lt gn rfl).1
 refine ⟨h.bg.fr hfr (fun e=>h.bg.row h.nxt (by decide) (by rw [e];rfl)),own_fr h.own hfr (fun k hk e=>h.ne (own_inj hk e)),?_,h.ne,h.len_,by rw [List.length_set];exact h.lenx,h.b.fr hfr fun k hk e=>by omega⟩
 rw [fz_set,fcRow_set]
 exact h2
structure LRel (t n s:Int) (A:Option Addr) (len c N cl gl gg:Nat) (w0:World) (cur:Rk.Fs) (w:World):Prop where
 bg:Bk w gg 24 #[.int .i64 t,.int .i64 n,.int .i64 s,.slice A len c]
 own:w.ownsRow w0.heap.size 73 2 (.slice (some ⟨gl,0,none⟩) N cl) N (fcRow (fz cur))
 len_:cur.length=N
 b:Bl w0 w
theorem LRel.copy (h:LRel t n s A len c N cl gl gg w0 cur w) {gn cn:Nat} {w2:World} (ho:w2.ownsRow w0.heap.size 73 2 (.slice (some ⟨gn,0,none⟩) (0 + N) cn) (0 + N) ([] ++ fcRow (fz cur)))
  (hg:(w.alloc (.cells #[] 73)).grownBy w2 (Value.slice (some ⟨w.heap.size,0,none⟩) 0 0).ownBlock)
  (hv:(Value.slice (some ⟨w.heap.size,0,none⟩) 0 0).ownBlock=some gn∨gn=(w.alloc (.cells #[] 73)).heap.size) :
  RRel t n s A len c N cl gl cn gn gg w0 cur cur w2:=by
 rw [Nat.zero_add,List.nil_append] at ho
 have hbl:Bl w w2:=((Bl.refl w).alloc _).grown hg fun k hk=>by
  have:w.heap.size=k:=by simpa [Value.ownBlock] using hk
  omega
 have hgl:=(h.own.lt gl rfl).2
 have hne:gl≠gn:=by
  rcases hv with e | e
  ·have:w.heap.size=gn:=by simpa [Value.ownBlock] using e
   omega
  ·have:gn=w.heap.size + 1:=by simpa using e
   omega
 exact ⟨h.bg.bl hbl,own_bl h.own hbl,ho,hne,h.len_,h.len_,h.b.trans hbl⟩
theorem RRel.next (h:RRel t n s A len c N cl gl cn gn gg w0 cur nx w) (e:nx'=nx):LRel t n s A len c N cn gn gg w0 nx' w:=by subst e;exact ⟨h.bg,h.nxt,h.lenx,h.b⟩
end
theorem rranks_new (t n s:Int) (A:Option Addr) (len c:Nat) (ps:List Gr.Pr) (terms:Bool) (w:World) (B:Nat) (hlen:len=ps.length) (hmax:len≤9223372036854775807) (hr:Prs w B A ps) (hB:B≤w.heap.size) :
  Calls Tryz.prog 31 #[.agg #[.int .i64 t,.int .i64 n,.int .i64 s,.slice A len c],.bool terms] w (FNew (factsOf terms ⟨t,n,s,ps⟩) w):=by
 obtain ⟨i0,hi,hz0,hz1,hz2⟩:=info_parts fact_info
 have HL:=Lib.hid hlen;clear hlen
 have HA:=Lib.hid hr;clear hr
 have HBx:Hid (Bl w (w.alloc (.cells #[.int .i64 t,.int .i64 n,.int .i64 s,.slice A len c] 24))):=(Bl.refl w).alloc _
 have HGx:Hid (Bk (w.alloc (.cells #[.int .i64 t,.int .i64 n,.int .i64 s,.slice A len c] 24)) w.heap.size 24 #[.int .i64 t,.int .i64 n,.int .i64 s,.slice A len c]):=Bk.new w _ _
 go_enter Tryz.func31,Tryz.ntmps31
 go_wp2_with fail
 refine (rright_any t n s A len c ps _ B HL.out hmax (HA.out.bl hB HBx.out) (Nat.le_trans hB HBx.out.size)).mono ?_
 rintro e w1 ⟨rfl,hb1⟩
 have HB1:=Lib.hid (HBx.out.trans hb1)
 have HG1:=Lib.hid (HGx.out.bl hb1)
 clear hb1
 cases hok:okB ⟨t,n,s,ps⟩ with
 | false=>
  have HNo:=Lib.hid (factsOf_no (terms:=terms) hok)
  clear hok
  go_wp2_with fail
  go_ret
  exact ⟨none,0,0,rfl,by rw [HNo.out];rfl,by rw [HNo.out];exact World.ownsRow_nil _ _ _ _,HB1.out⟩
 | true=>
  obtain ⟨n1,n2,n3⟩:=ok_nons hok
  have hl60:len≤60:=by have:=HL.out;omega
  obtain ⟨N,rfl⟩:∃ N:Nat,n=(N:Int):=⟨n.toNat,by omega⟩
  have HYes:=Lib.hid (factsOf_ok (terms:=terms) hok)
  have HOK:=Lib.hid hok
  clear hok
  have g1:w1.cell? ⟨w.heap.size,1,none⟩=some (.int .i64 (N:Int)):=HG1.out.cell 1
  have glt:w.heap.size < w1.heap.size:=HG1.out.lt
  go_wp2_with (refine wpList_make_full _ rfl (.tmp 14) (.tmp 14) 70 rfl w.heap.size 73 i0 (.agg #[.int .i64 0,.int .i64 0]) 2 Tryz.underlying70 hi hz0 hz1 .i64 .i64 (N:Int) (N:Int) N rfl rfl rfl rfl (by rw [hz2];omega) (by simp only [maxLen];omega) (by omega) ?_;intro w2 hown2 hg2;have HK:Hid (LRel t N s A len c N N w1.heap.size w.heap.size w (Rk.rounds' terms ps N 0) w2):=⟨HG1.out.grown hg2 (by simp),by rw [Rk.rounds'_zero,fz_zeros];exact hown2,Rk.rounds'_length terms ps N 0,HB1.out.grown hg2 (by simp)⟩;clear hown2 hg2)
  clear g1 glt
  go_loopw [5,6] (fun v i wr=>∃ k r gl cl:Nat,k≤N∧r≤N + 1∧v=.slice (some ⟨gl,0,none⟩) N cl∧i=.int .i64 r∧Hid (r=k + 1)∧Hid (LRel t N s A len c N cl gl w.heap.size w (Rk.rounds' terms ps N k) wr)) (fun _ i _=>N + 1 - (intOf i).toNat)
  case atStart=>exact ⟨0,1,_,_,Nat.zero_le _,by omega,rfl,rfl,rfl,HK.out⟩
  case round=>
   obtain ⟨k,r,gl,cl,hk,hrn,rfl,rfl,HRk,HKk⟩:=hrel
   have g1:wr.cell? ⟨w.heap.size,1,none⟩=some (.int .i64 (N:Int)):=HKk.out.bg.cell 1
   have glt:w.heap.size < wr.heap.size:=HKk.out.bg.lt
   by_cases hrl:r≤N
   ·have HRd:Hid (Rk.round (Rk.pick terms ps) (Rk.rounds' terms ps N k) r=Rk.rounds' terms ps N (k + 1)):=by rw [HRk.out];exact (Rk.rounds'_succ ..).symm
    have HLT:Hid (∀ m,Rk.rk (Rk.rounds' terms ps N k) m < r):=by rw [HRk.out];exact Rk.rounds'_lt terms ps N k
    generalize hcur:Rk.rounds' terms ps N k=cur at *
    have own0:Hid ((wr.alloc (.cells #[] 73)).ownsRow w.heap.size 73 2 (.slice (some ⟨wr.heap.size,0,none⟩) 0 0) 0 []):=World.ownsRow_lit (base:=w.heap.size) (e:=73) (size:=2) wr #[] 0 (by omega) (by simp [maxLen]) rfl
    have HOa:=Lib.hid (HKk.out.own.alloc (.cells #[] 73))
    have HCl:=Lib.hid HKk.out.len_
    have HCur:=Lib.hid hcur;clear hcur
    go_wp2_with (at_builtin;go_loud (refine wpList_append_lies _ rfl (.tmp 22) (.tmp 23) 70 rfl w.heap.size 73 i0 (.agg #[.int .i64 0,.int .i64 0]) 2 16 Tryz.underlying70 hi hz0 hz1 hz2 rfl (by decide) _ _ _ rfl own0.out ⟨gl,0,none⟩ N cl (fcRow (fz cur)) rfl (by rw [fcRow_len,fz_len,HCl.out]) (HOa.out.cells rfl) (fcRow_one _) (by omega) (by simp only [maxLen];omega) (by omega) (by simp;omega) _ rfl ?_;intro gn cn w3 hown2 hg2 hv2 _;have HR:=Lib.hid (HKk.out.copy hown2 hg2 hv2);clear hown2 hg2 hv2;rw [Nat.zero_add]))
    clear g1 glt
    have HSt:=Lib.hid (HR.out.is (Rk.copyAt_start terms ps cur r));clear HR
    go_loopw [8] (fun i wr2=>∃ m:Nat,m≤N∧i=.int .i64 m∧Hid (RRel t N s A len c N cl gl cn gn w.heap.size w cur (Rk.copyAt terms ps cur r m ps.length) wr2)) (fun i _=>N - (intOf i).toNat)
    case atStart=>exact ⟨0,Nat.zero_le _,rfl,HSt.out⟩
    case round=>
     obtain ⟨m,hm,rfl,HRm⟩:=hrel
     have g1:wr.cell? ⟨w.heap.size,1,none⟩=some (.int .i64 (N:Int)):=HRm.out.bg.cell 1
     have g3:wr.cell? ⟨w.heap.size,3,none⟩=some (.slice A len c):=HRm.out.bg.cell 3
     have glt:w.heap.size < wr.heap.size:=HRm.out.bg.lt
     by_cases hmN:m < N
     ·go_wp2_with fail
      clear g1 g3 glt
      go_loopw [9] (fun i wr3=>∃ j:Nat,j≤len∧i=.int .i64 ((j:Int) - 1)∧Hid (RRel t N s A len c N cl gl cn gn w.heap.size w cur (Rk.copyAt terms ps cur r m j) wr3)) (fun i _=>(intOf i + 1).toNat)
      case atStart=>exact ⟨len,Nat.le_refl _,by go_num,by have h:=HRm.out;rw [← HL.out] at h;exact h⟩
      case round=>
       obtain ⟨j,hj,rfl,HRj⟩:=hrel
       cases j with
       | zero=>
        have HT:=Lib.hid (HRj.out.is (Rk.copyAt_turn terms ps cur r m).symm)
        go_wp2_with fail
        go_roundw
        case rel=>exact ⟨m + 1,by omega,by go_num,HT.out⟩
        case measure=>simp [intOf];omega
       | succ q=>
        rw [show ((q + 1:Nat):Int) - 1=(q:Int) by omega]
        have hql:q < len:=by omega
        have hj':q < ps.length:=by have:=HL.out;omega
        have hb0:=HRj.out.b
        have hBr:B≤wr.heap.size:=Nat.le_trans hB hb0.size
        obtain ⟨b,off,Ax,cx,rfl,hbB,hrx,hc0,hc1⟩:=(HA.out.bl hB hb0).at_ hj'
        obtain ⟨⟨o1,o2⟩,o3,o4⟩:=ok_syms HOK.out hj'
        have HS:Hid (∀ x ∈ ps[q].right,x.non=true→0≤x.n∧x.n < (N:Int)):=o4
        have HSkip:=Lib.hid (fun h=>Rk.copyAt_skip terms ps cur r (n:=m) hj' h)
        have HPut:=Lib.hid (fun h0 h1 h2=>Rk.copyAt_put terms ps cur r (n:=m) hj' h0 h1 h2 (by have:=HCl.out;omega))
        have HFz:=Lib.hid (leansB_fz terms cur r ps[q])
        have HRX:=Lib.hid hrx
        have hpl:ps[q].right.length≤8:=o3
        have g3:wr.cell? ⟨w.heap.size,3,none⟩=some (.slice (some ⟨b,off,none⟩) len c):=HRj.out.bg.cell 3
        have glt:w.heap.size < wr.heap.size:=HRj.out.bg.lt
        have kr:=HRj.out.rank hmN
        obtain ⟨glt1,glt2⟩:=HRj.out.glt
        have kf0:=HRj.out.free (m * 2)
        have kf1:=HRj.out.free (m * 2 + 1)
        obtain ⟨u0,ku0⟩:=HRj.out.isSome (j:=m * 2) (by omega)
        obtain ⟨u1,ku1⟩:=HRj.out.isSome (j:=m * 2 + 1) (by omega)
        clear hrx o3 o4 hb0
        generalize ps[q].right=right at *
        generalize ps[q].left=left at *
        by_cases hz:Rk.rk cur m=0
        ·rw [hz] at kr
         by_cases hle:left=(m:Int)
         ·subst hle
          have HZ:=Lib.hid hz;clear hz
          go_wp2_with fail
          refine (below9_any m r Ax right.length cx right (some ⟨gl,0,none⟩) N cl (fz cur) terms _ wr.heap.size rfl (by omega) (HRX.out.more hBr) (by rw [fz_len];exact HCl.out.symm) HRj.out.rd (Nat.le_refl _) HS.out (fz_pos _)).mono ?_
          rintro e w4 ⟨rfl,hb4⟩
          have HR4:=Lib.hid (HRj.out.bl_ hb4);clear hb4
          clear g3 glt kr glt1 glt2 kf0 kf1 ku0 ku1
          obtain ⟨glt1,glt2⟩:=HR4.out.glt
          have kf0:=HR4.out.free (m * 2)
          have kf1:=HR4.out.free (m * 2 + 1)
          obtain ⟨u2,ku0⟩:=HR4.out.isSome (j:=m * 2) (by omega)
          obtain ⟨u3,ku1⟩:=HR4.out.isSome (j:=m * 2 + 1) (by omega)
          cases hb:leansB terms (fz cur) r right with
          | true=>
           have HX:=Lib.hid ((HR4.out.put (m:=m) (r:=r) (i:=q)).is (HPut.out HZ.out (by first | trivial | rfl) (by rw [← HFz.out];exact hb)))
           clear hb
           go_wp2_with fail
           go_roundw
           case rel=>exact ⟨q,by omega,by go_num,HX.out⟩
           case measure=>simp [intOf]
          | false=>
           have HX:=Lib.hid (HR4.out.is (HSkip.out (.inr (.inr (by rw [← HFz.out];exact hb)))))
           clear hb
           go_wp2_with fail
           go_roundw
           case rel=>exact ⟨q,by omega,by go_num,HX.out⟩
           case measure=>simp [intOf]
         ·have hq:(left == (m:Int))=false:=by simpa using hle
          have HX:=Lib.hid (HRj.out.is (HSkip.out (.inr (.inl hle))))
          clear hle
          go_wp2_with fail
          go_roundw
          case rel=>exact ⟨q,by omega,by go_num,HX.out⟩
          case measure=>simp [intOf]
        ·have hq:(((Rk.rk cur m:Nat):Int) == 0)=false:=by simp;omega
         have HX:=Lib.hid (HRj.out.is (HSkip.out (.inl hz)))
         clear hz
         generalize Rk.rk cur m=x at kr hq
         go_wp2_with fail
         go_roundw
         case rel=>exact ⟨q,by omega,by go_num,HX.out⟩
         case measure=>simp [intOf]
     ·have HX:Hid (LRel t N s A len c N cn gn w.heap.size w (Rk.rounds' terms ps N (k + 1)) wr):=HRm.out.next (by
       rw [← HRd.out];exact (Rk.copyAt_end terms ps cur r (by have:=HCl.out;omega) _).symm)
      go_wp2_with fail
      go_roundw
      case rel=>exact ⟨k + 1,r + 1,gn,cn,by have:=HRk.out;omega,by omega,rfl,by go_num,by rw [HRk.out];rfl,HX.out⟩
      case measure=>simp [intOf];omega
   ·have HE:Hid (Rk.rounds' terms ps N k=Rk.ranks terms ps N):=Rk.settled' terms ps N k (by have:=HRk.out;omega)
    go_wp2_with fail
    go_ret
    refine ⟨_,N,cl,rfl,?_,?_,HKk.out.b⟩
    ·rw [HYes.out,fz_len,Rk.ranks_length];simp
    ·rw [HYes.out]
     have h:=HKk.out.own
     rw [HE.out] at h
     simpa using h
theorem rranks_any (t n s:Int) (A:Option Addr) (len c:Nat) (ps:List Gr.Pr) (terms:Bool) (w:World) (B:Nat) (hlen:len=ps.length) (hmax:len≤9223372036854775807) (hr:Prs w B A ps) (hB:B≤w.heap.size) :
  Calls Tryz.prog 31 #[.agg #[.int .i64 t,.int .i64 n,.int .i64 s,.slice A len c],.bool terms] w (FPost (factsOf terms ⟨t,n,s,ps⟩) w):=
 (rranks_new t n s A len c ps terms w B hlen hmax hr hB).mono fun _ _ h=>h.post
end Go.Proofs.YtdfhhbncmdpoeaaGreat
