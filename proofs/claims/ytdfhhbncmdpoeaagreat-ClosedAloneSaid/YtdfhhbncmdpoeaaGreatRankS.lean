/- rank.leansBelow: may symbols stand in a production that tells a rank? -/
import Derived.Test.YtdfhhbncmdpoeaaGreatFactS
import Derived.Test.YtdfhhbncmdpoeaaGreatGRS
import Derived.Test.YtdfhhbncmdpoeaaGreatKFof
set_option maxRecDepth 100000
set_option maxHeartbeats 2000000
namespace Go.Proofs.YtdfhhbncmdpoeaaGreat
open Go.RowKit
theorem leans_any (r:Int) (A:Option Addr) (len c:Nat) (right:List Gr.Sy) (Af:Option Addr) (lf cf:Nat) (l:List Fc) (terms:Bool) (w:World) (B:Nat)
  (hlen:len=right.length) (hmax:len≤1000000000) (hr:Rd w B A (syRow right)) (hlf:lf=l.length) (hrl:Rd w B Af (fcRow l)) (hB:B≤w.heap.size)
  (hs:∀ s ∈ right,s.non=true→0≤s.n∧s.n < (lf:Int)) :
  Calls Tryz.prog 95 #[.int .i64 r,.slice A len c,.slice Af lf cf,.bool terms] w fun e w'=>e=.returned (.bool (leansB terms l r right))∧Bl w w':=by
 have HL:=Lib.hid hlen;clear hlen
 have HA:=Lib.hid hr;clear hr
 have HLF:=Lib.hid hlf;clear hlf
 have HF:=Lib.hid hrl;clear hrl
 have HS:=Lib.hid hs;clear hs
 go_enter Tryz.func95,Tryz.ntmps95
 go_wp2_with fail
 go_loopw [13] (fun i wr=>∃ k:Nat,k≤len∧i=.int .i64 k∧Hid (∀ x ∈ right.take k,leanS terms l r x=true)∧Hid (Bl w wr)) (fun i _=>len - (intOf i).toNat)
 case atStart=>exact ⟨0,Nat.zero_le _,rfl,by simp [Hid],Bl.refl w⟩
 case round=>
  obtain ⟨k,hk,rfl,HT,HB⟩:=hrel
  by_cases hlt:k < len
  ·have hj:k < right.length:=by have:=HL.out;omega
   have hBr:B≤wr.heap.size:=Nat.le_trans hB HB.out.size
   obtain ⟨b,off,rfl,hbB,q0,q1⟩:=(HA.out.bl hB HB.out).sym hj
   have HBad:=Lib.hid (fun h=>leansB_one (terms:=terms) (l:=l) (r:=r) hj h)
   have HGood:=Lib.hid (all_snoc hj HT.out)
   have HSk:=Lib.hid (HS.out _ (List.getElem_mem hj))
   generalize right[k]=y at *
   obtain ⟨yb,yn⟩:=y
   simp only at q0 q1
   clear hj
   cases yb with
   | false=>
    cases terms with
    | false=>
     have HG:=Lib.hid (HBad.out rfl)
     go_wp2_with fail
     go_ret
     exact ⟨by rw [HG.out];rfl,HB.out.alloc _⟩
    | true=>
     have HY:=Lib.hid (HGood.out rfl)
     go_wp2_with fail
     go_roundw
     case rel=>exact ⟨k + 1,by omega,by go_num,HY.out,HB.out.alloc _⟩
     case measure=>simp [intOf];omega
   | true=>
    obtain ⟨m,hme,hmlt⟩:∃ m:Nat,yn=(m:Int)∧m < lf:=by
     have:=HSk.out rfl
     exact ⟨yn.toNat,by simp only at this;omega,by simp only at this;omega⟩
    subst hme
    have hml:m < l.length:=by have:=HLF.out;omega
    obtain ⟨bf,off2,rfl,hbf,f0,f1⟩:=(HF.out.bl hB HB.out).fact hml
    have HYes:=Lib.hid (fun h1 h2=>leanS_yes (terms:=terms) (r:=r) hml h1 h2)
    have HNo:=Lib.hid (fun h=>leanS_no (terms:=terms) (r:=r) hml h)
    generalize l[m]=x at f0 f1 HYes HNo
    obtain ⟨xr,xp⟩:=x
    simp only at f0 f1
    have hbw:bf < wr.heap.size:=by omega
    have f0a:(wr.alloc (.cells #[.bool true,.int .i64 (m:Int)] 39)).cell? ⟨bf,off2 + m * 2,none⟩=some (.int .i64 xr):=(World.cell?_alloc_lt _ _ _ hbw).trans f0
    clear hml f1
    by_cases r1:xr < 1
    ·have HG:=Lib.hid (HBad.out (HNo.out (.inl r1)))
     go_wp2_with fail
     go_ret
     exact ⟨by rw [HG.out];rfl,HB.out.alloc _⟩
    by_cases r2:r≤xr
    ·have HG:=Lib.hid (HBad.out (HNo.out (.inr r2)))
     go_wp2_with fail
     go_ret
     exact ⟨by rw [HG.out];rfl,HB.out.alloc _⟩
    have HY:=Lib.hid (HGood.out (HYes.out (by show 1≤xr;omega) (by show xr < r;omega)))
    go_wp2_with fail
    go_roundw
    case rel=>exact ⟨k + 1,by omega,by go_num,HY.out,HB.out.alloc _⟩
    case measure=>simp [intOf];omega
  ·go_wp2_with fail
   go_ret
   have hg:leansB terms l r right=true:=leansB_all (by
    have h:=HT.out
    rw [List.take_of_length_le (by have:=HL.out;omega)] at h
    exact h)
   exact ⟨by rw [hg];rfl,HB.out⟩
end Go.Proofs.YtdfhhbncmdpoeaaGreat
namespace Go.Proofs.YtdfhhbncmdpoeaaGreat
open Go.RowKit
structure KRel (t n s:Int) (A:Option Addr) (len c:Nat) (terms:Bool) (nons cf gg gl gt gf:Nat) (w0:World) (cur:Rk.Fs) (w:World):Prop where
 bg:Bk w gg 24 #[.int .i64 t,.int .i64 n,.int .i64 s,.slice A len c]
 bl:Bk w gl 70 #[.slice (some ⟨gf,0,none⟩) nons cf]
 bt:Bk w gt 4 #[.bool terms]
 own:w.ownsRow w0.heap.size 73 2 (.slice (some ⟨gf,0,none⟩) nons cf) nons (fcRow (fz cur))
 len_:cur.length=nons
 b:Bl w0 w
section
variable {t n s:Int} {A:Option Addr} {len c:Nat} {terms:Bool} {nons cf gg gl gt gf:Nat} {w0:World} {cur cur':Rk.Fs} {w w':World}
theorem KRel.bl_ (h:KRel t n s A len c terms nons cf gg gl gt gf w0 cur w) (hb:Bl w w'):KRel t n s A len c terms nons cf gg gl gt gf w0 cur w':=
 ⟨h.bg.bl hb,h.bl.bl hb,h.bt.bl hb,own_bl h.own hb,h.len_,h.b.trans hb⟩
theorem KRel.alloc (h:KRel t n s A len c terms nons cf gg gl gt gf w0 cur w) (o:Obj):KRel t n s A len c terms nons cf gg gl gt gf w0 cur (w.alloc o):=h.bl_ ((Bl.refl w).alloc o)
theorem KRel.is (h:KRel t n s A len c terms nons cf gg gl gt gf w0 cur w) (e:cur'=cur):KRel t n s A len c terms nons cf gg gl gt gf w0 cur' w:=by subst e;exact h
theorem KRel.rd (h:KRel t n s A len c terms nons cf gg gl gt gf w0 cur w):Rd w w.heap.size (some ⟨gf,0,none⟩) (fcRow (fz cur)):=by
 intro _
 have hlt:=(h.own.lt gf rfl).2
 refine ⟨gf,0,rfl,hlt,fun j u hu=>?_⟩
 have:=h.own.cells (g:=gf) rfl j u hu
 unfold Addr.add at this
 split at this
 ·rename_i hj;subst hj;simpa using this
 ·simpa using this
theorem KRel.rank (h:KRel t n s A len c terms nons cf gg gl gt gf w0 cur w) {m:Nat} (hm:m < nons):w.cell? ⟨gf,m * 2,none⟩=some (.int .i64 (Rk.rk cur m:Int)):=by
 have hl:m < (fz cur).length:=by rw [fz_len,h.len_];exact hm
 have e:=(fcRow_at (fz cur) m hl).1
 rw [fz_rank] at e
 exact (h.own.cellAt _ (by omega)).trans e
theorem KRel.free (h:KRel t n s A len c terms nons cf gg gl gt gf w0 cur w) (j:Nat):w.frozen? ⟨gf,j,none⟩=false:=h.own.frozenAt j
theorem KRel.glt (h:KRel t n s A len c terms nons cf gg gl gt gf w0 cur w):gf < w.heap.size:=(h.own.lt gf rfl).2
theorem KRel.isSome (h:KRel t n s A len c terms nons cf gg gl gt gf w0 cur w) {j:Nat} (hj:j < nons * 2):∃ u,w.cell? ⟨gf,j,none⟩=some u:=by
 have hl:j < (fcRow (fz cur)).length:=by rw [fcRow_len,fz_len,h.len_];exact hj
 exact ⟨_,(h.own.cellAt j hj).trans (List.getElem?_eq_getElem hl)⟩
theorem KRel.put (h:KRel t n s A len c terms nons cf gg gl gt gf w0 cur w) {m r i:Nat} :
  KRel t n s A len c terms nons cf gg gl gt gf w0 (cur.set m (r,i)) ((w.setCell ⟨gf,m * 2,none⟩ (.int .i64 r)).setCell ⟨gf,m * 2 + 1,none⟩ (.int .i64 i)):=by
 have hfr:Fr (fun k=>k=gf) w ((w.setCell ⟨gf,m * 2,none⟩ (.int .i64 r)).setCell ⟨gf,m * 2 + 1,none⟩ (.int .i64 i)):=((Fr.refl _ w).own _ _).own _ _
 have ne:∀ {g:Nat} {ty:TypeId} {cs:Array Value},Bk w g ty cs→73≠ty→¬ g=gf:=fun hk hne e=>hk.row h.own hne (by rw [e];rfl)
 have h1:=(h.own.stored (m * 2) (.int .i64 r)).1
 have h2:=(h1.stored (m * 2 + 1) (.int .i64 i)).1
 have hlow:=(h.own.lt gf rfl).1
 refine ⟨h.bg.fr hfr (ne h.bg (by decide)),h.bl.fr hfr (ne h.bl (by decide)),h.bt.fr hfr (ne h.bt (by decide)),?_,by rw [List.length_set];exact h.len_,h.b.fr hfr fun k hk e=>by omega⟩
 rw [fz_set,fcRow_set]
 exact h2
end
theorem set_ne {a b:Rk.Fs} {m r i:Nat} (h0:Rk.rk b m=0) (hr:0 < r) (hm:m < a.length):a.set m (r,i)≠b:=by
 rintro rfl
 unfold Rk.rk at h0
 rw [List.getD_eq_getElem?_getD,List.getElem?_set,if_pos rfl,if_pos hm] at h0
 have h0:r=0:=h0
 omega
theorem round_any (t n s:Int) (A:Option Addr) (len c:Nat) (ps:List Gr.Pr) (terms:Bool) (nons cf gg gl gt gf:Nat) (w0:World) (cur:Rk.Fs) (r:Nat) (w:World) (B:Nat)
  (hlen:len=ps.length) (hok:okB ⟨t,n,s,ps⟩=true) (hn:n=(nons:Int)) (hr:Prs w0 B A ps) (hB:B≤w0.heap.size)
  (hk:KRel t n s A len c terms nons cf gg gl gt gf w0 cur w) (hlt:∀ m,Rk.rk cur m < r) (hr0:r≤1000000) :
  Calls Tryz.prog 94 #[.int .i64 r,.pointer (some ⟨gg,0,none⟩),.pointer (some ⟨gl,0,none⟩),.pointer (some ⟨gt,0,none⟩)] w fun e w'=>
   e=.returned (.bool (decide (Rk.round (Rk.pick terms ps) cur r≠cur)))∧KRel t n s A len c terms nons cf gg gl gt gf w0 (Rk.round (Rk.pick terms ps) cur r) w':=by
 have hmax:len≤60:=by have:=(ok_nons hok).2.2;omega
 have hnb:nons≤24:=by have:=(ok_nons hok).2.1;omega
 have HL:=Lib.hid hlen;clear hlen
 have HOK:=Lib.hid hok;clear hok
 have HN:=Lib.hid hn;clear hn
 have HA:=Lib.hid hr;clear hr
 have HLT:=Lib.hid hlt;clear hlt
 have HK0:=Lib.hid hk
 have k3:w.cell? ⟨gg,3,none⟩=some (.slice A len c):=hk.bg.cell 3
 have klt:gg < w.heap.size:=hk.bg.lt
 clear hk
 go_enter Tryz.func94,Tryz.ntmps94
 go_wp2_with fail
 clear k3 klt
 go_loopw [6,12] (fun f i wr=>∃ k:Nat,k≤len∧i=.int .i64 k∧f=.bool (decide (Rk.roundTo terms ps cur r k≠cur))∧Hid (KRel t n s A len c terms nons cf gg gl gt gf w0 (Rk.roundTo terms ps cur r k) wr)) (fun _ i _=>len - (intOf i).toNat)
 case atStart=>exact ⟨0,Nat.zero_le _,rfl,by rw [Rk.roundTo_zero];simp,HK0.out.is (Rk.roundTo_zero ..)⟩
 case round=>
  obtain ⟨k,hk,rfl,rfl,HK⟩:=hrel
  by_cases hlt:k < len
  ·have hj:k < ps.length:=by have:=HL.out;omega
   have hb0:=HK.out.b
   have hBr:B≤wr.heap.size:=Nat.le_trans hB hb0.size
   obtain ⟨b,off,Ax,cx,rfl,hbB,hrx,hc0,hc1⟩:=(HA.out.bl hB hb0).at_ hj
   obtain ⟨⟨o1,o2⟩,o3,o4⟩:=ok_syms HOK.out hj
   obtain ⟨m,hme,hmlt⟩:∃ m:Nat,ps[k].left=(m:Int)∧m < nons:=⟨ps[k].left.toNat,by omega,by have:=HN.out;omega⟩
   have HS:Hid (∀ x ∈ ps[k].right,x.non=true→0≤x.n∧x.n < (nons:Int)):=fun x hx hn=>by have:=o4 x hx hn;have:=HN.out;omega
   have HSkip:=Lib.hid (fun h=>Rk.roundTo_skip terms ps cur r HLT.out hj hme h)
   have HPut:=Lib.hid (fun h0 hb=>Rk.roundTo_put terms ps cur r HLT.out hj hme h0 hb (by have:=HK0.out.len_;omega))
   have HFz:=Lib.hid (leansB_fz terms (Rk.roundTo terms ps cur r k) r ps[k])
   have HNe:Hid (Rk.rk (Rk.roundTo terms ps cur r k) m=0→Rk.rk cur m=0):=fun h=>by
    rcases Rk.roundTo_rk terms ps cur r k m with e | ⟨e,_⟩
    ·rw [← e];exact h
    ·exact e
   have HRX:=Lib.hid hrx
   rw [hme] at hc0
   have hpl:ps[k].right.length≤8:=o3
   have kk0:wr.cell? ⟨gl,0,none⟩=some (.slice (some ⟨gf,0,none⟩) nons cf):=HK.out.bl.cell 0
   have kk1:wr.cell? ⟨gt,0,none⟩=some (.bool terms):=HK.out.bt.cell 0
   have klt1:gl < wr.heap.size:=HK.out.bl.lt
   have klt2:gt < wr.heap.size:=HK.out.bt.lt
   have klt3:gf < wr.heap.size:=HK.out.glt
   have kr:=HK.out.rank hmlt
   clear hrx o1 o2 o3 o4 hb0 hme
   generalize ps[k].right=right at *
   have HR0:Hid (0 < r):=by have:=HLT.out m;show 0 < r;omega
   generalize Rk.roundTo terms ps cur r k=cu at *
   by_cases hz:Rk.rk cu m=0
   ·rw [hz] at kr
    have HZ:=Lib.hid hz;clear hz
    have HAl:=Lib.hid (HK.out.alloc (.cells #[.int .i64 m,.slice Ax right.length cx] 42))
    have HPb:=Lib.hid (Bk.new wr 42 #[.int .i64 m,.slice Ax right.length cx])
    go_wp2_with fail
    refine (leans_any r Ax right.length cx right (some ⟨gf,0,none⟩) nons cf (fz cu) terms _ (wr.heap.size + 1) rfl (by omega) ((HRX.out.alloc hBr _).more (by omega)) (by rw [fz_len];exact HK.out.len_.symm) (HAl.out.rd.more (by simp)) (by simp) HS.out).mono ?_
    rintro e w1 ⟨rfl,hb1⟩
    have HK1:=Lib.hid (HAl.out.bl_ hb1)
    have HP1:=Lib.hid (HPb.out.bl hb1)
    clear hb1 kk0 kk1 klt1 klt2 klt3 kr hc0 hc1
    have hwl:wr.heap.size < w1.heap.size:=HP1.out.lt
    have kk0:w1.cell? ⟨gl,0,none⟩=some (.slice (some ⟨gf,0,none⟩) nons cf):=HK1.out.bl.cell 0
    have kk2:w1.cell? ⟨wr.heap.size,0,none⟩=some (.int .i64 m):=HP1.out.cell 0
    have klt1:gl < w1.heap.size:=HK1.out.bl.lt
    have klt3:gf < w1.heap.size:=HK1.out.glt
    have kf0:=HK1.out.free (m * 2)
    have kf1:=HK1.out.free (m * 2 + 1)
    obtain ⟨u0,ku0⟩:=HK1.out.isSome (j:=m * 2) (by omega)
    obtain ⟨u1,ku1⟩:=HK1.out.isSome (j:=m * 2 + 1) (by omega)
    cases hb:leansB terms (fz cu) r right with
    | true=>
     have e1:=HPut.out HZ.out (by rw [← HFz.out];exact hb)
     have e2:decide (Rk.roundTo terms ps cur r (k + 1)≠cur)=true:=by rw [e1];exact decide_eq_true (set_ne (HNe.out HZ.out) HR0.out (by have:=HK.out.len_;omega))
     have HX:=Lib.hid ((HK1.out.put (m:=m) (r:=r) (i:=k)).is e1)
     have HE2:=Lib.hid e2
     clear hb e1 e2
     go_wp2_with fail
     go_roundw
     case rel=>exact ⟨k + 1,by omega,by go_num,by rw [HE2.out],HX.out⟩
     case measure=>simp [intOf];omega
    | false=>
     have e1:=HSkip.out (.inr (by rw [← HFz.out];exact hb))
     have HX:=Lib.hid (HK1.out.is e1)
     have HE1:=Lib.hid e1
     clear hb e1
     go_wp2_with fail
     go_roundw
     case rel=>exact ⟨k + 1,by omega,by go_num,by rw [HE1.out];first | done | simp,HX.out⟩
     case measure=>simp [intOf];omega
   ·have hq:(((Rk.rk cu m:Nat):Int) == 0)=false:=by simp;omega
    have e1:=HSkip.out (.inl hz)
    have HX:=Lib.hid ((HK.out.alloc (.cells #[.int .i64 m,.slice Ax right.length cx] 42)).is e1)
    have HE1:=Lib.hid e1
    clear hz e1
    generalize Rk.rk cu m=x at kr hq
    go_wp2_with fail
    go_roundw
    case rel=>exact ⟨k + 1,by omega,by go_num,by rw [HE1.out];first | done | simp,HX.out⟩
    case measure=>simp [intOf];omega
  ·have e:=Rk.roundTo_all terms ps cur r (show ps.length≤k by have:=HL.out;omega)
   have HE:=Lib.hid e;clear e
   go_wp2_with fail
   go_ret
   exact ⟨by rw [HE.out];rfl,HK.out.is HE.out.symm⟩
end Go.Proofs.YtdfhhbncmdpoeaaGreat
namespace Go.Proofs.YtdfhhbncmdpoeaaGreat
open Go.RowKit
theorem KRel.start {t n s:Int} {A:Option Addr} {len c:Nat} {terms:Bool} {nons:Nat} {w wa:World} {gf cf:Nat}
  (ho:wa.ownsRow w.heap.size 73 2 (.slice (some ⟨gf,0,none⟩) nons cf) nons (madeCells (Value.cells (.agg #[.int .i64 0,.int .i64 0])) (nons * 2)).toList)
  {gg gt:Nat} (hg:Bk wa gg 24 #[.int .i64 t,.int .i64 n,.int .i64 s,.slice A len c]) (ht:Bk wa gt 4 #[.bool terms]) (hb:Bl w wa) :
  KRel t n s A len c terms nons cf gg wa.heap.size gt gf w (Rk.zeros nons) (wa.alloc (.cells #[.slice (some ⟨gf,0,none⟩) nons cf] 70)):=
 ⟨hg.alloc _,Bk.new _ _ _,ht.alloc _,by rw [fz_zeros];exact ho.alloc _,by unfold Rk.zeros;rw [List.length_replicate],hb.alloc _⟩
theorem facts_new (t n s:Int) (A:Option Addr) (len c:Nat) (ps:List Gr.Pr) (terms:Bool) (w:World) (B:Nat) (hlen:len=ps.length) (hmax:len≤9223372036854775807) (hr:Prs w B A ps) (hB:B≤w.heap.size) :
  Calls Tryz.prog 65 #[.agg #[.int .i64 t,.int .i64 n,.int .i64 s,.slice A len c],.bool terms] w (FNew (factsOf terms ⟨t,n,s,ps⟩) w):=by
 obtain ⟨i0,hi,hz0,hz1,hz2⟩:=info_parts fact_info
 have HL:=Lib.hid hlen;clear hlen
 have HA:=Lib.hid hr;clear hr
 have HBx:Hid (Bl w ((w.alloc (.cells #[.int .i64 t,.int .i64 n,.int .i64 s,.slice A len c] 24)).alloc (.cells #[.bool terms] 4))):=((Bl.refl w).alloc _).alloc _
 have HGx:Hid (Bk ((w.alloc (.cells #[.int .i64 t,.int .i64 n,.int .i64 s,.slice A len c] 24)).alloc (.cells #[.bool terms] 4)) w.heap.size 24 #[.int .i64 t,.int .i64 n,.int .i64 s,.slice A len c]):=(Bk.new w _ _).alloc _
 have HTx:Hid (Bk ((w.alloc (.cells #[.int .i64 t,.int .i64 n,.int .i64 s,.slice A len c] 24)).alloc (.cells #[.bool terms] 4)) (w.heap.size + 1) 4 #[.bool terms]):=by
  have h:=Bk.new (w.alloc (.cells #[.int .i64 t,.int .i64 n,.int .i64 s,.slice A len c] 24)) 4 #[.bool terms]
  rw [World.size_alloc] at h
  exact h
 have hmf:∀ (fn:Fn) (first cap:Array Value) (w:World),(Instr.makeFunc fn first cap).run Tryz.prog w=.ok (.func fn first cap) w:=fun _ _ _ _=>rfl
 go_enter Tryz.func65,Tryz.ntmps65
 go_wp2_with fail
 refine (right_any t n s A len c ps _ B HL.out hmax (HA.out.bl hB HBx.out) (Nat.le_trans hB HBx.out.size)).mono ?_
 rintro e w1 ⟨rfl,hb1⟩
 have HB1:=Lib.hid (HBx.out.trans hb1)
 have HG1:=Lib.hid (HGx.out.bl hb1)
 have HT1:=Lib.hid (HTx.out.bl hb1)
 clear hb1
 cases hok:okB ⟨t,n,s,ps⟩ with
 | false=>
  have HNo:=Lib.hid (factsOf_no (terms:=terms) hok)
  clear hok
  go_wp2_with fail
  go_ret
  exact ⟨none,0,0,rfl,by rw [HNo.out];rfl,by rw [HNo.out];exact World.ownsRow_nil _ _ _ _,HB1.out⟩
 | true=>
  obtain ⟨n1,n2,n3⟩:=ok_nons hok
  obtain ⟨N,rfl⟩:∃ N:Nat,n=(N:Int):=⟨n.toNat,by omega⟩
  have HYes:=Lib.hid (factsOf_ok (terms:=terms) hok)
  have HOK:=Lib.hid hok
  clear hok
  have g1:w1.cell? ⟨w.heap.size,1,none⟩=some (.int .i64 (N:Int)):=HG1.out.cell 1
  have glt:w.heap.size < w1.heap.size:=HG1.out.lt
  go_wp2_with (refine wpList_make_full _ rfl (.tmp 12) (.tmp 12) 70 rfl w.heap.size 73 i0 (.agg #[.int .i64 0,.int .i64 0]) 2 Tryz.underlying70 hi hz0 hz1 .i64 .i64 (N:Int) (N:Int) N rfl rfl rfl rfl (by rw [hz2];omega) (by simp only [maxLen];omega) (by omega) ?_;intro w2 hown2 hg2;have HG2:=Lib.hid (HG1.out.grown hg2 (by simp));have HT2:=Lib.hid (HT1.out.grown hg2 (by simp));have HB2:=Lib.hid (HB1.out.grown hg2 (by simp));have HK:=Lib.hid (KRel.start (terms:=terms) hown2 HG2.out HT2.out HB2.out);clear hown2 hg2)
  clear g1 glt HG1 HT1 HB1 HBx HGx HTx
  go_loopw [7] (fun i wr=>∃ k r:Nat,k≤N∧r≤N + 1∧i=.int .i64 r∧Hid (r=k + 1)∧Hid (KRel t N s A len c terms N N w.heap.size w2.heap.size (w.heap.size + 1) w1.heap.size w (Rk.rounds' terms ps N k) wr)) (fun i _=>N + 1 - (intOf i).toNat)
  case atStart=>exact ⟨0,1,Nat.zero_le _,by omega,rfl,rfl,HK.out⟩
  case round=>
   obtain ⟨k,r,hk,hrn,rfl,HRk,HKk⟩:=hrel
   have HRd:Hid (Rk.round (Rk.pick terms ps) (Rk.rounds' terms ps N k) r=Rk.rounds' terms ps N (k + 1)):=by rw [HRk.out];exact (Rk.rounds'_succ ..).symm
   go_wp2_with fail
   refine (round_any t N s A len c ps terms N N w.heap.size w2.heap.size (w.heap.size + 1) w1.heap.size w (Rk.rounds' terms ps N k) r wr B HL.out HOK.out rfl HA.out hB HKk.out (by rw [HRk.out];exact Rk.rounds'_lt terms ps N k) (by omega)).mono ?_
   rw [HRd.out]
   rintro e w3 ⟨rfl,hk3⟩
   have HK3:=Lib.hid hk3;clear hk3
   by_cases hne:Rk.rounds' terms ps N (k + 1)≠Rk.rounds' terms ps N k
   ·rw [decide_eq_true hne]
    have hkl:=Rk.turned_lt terms ps N k hne
    clear hne
    have hrl:r≤N:=by have:=HRk.out;omega
    go_wp2_with fail
    go_roundw
    case rel=>exact ⟨k + 1,r + 1,by omega,by omega,by go_num,by rw [HRk.out];rfl,HK3.out⟩
    case measure=>simp [intOf];omega
   ·rw [decide_eq_false hne]
    have hee:Rk.rounds' terms ps N (k + 1)=Rk.rounds' terms ps N k:=Classical.not_not.mp hne
    have HE:=Lib.hid (hee.trans (Rk.ranks_of terms ps N hee))
    clear hne hee
    have kk0:w3.cell? ⟨w2.heap.size,0,none⟩=some (.slice (some ⟨w1.heap.size,0,none⟩) N N):=HK3.out.bl.cell 0
    have klt:w2.heap.size < w3.heap.size:=HK3.out.bl.lt
    go_wp2_with fail
    go_ret
    refine ⟨_,N,N,rfl,?_,?_,HK3.out.b⟩
    ·rw [HYes.out,fz_len,Rk.ranks_length];simp
    ·rw [HYes.out]
     have h:=HK3.out.own
     rw [HE.out] at h
     simpa using h
end Go.Proofs.YtdfhhbncmdpoeaaGreat
namespace Go.Proofs.YtdfhhbncmdpoeaaGreat
open Go.RowKit
theorem nullable_new (t n s:Int) (A:Option Addr) (len c:Nat) (ps:List Gr.Pr) (w:World) (B:Nat) (hlen:len=ps.length) (hmax:len≤9223372036854775807) (hr:Prs w B A ps) (hB:B≤w.heap.size) :
  Calls Tryz.prog 122 #[.agg #[.int .i64 t,.int .i64 n,.int .i64 s,.slice A len c]] w (FNew (factsOf false ⟨t,n,s,ps⟩) w):=by
 have HL:=Lib.hid hlen;clear hlen
 have HA:=Lib.hid hr;clear hr
 have HBx:Hid (Bl w (w.alloc (.cells #[.int .i64 t,.int .i64 n,.int .i64 s,.slice A len c] 24))):=(Bl.refl w).alloc _
 go_enter Tryz.func122,Tryz.ntmps122
 go_wp2_with fail
 refine (facts_new t n s A len c ps false _ B HL.out hmax (HA.out.bl hB HBx.out) (Nat.le_trans hB HBx.out.size)).mono ?_
 rintro e w1 ⟨A1,l1,c1,rfl,hl1,hr1,hb1⟩
 have hr1:=own_base (b':=w.heap.size) hr1 fun k hk=>Nat.le_trans HBx.out.size (hr1.lt k hk).1
 have HX:=Lib.hid hr1
 have HL1:=Lib.hid hl1
 have HB1:=Lib.hid (HBx.out.trans hb1)
 clear hr1 hl1 hb1
 go_wp2_with fail
 go_ret
 exact ⟨A1,l1,c1,rfl,HL1.out,HX.out,HB1.out⟩
end Go.Proofs.YtdfhhbncmdpoeaaGreat
namespace Go.Proofs.YtdfhhbncmdpoeaaGreat
open Go.RowKit
theorem productive_new (t n s:Int) (A:Option Addr) (len c:Nat) (ps:List Gr.Pr) (w:World) (B:Nat) (hlen:len=ps.length) (hmax:len≤9223372036854775807) (hr:Prs w B A ps) (hB:B≤w.heap.size) :
  Calls Tryz.prog 36 #[.agg #[.int .i64 t,.int .i64 n,.int .i64 s,.slice A len c]] w (FNew (factsOf true ⟨t,n,s,ps⟩) w):=by
 have HL:=Lib.hid hlen;clear hlen
 have HA:=Lib.hid hr;clear hr
 have HBx:Hid (Bl w (w.alloc (.cells #[.int .i64 t,.int .i64 n,.int .i64 s,.slice A len c] 24))):=(Bl.refl w).alloc _
 go_enter Tryz.func36,Tryz.ntmps36
 go_wp2_with fail
 refine (facts_new t n s A len c ps true _ B HL.out hmax (HA.out.bl hB HBx.out) (Nat.le_trans hB HBx.out.size)).mono ?_
 rintro e w1 ⟨A1,l1,c1,rfl,hl1,hr1,hb1⟩
 have hr1:=own_base (b':=w.heap.size) hr1 fun k hk=>Nat.le_trans HBx.out.size (hr1.lt k hk).1
 have HX:=Lib.hid hr1
 have HL1:=Lib.hid hl1
 have HB1:=Lib.hid (HBx.out.trans hb1)
 clear hr1 hl1 hb1
 go_wp2_with fail
 go_ret
 exact ⟨A1,l1,c1,rfl,HL1.out,HX.out,HB1.out⟩
end Go.Proofs.YtdfhhbncmdpoeaaGreat
