/- The closed laws' awake. -/
import Derived.Test.YtdfhhbncmdpoeaaGreatClAns
import Derived.BigFrame
set_option maxRecDepth 100000
set_option maxHeartbeats 4000000
namespace Go.Proofs.YtdfhhbncmdpoeaaGreat
open Go.RowKit
theorem prs19 (w:World):PrsC (((w.alloc (.cells #[.bool false,.int .i64 0] 39)).alloc (.cells #[.int .i64 0,.slice (some ⟨w.heap.size,0,none⟩) 1 1] 42)).alloc (.cells #[.int .i64 1,.int .i64 1,.int .i64 0,.slice (some ⟨w.heap.size + 1,0,none⟩) 1 1] 24)) (((w.alloc (.cells #[.bool false,.int .i64 0] 39)).alloc (.cells #[.int .i64 0,.slice (some ⟨w.heap.size,0,none⟩) 1 1] 42)).alloc (.cells #[.int .i64 1,.int .i64 1,.int .i64 0,.slice (some ⟨w.heap.size + 1,0,none⟩) 1 1] 24)).heap.size (some ⟨w.heap.size + 1,0,none⟩) ps19:=by
 refine ⟨[⟨0,[⟨false,0⟩],some ⟨w.heap.size,0,none⟩,1⟩],rfl,lrd_on (lrd_new _ _ #[.int .i64 0,.slice (some ⟨w.heap.size,0,none⟩) 1 1] rfl (by simp)) ((Bl.refl _).alloc _),?_⟩
 intro h hh
 simp only [List.mem_cons,List.not_mem_nil,or_false] at hh
 subst hh
 exact ⟨lrd_on (lrd_new _ _ #[.bool false,.int .i64 0] rfl (by simp)) (((Bl.refl _).alloc _).alloc _),(show (1:Nat)≤1 from Nat.le_refl _),(show (1:Nat)≤maxLen by simp only [maxLen];omega)⟩
theorem sr19 (w:World):SetsX (((w.alloc (.cells #[.int .i64 0,.int .i64 0,.int .i64 0] 44)).alloc (.cells #[.int .i64 0,.int .i64 1,.int .i64 0] 44)).alloc (.cells #[.slice (some ⟨w.heap.size,0,none⟩) 1 1,.slice (some ⟨w.heap.size + 1,0,none⟩) 1 1] 45)) (((w.alloc (.cells #[.int .i64 0,.int .i64 0,.int .i64 0] 44)).alloc (.cells #[.int .i64 0,.int .i64 1,.int .i64 0] 44)).alloc (.cells #[.slice (some ⟨w.heap.size,0,none⟩) 1 1,.slice (some ⟨w.heap.size + 1,0,none⟩) 1 1] 45)).heap.size (some ⟨w.heap.size + 1 + 1,0,none⟩) ls19:=by
 refine ⟨[.slice (some ⟨w.heap.size,0,none⟩) 1 1,.slice (some ⟨w.heap.size + 1,0,none⟩) 1 1],lrd_new _ _ #[.slice (some ⟨w.heap.size,0,none⟩) 1 1,.slice (some ⟨w.heap.size + 1,0,none⟩) 1 1] rfl (by simp),rfl,fun i l hl=>?_⟩
 match i,hl with
 | 0,hl=>
  injection hl with hl
  subst hl
  exact ⟨_,_,rfl,lrd_on (lrd_new _ _ #[.int .i64 0,.int .i64 0,.int .i64 0] rfl rfl) (((Bl.refl _).alloc _).alloc _)⟩
 | 1,hl=>
  injection hl with hl
  subst hl
  exact ⟨_,_,rfl,lrd_on (lrd_new _ _ #[.int .i64 0,.int .i64 1,.int .i64 0] rfl (by simp)) ((Bl.refl _).alloc _)⟩
 | k + 2,hl=>simp [ls19] at hl
theorem SetsX.more {w:World} {B B':Nat} {A:Option Addr} {L:List (List Ix)} (h:SetsX w B A L) (hB:B≤B'):SetsX w B' A L:=by
 obtain ⟨vs,h1,h2,h3⟩:=h
 refine ⟨vs,h1.more hB,h2,fun i l hl=>?_⟩
 obtain ⟨Ai,ci,h4,h5⟩:=h3 i l hl
 exact ⟨Ai,ci,h4,h5.more hB⟩
theorem SetsX.take {w:World} {B:Nat} {A:Option Addr} {L:List (List Ix)} (h:SetsX w B A L) (k:Nat):SetsX w B A (L.take k):=by
 obtain ⟨vs,h1,h2,h3⟩:=h
 refine ⟨vs.take k,h1.take k,by rw [List.length_take,List.length_take,h2],fun i l hl=>?_⟩
 have hi:i < k:=by
  have:=Ch.lt_of_get hl
  rw [List.length_take] at this
  omega
 rw [List.getElem?_take_of_lt hi] at hl
 obtain ⟨Ai,ci,h4,h5⟩:=h3 i l hl
 exact ⟨Ai,ci,by rw [List.getElem?_take_of_lt hi];exact h4,h5⟩
theorem SetsX.on {w w':World} {A:Option Addr} {L:List (List Ix)} (h:SetsX w w.heap.size A L) (hb:Bl w w'):SetsX w' w'.heap.size A L:=(h.bl (Nat.le_refl _) hb).more hb.size
theorem rd_row {w:World} {b:Nat} {t:TypeId} {cs:Array Value} {xs:List Value} (h:Bk w b t cs) (e:cs.toList=xs):Rd w w.heap.size (some ⟨b,0,none⟩) xs:=fun _=>by
 refine ⟨b,0,rfl,h.lt,fun j u hu=>?_⟩
 rw [Nat.zero_add,h.cell j,← hu,← e]
 exact Array.getElem?_toList.symm
theorem bk_at {w:World} {t:TypeId} {cs:Array Value} {g:Nat} (h:g=w.heap.size):Bk (w.alloc (.cells cs t)) g t cs:=by subst h;exact Bk.new w t cs
theorem sets19 {w:World} {b b2:Nat} (h1:Bk w b2 44 #[.int .i64 0,.int .i64 0,.int .i64 0]) (h2:Bk w b 45 #[.slice (some ⟨b2,0,none⟩) 1 1,.slice none 0 0]):SetsX w w.heap.size (some ⟨b,0,none⟩) [[⟨0,0,0⟩],[]]:=by
 refine ⟨[.slice (some ⟨b2,0,none⟩) 1 1,.slice none 0 0],rd_row h2 rfl,rfl,fun i l hl=>?_⟩
 match i,hl with
 | 0,hl=>
  injection hl with hl
  subst hl
  exact ⟨_,_,rfl,rd_row h1 rfl⟩
 | 1,hl=>
  injection hl with hl
  subst hl
  exact ⟨_,_,rfl,Rd.nil⟩
 | k + 2,hl=>simp at hl
section
variable {w0:World} {gp gw:Nat} (hp:PrsC w0 w0.heap.size (some ⟨gp,0,none⟩) ps19) (hs:SetsX w0 w0.heap.size (some ⟨gw,0,none⟩) ls19)
abbrev gv19 (gp:Nat):Value:=.agg #[.int .i64 1,.int .i64 1,.int .i64 0,.slice (some ⟨gp,0,none⟩) 1 1]
include hp
theorem cl19 {L:List (List Ix)} {As:Option Addr} {ls cs:Nat} {xs:List Int} {Aw:Option Addr} {lw:Nat} {b:Bool} (hc:closedB ⟨1,1,0,ps19⟩ xs L=b) (h2:L.length≤2) (h3:∀ l ∈ L,l.length≤2000) (e:ls=L.length) (wx:World) (hb:Bl w0 wx) (hx:Rd wx wx.heap.size Aw (ins xs)) (ex:lw=xs.length) (hsx:SetsX wx wx.heap.size As L) :
  Calls Tryz.prog 13 #[gv19 gp,.slice Aw lw lw,.slice As ls cs] wx fun e w'=>e=.returned (.bool b)∧Bl wx w':=by
 refine (closed_any 1 1 0 (some ⟨gp,0,none⟩) 1 1 ps19 Aw lw lw xs As ls cs L wx wx.heap.size rfl (by decide) (lprs_on hp hb).prs ex (Nat.le_refl _) hx e (by omega) h3 hsx (Nat.le_refl _)).mono ?_
 rintro e w' ⟨b',rfl,hi,hb'⟩
 rw [← closedB_iff,hc] at hi
 refine ⟨?_,hb'⟩
 cases b <;> cases b' <;> simp_all
theorem al19 {L:List (List Ix)} {As:Option Addr} {ls cs:Nat} {l:List Int} {Aw Al:Option Addr} {ll:Nat} {b:Bool} (hc:b=true↔AloneP ⟨1,1,0,ps19⟩ [0] L l) (h2:L.length≤2) (h3:∀ l ∈ L,l.length≤2000) (e:ls=L.length) (wx:World) (hb:Bl w0 wx) (hx:Rd wx wx.heap.size Aw (ins [0])) (hy:Rd wx wx.heap.size Al (ins l)) (hm:ll≤2) (ey:ll=l.length) (hsx:SetsX wx wx.heap.size As L) :
  Calls Tryz.prog 9 #[gv19 gp,.slice Aw 1 1,.slice As ls cs,.slice Al ll ll] wx fun e w'=>e=.returned (.bool b)∧Bl wx w':=by
 refine (alone_any 1 1 0 (some ⟨gp,0,none⟩) 1 1 ps19 Aw 1 1 [0] As ls cs L Al ll ll l wx wx.heap.size rfl (by decide) (lprs_on hp hb) rfl (Nat.le_refl _) hx e (by omega) h3 hsx ey (by omega) hy (Nat.le_refl _) (by decide)).mono ?_
 rintro e w' ⟨b',rfl,hi,hb'⟩
 refine ⟨?_,hb'⟩
 have hi:=hi.trans hc.symm
 cases b <;> cases b' <;> simp_all
end
theorem few19:∀ l ∈ ls19,l.length≤2000:=by
 intro l hl
 simp only [ls19,List.mem_cons,List.not_mem_nil,or_false] at hl
 rcases hl with rfl | rfl <;> decide
theorem few19t:∀ l ∈ ls19.take 1,l.length≤2000:=fun l hl=>few19 l (List.mem_of_mem_take hl)
theorem few19b:∀ l ∈ [[(⟨0,0,0⟩:Ix)],[]],l.length≤2000:=by
 intro l hl
 simp only [List.mem_cons,List.not_mem_nil,or_false] at hl
 rcases hl with rfl | rfl <;> decide
theorem awake19_any (w:World):Calls Tryz.prog 4 #[] w fun e w'=>e=.returned (.bool true)∧Bl w w':=by
 have HP0:=Lib.hid (prs19 w)
 have HB0:Hid (Bl w (((w.alloc (.cells #[.bool false,.int .i64 0] 39)).alloc (.cells #[.int .i64 0,.slice (some ⟨w.heap.size,0,none⟩) 1 1] 42)).alloc (.cells #[.int .i64 1,.int .i64 1,.int .i64 0,.slice (some ⟨w.heap.size + 1,0,none⟩) 1 1] 24))):=(((Bl.refl w).alloc _).alloc _).alloc _
 have HG0:Hid (Bk (((w.alloc (.cells #[.bool false,.int .i64 0] 39)).alloc (.cells #[.int .i64 0,.slice (some ⟨w.heap.size,0,none⟩) 1 1] 42)).alloc (.cells #[.int .i64 1,.int .i64 1,.int .i64 0,.slice (some ⟨w.heap.size + 1,0,none⟩) 1 1] 24)) (w.heap.size + 1 + 1) 24 #[.int .i64 1,.int .i64 1,.int .i64 0,.slice (some ⟨w.heap.size + 1,0,none⟩) 1 1]):=by
  have h:=Bk.new ((w.alloc (.cells #[.bool false,.int .i64 0] 39)).alloc (.cells #[.int .i64 0,.slice (some ⟨w.heap.size,0,none⟩) 1 1] 42)) 24 #[.int .i64 1,.int .i64 1,.int .i64 0,.slice (some ⟨w.heap.size + 1,0,none⟩) 1 1]
  rw [show ((w.alloc (.cells #[.bool false,.int .i64 0] 39)).alloc (.cells #[.int .i64 0,.slice (some ⟨w.heap.size,0,none⟩) 1 1] 42)).heap.size=w.heap.size + 1 + 1 by simp] at h
  exact h
 go_enter Tryz.func4,Tryz.ntmps4
 go_upto_region 2 with fail
 generalize (((w.alloc (.cells #[.bool false,.int .i64 0] 39)).alloc (.cells #[.int .i64 0,.slice (some ⟨w.heap.size,0,none⟩) 1 1] 42)).alloc (.cells #[.int .i64 1,.int .i64 1,.int .i64 0,.slice (some ⟨w.heap.size + 1,0,none⟩) 1 1] 24))=w0 at *
 generalize w.heap.size + 1 + 1=gv at *
 generalize w.heap.size + 1=gp at *
 go_upto_region 3 with fail
 have HSw:=Lib.hid (sr19 w0)
 have HBw:Hid (Bl w0 (((w0.alloc (.cells #[.int .i64 0,.int .i64 0,.int .i64 0] 44)).alloc (.cells #[.int .i64 0,.int .i64 1,.int .i64 0] 44)).alloc (.cells #[.slice (some ⟨w0.heap.size,0,none⟩) 1 1,.slice (some ⟨w0.heap.size + 1,0,none⟩) 1 1] 45))):=(((Bl.refl w0).alloc _).alloc _).alloc _
 generalize (((w0.alloc (.cells #[.int .i64 0,.int .i64 0,.int .i64 0] 44)).alloc (.cells #[.int .i64 0,.int .i64 1,.int .i64 0] 44)).alloc (.cells #[.slice (some ⟨w0.heap.size,0,none⟩) 1 1,.slice (some ⟨w0.heap.size + 1,0,none⟩) 1 1] 45))=w4 at *
 generalize w0.heap.size + 1 + 1=gw at *
 have HBx:=Lib.hid (Bl.refl w4)
 have HG4:=Lib.hid (HG0.out.bl HBw.out)
 have hp4:=lprs_on HP0.out HBw.out
 have hs4:=HSw.out
 have HX:Hid (∀ wx,Bl w4 wx→wx.cell? ⟨gv,0,none⟩=some (.int .i64 1)∧wx.cell? ⟨gv,1,none⟩=some (.int .i64 1)∧wx.cell? ⟨gv,2,none⟩=some (.int .i64 0)∧wx.cell? ⟨gv,3,none⟩=some (.slice (some ⟨gp,0,none⟩) 1 1)):=fun wx hb=>
  ⟨(HG4.out.bl hb).cell 0,(HG4.out.bl hb).cell 1,(HG4.out.bl hb).cell 2,(HG4.out.bl hb).cell 3⟩
 have HC1:Hid (∀ (wx:World) (b:Nat),Bl w4 wx→Bk wx b 3 #[.int .i64 0]→Calls Tryz.prog 13 #[gv19 gp,.slice (some ⟨b,0,none⟩) 1 1,.slice (some ⟨gw,0,none⟩) 2 2] wx fun e w'=>e=.returned (.bool true)∧Bl wx w'):=fun wx b hb hk=>cl19 hp4 c19a (by decide) few19 rfl wx hb (rd_row hk rfl) rfl (hs4.on hb)
 have HC2:Hid (∀ (wx:World) (b b2 b3:Nat),Bl w4 wx→Bk wx b 3 #[.int .i64 0]→Bk wx b3 45 #[.slice (some ⟨b2,0,none⟩) 1 1,.slice none 0 0]→Bk wx b2 44 #[.int .i64 0,.int .i64 0,.int .i64 0]→Calls Tryz.prog 13 #[gv19 gp,.slice (some ⟨b,0,none⟩) 1 1,.slice (some ⟨b3,0,none⟩) 2 2] wx fun e w'=>e=.returned (.bool false)∧Bl wx w'):=fun wx b b2 b3 hb hk h3 h2=>cl19 hp4 c19b (by decide) few19b rfl wx hb (rd_row hk rfl) rfl (sets19 h2 h3)
 have HC3:Hid (∀ (wx:World) (b c:Nat),Bl w4 wx→Bk wx b 3 #[.int .i64 0]→Calls Tryz.prog 13 #[gv19 gp,.slice (some ⟨b,0,none⟩) 1 1,.slice (some ⟨gw,0,none⟩) 1 c] wx fun e w'=>e=.returned (.bool true)∧Bl wx w'):=fun wx b c hb hk=>cl19 hp4 c19c (by decide) few19t rfl wx hb (rd_row hk rfl) rfl ((hs4.on hb).take 1)
 have HC4:Hid (∀ (wx:World),Bl w4 wx→Calls Tryz.prog 13 #[gv19 gp,.slice none 0 0,.slice (some ⟨gw,0,none⟩) 2 2] wx fun e w'=>e=.returned (.bool false)∧Bl wx w'):=fun wx hb=>cl19 hp4 c19d (by decide) few19 rfl wx hb Rd.nil rfl (hs4.on hb)
 have HC5:Hid (∀ (wx:World) (b b2:Nat),Bl w4 wx→Bk wx b 3 #[.int .i64 0]→Bk wx b2 3 #[.int .i64 0]→Calls Tryz.prog 9 #[gv19 gp,.slice (some ⟨b,0,none⟩) 1 1,.slice (some ⟨gw,0,none⟩) 2 2,.slice (some ⟨b2,0,none⟩) 1 1] wx fun e w'=>e=.returned (.bool true)∧Bl wx w'):=fun wx b b2 hb hk h2=>al19 hp4 (l:=[0]) ⟨fun _=>a19a,fun _=>rfl⟩ (by decide) few19 rfl wx hb (rd_row hk rfl) (rd_row h2 rfl) (by decide) rfl (hs4.on hb)
 have HC6:Hid (∀ (wx:World) (b:Nat),Bl w4 wx→Bk wx b 3 #[.int .i64 0]→Calls Tryz.prog 9 #[gv19 gp,.slice (some ⟨b,0,none⟩) 1 1,.slice (some ⟨gw,0,none⟩) 2 2,.slice none 0 0] wx fun e w'=>e=.returned (.bool false)∧Bl wx w'):=fun wx b hb hk=>al19 hp4 (l:=[]) ⟨fun h=>(by cases h),fun h=>(a19b h).elim⟩ (by decide) few19 rfl wx hb (rd_row hk rfl) Rd.nil (by decide) rfl (hs4.on hb)
 have HC7:Hid (∀ (wx:World) (b b2 c:Nat),Bl w4 wx→Bk wx b 3 #[.int .i64 0]→Bk wx b2 3 #[.int .i64 0]→Calls Tryz.prog 9 #[gv19 gp,.slice (some ⟨b,0,none⟩) 1 1,.slice (some ⟨gw,0,none⟩) 1 c,.slice (some ⟨b2,0,none⟩) 1 1] wx fun e w'=>e=.returned (.bool false)∧Bl wx w'):=fun wx b b2 c hb hk h2=>al19 hp4 (l:=[0]) ⟨fun h=>(by cases h),fun h=>(a19c h).elim⟩ (by decide) few19t rfl wx hb (rd_row hk rfl) (rd_row h2 rfl) (by decide) rfl ((hs4.on hb).take 1)
 clear hp4 hs4
 have tk1:True:=trivial
 have tk2:True:=trivial
 have tk3:True:=trivial
 have tk4:True:=trivial
 have tk5:True:=trivial
 have tk6:True:=trivial
 have tk7:True:=trivial
 go_region_held3 (fun wx=>wx.cell? ⟨gv,0,none⟩=some (.int .i64 1)∧wx.cell? ⟨gv,1,none⟩=some (.int .i64 1)∧wx.cell? ⟨gv,2,none⟩=some (.int .i64 0)∧wx.cell? ⟨gv,3,none⟩=some (.slice (some ⟨gp,0,none⟩) 1 1)) (exact HX.out _ (by first | exact HBx.out | exact HBx.out.alloc _ | exact (HBx.out.alloc _).alloc _ | exact ((HBx.out.alloc _).alloc _).alloc _ | exact HBx.out.drew | exact (HBx.out.alloc _).drew | exact ((HBx.out.alloc _).alloc _).drew | exact (((HBx.out.alloc _).alloc _).alloc _).drew)) (first
  | (go_at_call 13;have _t:=tk1;((with_reducible refine (HC1.out _ _ (by first | exact HBx.out | exact HBx.out.alloc _ | exact (HBx.out.alloc _).alloc _ | exact ((HBx.out.alloc _).alloc _).alloc _ | exact HBx.out.drew | exact (HBx.out.alloc _).drew | exact ((HBx.out.alloc _).alloc _).drew | exact (((HBx.out.alloc _).alloc _).alloc _).drew) (by first | exact bk_at (by first | (simp;done) | fail) | exact Bk.alloc (bk_at (by first | (simp;done) | fail)) _ | exact Bk.alloc (Bk.alloc (bk_at (by first | (simp;done) | fail)) _) _ | exact Bk.drew (bk_at (by first | (simp;done) | fail)) | exact Bk.drew (Bk.alloc (bk_at (by first | (simp;done) | fail)) _) | exact Bk.drew (Bk.alloc (Bk.alloc (bk_at (by first | (simp;done) | fail)) _) _))).mono ?_);rintro e v1 ⟨rfl,hb1⟩;have HBx:=Lib.hid (Bl.trans (by first | exact HBx.out | exact HBx.out.alloc _ | exact (HBx.out.alloc _).alloc _ | exact ((HBx.out.alloc _).alloc _).alloc _ | exact HBx.out.drew | exact (HBx.out.alloc _).drew | exact ((HBx.out.alloc _).alloc _).drew | exact (((HBx.out.alloc _).alloc _).alloc _).drew) hb1);clear hb1;clear tk1))
  | (go_at_call 13;have _t:=tk2;((with_reducible refine (HC2.out _ _ _ _ (by first | exact HBx.out | exact HBx.out.alloc _ | exact (HBx.out.alloc _).alloc _ | exact ((HBx.out.alloc _).alloc _).alloc _ | exact HBx.out.drew | exact (HBx.out.alloc _).drew | exact ((HBx.out.alloc _).alloc _).drew | exact (((HBx.out.alloc _).alloc _).alloc _).drew) (by first | exact bk_at (by first | (simp;done) | fail) | exact Bk.alloc (bk_at (by first | (simp;done) | fail)) _ | exact Bk.alloc (Bk.alloc (bk_at (by first | (simp;done) | fail)) _) _ | exact Bk.drew (bk_at (by first | (simp;done) | fail)) | exact Bk.drew (Bk.alloc (bk_at (by first | (simp;done) | fail)) _) | exact Bk.drew (Bk.alloc (Bk.alloc (bk_at (by first | (simp;done) | fail)) _) _)) (by first | exact bk_at (by first | (simp;done) | fail) | exact Bk.alloc (bk_at (by first | (simp;done) | fail)) _ | exact Bk.alloc (Bk.alloc (bk_at (by first | (simp;done) | fail)) _) _ | exact Bk.drew (bk_at (by first | (simp;done) | fail)) | exact Bk.drew (Bk.alloc (bk_at (by first | (simp;done) | fail)) _) | exact Bk.drew (Bk.alloc (Bk.alloc (bk_at (by first | (simp;done) | fail)) _) _)) (by first | exact bk_at (by first | (simp;done) | fail) | exact Bk.alloc (bk_at (by first | (simp;done) | fail)) _ | exact Bk.alloc (Bk.alloc (bk_at (by first | (simp;done) | fail)) _) _ | exact Bk.drew (bk_at (by first | (simp;done) | fail)) | exact Bk.drew (Bk.alloc (bk_at (by first | (simp;done) | fail)) _) | exact Bk.drew (Bk.alloc (Bk.alloc (bk_at (by first | (simp;done) | fail)) _) _))).mono ?_);rintro e v2 ⟨rfl,hb2⟩;have HBx:=Lib.hid (Bl.trans (by first | exact HBx.out | exact HBx.out.alloc _ | exact (HBx.out.alloc _).alloc _ | exact ((HBx.out.alloc _).alloc _).alloc _ | exact HBx.out.drew | exact (HBx.out.alloc _).drew | exact ((HBx.out.alloc _).alloc _).drew | exact (((HBx.out.alloc _).alloc _).alloc _).drew) hb2);clear hb2;clear tk2))
  | (go_at_call 13;have _t:=tk3;((with_reducible refine (HC3.out _ _ _ (by first | exact HBx.out | exact HBx.out.alloc _ | exact (HBx.out.alloc _).alloc _ | exact ((HBx.out.alloc _).alloc _).alloc _ | exact HBx.out.drew | exact (HBx.out.alloc _).drew | exact ((HBx.out.alloc _).alloc _).drew | exact (((HBx.out.alloc _).alloc _).alloc _).drew) (by first | exact bk_at (by first | (simp;done) | fail) | exact Bk.alloc (bk_at (by first | (simp;done) | fail)) _ | exact Bk.alloc (Bk.alloc (bk_at (by first | (simp;done) | fail)) _) _ | exact Bk.drew (bk_at (by first | (simp;done) | fail)) | exact Bk.drew (Bk.alloc (bk_at (by first | (simp;done) | fail)) _) | exact Bk.drew (Bk.alloc (Bk.alloc (bk_at (by first | (simp;done) | fail)) _) _))).mono ?_);rintro e v3 ⟨rfl,hb3⟩;have HBx:=Lib.hid (Bl.trans (by first | exact HBx.out | exact HBx.out.alloc _ | exact (HBx.out.alloc _).alloc _ | exact ((HBx.out.alloc _).alloc _).alloc _ | exact HBx.out.drew | exact (HBx.out.alloc _).drew | exact ((HBx.out.alloc _).alloc _).drew | exact (((HBx.out.alloc _).alloc _).alloc _).drew) hb3);clear hb3;clear tk3))
  | (go_at_call 13;have _t:=tk4;((with_reducible refine (HC4.out _ (by first | exact HBx.out | exact HBx.out.alloc _ | exact (HBx.out.alloc _).alloc _ | exact ((HBx.out.alloc _).alloc _).alloc _ | exact HBx.out.drew | exact (HBx.out.alloc _).drew | exact ((HBx.out.alloc _).alloc _).drew | exact (((HBx.out.alloc _).alloc _).alloc _).drew)).mono ?_);rintro e v4 ⟨rfl,hb4⟩;have HBx:=Lib.hid (Bl.trans (by first | exact HBx.out | exact HBx.out.alloc _ | exact (HBx.out.alloc _).alloc _ | exact ((HBx.out.alloc _).alloc _).alloc _ | exact HBx.out.drew | exact (HBx.out.alloc _).drew | exact ((HBx.out.alloc _).alloc _).drew | exact (((HBx.out.alloc _).alloc _).alloc _).drew) hb4);clear hb4;clear tk4))
  | (go_at_call 9;have _t:=tk5;((with_reducible refine (HC5.out _ _ _ (by first | exact HBx.out | exact HBx.out.alloc _ | exact (HBx.out.alloc _).alloc _ | exact ((HBx.out.alloc _).alloc _).alloc _ | exact HBx.out.drew | exact (HBx.out.alloc _).drew | exact ((HBx.out.alloc _).alloc _).drew | exact (((HBx.out.alloc _).alloc _).alloc _).drew) (by first | exact bk_at (by first | (simp;done) | fail) | exact Bk.alloc (bk_at (by first | (simp;done) | fail)) _ | exact Bk.alloc (Bk.alloc (bk_at (by first | (simp;done) | fail)) _) _ | exact Bk.drew (bk_at (by first | (simp;done) | fail)) | exact Bk.drew (Bk.alloc (bk_at (by first | (simp;done) | fail)) _) | exact Bk.drew (Bk.alloc (Bk.alloc (bk_at (by first | (simp;done) | fail)) _) _)) (by first | exact bk_at (by first | (simp;done) | fail) | exact Bk.alloc (bk_at (by first | (simp;done) | fail)) _ | exact Bk.alloc (Bk.alloc (bk_at (by first | (simp;done) | fail)) _) _ | exact Bk.drew (bk_at (by first | (simp;done) | fail)) | exact Bk.drew (Bk.alloc (bk_at (by first | (simp;done) | fail)) _) | exact Bk.drew (Bk.alloc (Bk.alloc (bk_at (by first | (simp;done) | fail)) _) _))).mono ?_);rintro e v5 ⟨rfl,hb5⟩;have HBx:=Lib.hid (Bl.trans (by first | exact HBx.out | exact HBx.out.alloc _ | exact (HBx.out.alloc _).alloc _ | exact ((HBx.out.alloc _).alloc _).alloc _ | exact HBx.out.drew | exact (HBx.out.alloc _).drew | exact ((HBx.out.alloc _).alloc _).drew | exact (((HBx.out.alloc _).alloc _).alloc _).drew) hb5);clear hb5;clear tk5))
  | (go_at_call 9;have _t:=tk6;((with_reducible refine (HC6.out _ _ (by first | exact HBx.out | exact HBx.out.alloc _ | exact (HBx.out.alloc _).alloc _ | exact ((HBx.out.alloc _).alloc _).alloc _ | exact HBx.out.drew | exact (HBx.out.alloc _).drew | exact ((HBx.out.alloc _).alloc _).drew | exact (((HBx.out.alloc _).alloc _).alloc _).drew) (by first | exact bk_at (by first | (simp;done) | fail) | exact Bk.alloc (bk_at (by first | (simp;done) | fail)) _ | exact Bk.alloc (Bk.alloc (bk_at (by first | (simp;done) | fail)) _) _ | exact Bk.drew (bk_at (by first | (simp;done) | fail)) | exact Bk.drew (Bk.alloc (bk_at (by first | (simp;done) | fail)) _) | exact Bk.drew (Bk.alloc (Bk.alloc (bk_at (by first | (simp;done) | fail)) _) _))).mono ?_);rintro e v6 ⟨rfl,hb6⟩;have HBx:=Lib.hid (Bl.trans (by first | exact HBx.out | exact HBx.out.alloc _ | exact (HBx.out.alloc _).alloc _ | exact ((HBx.out.alloc _).alloc _).alloc _ | exact HBx.out.drew | exact (HBx.out.alloc _).drew | exact ((HBx.out.alloc _).alloc _).drew | exact (((HBx.out.alloc _).alloc _).alloc _).drew) hb6);clear hb6;clear tk6))
  | (go_at_call 9;have _t:=tk7;((with_reducible refine (HC7.out _ _ _ _ (by first | exact HBx.out | exact HBx.out.alloc _ | exact (HBx.out.alloc _).alloc _ | exact ((HBx.out.alloc _).alloc _).alloc _ | exact HBx.out.drew | exact (HBx.out.alloc _).drew | exact ((HBx.out.alloc _).alloc _).drew | exact (((HBx.out.alloc _).alloc _).alloc _).drew) (by first | exact bk_at (by first | (simp;done) | fail) | exact Bk.alloc (bk_at (by first | (simp;done) | fail)) _ | exact Bk.alloc (Bk.alloc (bk_at (by first | (simp;done) | fail)) _) _ | exact Bk.drew (bk_at (by first | (simp;done) | fail)) | exact Bk.drew (Bk.alloc (bk_at (by first | (simp;done) | fail)) _) | exact Bk.drew (Bk.alloc (Bk.alloc (bk_at (by first | (simp;done) | fail)) _) _)) (by first | exact bk_at (by first | (simp;done) | fail) | exact Bk.alloc (bk_at (by first | (simp;done) | fail)) _ | exact Bk.alloc (Bk.alloc (bk_at (by first | (simp;done) | fail)) _) _ | exact Bk.drew (bk_at (by first | (simp;done) | fail)) | exact Bk.drew (Bk.alloc (bk_at (by first | (simp;done) | fail)) _) | exact Bk.drew (Bk.alloc (Bk.alloc (bk_at (by first | (simp;done) | fail)) _) _))).mono ?_);rintro e v7 ⟨rfl,hb7⟩;have HBx:=Lib.hid (Bl.trans (by first | exact HBx.out | exact HBx.out.alloc _ | exact (HBx.out.alloc _).alloc _ | exact ((HBx.out.alloc _).alloc _).alloc _ | exact HBx.out.drew | exact (HBx.out.alloc _).drew | exact ((HBx.out.alloc _).alloc _).drew | exact (((HBx.out.alloc _).alloc _).alloc _).drew) hb7);clear hb7;clear tk7)))
 all_goals
  go_wp2_with fail
  go_ret
  exact ⟨rfl,HB0.out.trans (HBw.out.trans HBx.out)⟩
end Go.Proofs.YtdfhhbncmdpoeaaGreat
