/- Any items, whatever their numbers are: what they tell of what is next. -/
import Derived.Test.YtdfhhbncmdpoeaaGreatItemB
import Derived.Test.YtdfhhbncmdpoeaaGreatFactS
import Derived.Test.YtdfhhbncmdpoeaaGreatBaseS
import Derived.Test.YtdfhhbncmdpoeaaGreatItemA
import Derived.BigQuiet
import Derived.Maps.RangeWalk
import Derived.Sort.MapsRangeIn
import Derived.RangeFuncSeq
import Derived.WideKeyEntry
set_option maxRecDepth 100000
namespace Go.Proofs.YtdfhhbncmdpoeaaGreat
open Go.RowKit
structure Ix where
 prod:Int
 dot:Int
 frm:Int
def ixc (x:Ix):List Value:=[.int .i64 x.prod,.int .i64 x.dot,.int .i64 x.frm]
theorem ixc_len (x:Ix):(ixc x).length=3:=rfl
def ixRow (l:List Ix):List Value:=rowN ixc l
theorem ixRow_len (l:List Ix):(ixRow l).length=l.length * 3:=rowN_len ixc_len l
theorem Rd.ix {w:World} {B:Nat} {A:Option Addr} {l:List Ix} (h:Rd w B A (ixRow l)) {i:Nat} (hi:i < l.length):∃ b off,A=some ⟨b,off,none⟩∧b < B∧w.cell? ⟨b,off + i * 3,none⟩=some (.int .i64 l[i].prod)∧
  w.cell? ⟨b,off + i * 3 + 1,none⟩=some (.int .i64 l[i].dot)∧w.cell? ⟨b,off + i * 3 + 2,none⟩=some (.int .i64 l[i].frm):=by
 obtain ⟨b,off,e,hb,hc⟩:=h (by rw [ixRow_len];omega)
 exact ⟨b,off,e,hb,hc _ _ ((rowN_at ixc_len l i 0 hi (by decide)).trans rfl),hc _ _ ((rowN_at ixc_len l i 1 hi (by decide)).trans rfl),hc _ _ ((rowN_at ixc_len l i 2 hi (by decide)).trans rfl)⟩
def Ch.Im.ix (x:Ch.Im):Ix:=⟨(x.prod:Int),(x.dot:Int),(x.frm:Int)⟩
theorem imRow_ix (l:List Ch.Im):imRow l=ixRow (l.map Ch.Im.ix):=by
 unfold imRow ixRow rowN
 rw [List.flatMap_map]
 rfl
def mayIx (ps:List Gr.Pr) (x:Ix):Bool:=decide (0≤x.prod∧x.prod < (ps.length:Int)∧0≤x.dot) && (match ps[x.prod.toNat]? with | some p=>decide (x.dot≤(p.right.length:Int)) | none=>false)
theorem mayIx_iff {ps:List Gr.Pr} {x:Ix}:mayIx ps x=true↔∃ (i d:Nat) (p:Gr.Pr),x.prod=(i:Int)∧x.dot=(d:Int)∧ps[i]?=some p∧d≤p.right.length:=by
 unfold mayIx
 constructor
 ·intro h
  rw [Bool.and_eq_true,decide_eq_true_eq] at h
  obtain ⟨⟨h1,h2,h3⟩,h4⟩:=h
  cases e:ps[x.prod.toNat]? with
  | none=>rw [e] at h4;cases h4
  | some p=>
   rw [e] at h4
   have h4:decide (x.dot≤(p.right.length:Int))=true:=h4
   rw [decide_eq_true_eq] at h4
   exact ⟨x.prod.toNat,x.dot.toNat,p,by omega,by omega,e,by omega⟩
 ·rintro ⟨i,d,p,h1,h2,h3,h4⟩
  have hi:=Ch.lt_of_get h3
  rw [Bool.and_eq_true,decide_eq_true_eq]
  refine ⟨⟨by omega,by omega,by omega⟩,?_⟩
  rw [show x.prod.toNat=i by omega,h3]
  show decide (x.dot≤(p.right.length:Int))=true
  rw [decide_eq_true_eq];omega
end Go.Proofs.YtdfhhbncmdpoeaaGreat
namespace Go.Proofs.YtdfhhbncmdpoeaaGreat
open Go.ChangeShapes Go.WideShapes Go.RowKit Go.Deep
section
variable {H:Type} {enc:TypeId × Value→H} {w:World} {spare:Nat→Bool} {held:Bool}
theorem open_item {fuel:Nat} {cs:List Value} {y:DataW H × List MemPlace} (h:DataW.trod enc Tryz.prog w 0 spare held fuel 44 cs=some y):∃ x:Ix,cs=ixc x:=by
 obtain ⟨xs,n,_,_,hlen,hxl,hf⟩:=DataW.trod_struct Tryz.underlying44 h
 have h2:Tryz.prog.cellsOf 44=3:=by kernel_rfl
 rw [h2] at hlen
 match cs,hlen with
 | [c0,c1,c2],_=>
  have e3:Tryz.prog.cellsOf 3=1:=by kernel_rfl
  match xs,hxl with
  | [y0,y1,y2],_=>
   have h0:=hf 0 _ rfl
   have h1:=hf 1 _ rfl
   have h2:=hf 2 _ rfl
   simp [e3] at h0 h1 h2
   obtain ⟨a,ha,_,_⟩:=DataW.trod_int Tryz.underlying3 h0
   obtain ⟨b,hb,_,_⟩:=DataW.trod_int Tryz.underlying3 h1
   obtain ⟨c,hc,_,_⟩:=DataW.trod_int Tryz.underlying3 h2
   injection ha with ha _
   injection hb with hb _
   injection hc with hc _
   subst ha hb hc
   exact ⟨⟨a,b,c⟩,rfl⟩
theorem rd_ixs {a:Addr} {len:Nat} (key:∀ i,i < len→∃ x:Ix,w.cell? (a.add (i * 3))=some (.int .i64 x.prod)∧w.cell? ((a.add (i * 3)).add 1)=some (.int .i64 x.dot)∧w.cell? ((a.add (i * 3)).add 2)=some (.int .i64 x.frm)) :
  ∃ xs:List Ix,xs.length=len∧Rd w w.heap.size (some a) (ixRow xs):=by
 have hf:=Classical.skolem.1 fun i:Fin len=>key i i.2
 obtain ⟨X,hX⟩:=hf
 refine ⟨List.ofFn X,by simp,?_⟩
 intro hn
 rw [ixRow_len,List.length_ofFn] at hn
 obtain ⟨h0,_⟩:=hX ⟨0,by omega⟩
 obtain ⟨b,off,spot⟩:=a
 have hspot:spot=none:=by simpa [Addr.add] using World.cell?_spot h0
 subst hspot
 refine ⟨b,off,rfl,by have:=World.block_lt_of_cell? w _ h0;simpa [Addr.add] using this,fun j u hu=>?_⟩
 have e:∀ j,(⟨b,off,none⟩:Addr).add j=⟨b,off + j,none⟩:=fun j=>by unfold Addr.add;split <;> simp_all
 have e':∀ o j,(⟨b,o,none⟩:Addr).add j=⟨b,o + j,none⟩:=fun o j=>by unfold Addr.add;split <;> simp_all
 have hj:j < len * 3:=by
  rcases Nat.lt_or_ge j (len * 3) with h | h
  ·exact h
  ·rw [List.getElem?_eq_none (by rw [ixRow_len,List.length_ofFn];exact h)] at hu;cases hu
 have hi:j / 3 < len:=by omega
 obtain ⟨q0,q1,q2⟩:=hX ⟨j / 3,hi⟩
 have hr:j % 3 < 3:=Nat.mod_lt _ (by decide)
 have r:=rowN_at ixc_len (List.ofFn X) (j / 3) (j % 3) (by rw [List.length_ofFn];exact hi) hr
 have ej:j / 3 * 3 + j % 3=j:=by omega
 rw [ej,List.getElem_ofFn] at r
 have hu:(rowN ixc (List.ofFn X))[j]?=some u:=hu
 rw [r] at hu
 rw [e] at q0 q1 q2
 rw [e'] at q1 q2
 rw [← ej,← Nat.add_assoc]
 generalize j % 3=m at *
 have hm:m=0∨m=1∨m=2:=by omega
 rcases hm with rfl | rfl | rfl
 ·have hu:some (Value.int .i64 _)=some u:=hu
  rw [← hu];exact q0
 ·have hu:some (Value.int .i64 _)=some u:=hu
  rw [← hu];exact q1
 ·have hu:some (Value.int .i64 _)=some u:=hu
  rw [← hu];exact q2
theorem iopen_items {A:Option Addr} {len cap:Nat} {d:DataW H} {p:List MemPlace} (h:DataW.Trod enc Tryz.prog w 0 spare held 45 (.slice A len cap) d p) :
  ∃ l:List Ix,len=l.length∧Rd w w.heap.size A (ixRow l)∧len≤maxLen:=by
 obtain ⟨fuel,hf⟩:=h
 rcases open_slice Tryz.underlying45 hf with ⟨hcs,_⟩ | ⟨a,len',cap',m,n,D,Pl,hcs,_,hl,hm,hmm,_,hi⟩
 ·simp [Value.cells] at hcs
  obtain ⟨rfl,rfl,rfl⟩:=hcs
  exact ⟨[],rfl,Rd.nil,Nat.zero_le _⟩
 ·simp [Value.cells] at hcs
  obtain ⟨rfl,rfl,rfl⟩:=hcs
  have h2:Tryz.prog.cellsOf 44=3:=by kernel_rfl
  rw [h2] at hi
  have hlm:len≤m:=by rw [hmm];split <;> omega
  have key:∀ i,i < len→∃ x:Ix,w.cell? (a.add (i * 3))=some (.int .i64 x.prod)∧w.cell? ((a.add (i * 3)).add 1)=some (.int .i64 x.dot)∧w.cell? ((a.add (i * 3)).add 2)=some (.int .i64 x.frm):=by
   intro i hil
   obtain ⟨cs',hc,ht⟩:=hi i (by omega)
   obtain ⟨x,rfl⟩:=open_item ht
   obtain ⟨_,_,hat⟩:=World.cells?_some hc
   have a0:=hat 0 (by show 0 < 3;omega)
   rw [show ∀ b:Addr,b.add 0=b from fun b=>by simp [Addr.add]] at a0
   exact ⟨x,a0,hat 1 (by show 1 < 3;omega),hat 2 (by show 2 < 3;omega)⟩
  obtain ⟨xs,hxl,hr⟩:=rd_ixs key
  exact ⟨xs,hxl.symm,hr,Nat.le_trans hl hm⟩
end
end Go.Proofs.YtdfhhbncmdpoeaaGreat
namespace Go.Proofs.YtdfhhbncmdpoeaaGreat
open Go.RowKit
open Go.Maps (Keyed)
open Go.ChangeMaps Go.MapKept
abbrev St4:=Nat × Ch.Im
def stv (s:St4):Value:=.agg #[.int .i64 (s.1:Int),.int .i64 (s.2.prod:Int),.int .i64 (s.2.dot:Int),.int .i64 (s.2.frm:Int)]
def stKey (s:St4):Lit:=.string (keyBytes [.int .i64 (s.1:Int),.int .i64 (s.2.prod:Int),.int .i64 (s.2.dot:Int),.int .i64 (s.2.frm:Int)])
def stOk (s:St4):Prop:=s.1 < 1000000∧imOk s.2
def wtv (x:Int × Nat):Value:=.agg #[.int .i64 x.1,.int .i64 (x.2:Int)]
def wtKey (x:Int × Nat):Lit:=.string (keyBytes [.int .i64 x.1,.int .i64 (x.2:Int)])
def wtOk (x:Int × Nat):Prop:=0≤x.1∧x.1 < 1000000∧x.2 < 1000000
def ndv (x:Int × Nat × Nat):Value:=.agg #[.int .i64 x.1,.int .i64 (x.2.1:Int),.int .i64 (x.2.2:Int)]
def ndKey (x:Int × Nat × Nat):Lit:=.string (keyBytes [.int .i64 x.1,.int .i64 (x.2.1:Int),.int .i64 (x.2.2:Int)])
def ndOk (x:Int × Nat × Nat):Prop:=0≤x.1∧x.1 < 1000000∧x.2.1 < 1000000∧x.2.2 < 1000000
theorem st_row:(96:TypeId) < Tryz.prog.types.size:=of_decide_eq_true (by kernel_rfl)
theorem st_wide:(match Tryz.prog.underlying 96 with | some (.array _ _) | some (.struct _)=>true | _=>false)=true:=by rw [Tryz.underlying96]
theorem st_law:Keyed Tryz.prog 96:=Keyed.of_law (deep_law_laid ch_laid (m:=3) (by omega) st_row (by kernel_rfl) st_wide)
theorem st_cells:Tryz.prog.cellsOf 96=4:=by kernel_rfl
theorem st_keyType:Tryz.prog.keyType 96=true:=by kernel_rfl
theorem wt_row:(154:TypeId) < Tryz.prog.types.size:=of_decide_eq_true (by kernel_rfl)
theorem wt_wide:(match Tryz.prog.underlying 154 with | some (.array _ _) | some (.struct _)=>true | _=>false)=true:=by rw [Tryz.underlying154]
theorem wt_law:WideMaps.KeyLaw Tryz.prog 154:=deep_law_laid ch_laid (m:=2) (by omega) wt_row (by kernel_rfl) wt_wide
theorem wt_cells:Tryz.prog.cellsOf 154=2:=by kernel_rfl
theorem wt_keyType:Tryz.prog.keyType 154=true:=by kernel_rfl
theorem nd_row:(152:TypeId) < Tryz.prog.types.size:=of_decide_eq_true (by kernel_rfl)
theorem nd_wide:(match Tryz.prog.underlying 152 with | some (.array _ _) | some (.struct _)=>true | _=>false)=true:=by rw [Tryz.underlying152]
theorem nd_law:Keyed Tryz.prog 152:=Keyed.of_law (deep_law_laid ch_laid (m:=2) (by omega) nd_row (by kernel_rfl) nd_wide)
theorem nd_cells:Tryz.prog.cellsOf 152=3:=by kernel_rfl
theorem nd_keyType:Tryz.prog.keyType 152=true:=by kernel_rfl
theorem types_two:∃ m,Tryz.prog.types.size=m + 2:=⟨Tryz.prog.types.size - 2,by
 have:2≤Tryz.prog.types.size:=of_decide_eq_true (by kernel_rfl)
 omega⟩
theorem key_st {x:St4} (h:stOk x):keyOf Tryz.prog 96 (stv x)=some (stKey x):=by
 obtain ⟨m,hm⟩:=types_two
 have w0:=wf_ch (n:=(x.1:Int)) (by omega) (by have:=h.1;omega)
 have w1:=wf_ch (n:=(x.2.prod:Int)) (by omega) (by have:=h.2.1;omega)
 have w2:=wf_ch (n:=(x.2.dot:Int)) (by omega) (by have:=h.2.2.1;omega)
 have w3:=wf_ch (n:=(x.2.frm:Int)) (by omega) (by have:=h.2.2.2;omega)
 unfold keyOf stv
 simp only [Tryz.underlying96]
 rw [if_pos (by simp [st_keyType,Value.formed,Tryz.underlying96,st_cells]),hm]
 unfold Program.keyLits
 simp only [Tryz.underlying96,Value.cells]
 simp [st_cells,im_cells,im_int,Program.keyLits,Tryz.underlying3,Tryz.underlying44,w0,w1,w2,w3,stKey]
 rw [if_pos (fun i hi=>by
  match i,hi with
  | 0,_=>(show ¬ (("Prod" : String) = "_");decide)
  | 1,_=>(show ¬ (("Dot" : String) = "_");decide)
  | 2,_=>(show ¬ (("From" : String) = "_");decide))]
 rfl
theorem key_wt {x:Int × Nat} (h:wtOk x):keyOf Tryz.prog 154 (wtv x)=some (wtKey x):=by
 obtain ⟨m,hm⟩:=types_two
 have w1:=wf_ch h.1 h.2.1
 have w2:=wf_ch (n:=(x.2:Int)) (by omega) (by have:=h.2.2;omega)
 unfold keyOf wtv
 simp only [Tryz.underlying154]
 rw [if_pos (by simp [wt_keyType,Value.formed,Tryz.underlying154,wt_cells]),hm]
 unfold Program.keyLits
 simp only [Tryz.underlying154,Value.cells]
 simp [wt_cells,im_int,Program.keyLits,Tryz.underlying3,w1,w2,wtKey]
theorem key_nd {x:Int × Nat × Nat} (h:ndOk x):keyOf Tryz.prog 152 (ndv x)=some (ndKey x):=by
 obtain ⟨m,hm⟩:=types_two
 have w1:=wf_ch h.1 h.2.1
 have w2:=wf_ch (n:=(x.2.1:Int)) (by omega) (by have:=h.2.2.1;omega)
 have w3:=wf_ch (n:=(x.2.2:Int)) (by omega) (by have:=h.2.2.2;omega)
 unfold keyOf ndv
 simp only [Tryz.underlying152]
 rw [if_pos (by simp [nd_keyType,Value.formed,Tryz.underlying152,nd_cells]),hm]
 unfold Program.keyLits
 simp only [Tryz.underlying152,Value.cells]
 simp [nd_cells,im_int,Program.keyLits,Tryz.underlying3,w1,w2,w3,ndKey]
theorem stv_inj {x y:St4} (h:stv x=stv y):x=y:=by
 obtain ⟨x0,x1,x2,x3⟩:=x
 obtain ⟨y0,y1,y2,y3⟩:=y
 simp [stv] at h
 obtain ⟨h0,h1,h2,h3⟩:=h
 rw [show x0=y0 by omega,show x1=y1 by omega,show x2=y2 by omega,show x3=y3 by omega]
theorem wtv_inj {x y:Int × Nat} (h:wtv x=wtv y):x=y:=by
 obtain ⟨x0,x1⟩:=x
 obtain ⟨y0,y1⟩:=y
 simp [wtv] at h
 rw [h.1,show x1=y1 by omega]
theorem ndv_inj {x y:Int × Nat × Nat} (h:ndv x=ndv y):x=y:=by
 obtain ⟨x0,x1,x2⟩:=x
 obtain ⟨y0,y1,y2⟩:=y
 simp [ndv] at h
 rw [h.1,show x1=y1 by omega,show x2=y2 by omega]
theorem stKey_inj {x y:St4} (hx:stOk x) (hy:stOk y) (h:stKey x=stKey y):x=y:=stv_inj (st_law.inj (key_st hx) (by rw [h];exact key_st hy))
theorem wtKey_inj {x y:Int × Nat} (hx:wtOk x) (hy:wtOk y) (h:wtKey x=wtKey y):x=y:=wtv_inj (wt_law.inj (key_wt hx) (by rw [h];exact key_wt hy))
theorem ndKey_inj {x y:Int × Nat × Nat} (hx:ndOk x) (hy:ndOk y) (h:ndKey x=ndKey y):x=y:=ndv_inj (nd_law.inj (key_nd hx) (by rw [h];exact key_nd hy))
structure KeysB {α:Type} [DecidableEq α] (kl:α→Lit) (ok:α→Prop) (l:List α) (D:DataW Unit):Prop where
 at_:∀ x,ok x→D.atKey (kl x) (.lit (.bool false))=.lit (.bool (decide (x ∈ l)))
 has:∀ k,Maps.has D k=true→∃ x,x ∈ l∧ok x∧k=kl x
def MapH {α:Type} [DecidableEq α] (kt:TypeId) (kl:α→Lit) (ok:α→Prop) (w:World) (b:Nat) (l:List α):Prop:=
 ∃ (D:DataW Unit) (n:Nat),w.ownsMap Tryz.prog kt (plainElem Tryz.prog 4) b n D∧n≤l.length∧KeysB kl ok l D
section
variable {α:Type} [DecidableEq α] {kt:TypeId} {kl:α→Lit} {ok:α→Prop} {w w':World} {b:Nat} {l:List α}
theorem KeysB.mem {D:DataW Unit} (h:KeysB kl ok l D) {x:α} (hx:ok x) (hm:x ∈ l):Maps.has D (kl x)=true:=by
 cases e:Maps.has D (kl x) with
 | true=>rfl
 | false=>
  have h1:=h.at_ x hx
  rw [Maps.atKey_of_not_has e,decide_eq_true hm] at h1
  cases h1
theorem MapH.toS (h:MapH kt kl ok w b l):MapS kt kl ok w b l:=by obtain ⟨D,n,h1,h2,h3⟩:=h;exact ⟨D,n,h1,h2,h3.at_⟩
theorem MapH.lt (h:MapH kt kl ok w b l):b < w.heap.size:=h.toS.lt
theorem MapH.of_block (h:MapH kt kl ok w b l) (e:w'.heap[b]?=w.heap[b]?):MapH kt kl ok w' b l:=by
 obtain ⟨D,n,⟨es,clock,h1,h2⟩,h3⟩:=h
 exact ⟨D,n,⟨es,clock,e.trans h1,h2⟩,h3⟩
theorem MapH.store {t:TypeId} (h:MapH kt kl ok w b l) (K:Keyed Tryz.prog kt) (ht:Tryz.prog.underlying t=some (.map kt 4)) (hl:l.length < maxLen) {x:α} (hx:ok x) {v:Value} (hk:keyOf Tryz.prog kt v=some (kl x))
  (hi:∀ y,ok y→kl y=kl x→y=x) (hlit:WideAt.IsKeyLit (kl x)) :
  ∃ w',(Instr.mapUpdate t (.map (some b)) v (.bool true)).run Tryz.prog w=.ok () w'∧MapH kt kl ok w' b (l ++ [x])∧w.grownBy w' (some b):=by
 obtain ⟨D,n,h1,h2,h3⟩:=h
 obtain ⟨w',hrun,r1,r2⟩:=h1.update K ht (by omega) hk (plainElem_bool Tryz.underlying4 true)
 refine ⟨w',hrun,⟨_,_,r1,by rw [List.length_append];show _≤_ + 1;omega,fun y hy=>?_,fun k hk=>?_⟩,r2⟩
 ·by_cases e:y=x
  ·subst e
   rw [Maps.atKey_put_same h1.isMap hlit]
   simp
  ·rw [Maps.atKey_put_other (fun e2=>e (hi y hy e2)),h3.at_ y hy]
   simp [e]
 ·by_cases e:k=kl x
  ·exact ⟨x,by simp,hx,e⟩
  ·rw [Maps.has_put_other e] at hk
   obtain ⟨y,hy,ho,e2⟩:=h3.has k hk
   exact ⟨y,by simp [hy],ho,e2⟩
end
def heldR (v:Value):Option (DataW Value × List MemPlace):=some (.held v,[])
theorem heldR_inv {v:Value} {z:DataW Value × List MemPlace} (h:heldR v=some z):z=(.held v,[]):=by injection h with h;exact h.symm
def nilS:Value:=.slice none 0 0
structure KeysV {α:Type} (kl:α→Lit) (ok:α→Prop) (V:α→Value) (D:DataW Value):Prop where
 at_:∀ x,ok x→D.atKey (kl x) (.held nilS)=.held (V x)
 has:∀ k,Maps.has D k=true→∃ x,ok x∧k=kl x∧V x≠nilS
def MapV {α:Type} (kt:TypeId) (kl:α→Lit) (ok:α→Prop) (w:World) (b n:Nat) (V:α→Value):Prop:=
 ∃ D:DataW Value,w.ownsMap Tryz.prog kt heldR b n D∧KeysV kl ok V D
section
variable {α:Type} {kt:TypeId} {kl:α→Lit} {ok:α→Prop} {w w':World} {b n:Nat} {V:α→Value}
theorem KeysV.mem {D:DataW Value} (h:KeysV kl ok V D) {x:α} (hx:ok x) (hm:V x≠nilS):Maps.has D (kl x)=true:=by
 cases e:Maps.has D (kl x) with
 | true=>rfl
 | false=>
  have h1:=h.at_ x hx
  rw [Maps.atKey_of_not_has e] at h1
  injection h1 with h1
  exact absurd h1.symm hm
theorem MapV.lt (h:MapV kt kl ok w b n V):b < w.heap.size:=by obtain ⟨D,h1,_⟩:=h;exact h1.lt
theorem MapV.of_block (h:MapV kt kl ok w b n V) (e:w'.heap[b]?=w.heap[b]?):MapV kt kl ok w' b n V:=by
 obtain ⟨D,⟨es,clock,h1,h2⟩,h3⟩:=h
 exact ⟨D,⟨es,clock,e.trans h1,h2⟩,h3⟩
theorem MapV.more (h:MapV kt kl ok w b n V) {m:Nat} (hm:n≤m):MapV kt kl ok w b m V:=by obtain ⟨D,h1,h2⟩:=h;exact ⟨D,h1.mono hm,h2⟩
theorem MapV.look {t e:TypeId} (h:MapV kt kl ok w b n V) (K:Keyed Tryz.prog kt) (ht:Tryz.prog.underlying t=some (.map kt e)) (hz:(zeroValue e).run Tryz.prog w=.ok nilS w) {x:α} (hx:ok x) {v:Value} (hk:keyOf Tryz.prog kt v=some (kl x)) :
  (Instr.lookup t (.map (some b)) v false).run Tryz.prog w=.ok (V x) w:=by
 obtain ⟨D,h1,h3⟩:=h
 obtain ⟨z,ps,hrun,hz⟩:=h1.lookup K ht hz (zd:=.held nilS) (zp:=[]) rfl hk
 have:=heldR_inv hz
 injection this with this _
 rw [h3.at_ x hx] at this
 injection this with this
 rw [hrun,this]
theorem MapV.entry {t e:TypeId} (h:MapV kt kl ok w b n V) (K:WideMaps.KeyLaw Tryz.prog kt) (ht:Tryz.prog.underlying t=some (.map kt e)) (hz:∀ u:World,(zeroValue e).run Tryz.prog u=.ok nilS u) (hn:n < maxLen) {x:α} (hx:ok x) {v:Value} (hk:keyOf Tryz.prog kt v=some (kl x))
  (hi:∀ y,ok y→kl y=kl x→y=x) (hlit:WideAt.IsKeyLit (kl x)) [DecidableEq α] :
  ∃ (st:Nat) (w1:World),(Instr.mapEntry t (.map (some b)) v).run Tryz.prog w=.ok (.tuple #[V x,goInt st]) w1∧w.grownBy w1 (some b)∧
   ∀ (w2:World) (u:Value),u≠nilS→w2.heap[b]?=w1.heap[b]?→∃ w3,(Instr.entryStore t (.map (some b)) (goInt st) u).run Tryz.prog w2=.ok () w3∧w2.grownBy w3 (some b)∧MapV kt kl ok w3 b (n + 1) (fun y=>if y=x then u else V y):=by
 obtain ⟨D,⟨es,clock,hb,F,hs,hD⟩,h3⟩:=h
 obtain ⟨v0,st,es1,clock1,hrun,hv0,hst⟩:=WideElems.entry_then_store (R:=heldR) K ht hz hb F hk
 have hown:w.ownsMap Tryz.prog kt heldR b n D:=⟨es,clock,hb,F,hs,hD⟩
 have hlook:v0=V x:=by
  have hst:=(stamped_iff es clock).1 F.stamped
  rcases Maps.fit_look false (Keyed.of_law K) ht (hz w) hb F hk with ⟨_,hno,hat⟩ | ⟨e0,y,he0,hk0,_,hRv,hat,_⟩
  ·rcases hv0 with ⟨e1,h1,h2,_⟩ | ⟨_,h2⟩
   ·exact absurd h2 (hno e1 h1)
   ·have h4:=h3.at_ x hx
    rw [hD,hat] at h4
    injection h4 with h4
    rw [h2,h4]
  ·rcases hv0 with ⟨e1,h1,h2,h5⟩ | ⟨hno,_⟩
   ·have e:=entry_eq_of_key hst.2.2 h1 he0 (h2.trans hk0.symm)
    subst e
    have h4:=h3.at_ x hx
    rw [hD,hat] at h4
    have:=heldR_inv hRv
    rw [this] at h4
    injection h4 with h4
    rw [h5,h4]
   ·exact absurd hk0 (hno e0 he0)
 subst hlook
 refine ⟨st,_,hrun,⟨rfl,rfl,rfl,by simp [ChangeMaps.setBlock],fun i _ hi=>heap_setBlock_other hb _ (fun e=>hi (by rw [e]))⟩,fun w2 u hu hw2=>?_⟩
 rw [heap_setBlock_same hb] at hw2
 obtain ⟨es',clock',h5,h6⟩:=hst w2 u hw2
 obtain ⟨w9,hr9,ho9,_⟩:=hown.update (Keyed.of_law K) ht hn hk (val:=u) (d:=.held u) (ps:=[]) rfl
 rw [h6] at hr9
 injection hr9 with _ hr9
 subst hr9
 refine ⟨_,h5,⟨rfl,rfl,rfl,by simp [ChangeMaps.setBlock],fun i _ hi=>heap_setBlock_other hw2 _ (fun e=>hi (by rw [e]))⟩,?_⟩
 have hIsM:=hown.isMap
 obtain ⟨es9,c9,hb9,r9⟩:=ho9
 rw [heap_setBlock_same hb] at hb9
 refine ⟨_,⟨es9,c9,(heap_setBlock_same hw2 _).trans hb9,r9⟩,fun y hy=>?_,fun k hk9=>?_⟩
 ·by_cases e:y=x
  ·subst e
   rw [Maps.atKey_put_same hIsM hlit,if_pos rfl]
  ·rw [Maps.atKey_put_other (fun e2=>e (hi y hy e2)),if_neg e,h3.at_ y hy]
 ·by_cases e:k=kl x
  ·exact ⟨x,hx,e,by rw [if_pos rfl];exact hu⟩
  ·rw [Maps.has_put_other e] at hk9
   obtain ⟨y,hy,e2,hv⟩:=h3.has k hk9
   refine ⟨y,hy,e2,?_⟩
   rw [if_neg (fun e3=>e (by rw [e2,e3]))]
   exact hv
end
end Go.Proofs.YtdfhhbncmdpoeaaGreat
