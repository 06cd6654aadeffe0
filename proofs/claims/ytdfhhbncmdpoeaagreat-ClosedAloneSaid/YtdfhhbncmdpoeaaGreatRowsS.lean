/- Whole arrays by value: made, put together, stored, loaded, as a block that is known whole. No program is named here. -/
import Derived.Test.YtdfhhbncmdpoeaaGreatBaseS
import Derived.Test.YtdfhhbncmdpoeaaGreatPlainS
import Derived.Test.YtdfhhbncmdpoeaaGreatFactS
import Derived.Deep.MidRow
import Derived.Deep.WholeRow
import Derived.OwnWalk
import Derived.Laws.ResultCell
import Derived.Laws.StructEq
import Derived.ChangeKeysEq
set_option maxRecDepth 100000
namespace Go.Proofs.YtdfhhbncmdpoeaaGreat
open Go.RowKit
section
variable {P:Program} {ops:Array Oper} {rest:List Oper} {o:Oper} {a:Act} {w:World} {Q:Exit→Act→World→Prop}
theorem wpList_alloc_agg (hgd:o.guard=none) (ty:TypeId) (ho:o.op=.alloc ty) (Z:Array Value) (n:Nat) (hz:(P.info? ty).map (fun i=>(i.zero,i.size))=some (some (.agg Z),n))
  (h:wpList P ops Q rest (a.put o.dst (.pointer (some ⟨w.heap.size,0,none⟩))) (w.alloc (.cells Z ty))):wpList P ops Q (o :: rest) a w:=
 wpList_plain hgd fun K hK=>by
  obtain ⟨hz1,_⟩:=zero_of_info hz
  unfold Oper.wp execOp
  simp only [ho,Instr.alloc,Sem.run_bind,hz1 w,Result.andThen_ok,newVar]
  exact hK _ _ h
theorem setRow_bk {g:Nat} {t:TypeId} {cs cells:Array Value} (hb:Bk w g t cs):Bk (w.setRow g cells) g t cells:=by
 unfold Bk at hb ⊢
 simp [World.setRow,Array.getElem?_modify,hb]
theorem setRow_fr {g:Nat} {cells:Array Value}:Fr (fun k=>k=g) w (w.setRow g cells):=
 ⟨rfl,rfl,rfl,by simp [World.setRow],fun k _ hne=>by
  simp only [World.setRow,Array.getElem?_modify]
  rw [if_neg (fun e=>hne e.symm)]⟩
theorem wpList_store_bk (hgd:o.guard=none) (ty:TypeId) (x y:Operand) (ho:o.op=.store ty x y) (g:Nat) (t:TypeId) (cs cells:Array Value)
  (hx:a.eval x=.pointer (some ⟨g,0,none⟩)) (hy:a.eval y=.agg cells) (hb:Bk w g t cs) (hs:cs.size=cells.size) (hi:(P.info? ty).map (·.size)=some cells.size) (h1:cells.all (·.oneCell')=true)
  (h:∀ w',Bk w' g t cells→Fr (fun k=>k=g) w w'→wpList P ops Q rest (a.put o.dst undef) w'):wpList P ops Q (o :: rest) a w:=
 wpList_plain hgd fun K hK=>by
  have hrun:=run_storeVar_row (P:=P) w g t ty cs cells hb hi hs h1
  unfold Oper.wp execOp
  simp only [ho,hx,hy,Instr.storeAt,Instr.sureAddr,Sem.run_bind,Sem.run_pure,Result.andThen_ok,hrun]
  exact hK _ _ (h _ (setRow_bk hb) setRow_fr)
end
end Go.Proofs.YtdfhhbncmdpoeaaGreat
namespace Go.Proofs.YtdfhhbncmdpoeaaGreat
open Go.RowKit
def upN (F:Nat→Nat) (i v:Nat):Nat→Nat:=fun j=>if j=i then v else F j
def Wn (t:TypeId) (w:World) (g N:Nat) (F:Nat→Nat):Prop:=∃ cs:Array Value,Bk w g t cs∧N≤cs.size∧∀ i,i < N→cs[i]?=some (.int .u32 (F i:Int))
section
variable {t:TypeId} {w w':World} {g N:Nat} {F G:Nat→Nat}
theorem Wn.lt (h:Wn t w g N F):g < w.heap.size:=by obtain ⟨cs,h1,_⟩:=h;exact h1.lt
theorem Wn.cell (h:Wn t w g N F) {i:Nat} (hi:i < N):w.cell? ⟨g,i,none⟩=some (.int .u32 (F i:Int)):=by
 obtain ⟨cs,h1,_,h3⟩:=h
 rw [h1.cell];exact h3 i hi
theorem Wn.free (h:Wn t w g N F) (i:Nat):w.frozen? ⟨g,i,none⟩=false:=by obtain ⟨cs,h1,_⟩:=h;exact h1.free i
theorem Wn.bl (h:Wn t w g N F) (hb:Bl w w'):Wn t w' g N F:=by obtain ⟨cs,h1,h2⟩:=h;exact ⟨cs,h1.bl hb,h2⟩
theorem Wn.fr {S:Nat→Prop} (h:Wn t w g N F) (hf:Fr S w w') (hg:¬ S g):Wn t w' g N F:=by obtain ⟨cs,h1,h2⟩:=h;exact ⟨cs,h1.fr hf hg,h2⟩
theorem Wn.congr (h:Wn t w g N F) (e:∀ i,i < N→F i=G i):Wn t w g N G:=by
 obtain ⟨cs,h1,h2,h3⟩:=h
 exact ⟨cs,h1,h2,fun i hi=>by rw [h3 i hi,e i hi]⟩
theorem Wn.put (h:Wn t w g N F) {i:Nat} (hi:i < N) (v:Nat):Wn t (w.setCell ⟨g,i,none⟩ (.int .u32 (v:Int))) g N (upN F i v):=by
 obtain ⟨cs,h1,h2,h3⟩:=h
 refine ⟨_,h1.put i _,by rw [Array.size_setIfInBounds];exact h2,fun j hj=>?_⟩
 rw [Array.getElem?_setIfInBounds]
 unfold upN
 by_cases e:i=j
 ·subst e
  rw [if_pos rfl,if_pos (by omega),if_pos rfl]
 ·rw [if_neg e,if_neg (fun h=>e h.symm)]
  exact h3 j hj
end
def rc (f:Nat→Nat):Array Value:=(us ((List.range 25).map f)).toArray
theorem rc_size (f:Nat→Nat):(rc f).size=25:=by simp [rc,us]
theorem rc_at (f:Nat→Nat) {i:Nat} (hi:i < 25):(rc f)[i]?=some (.int .u32 (f i:Int)):=by
 simp [rc,us,hi]
theorem rc_one (f:Nat→Nat):(rc f).all (·.oneCell')=true:=all_oneCell_toArray (cs:=us ((List.range 25).map f)) (us_one _)
def sameN (n:Nat) (f h:Nat→Nat):Bool:=decide (∀ i,i < n→f i=h i)
theorem sameN_iff {n:Nat} {f h:Nat→Nat}:sameN n f h=true↔∀ i,i < n→f i=h i:=decide_eq_true_iff
def rc0:Array Value:=rc fun _=>0
theorem row_info:(Tryz.prog.info? 137).map (fun i=>(i.zero,i.size,i.bytes))=some (some (.agg rc0),25,100):=by kernel_rfl
theorem row_zero:(Tryz.prog.info? 137).map (fun i=>(i.zero,i.size))=some (some (.agg rc0),25):=by kernel_rfl
section
variable {P:Program} (w:World)
theorem run_equalIn_nums (d:Nat) (t e:TypeId) (n:Nat) (ht:P.underlying t=some (.array n e)) (he:P.underlying e=some (.int .u32)) (hsz:∀ w,(sizeOf e).run P w=.ok 1 w)
  (xs ys:Array Value) (f h:Nat→Nat) (hx:∀ i,i < n→xs[i]?=some (.int .u32 (f i:Int))) (hy:∀ i,i < n→ys[i]?=some (.int .u32 (h i:Int))) :
  (Op.equalIn (d + 2) t (.agg xs) (.agg ys)).run P w=.ok (sameN n f h) w:=by
 have hall:sameN n f h=(List.range' 0 n 1).all fun i=>f i == h i:=by
  rw [Bool.eq_iff_iff,sameN_iff,List.all_eq_true]
  constructor
  ·intro hh i hi
   have:=(List.mem_range'_1.1 hi).2
   exact beq_iff_eq.2 (hh i (by omega))
  ·intro hh i hi
   exact beq_iff_eq.1 (hh i (List.mem_range'_1.2 ⟨Nat.zero_le _,by omega⟩))
 rw [hall,Op.equalIn]
 simp only [Sem.run_bind,run_underlying ht,Result.andThen_ok,hsz,Std.Legacy.Range.forIn_eq_forIn_range',Std.Legacy.Range.size,Nat.sub_zero,Nat.add_sub_cancel,Nat.div_one]
 have hl:∀ i ∈ List.range' 0 n 1,i < n:=fun i hi=>by simpa using (List.mem_range'_1.1 hi).2
 generalize List.range' 0 n 1=l at hl ⊢
 clear hall
 induction l with
 | nil=>simp
 | cons i l ih=>
  have hi:i < n:=hl i (by simp)
  have px:(part e xs (i * 1)).run P w=.ok (.int .u32 (f i:Int)) w:=by
   simp [part,isAgg,run_underlying he,hx i hi]
  have py:(part e ys (i * 1)).run P w=.ok (.int .u32 (h i:Int)) w:=by
   simp [part,isAgg,run_underlying he,hy i hi]
  have pe:(Op.equalIn (d + 1) e (.int .u32 (f i:Int)) (.int .u32 (h i:Int))).run P w=.ok (f i == h i) w:=by
   rw [run_equalIn_int w d e .u32 .u32 _ _ he]
   congr 1
   rw [Bool.eq_iff_iff,beq_iff_eq,beq_iff_eq]
   omega
  simp only [List.forIn_cons,Sem.run_bind,px,py,pe,Result.andThen_ok,List.all_cons]
  cases hb:(f i == h i)
  ·simp
  ·simp only [Bool.not_true,Bool.false_eq_true,if_false,Bool.true_and,Sem.run_pure,Result.andThen_ok]
   exact ih (fun j hj=>hl j (by simp [hj]))
end
theorem u32_size (w:World):(sizeOf 126).run Tryz.prog w=.ok 1 w:=by kernel_rfl
theorem row_fields:(Tryz.prog.fieldsOf 137).toList.map (fun f=>(f.name,f.type,f.offset))=[("Ends",135,0),("Over",126,24)]:=by kernel_rfl
end Go.Proofs.YtdfhhbncmdpoeaaGreat
namespace Go.Proofs.YtdfhhbncmdpoeaaGreat
open Go.RowKit
theorem rc_ends (f:Nat→Nat) {i:Nat} (hi:i < 24):((rc f).extract 0 24)[i]?=some (.int .u32 (f i:Int)):=by
 rw [Array.getElem?_extract,if_pos (by rw [rc_size];omega),Nat.zero_add]
 exact rc_at f (by omega)
theorem same_split (f h:Nat→Nat):sameN 25 f h=(sameN 24 f h && (f 24 == h 24)):=by
 rw [Bool.eq_iff_iff,Bool.and_eq_true,sameN_iff,sameN_iff,beq_iff_eq]
 constructor
 ·intro e;exact ⟨fun i hi=>e i (by omega),e 24 (by omega)⟩
 ·rintro ⟨e1,e2⟩ i hi
  by_cases h24:i=24
  ·subst h24;exact e2
  ·exact e1 i (by omega)
theorem ends_size (w:World):(sizeOf 135).run Tryz.prog w=.ok 24 w:=by kernel_rfl
theorem ends_agg (w:World):(isAgg 135).run Tryz.prog w=.ok true w:=by kernel_rfl
theorem part_ends (w:World) (f:Nat→Nat):(part 135 (rc f) 0).run Tryz.prog w=.ok (.agg ((rc f).extract 0 24)) w:=by
 unfold part
 simp only [Sem.run_bind,ends_agg,Result.andThen_ok,if_true,ends_size,Sem.run_pure]
theorem part_over (w:World) (f:Nat→Nat):(part 126 (rc f) 24).run Tryz.prog w=.ok (.int .u32 (f 24:Int)) w:=by
 simp [part,isAgg,run_underlying Tryz.underlying126,rc_at f (show 24 < 25 by decide)]
theorem nat_beq (x y:Nat):((x:Int) == (y:Int))=(x == y):=by
 rw [Bool.eq_iff_iff,beq_iff_eq,beq_iff_eq]
 omega
theorem eq_fields (d:Nat) (fs:List Field) (w:World) (f h:Nat→Nat) (hfs:fs.map (fun f=>(f.name,f.type,f.offset))=[("Ends",135,0),("Over",126,24)]) :
  (Op.eqFields (d + 2) (rc f) (rc h) fs).run Tryz.prog w=.ok (sameN 25 f h) w:=by
 rw [List.map_eq_cons_iff] at hfs
 obtain ⟨a,l,rfl,ha,hl⟩:=hfs
 rw [List.map_eq_cons_iff] at hl
 obtain ⟨b,l2,rfl,hb,hl2⟩:=hl
 rw [List.map_eq_nil_iff] at hl2
 subst hl2
 simp only [Prod.mk.injEq] at ha hb
 obtain ⟨a1,a2,a3⟩:=ha
 obtain ⟨b1,b2,b3⟩:=hb
 have e1:=run_equalIn_nums w d 135 126 24 Tryz.underlying135 Tryz.underlying126 u32_size _ _ f h (fun i hi=>rc_ends f hi) (fun i hi=>rc_ends h hi)
 have e2:(Op.equalIn (d + 1 + 1) 126 (.int .u32 (f 24:Int)) (.int .u32 (h 24:Int))).run Tryz.prog w=.ok (f 24 == h 24) w:=by
  rw [run_equalIn_int w (d + 1) 126 .u32 .u32 _ _ Tryz.underlying126,nat_beq]
 rw [same_split]
 simp only [Op.eqFields,a1,a2,a3,b1,b2,b3]
 rw [if_pos (by decide),if_pos (by decide)]
 simp only [Sem.run_bind,part_ends,Result.andThen_ok,e1]
 cases hb:sameN 24 f h
 ·simp
 ·simp only [Bool.not_true,Bool.false_eq_true,if_false,Bool.true_and,Sem.run_bind,part_over,Result.andThen_ok,e2]
  cases hb2:(f 24 == h 24) <;> simp
theorem eql_row (w:World) (f h:Nat→Nat):(Op.equalIn 10000 137 (.agg (rc f)) (.agg (rc h))).run Tryz.prog w=.ok (sameN 25 f h) w:=by
 rw [show (10000:Nat)=9999 + 1 from rfl,run_equalIn_agg w 9999 137 _ _ Tryz.underlying137 Tryz.stoodInHeld137]
 exact eq_fields 9997 _ w f h row_fields
section
variable {ops:Array Oper} {rest:List Oper} {o:Oper} {a:Act} {w:World} {Q:Exit→Act→World→Prop} {t g:Nat}
theorem run_load_row {P:Program} (w:World) (ty:TypeId) (b off:Nat) (f:Nat→Nat) (d:TypeDesc) (hu:P.underlying ty=some d) (hd:(match d with | .struct _ | .array _ _=>true | _=>false)=true) (hi:(P.info? ty).map (·.size)=some 25)
  (hc:∀ i,i < 25→w.cell? ⟨b,off + i,none⟩=some (.int .u32 (f i:Int))):(loadVar ty ⟨b,off,none⟩).run P w=.ok (.agg (rc f)) w:=by
 have hl:(loadCells ⟨b,off,none⟩ (rc f).toList.length).run P w=.ok (rc f).toList.toArray w:=
  run_loadCells_list (P:=P) w ⟨b,off,none⟩ (rc f).toList (fun j v hv=>by
   have hj:j < 25:=by
    rcases Nat.lt_or_ge j 25 with h1 | h1
    ·exact h1
    ·rw [List.getElem?_eq_none (by rw [Array.length_toList,rc_size];exact h1)] at hv;cases hv
   have hadd:(⟨b,off,none⟩:Addr).add j=⟨b,off + j,none⟩:=by unfold Addr.add;split <;> simp_all
   rw [hadd,hc j hj,← rc_at f hj]
   simpa using hv)
 cases hq:P.info? ty with
 | none=>simp [hq] at hi
 | some i=>
  have hs:i.size=25:=by simpa [hq] using hi
  have hagg:(isAgg ty).run P w=.ok true w:=by
   unfold isAgg
   simp only [Sem.run_bind,run_underlying hu,Result.andThen_ok]
   cases d <;> simp_all
  rw [Array.length_toList,rc_size] at hl
  unfold loadVar
  simp [Sem.run_bind,hagg,Result.andThen_ok,sizeOf,typeInfo,hq,hs,hl]
theorem wpList_load_row {P:Program} (hgd:o.guard=none) (ty:TypeId) (x:Operand) (ho:o.op=.load ty x) (b off:Nat) (f:Nat→Nat) (d:TypeDesc) (hx:a.eval x=.pointer (some ⟨b,off,none⟩)) (hu:P.underlying ty=some d)
  (hd:(match d with | .struct _ | .array _ _=>true | _=>false)=true) (hi:(P.info? ty).map (·.size)=some 25) (hc:∀ i,i < 25→w.cell? ⟨b,off + i,none⟩=some (.int .u32 (f i:Int)))
  (h:wpList P ops Q rest (a.put o.dst (.agg (rc f))) w):wpList P ops Q (o :: rest) a w:=
 wpList_plain hgd fun K hK=>by
  have hrun:=run_load_row (P:=P) w ty b off f d hu hd hi hc
  unfold Oper.wp execOp
  simp only [ho,hx,Instr.loadAt,Instr.sureAddr,Sem.run_bind,Sem.run_pure,Result.andThen_ok,hrun]
  exact hK _ _ h
end
end Go.Proofs.YtdfhhbncmdpoeaaGreat
