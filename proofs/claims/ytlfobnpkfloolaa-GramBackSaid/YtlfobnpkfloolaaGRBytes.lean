/- The reference's Bytes: it tells the same bytes. -/
import Derived.Test.YtlfobnpkfloolaaGBytes2
import Derived.Test.YtlfobnpkfloolaaGRRight
import Derived.Test.YtlfobnpkfloolaaVRPut
namespace Go.Proofs.Ytlfobnpkfloolaa
open Go.RowKit

/-- Where the loops stand: the numbers so far, and the grammar's own block. -/
def JRel (xs : List Nat) (cs : Array Value) (w : World) (v : Value) (wr : World) : Prop := IRel xs w v wr ∧ Bk wr w.heap.size 24 cs
section
variable {xs : List Nat} {cs : Array Value} {w wr w2 : World} {v v' : Value}
theorem JRel.i (h : JRel xs cs w v wr) : IRel xs w v wr := h.1
theorem JRel.k (h : JRel xs cs w v wr) : Bk wr w.heap.size 24 cs := h.2
theorem JRel.b (h : JRel xs cs w v wr) : Bl w wr := h.1.2
theorem JRel.own (h : JRel xs cs w v wr) : wr.ownsRow w.heap.size 3 1 v xs.length (ins (ns xs)) := h.1.1
theorem JRel.alloc (h : JRel xs cs w v wr) (o : Obj) : JRel xs cs w v (wr.alloc o) := ⟨h.1.alloc o, h.2.alloc o⟩
theorem JRel.put (h : JRel xs cs w v wr) {ys : List Nat} {us : List Value} (hu : us = ins (ns ys)) (ho : w2.ownsRow w.heap.size 3 1 v' (xs.length + ys.length) (ins (ns xs) ++ us)) (hg : wr.grownBy w2 v.ownBlock) : JRel (xs ++ ys) cs w v' w2 :=
  ⟨h.1.put hu ho hg, h.2.grown hg fun e => h.2.row h.1.1 (by decide) e.symm⟩
/-- Another block stays, too. -/
theorem JRel.other (h : JRel xs cs w v wr) {g : Nat} {t : TypeId} {ds : Array Value} (hk : Bk wr g t ds) (ht : 3 ≠ t) (hg : wr.grownBy w2 v.ownBlock) : Bk w2 g t ds := hk.grown hg fun e => hk.row h.1.1 ht e.symm
end
theorem two_new (w : World) (x y : Value) (t : TypeId) : ∀ j u, [x, y][j]? = some u → (w.alloc (.cells #[x, y] t)).cell? ((⟨w.heap.size, 0, none⟩ : Addr).add j) = some u := by
  intro j u hu
  exact World.news_of_block (cs := #[x, y]) (t := t) (fr := (0, 0)) (heap_alloc_new w _) j u (by simpa using hu)
/-- The bytes of the first k numbers. -/
theorem encs_take {l : List Nat} {k : Nat} (h : k < l.length) : Gr.encs (l.take (k + 1)) = Gr.encs (l.take k) ++ Vy.enc l[k] := by
  rw [List.take_succ_eq_append_getElem h, encs_snoc]
theorem gmNums_small (t n s : Int) (ps : List Gr.Pr) (h : okB ⟨t, n, s, ps⟩ = true) : (Gr.gmNums ⟨t, n, s, ps⟩).length ≤ 700 ∧ ∀ m ∈ Gr.gmNums ⟨t, n, s, ps⟩, m < 1000 := by
  obtain ⟨h1, h2, h3, h4, h5, h6, h7, h8⟩ := (okB_iff _).1 h
  simp only at h1 h2 h3 h4 h5 h6 h7 h8
  constructor
  · have h1 := prsNums_len ps (fun p hp => (h8 p hp).2.2.1) ps.length
    have h3 : (Gr.gmNums ⟨t, n, s, ps⟩).length = 4 + (prsNums ps ps.length).length := by
      rw [← gmNums_all]; unfold headNums; rw [List.length_append]; rfl
    omega
  · intro m hm
    unfold Gr.gmNums at hm
    simp only [List.mem_cons, List.mem_flatMap] at hm
    rcases hm with rfl | rfl | rfl | rfl | ⟨p, hp, hm⟩
    · omega
    · omega
    · omega
    · omega
    · obtain ⟨q1, q2, q3, q4⟩ := h8 p hp
      unfold Gr.prNums at hm
      simp only [List.mem_cons, List.mem_map] at hm
      rcases hm with rfl | rfl | ⟨y, hy, rfl⟩
      · simp only at q2; omega
      · omega
      · obtain ⟨r1, r2, r3⟩ := q4 y hy
        simp only at r2 r3
        unfold Gr.code
        cases hb : y.non with
        | true => have := r2 hb; simp only [if_true]; omega
        | false => have := r3 hb; simp only [Bool.false_eq_true, if_false]; omega
/-- Where the last loop stands. -/
def ERel (nums : List Nat) (k : Nat) (w : World) (vi vo : Value) (wr : World) : Prop :=
  wr.ownsRow w.heap.size 3 1 vi nums.length (ins (ns nums)) ∧ wr.ownsRow w.heap.size 5 1 vo (Gr.encs (nums.take k)).length (bys (Gr.encs (nums.take k))) ∧ Bl w wr
section
variable {nums : List Nat} {k : Nat} {w wr w2 : World} {vi vo v' : Value}
theorem ERel.ints (h : ERel nums k w vi vo wr) : wr.ownsRow w.heap.size 3 1 vi nums.length (ins (ns nums)) := h.1
theorem ERel.byts (h : ERel nums k w vi vo wr) : wr.ownsRow w.heap.size 5 1 vo (Gr.encs (nums.take k)).length (bys (Gr.encs (nums.take k))) := h.2.1
theorem ERel.b (h : ERel nums k w vi vo wr) : Bl w wr := h.2.2
theorem ERel.bl (h : ERel nums k w vi vo wr) (hb : Bl wr w2) : ERel nums k w vi vo w2 := ⟨own_bl h.1 hb, own_bl h.2.1 hb, h.2.2.trans hb⟩
theorem ERel.next (h : ERel nums k w vi vo wr) (hk : k < nums.length) {n1 : Nat} (hn : n1 = (Vy.enc nums[k]).length) (ho : w2.ownsRow w.heap.size 5 1 v' ((Gr.encs (nums.take k)).length + n1) (bys (Gr.encs (nums.take k)) ++ bys (Vy.enc nums[k]))) (hg : wr.grownBy w2 vo.ownBlock) : ERel nums (k + 1) w vi v' w2 := by
  refine ⟨own_fr (S := fun i => vo.ownBlock = some i) h.1 ((Fr.refl _ wr).grown hg fun _ h _ => h) fun j hj => own_apart h.1 h.2.1 (by decide) j hj, ?_, h.2.2.grown hg fun j hj => (h.2.1.lt j hj).1⟩
  rw [encs_take hk, bys_append, List.length_append, ← hn]
  exact ho
end

set_option maxRecDepth 100000 in
set_option maxHeartbeats 4000000 in
theorem rbytes_any (t n s : Int) (A : Option Addr) (len c : Nat) (ps : List Gr.Pr) (w : World) (B : Nat) (hlen : len = ps.length) (hmax : len ≤ 1000000000) (hr : Prs w B A ps) (hB : B ≤ w.heap.size) :
    Calls Try.prog 10 #[.agg #[.int .i64 t, .int .i64 n, .int .i64 s, .slice A len c]] w (GBPost ⟨t, n, s, ps⟩ w) := by
  obtain ⟨i0, hi, hz0, hz1, hz2⟩ := info_parts int_info
  obtain ⟨j0, hj, hy0, hy1, hy2⟩ := info_parts byte_info
  have HL := Lib.hid hlen; clear hlen
  have HA := Lib.hid hr; clear hr
  have HA0 := Lib.hid (HA.out.alloc hB (.cells #[.int .i64 t, .int .i64 n, .int .i64 s, .slice A len c] 24))
  have HB0 : Hid (Bl w (w.alloc (.cells #[.int .i64 t, .int .i64 n, .int .i64 s, .slice A len c] 24))) := (Bl.refl w).alloc _
  have HK0 := Lib.hid (Bk.new w 24 #[.int .i64 t, .int .i64 n, .int .i64 s, .slice A len c])
  cases hok : okB ⟨t, n, s, ps⟩ with
  | false =>
    have HOK := Lib.hid hok; clear hok
    go_enter Try.func10, Try.ntmps10
    go_wp2_with fail
    refine (rright_any t n s A len c ps _ B HL.out (by omega) HA0.out (by simp; omega)).mono ?_
    rintro e w1 ⟨rfl, hb1⟩
    rw [HOK.out]
    have HN := Lib.hid (GBPost.no HOK.out (HB0.out.trans hb1)); clear hb1
    go_wp2_with fail
    go_ret2
    exact HN.out
  | true =>
    have HOK := Lib.hid hok; clear hok
    obtain ⟨h1, h2, h3, h4, h5, h6, h7, h8⟩ := (okB_iff _).1 HOK.out
    simp only at h1 h2 h3 h4 h5 h6 h7 h8
    have HPr := Lib.hid h8; clear h8
    have hl60 : len ≤ 60 := by have := HL.out; omega
    have HPL := Lib.hid (prsNums_len ps fun p hp => (HPr.out p hp).2.2.1)
    have HSm := Lib.hid (gmNums_small t n s ps HOK.out)
    have HAll := Lib.hid (gmNums_all t n s ps)
    clear h7
    obtain ⟨t, rfl⟩ : ∃ m : Nat, t = (m : Int) := ⟨t.toNat, by omega⟩
    obtain ⟨n, rfl⟩ : ∃ m : Nat, n = (m : Int) := ⟨n.toNat, by omega⟩
    obtain ⟨s, rfl⟩ : ∃ m : Nat, s = (m : Int) := ⟨s.toNat, by omega⟩
    go_enter Try.func10, Try.ntmps10
    go_wp2_with fail
    refine (rright_any t n s A len c ps _ B HL.out (by omega) HA0.out (by simp; omega)).mono ?_
    rintro e w1 ⟨rfl, hb1⟩
    rw [HOK.out]
    have HB1 := Lib.hid (HB0.out.trans hb1)
    have HK1 := Lib.hid (HK0.out.bl hb1)
    have hs1 : w.heap.size < w1.heap.size := HK1.out.lt
    clear hb1
    have q0 : w1.cell? ⟨w.heap.size, 0, none⟩ = some (.int .i64 t) := HK1.out.cell 0
    have q1 : w1.cell? ⟨w.heap.size, 1, none⟩ = some (.int .i64 n) := HK1.out.cell 1
    have q2 : w1.cell? ⟨w.heap.size, 2, none⟩ = some (.int .i64 s) := HK1.out.cell 2
    have q3 : w1.cell? ⟨w.heap.size, 3, none⟩ = some (.slice A len c) := HK1.out.cell 3
    have HJ0 : Hid (JRel (headNums t n s len ++ prsNums ps 0) #[.int .i64 t, .int .i64 n, .int .i64 s, .slice A len c] w (.slice (some ⟨w1.heap.size, 0, none⟩) 4 4) (w1.alloc (.cells #[.int .i64 t, .int .i64 n, .int .i64 s, .int .i64 len] 3))) :=
      ⟨⟨World.ownsRow_lit (base := w.heap.size) (e := 3) (size := 1) w1 #[.int .i64 t, .int .i64 n, .int .i64 s, .int .i64 len] 4 (by omega) (by simp [maxLen]) rfl, HB1.out.alloc _⟩, HK1.out.alloc _⟩
    go_wp2_with fail
    go_loopw [4, 5] (fun v i wr => ∃ k : Nat, k ≤ len ∧ i = .int .i64 k ∧ Hid (JRel (headNums t n s len ++ prsNums ps k) #[.int .i64 t, .int .i64 n, .int .i64 s, .slice A len c] w v wr)) (fun _ i _ => len - (intOf i).toNat)
    case atStart => exact ⟨0, Nat.zero_le _, rfl, HJ0⟩
    case round =>
      obtain ⟨k, hk, rfl, HR⟩ := hrel
      obtain ⟨wo, rfl⟩ : ∃ wo : World, wo = wr := ⟨_, rfl⟩
      have hln : (headNums t n s len ++ prsNums ps k).length ≤ 700 := by
        have h2 := HPL.out k
        rw [List.length_append]
        have h3 : (headNums (t : Int) (n : Int) (s : Int) len).length = 4 := rfl
        omega
      have hwr : w.heap.size ≤ wo.heap.size := HR.out.b.size
      have k3 : wo.cell? ⟨w.heap.size, 3, none⟩ = some (.slice A len c) := HR.out.k.cell 3
      have klt : w.heap.size < wo.heap.size := HR.out.k.lt
      by_cases hlt : k < len
      · have hj : k < ps.length := by have := HL.out; omega
        obtain ⟨b, off, Ax, cx, rfl, hbB, hrx, hc0, hc1⟩ := (HA.out.bl hB HR.out.b).at_ hj
        obtain ⟨p1, p2, p3, p4⟩ := HPr.out _ (List.getElem_mem hj)
        have HNext := Lib.hid (prsNums_next hj)
        generalize ps[k] = x at *
        obtain ⟨xl, xs⟩ := x
        simp only at hc0 hc1 p1 p2 p3 p4 hrx
        have HXs : Hid (∀ s ∈ xs, 0 ≤ s.n ∧ s.n ≤ 1000000) := fun y hy => by
          obtain ⟨r1, r2, r3⟩ := p4 y hy
          simp only at r2 r3
          refine ⟨r1, ?_⟩
          cases hb : y.non with
          | true => have := r2 hb; omega
          | false => have := r3 hb; omega
        obtain ⟨m, rfl⟩ : ∃ m : Nat, xl = (m : Int) := ⟨xl.toNat, by omega⟩
        have HRd := Lib.hid hrx
        have HWo := Lib.hid HR.out.b
        clear p4 hrx
        have HRa := Lib.hid ((HR.out.alloc (.cells #[.int .i64 m, .slice Ax xs.length cx] 43)).alloc (.cells #[.int .i64 m, .int .i64 xs.length] 3))
        have HPa := Lib.hid ((Bk.new wo 43 #[.int .i64 m, .slice Ax xs.length cx]).alloc (.cells #[.int .i64 m, .int .i64 xs.length] 3))
        go_wp2_with (at_builtin; refine wpList_append_own _ rfl (.tmp 36) (.tmp 42) 36 rfl w.heap.size 3 i0 (.int .i64 0) 1 8 Try.underlying36 hi hz0 hz1 hz2 rfl (by decide) _ _ _ rfl HRa.out.own ⟨wo.heap.size + 1, 0, none⟩ 2 2 [.int .i64 m, .int .i64 xs.length] rfl rfl (by have h := two_new (wo.alloc (.cells #[.int .i64 m, .slice Ax xs.length cx] 43)) (.int .i64 m) (.int .i64 xs.length) 3; rw [World.size_alloc] at h; exact h) (by simp [Value.oneCell']) (by simp only [maxLen]; omega) (by omega) (by simp; omega) ?_; intro v2 w2 hown2 hg2 _; have HP2 := Lib.hid (HRa.out.other HPa.out (by decide) hg2); have HY := Lib.hid (HRa.out.put (ys := [m, xs.length]) rfl hown2 hg2); clear hown2 hg2)
        generalize hnum : (headNums t n s len ++ prsNums ps k) = l0 at *
        have HNum := Lib.hid hnum; clear hnum
        have HY0 : Hid (JRel ((l0 ++ [m, xs.length]) ++ cds xs 0) #[.int .i64 t, .int .i64 n, .int .i64 s, .slice (some ⟨b, off, none⟩) len c] w v2 w2) := by
          have e0 : cds xs 0 = [] := rfl
          unfold Hid; rw [e0, List.append_nil]; exact HY.out
        generalize hgp : wo.heap.size = gp at *
        have HGP := Lib.hid hgp; clear hgp
        go_loopw [4, 7] (fun v i wr => ∃ j : Nat, j ≤ xs.length ∧ i = .int .i64 j ∧ Hid (JRel ((l0 ++ [m, xs.length]) ++ cds xs j) #[.int .i64 t, .int .i64 n, .int .i64 s, .slice (some ⟨b, off, none⟩) len c] w v wr) ∧ Hid (Bk wr gp 43 #[.int .i64 m, .slice Ax xs.length cx])) (fun _ i _ => xs.length - (intOf i).toNat)
        case atStart => exact ⟨0, Nat.zero_le _, rfl, HY0, HP2⟩
        case round =>
          obtain ⟨j, hjl, rfl, HRj, HPj⟩ := hrel
          have g1 : wr.cell? ⟨gp, 1, none⟩ = some (.slice Ax xs.length cx) := HPj.out.cell 1
          have hsz : w.heap.size ≤ wr.heap.size := HRj.out.b.size
          by_cases hlt2 : j < xs.length
          · obtain ⟨bx, ox, rfl, hbx, d0, d1⟩ := (HRd.out.two_bl hB HWo.out HRj.out.b).sym hlt2
            have hxk := HXs.out _ (List.getElem_mem hlt2)
            have HN := Lib.hid (cds_next hlt2)
            have hcl := cds_len (l := xs) (k := j) hjl
            generalize xs[j] = y at d0 d1 hxk HN
            obtain ⟨yb, yn⟩ := y
            simp only at d0 d1 hxk
            obtain ⟨y0, y1⟩ := hxk
            have HC := Lib.hid (code_two yn y0)
            generalize hls : (l0 ++ [m, xs.length]) ++ cds xs j = l1 at *
            have hl1 : l1.length ≤ 800 := by rw [← hls, List.length_append, List.length_append, hcl]; simp; omega
            have HLs := Lib.hid hls; clear hls hcl
            have HPk := Lib.hid (fun (o : Obj) (w2 : World) hg => (HRj.out.alloc o).other (w2 := w2) (HPj.out.alloc o) (by decide) hg)
            cases yb with
            | true =>
              go_wp2_with (at_builtin; refine wpList_append_own _ rfl (.tmp 66) (.tmp 68) 36 rfl w.heap.size 3 i0 (.int .i64 0) 1 8 Try.underlying36 hi hz0 hz1 hz2 rfl (by decide) _ _ _ rfl (HRj.out.own.alloc _) ⟨wr.heap.size, 0, none⟩ 1 1 [.int .i64 (2 * yn + 1)] rfl rfl (one_new _ _ _) (by simp [Value.oneCell']) (by simp only [maxLen]; omega) (by omega) (by simp; omega) ?_; intro v3 w3 hown3 hg3 _; have HP3 := Lib.hid (HPk.out _ _ hg3); have HZ := Lib.hid ((HRj.out.alloc _).put (ys := [Gr.code ⟨true, yn⟩]) (by rw [← HC.out.1]; rfl) hown3 hg3); clear hown3 hg3)
              go_roundw
              case rel => exact ⟨j + 1, by omega, by go_num, by rw [HN.out, ← List.append_assoc, HLs.out]; exact HZ, HP3⟩
              case measure => simp [intOf]; omega
            | false =>
              go_wp2_with (at_builtin; refine wpList_append_own _ rfl (.tmp 66) (.tmp 68) 36 rfl w.heap.size 3 i0 (.int .i64 0) 1 8 Try.underlying36 hi hz0 hz1 hz2 rfl (by decide) _ _ _ rfl (HRj.out.own.alloc _) ⟨wr.heap.size, 0, none⟩ 1 1 [.int .i64 (2 * yn)] rfl rfl (one_new _ _ _) (by simp [Value.oneCell']) (by simp only [maxLen]; omega) (by omega) (by simp; omega) ?_; intro v3 w3 hown3 hg3 _; have HP3 := Lib.hid (HPk.out _ _ hg3); have HZ := Lib.hid ((HRj.out.alloc _).put (ys := [Gr.code ⟨false, yn⟩]) (by rw [← HC.out.2]; rfl) hown3 hg3); clear hown3 hg3)
              go_roundw
              case rel => exact ⟨j + 1, by omega, by go_num, by rw [HN.out, ← List.append_assoc, HLs.out]; exact HZ, HP3⟩
              case measure => simp [intOf]; omega
          · have HW : Hid (JRel (headNums t n s len ++ prsNums ps (k + 1)) #[.int .i64 t, .int .i64 n, .int .i64 s, .slice (some ⟨b, off, none⟩) len c] w u4 wr) := by
              have h := HRj.out
              rw [show j = xs.length by omega, cds_all] at h
              unfold Hid
              rw [HNext.out, ← List.append_assoc, HNum.out]
              simpa [Gr.prNums] using h
            go_wp2_with fail
            go_roundw
            case rel => exact ⟨k + 1, by omega, by go_num, HW⟩
            case measure => simp [intOf]; omega
      · have HW : Hid (IRel (Gr.gmNums ⟨t, n, s, ps⟩) w u4 wo) := by
          have h := HR.out.i
          rw [show k = len by omega] at h
          rw [← HAll.out, ← HL.out]
          exact h
        have HBy : Hid (Gr.encs (Gr.gmNums ⟨t, n, s, ps⟩) = bytesOf ⟨t, n, s, ps⟩) := by unfold Hid; rw [bytesOf_ok HOK.out]; rfl
        have HErr : Hid (errOf ⟨t, n, s, ps⟩ = 0) := errOf_ok HOK.out
        generalize Gr.gmNums ⟨(t : Int), (n : Int), (s : Int), ps⟩ = nums at *
        obtain ⟨hnl, hnm⟩ := HSm.out
        have HNM := Lib.hid hnm; clear hnm
        obtain ⟨A4, c4, hv4, _⟩ := own_slice HW.out.own
        subst hv4
        have HE0 : Hid (ERel nums 0 w (.slice A4 nums.length c4) (.slice (some ⟨wo.heap.size, 0, none⟩) 0 0) (wo.alloc (.cells #[] 5))) := by
          refine ⟨HW.out.own.alloc _, ?_, HW.out.b.alloc _⟩
          exact World.ownsRow_lit (base := w.heap.size) (e := 5) (size := 1) wo #[] 0 hwr (by simp [maxLen]) rfl
        go_wp2_with fail
        go_loopw [9, 10] (fun v i wr => ∃ j : Nat, j ≤ nums.length ∧ i = .int .i64 j ∧ Hid (ERel nums j w (.slice A4 nums.length c4) v wr)) (fun _ i _ => nums.length - (intOf i).toNat)
        case atStart => exact ⟨0, Nat.zero_le _, rfl, HE0⟩
        case round =>
          obtain ⟨j, hjl, rfl, HE⟩ := hrel
          have hsz : w.heap.size ≤ wr.heap.size := HE.out.b.size
          by_cases hlt2 : j < nums.length
          · obtain ⟨bx, ox, rfl, hbx, d9⟩ := (Rd.own HE.out.ints).int (j := j) (by rw [ns_len]; exact hlt2)
            have d0 : wr.cell? ⟨bx, ox + j, none⟩ = some (.int .i64 (nums[j] : Nat)) := by simpa [ns] using d9
            clear d9
            have hm := HNM.out _ (List.getElem_mem hlt2)
            have HNx := Lib.hid (fun (w1 w2 : World) (v' : Value) (n1 : Nat) (hb : Bl wr w1) hn ho hg => (HE.out.bl hb).next (w2 := w2) (v' := v') (n1 := n1) hlt2 hn ho hg)
            have hbl := encs_len (nums.take j)
            have htl : (nums.take j).length ≤ j := List.length_take_le _ _
            generalize nums[j] = m at d0 hm HNx
            have hwm : IntKind.u64.wrap (m : Int) = (m : Int) := IntWalk.u64_in _ ⟨by omega, by omega⟩
            go_wp2_with fail
            refine (rput_any 9 m _ (Nat.lt_of_lt_of_le (show m < 18446744073709551616 by omega) (by decide)) (Nat.le_refl _) (by omega)).mono ?_
            rintro e w3 ⟨A3, n3, c3, rfl, hn3, hc3, hown3, hb3⟩
            have hel := (Vy.enc_len m).2
            have hn10 : n3 ≤ 10 := Nat.le_trans (Nat.le_of_eq hn3) hel
            have HN3 : Hid (n3 = (Vy.enc m).length) := hn3
            have HO3 : Hid (w3.ownsRow wr.heap.size 5 1 (.slice A3 n3 c3) n3 (bys (Vy.enc m))) := hown3
            have HB3 : Hid (Bl wr w3) := hb3
            have HOw := Lib.hid (own_bl HE.out.byts HB3.out)
            have hs3 : w.heap.size ≤ w3.heap.size := Nat.le_trans hsz HB3.out.size
            clear hn3 hown3 hb3 hel
            go_wp2_with (at_builtin; refine wpList_append_rd _ rfl (.tmp 77) (.tmp 83) 25 rfl w.heap.size 5 j0 (.int .u8 0) 1 Try.underlying25 hj hy0 hy1 hy2 rfl _ _ _ rfl HOw.out w3.heap.size A3 n3 c3 (bys (Vy.enc m)) rfl (Rd.own HO3.out) ((bys_len _).trans HN3.out.symm) (bys_one _) (by simp only [maxLen]; omega) (by omega) hs3 ?_; intro v4 w4 hown4 hg4 _; have HX := Lib.hid (HNx.out w3 w4 v4 n3 HB3.out HN3.out hown4 hg4); clear hown4 hg4)
            go_roundw
            case rel => exact ⟨j + 1, by omega, by go_num, HX⟩
            case measure => simp [intOf]; omega
          · have HD : Hid (GBPost ⟨t, n, s, ps⟩ w (.returned (.tuple #[u9, .int .i64 0])) wr) := by
              have h := HE.out.byts
              rw [List.take_of_length_le (by omega), HBy.out] at h
              obtain ⟨A9, c9, hv, hc⟩ := own_slice h
              rw [hv] at h
              exact ⟨A9, _, c9, by rw [hv, HErr.out], rfl, hc, h, HE.out.b⟩
            go_wp2_with fail
            go_ret2
            exact HD.out
end Go.Proofs.Ytlfobnpkfloolaa
