/- gram.Bytes itself. -/
import Derived.Test.YtlfobnpkfloolaaGBytes
namespace Go.Proofs.Ytlfobnpkfloolaa
open Go.RowKit

theorem encs_left (a : List Nat) (p : Gr.Pr) : (Gr.encs a ++ Vy.enc p.left.toNat) ++ Wr.wnums (ns (p.right.map Gr.code)) = Gr.encs (a ++ Gr.prNums p) := by
  rw [wnums_ns, Gr.encs_append, List.append_assoc, List.length_map]
  rfl
theorem ns_small {l : List Gr.Sy} (h : ∀ s ∈ l, 0 ≤ s.n ∧ s.n ≤ 1000000) : ∀ n ∈ ns (l.map Gr.code), 0 ≤ n ∧ n < 9223372036854775808 := by
  intro n hn
  unfold ns at hn
  rw [List.map_map] at hn
  obtain ⟨y, hy, rfl⟩ := List.mem_map.1 hn
  have := h y hy
  show (0 : Int) ≤ ((Gr.code y : Nat) : Int) ∧ ((Gr.code y : Nat) : Int) < _
  unfold Gr.code
  cases y.non <;> simp only [if_true, Bool.false_eq_true, if_false] <;> omega

theorem Rd.two_bl {w wr w6 : World} {B : Nat} {A : Option Addr} {xs : List Value} (h : Rd wr B A xs) (hB : B ≤ w.heap.size) (h1 : Bl w wr) (h2 : Bl w w6) : Rd w6 B A xs :=
  h.keep fun p hp => (Below.cell h2 (p := p) (by omega)).trans (Below.cell h1 (p := p) (by omega)).symm

set_option maxRecDepth 100000 in
set_option maxHeartbeats 2000000 in
theorem gbytes_any (t n s : Int) (A : Option Addr) (len c : Nat) (ps : List Gr.Pr) (w : World) (B : Nat) (hlen : len = ps.length) (hmax : len ≤ 1000000000) (hr : Prs w B A ps) (hB : B ≤ w.heap.size) :
    Calls Try.prog 9 #[.agg #[.int .i64 t, .int .i64 n, .int .i64 s, .slice A len c]] w (GBPost ⟨t, n, s, ps⟩ w) := by
  have HL := Lib.hid hlen; clear hlen
  have HA := Lib.hid hr; clear hr
  have HA0 := Lib.hid (HA.out.alloc hB (.cells #[.int .i64 t, .int .i64 n, .int .i64 s, .slice A len c] 24))
  have HB0 : Hid (Bl w (w.alloc (.cells #[.int .i64 t, .int .i64 n, .int .i64 s, .slice A len c] 24))) := (Bl.refl w).alloc _
  have HK0 := Lib.hid (Bk.new w 24 #[.int .i64 t, .int .i64 n, .int .i64 s, .slice A len c])
  cases hok : okB ⟨t, n, s, ps⟩ with
  | false =>
    have HOK := Lib.hid hok; clear hok
    go_enter Try.func9, Try.ntmps9
    go_wp2_with fail
    refine (right_any t n s A len c ps _ B HL.out (by omega) HA0.out (by simp; omega)).mono ?_
    rintro e w1 ⟨rfl, hb1⟩
    rw [HOK.out]
    have HN := Lib.hid (GBPost.no HOK.out (HB0.out.trans hb1)); clear hb1
    go_wp2_with fail
    go_ret2
    exact HN.out
  | true =>
    have HOK := Lib.hid hok; clear hok
    obtain ⟨h1, h2, h3, h4, h5, h6, h7, h8⟩ := (okB_iff _).1 HOK.out
    simp only at h1 h2 h3 h4 h5 h6 h7 h8
    have HPr := Lib.hid h8; clear h8
    have hl60 : len ≤ 60 := by have := HL.out; omega
    have HPL := Lib.hid (prsNums_len ps fun p hp => (HPr.out p hp).2.2.1)
    clear h7
    obtain ⟨t, rfl⟩ : ∃ m : Nat, t = (m : Int) := ⟨t.toNat, by omega⟩
    obtain ⟨n, rfl⟩ : ∃ m : Nat, n = (m : Int) := ⟨n.toNat, by omega⟩
    obtain ⟨s, rfl⟩ : ∃ m : Nat, s = (m : Int) := ⟨s.toNat, by omega⟩
    go_enter Try.func9, Try.ntmps9
    go_wp2_with fail
    refine (right_any t n s A len c ps _ B HL.out (by omega) HA0.out (by simp; omega)).mono ?_
    rintro e w1 ⟨rfl, hb1⟩
    rw [HOK.out]
    have HB1 := Lib.hid (HB0.out.trans hb1)
    have HK1 := Lib.hid (HK0.out.bl hb1)
    have hs1 : w.heap.size < w1.heap.size := HK1.out.lt
    clear hb1
    have HR1 : Hid (BRel w w1.heap.size [] (w1.alloc (.cells #[.slice none 0 0] 49))) := ⟨_, Wtr.new w1, fun k hk => by have hk : k = w1.heap.size := hk; omega, HB1.out.alloc _⟩
    have HK2 := Lib.hid (HK1.out.alloc (.cells #[.slice none 0 0] 49))
    have q0 : w1.cell? ⟨w.heap.size, 0, none⟩ = some (.int .i64 t) := HK1.out.cell 0
    go_wp2_with fail
    generalize w1.heap.size = gw at *
    refine (HR1.out.num t (by omega) (by simp)).mono ?_
    rintro e w2 ⟨rfl, hr2, hk2⟩
    have HR2 := Lib.hid hr2
    have HK3 := Lib.hid (hk2 _ _ _ (by decide) (by decide) HK2.out)
    have q1 : w2.cell? ⟨w.heap.size, 1, none⟩ = some (.int .i64 n) := HK3.out.cell 1
    clear hr2 hk2
    go_wp2_with fail
    refine (HR2.out.num n (by omega) (by have := (Vy.enc_len t).2; simp; omega)).mono ?_
    rintro e w3 ⟨rfl, hr3, hk3⟩
    have HR3 := Lib.hid hr3
    have HK4 := Lib.hid (hk3 _ _ _ (by decide) (by decide) HK3.out)
    have q2 : w3.cell? ⟨w.heap.size, 2, none⟩ = some (.int .i64 s) := HK4.out.cell 2
    clear hr3 hk3
    go_wp2_with fail
    refine (HR3.out.num s (by omega) (by have := (Vy.enc_len t).2; have := (Vy.enc_len n).2; simp; omega)).mono ?_
    rintro e w4 ⟨rfl, hr4, hk4⟩
    have HR4 := Lib.hid hr4
    have HK5 := Lib.hid (hk4 _ _ _ (by decide) (by decide) HK4.out)
    have q3 : w4.cell? ⟨w.heap.size, 3, none⟩ = some (.slice A len c) := HK5.out.cell 3
    clear hr4 hk4
    go_wp2_with fail
    refine (HR4.out.num len (by omega) (by have := (Vy.enc_len t).2; have := (Vy.enc_len n).2; have := (Vy.enc_len s).2; simp; omega)).mono ?_
    rintro e w5 ⟨rfl, hr5, hk5⟩
    have HR5 : Hid (BRel w gw (Gr.encs (headNums t n s len ++ prsNums ps 0)) w5) := by
      have e0 : Gr.encs (headNums t n s len ++ prsNums ps 0) = ((([] ++ Vy.enc t) ++ Vy.enc n) ++ Vy.enc s) ++ Vy.enc len := by
        simp [headNums, prsNums, Gr.encs]
      unfold Hid
      rw [e0]
      exact hr5
    have HK6 := Lib.hid (hk5 _ _ _ (by decide) (by decide) HK5.out)
    have q4 : w5.cell? ⟨w.heap.size, 3, none⟩ = some (.slice A len c) := HK6.out.cell 3
    clear hr5 hk5 q0 q1 q2 q3 HR1 HR2 HR3 HR4 HK1 HK2 HK3 HK4 HK5
    go_wp2_with fail
    go_loopw [26] (fun i wr => ∃ k : Nat, k ≤ len ∧ i = .int .i64 k ∧ Hid (BRel w gw (Gr.encs (headNums t n s len ++ prsNums ps k)) wr)) (fun i _ => len - (intOf i).toNat)
    case atStart => exact ⟨0, Nat.zero_le _, rfl, HR5⟩
    case round =>
      obtain ⟨k, hk, rfl, HR⟩ := hrel
      have hln : (Gr.encs (headNums t n s len ++ prsNums ps k)).length ≤ 10000 := by
        have h1 := encs_len (headNums t n s len ++ prsNums ps k)
        have h2 := HPL.out k
        rw [List.length_append] at h1
        have h3 : (headNums (t : Int) (n : Int) (s : Int) len).length = 4 := rfl
        omega
      by_cases hlt : k < len
      · have hj : k < ps.length := by have := HL.out; omega
        obtain ⟨b, off, Ax, cx, rfl, hbB, hrx, hc0, hc1⟩ := (HA.out.bl hB HR.out.b).at_ hj
        obtain ⟨p1, p2, p3, p4⟩ := HPr.out _ (List.getElem_mem hj)
        have HNext := Lib.hid (prsNums_next hj)
        have HRX := Lib.hid ((HA.out.at_ hj))
        have hwr : w.heap.size ≤ wr.heap.size := HR.out.b.size
        have hbr : b < wr.heap.size := by omega
        generalize ps[k] = x at *
        obtain ⟨xl, xs⟩ := x
        simp only at hc0 hc1 p1 p2 p3 p4 hrx
        have HXs : Hid (∀ s ∈ xs, 0 ≤ s.n ∧ s.n ≤ 1000000) := fun y hy => by
          obtain ⟨r1, r2, r3⟩ := p4 y hy
          simp only at r2 r3
          refine ⟨r1, ?_⟩
          cases hb : y.non with
          | true => have := r2 hb; omega
          | false => have := r3 hb; omega
        obtain ⟨m, rfl⟩ : ∃ m : Nat, xl = (m : Int) := ⟨xl.toNat, by omega⟩
        have HRa := Lib.hid (HR.out.bl ((Bl.refl wr).alloc (.cells #[.int .i64 m, .slice Ax xs.length cx] 43)))
        have HKa := Lib.hid (Bk.new wr 43 #[.int .i64 m, .slice Ax xs.length cx])
        have HRd := Lib.hid hrx
        clear p4 hrx HRX
        generalize hll : Gr.encs (headNums t n s len ++ prsNums ps k) = l0 at *
        have HLL := Lib.hid hll; clear hll
        go_wp2_with fail
        refine (HRa.out.num m (by omega) (by omega)).mono ?_
        rintro e w6 ⟨rfl, hr6, hk6⟩
        have HR6 := Lib.hid hr6
        have HK7 := Lib.hid (hk6 _ _ _ (by decide) (by decide) HKa.out)
        have r1 : w6.cell? ⟨wr.heap.size, 1, none⟩ = some (.slice Ax xs.length cx) := HK7.out.cell 1
        have hem := (Vy.enc_len m).2
        have hs6 : w.heap.size ≤ w6.heap.size := HR6.out.b.size
        clear hr6 hk6
        have HRd6 := Lib.hid (HRd.out.two_bl hB HR.out.b HR6.out.b)
        have hnl : (ns (xs.map Gr.code)).length ≤ 8 := by rw [ns_len, List.length_map]; exact p3
        go_wp2_with fail
        refine (codes_any Ax xs.length cx xs _ B rfl (by omega) HXs.out HRd6.out (by omega)).mono ?_
        rintro e w7 ⟨A7, c7, rfl, hc7, ho7, hb7⟩
        have HR7 := Lib.hid (HR6.out.bl hb7)
        have HO7 := Lib.hid ho7
        clear ho7 hb7
        go_wp2_with fail
        refine (HR7.out.nums A7 _ c7 (ns (xs.map Gr.code)) w6.heap.size HO7.out rfl (by omega) (ns_small HXs.out) (by rw [List.length_append]; omega)).mono ?_
        rintro e w8 ⟨rfl, hr8, hk8⟩
        have HR8 : Hid (BRel w gw (Gr.encs (headNums t n s len ++ prsNums ps (k + 1))) w8) := by
          have e1 := encs_left (headNums t n s len ++ prsNums ps k) ⟨(m : Int), xs⟩
          rw [HLL.out] at e1
          unfold Hid
          rw [HNext.out, ← List.append_assoc, ← e1]
          exact hr8
        clear hr8 hk8
        go_wp2_with fail
        go_roundw
        case rel => exact ⟨k + 1, by omega, by go_num, HR8⟩
        case measure => simp [intOf]; omega
      · have hkl : k = len := by omega
        subst hkl
        obtain ⟨S, hS1, hS2, hS3⟩ := HR.out
        have HS1 := Lib.hid hS1
        have HS3 := Lib.hid hS3
        clear hS1 hS2 hS3
        go_wp2_with fail
        refine (wbytes_any _ S gw _ HS1.out (by omega)).mono ?_
        rintro e w6 ⟨A6, n6, c6, rfl, hn6, hc6, ho6, hb6⟩
        have HD : Hid (GBPost ⟨t, n, s, ps⟩ w (.returned (.tuple #[.slice A6 n6 c6, .int .i64 0])) w6) := by
          have e1 : Gr.encs (headNums t n s k ++ prsNums ps k) = bytesOf ⟨t, n, s, ps⟩ := by
            rw [bytesOf_ok HOK.out]
            have h := HL.out
            rw [h, gmNums_all]
            rfl
          rw [e1] at hn6 ho6
          refine ⟨A6, n6, c6, by rw [errOf_ok HOK.out], hn6, hc6, own_base ho6 fun j hj => ?_, HS3.out.trans hb6⟩
          have := (ho6.lt j hj).1
          have := HS3.out.size
          omega
        clear hn6 ho6 hb6
        go_wp2_with fail
        go_ret2
        exact HD.out
end Go.Proofs.Ytlfobnpkfloolaa
