/- Plain facts on words and their bytes, there and back. No program is named here. -/
import Derived.Test.YtmegpmkjhbihaaaDMath
import Derived.Test.YtmegpmkjhbihaaaGMath
import Derived.Test.YtmegpmkjhbihaaaWMem
namespace Go.Proofs.Ytmegpmkjhbihaaa.Wd

theorem many_le : ∀ (k : Nat) (s : Wr.St) (most : Nat), ∀ n ∈ (Wr.many k s most).1, n ≤ most
  | 0, _, _, _, h => by cases h
  | k + 1, s, most, n, h => by
    rcases List.mem_cons.1 h with rfl | h
    · exact Wr.num_le s most
    · exact many_le k _ most n h
theorem nums_le (s : Wr.St) (a b : Nat) : ∀ n ∈ (Wr.nums s a b).1, n ≤ b := by
  intro n h
  unfold Wr.nums at h
  simp only at h
  split at h
  · exact many_le _ _ _ n h
  · cases h
theorem okW_ns {l : List Nat} (h1 : l.length ≤ 24) (h2 : ∀ n ∈ l, n ≤ 15) : okW (ns l) = true := by
  refine (okW_iff _).2 ⟨by rw [ns_len]; exact h1, fun t ht => ?_⟩
  obtain ⟨n, hn, rfl⟩ := List.mem_map.1 ht
  have := h2 n hn
  omega
theorem okW_nums (s : Wr.St) : okW (ns (Wr.nums s 24 15).1) = true := okW_ns (Wr.nums_len s 24 15) (nums_le s 24 15)
theorem ns_toNat {w : List Int} (h : ∀ t ∈ w, 0 ≤ t) : ns (w.map Int.toNat) = w := by
  unfold ns
  rw [List.map_map]
  exact (List.map_congr_left (g := id) fun t ht => Int.toNat_of_nonneg (h t ht)).trans (List.map_id _)
/-- A word is read as it was written. -/
theorem nums_back {w : List Int} (h : okW w = true) (r : List Nat) : Wr.nums ⟨Wr.wnums w ++ r, 0⟩ 24 15 = (w.map Int.toNat, ⟨r, 0⟩) := by
  obtain ⟨h1, h2⟩ := (okW_iff w).1 h
  have e := Wr.num_enc w.length 24 (by omega) h1 ((w.flatMap fun n => Vy.enc n.toNat) ++ r)
  have e2 := Wr.many_enc w 15 (fun n hn => by have := h2 n hn; omega) r
  unfold Wr.nums Wr.wnums
  rw [List.append_assoc, e]
  simp only [e2, if_true]
/-- Bytes of which a word was read, to their end and without fault, are its bytes. -/
theorem nums_inv {l : List Nat} (hb : ∀ c ∈ l, c < 256) (h : (Wr.nums ⟨l, 0⟩ 24 15).2 = ⟨[], 0⟩) : l = Wr.wnums (ns (Wr.nums ⟨l, 0⟩ 24 15).1) := by
  have h0 : (Wr.many (Wr.num ⟨l, 0⟩ 24).1 (Wr.num ⟨l, 0⟩ 24).2 15).2 = ⟨[], 0⟩ := h
  have hz : (Wr.many (Wr.num ⟨l, 0⟩ 24).1 (Wr.num ⟨l, 0⟩ 24).2 15).2.e = 0 := by rw [h0]
  have h1 : (Wr.num ⟨l, 0⟩ 24).2.e = 0 := Gr.many_zero _ hz
  obtain ⟨r, e1, f1, b1⟩ := Gr.num_inv hb h1
  rw [f1] at hz h0
  obtain ⟨r', e2, f2, _⟩ := Gr.many_inv _ b1 hz
  rw [f2] at h0
  have hr' : r' = [] := by injection h0
  subst hr'
  rw [List.append_nil] at e2
  rw [Wr.nums_done (by rw [f1]; exact hz), f1]
  have e3 : ∀ m : List Nat, Wr.wnums (ns m) = Vy.enc m.length ++ Gr.encs m := by
    intro m
    unfold Wr.wnums Gr.encs
    rw [ns_len]
    congr 1
    induction m with
    | nil => rfl
    | cons n m ih =>
      show Vy.enc ((n : Int)).toNat ++ _ = Vy.enc n ++ _
      rw [Int.toNat_natCast]
      exact congrArg _ ih
  rw [e3, Wr.many_len, ← e2, ← e1]
theorem wnums_inj {w v : List Int} (hw : okW w = true) (hv : okW v = true) (e : Wr.wnums w = Wr.wnums v) : w = v := by
  have a := nums_back hw []
  have b := nums_back hv []
  rw [e, b] at a
  injection a with a _
  have h1 := ns_toNat (w := w) fun t ht => (((okW_iff w).1 hw).2 t ht).1
  have h2 := ns_toNat (w := v) fun t ht => (((okW_iff v).1 hv).2 t ht).1
  rw [← h1, ← h2, a]
theorem wnums_byte {w : List Int} (h : okW w = true) : ∀ c ∈ Wr.wnums w, c < 256 := by
  obtain ⟨h1, h2⟩ := (okW_iff w).1 h
  intro c hc
  unfold Wr.wnums at hc
  rcases List.mem_append.1 hc with hc | hc
  · exact Vy.enc_byte _ (by omega) c hc
  · obtain ⟨n, hn, hc⟩ := List.mem_flatMap.1 hc
    have := h2 n hn
    exact Vy.enc_byte _ (by omega) c hc
end Go.Proofs.Ytmegpmkjhbihaaa.Wd
