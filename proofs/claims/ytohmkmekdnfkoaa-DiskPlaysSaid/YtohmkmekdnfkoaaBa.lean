/- Layer 12: the law's fill. -/
import Derived.Test.YtohmkmekdnfkoaaAe
namespace Go.Proofs.Ytohmkmekdnfkoaa
open Go.RowKit
def fillL (c : Int) (n k : Nat) : List Int := List.replicate k c ++ List.replicate (n - k) 0
theorem fillL_len (c : Int) {n k : Nat} (h : k ≤ n) : (fillL c n k).length = n := by unfold fillL; simp; omega
theorem fillL_set (c : Int) {n k : Nat} (h : k < n) : (fillL c n k).set k c = fillL c n (k + 1) := by
  unfold fillL
  rw [List.set_append_right _ _ (by simp), List.length_replicate, Nat.sub_self, show n - k = (n - (k + 1)) + 1 by omega, List.replicate_succ, List.set_cons_zero, List.replicate_succ', List.append_assoc]
  rfl
theorem bytV_set (E : List Int) (k : Nat) (c : Int) : (bytV E).set k (.int .u8 c) = bytV (E.set k c) := by unfold bytV; rw [List.map_set]
theorem fill_made (c : Int) (n : Nat) : madeCells (Value.int .u8 0).cells (n * 1) = (bytV (fillL c n 0)).toArray := by
  unfold madeCells fillL bytV
  rw [Nat.mul_one, List.replicate_zero, List.nil_append, Nat.sub_zero, List.map_replicate]
  apply Array.ext
  · simp
  · intro i h1 h2
    have hs : (Value.int .u8 0).cells = #[Value.int .u8 0] := rfl
    simp [hs, Nat.mod_one]
theorem OwnB.blk (w : World) {base g : Nat} {E : List Int} {n c : Nat} (hb : base ≤ g) (h : Blk w g 5 (bytV E).toArray) (hn : E.length = n) (hc : n = c) (hl : n ≤ 100000) : OwnB w base (.slice (some ⟨g, 0, none⟩) n c) E := by
  subst hn hc
  exact ⟨by simp, .inr ⟨g, E.length, _, rfl, hb, h, Nat.le_refl _, by unfold maxLen; omega, by simp, by rw [List.take_of_length_le (by simp)]⟩⟩
set_option maxHeartbeats 4000000 in
set_option maxRecDepth 100000 in
theorem fill_c (n : Nat) (c : Int) (hn : n ≤ 1000) (w : World) : Calls Try.prog 19 #[.int .i64 (n : Int), .int .u8 c] w fun e w' => ∃ v, e = .returned v ∧ OwnB w' w.heap.size v (List.replicate n c) ∧ Below w.heap.size w w' := by
  have HN := Lib.hid hn
  obtain ⟨i, hi, hz0, hz1, hz2⟩ := info_parts infoB
  have hmk := run_make (P := Try.prog) w 28 5 i _ Try.underlying28 hi hz0 .i64 .i64 n n (by omega) (Int.le_refl _) (by rw [hz2]; omega) (by omega)
  rw [hz1, Int.toNat_natCast, fill_made c n] at hmk
  obtain ⟨w1, hw1⟩ : ∃ WW, w.alloc (.cells (bytV (fillL c n 0)).toArray 5) = WW := ⟨_, rfl⟩
  have P1 : Hid (Below w.heap.size w w1 ∧ Blk w1 w.heap.size 5 (bytV (fillL c n 0)).toArray) := by
    rw [← hw1]; exact ⟨(Below.refl _ _).alloc (Nat.le_refl _) _, Blk.new _ _ _⟩
  rw [hw1] at hmk
  clear hn hi hz0 hz1 hz2 hw1
  go_enter Try.func19, Try.ntmps19
  go_wp2_with fail
  clear hmk
  go_loopw [11] (fun s11 wr => ∃ k : Nat, k ≤ n ∧ s11 = .int .i64 (k : Int) ∧ Hid (Below w.heap.size w wr ∧ Blk wr w.heap.size 5 (bytV (fillL c n k)).toArray)) (fun s11 _ => n - (intOf s11).toNat)
  case atStart => exact ⟨0, by omega, rfl, P1.out⟩
  case round =>
    obtain ⟨k, hk, rfl, hw⟩ := hrel
    obtain ⟨G, hG⟩ : ∃ G, w.heap.size = G := ⟨_, rfl⟩
    rw [hG] at hw ⊢
    by_cases hlt : k < n
    · have hd : decide ((k : Int) < (n : Int)) = true := by simp; omega
      have hki : (k : Int) < (n : Int) := by omega
      have ek : wrap64 ((k : Int) + 1) = ((k + 1 : Nat) : Int) := by have := HN.out; rw [wrapR _ (by omega) (by omega)]; omega
      have fr := hw.out.2.free k
      have lg := hw.out.2.lt
      have c0 : wr.cell? ⟨G, k, none⟩ = some (.int .u8 0) := by
        rw [hw.out.2.cell]
        unfold fillL bytV
        rw [List.getElem?_toArray, List.getElem?_map, List.getElem?_append_right (by simp), List.length_replicate, Nat.sub_self, List.getElem?_replicate, if_pos (by omega)]; rfl
      obtain ⟨w3, hw3⟩ : ∃ WW, wr.setCell ⟨G, k, none⟩ (.int .u8 c) = WW := ⟨_, rfl⟩
      have P3 : Hid (Below G w w3 ∧ Blk w3 G 5 (bytV (fillL c n (k + 1))).toArray) := by
        rw [← hw3]
        refine ⟨hw.out.1.setCell (Nat.le_refl _) _, hw.out.2.put k _ _ ?_⟩
        rw [List.setIfInBounds_toArray, bytV_set, fillL_set c hlt]
      go_wp2_with fail
      refine ⟨⟨k + 1, by omega, by rw [ek], P3.out⟩, ?_⟩
      rw [ek]; simp [intOf]; omega
    · have hd : decide ((k : Int) < (n : Int)) = false := by simp; omega
      have hkn : Hid (k = n) := by unfold Hid; omega
      go_wp2_with fail
      go_ret
      have e : fillL c n k = List.replicate n c := by rw [hkn.out]; unfold fillL; rw [Nat.sub_self, List.replicate_zero, List.append_nil]
      have hB := hw.out.2
      rw [e] at hB
      refine ⟨_, rfl, OwnB.blk _ (by omega) hB (by simp) rfl (by have := HN.out; omega), ?_⟩
      exact hG ▸ hw.out.1
end Go.Proofs.Ytohmkmekdnfkoaa
