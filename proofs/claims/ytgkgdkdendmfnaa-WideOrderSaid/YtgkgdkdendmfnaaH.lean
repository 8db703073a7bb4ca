/- Rows of 128 bits: Shr of the document's own (limnerref02). -/
import Derived.Test.YtgkgdkdendmfnaaG
namespace Go.Proofs.Ytgkgdkdendmfnaa
open Go.RowKit

theorem shr_bit (u : BitVec 128) (n i : Nat) (h : i < 128) : (u.sshiftRight n).getLsbD i = if i + n < 128 then u.getLsbD (i + n) else u.getLsbD 127 := by
  rw [BitVec.getLsbD_sshiftRight, BitVec.msb_eq_getLsbD_last, Nat.add_comm n i]
  simp [h]
set_option maxHeartbeats 1000000 in
set_option maxRecDepth 100000 in
theorem shr_any (u : BitVec 128) (n : Nat) (hn : n ≤ 128) (w : World) :
    Calls Try.prog 27 #[.agg (row u), .int .i64 n] w fun e w' => e = .returned (.agg (row (u.sshiftRight n))) ∧ Below w.heap.size w w' := by
  have hz := zeroRow
  obtain ⟨f, hf⟩ : ∃ f : Nat → Bool, f = fun i => (u.sshiftRight n).getLsbD i := ⟨_, rfl⟩
  have HF : Hid (∀ i, i < 128 → f i = if i + n < 128 then u.getLsbD (i + n) else u.getLsbD 127) := fun i hi => by rw [hf]; exact shr_bit u n i hi
  have HU : Hid (upto f 128 = row (u.sshiftRight n)) := by rw [hf]; exact upto_all _
  have HS : Hid ((row (u.sshiftRight n)).size = 128 ∧ (row (u.sshiftRight n)).all (·.oneCell') = true) := ⟨row_size _, row_one _⟩
  have HA : Hid (∀ i, i < 128 → (row u)[i]? = some (.bool (u.getLsbD i))) := fun i hi => row_at u i hi
  have hn1 : (n : Int) ≤ 128 := by omega
  generalize row (u.sshiftRight n) = res at *
  generalize row u = ru at *
  clear hf
  go_enter Try.func27, Try.ntmps27
  go_wp2_with fail
  go_loopw [6] (fun i wr => ∃ k : Nat, k ≤ 128 ∧ i = .int .i64 k ∧ Hid (At wr w.heap.size ru ∧ At wr (w.heap.size + 1) zeros ∧ At wr (w.heap.size + 2) (upto f k) ∧ Below w.heap.size w wr)) (fun i _ => 128 - (intOf i).toNat)
  case atStart =>
    refine ⟨0, by omega, rfl, ?_⟩
    have h3 := three w ru zeros zeros
    rw [upto_zero]
    exact h3
  case round =>
    obtain ⟨k, hk, rfl, hw⟩ := hrel
    by_cases hlt : k < 128
    · have g3 : wr.cell? ⟨w.heap.size + 2, k, none⟩ = some (.bool false) := by rw [(hw.out.2.2.1).cell k, upto_at _ _ _ hlt]; simp
      have f3 := (hw.out.2.2.1).free k
      have hd : decide ((k : Int) < 128) = true := by simp; omega
      have HX : Hid ((upto f k).setIfInBounds k (.bool (f k)) = upto f (k + 1)) := upto_next f k
      have hkk : (k : Int) < 128 := by omega
      by_cases hin : k + n < 128
      · have g1 : wr.cell? ⟨w.heap.size, k + n, none⟩ = some (.bool (u.getLsbD (k + n))) := by rw [(hw.out.1).cell (k + n)]; exact HA.out _ hin
        have e1 : decide ((n : Int) < 128) = true := by simp; omega
        have e2 : decide ((k : Int) + (n : Int) < 128) = true := by simp; omega
        have i1 : (k : Int) + (n : Int) < 128 := by omega
        have HFk : Hid (f k = u.getLsbD (k + n)) := by unfold Hid; rw [HF.out k hlt, if_pos hin]
        clear HA HF HU
        generalize upto f k = nw at *
        generalize f k = fk at *
        generalize u.getLsbD (k + n) = x at *
        go_wp2
        refine ⟨⟨k + 1, by omega, by go_num, ?_⟩, by simp [intOf]; omega⟩
        obtain ⟨m1, m2, m3, m4⟩ := hw.out
        refine ⟨m1.other _ _ (by dsimp only; omega), m2.other _ _ (by dsimp only; omega), ?_, m4.setCell (by dsimp only; omega) _⟩
        rw [← HX.out, HFk.out]
        exact m3.set _ _
      · by_cases hn2 : n < 128
        · have g1 : wr.cell? ⟨w.heap.size, 127, none⟩ = some (.bool (u.getLsbD 127)) := by rw [(hw.out.1).cell 127]; exact HA.out _ (by omega)
          have e1 : decide ((n : Int) < 128) = true := by simp; omega
          have e2 : decide ((k : Int) + (n : Int) < 128) = false := by simp; omega
          have HFk : Hid (f k = u.getLsbD 127) := by unfold Hid; rw [HF.out k hlt, if_neg hin]
          clear HA HF HU hin
          generalize upto f k = nw at *
          generalize f k = fk at *
          generalize u.getLsbD 127 = x at *
          go_wp2
          refine ⟨⟨k + 1, by omega, by go_num, ?_⟩, by simp [intOf]; omega⟩
          obtain ⟨m1, m2, m3, m4⟩ := hw.out
          refine ⟨m1.other _ _ (by dsimp only; omega), m2.other _ _ (by dsimp only; omega), ?_, m4.setCell (by dsimp only; omega) _⟩
          rw [← HX.out, HFk.out]
          exact m3.set _ _
        · have g1 : wr.cell? ⟨w.heap.size, 127, none⟩ = some (.bool (u.getLsbD 127)) := by rw [(hw.out.1).cell 127]; exact HA.out _ (by omega)
          have e1 : decide ((n : Int) < 128) = false := by simp; omega
          have HFk : Hid (f k = u.getLsbD 127) := by unfold Hid; rw [HF.out k hlt, if_neg hin]
          clear HA HF HU hin
          generalize upto f k = nw at *
          generalize f k = fk at *
          generalize u.getLsbD 127 = x at *
          go_wp2
          refine ⟨⟨k + 1, by omega, by go_num, ?_⟩, by simp [intOf]; omega⟩
          obtain ⟨m1, m2, m3, m4⟩ := hw.out
          refine ⟨m1.other _ _ (by dsimp only; omega), m2.other _ _ (by dsimp only; omega), ?_, m4.setCell (by dsimp only; omega) _⟩
          rw [← HX.out, HFk.out]
          exact m3.set _ _
    · obtain rfl : k = 128 := by omega
      have hd : decide (((128 : Nat) : Int) < 128) = false := by simp
      have HW : Hid (At wr (w.heap.size + 2) res) := by rw [← HU.out]; exact hw.out.2.2.1
      clear HA HF
      go_wp2_with (first | (refine wpList_load_row rfl 25 _ rfl (w.heap.size + 2) rfl 25 res (0, 0) _ HW.out Try.underlying25 rfl (by rw [HS.out.1]; exact sizeRow) ?_) | (refine wpList_store_row rfl 25 _ _ rfl (w.heap.size + 1) res rfl rfl 25 zeros hw.out.2.1 (by rw [HS.out.1]; exact sizeRow) (by rw [HS.out.1, zeros_size]) HS.out.2 ?_))
      refine bodyPost_ret (v := .agg res) (results_cell_row rfl _ _ (w.heap.size + 1) 25 res (0, 0) _ rfl (setRow_heap _ _ _ _ _ _ hw.out.2.1) Try.underlying25 rfl (by rw [HS.out.1]; exact sizeRow)) rfl ⟨rfl, below_setRow hw.out.2.2.2 (by omega) _⟩
end Go.Proofs.Ytgkgdkdendmfnaa
