/- Rows of 128 bits, more: what Not, Add, Shr of the document's own (limnerref02) return. -/
import Derived.Test.YtgkgdkdendmfnaaA
namespace Go.Proofs.Ytgkgdkdendmfnaa
open Go.RowKit

/-- The first k bits of f, noughts behind. -/
def upto (f : Nat → Bool) (k : Nat) : Array Value := Array.ofFn (n := 128) fun i => Value.bool (decide (i.val < k) && f i.val)
theorem upto_at (f : Nat → Bool) (k i : Nat) (h : i < 128) : (upto f k)[i]? = some (.bool (decide (i < k) && f i)) := by simp [upto, h]
theorem upto_size (f : Nat → Bool) (k : Nat) : (upto f k).size = 128 := by simp [upto]
theorem upto_zero (f : Nat → Bool) : upto f 0 = zeros := row_eq (upto_size _ _) zeros_size fun i hi => by rw [upto_at _ _ _ hi, zeros_at i hi]; simp
theorem upto_next (f : Nat → Bool) (k : Nat) : (upto f k).setIfInBounds k (.bool (f k)) = upto f (k + 1) := by
  refine row_eq (by simp [upto_size]) (upto_size _ _) fun i hi => ?_
  rw [Array.getElem?_setIfInBounds, upto_at _ _ _ hi, upto_at _ _ _ hi, upto_size]
  by_cases h : k = i
  · subst h; simp [hi]
  · rw [if_neg h]
    congr 2
    congr 1
    simp; omega
theorem upto_all (u : BitVec 128) : upto (fun i => u.getLsbD i) 128 = row u := row_eq (upto_size _ _) (row_size _) fun i hi => by rw [upto_at _ _ _ hi, row_at _ _ hi]; simp [hi]
/-- The first k bits turned. -/
def turned (u : BitVec 128) (k : Nat) : Array Value := Array.ofFn (n := 128) fun i => Value.bool (if i.val < k then !u.getLsbD i.val else u.getLsbD i.val)
theorem turned_at (u : BitVec 128) (k i : Nat) (h : i < 128) : (turned u k)[i]? = some (.bool (if i < k then !u.getLsbD i else u.getLsbD i)) := by simp [turned, h]
theorem turned_size (u : BitVec 128) (k : Nat) : (turned u k).size = 128 := by simp [turned]
theorem turned_zero (u : BitVec 128) : turned u 0 = row u := row_eq (turned_size _ _) (row_size _) fun i hi => by rw [turned_at _ _ _ hi, row_at _ _ hi]; simp
theorem turned_next (u : BitVec 128) (k : Nat) : (turned u k).setIfInBounds k (.bool (!u.getLsbD k)) = turned u (k + 1) := by
  refine row_eq (by simp [turned_size]) (turned_size _ _) fun i hi => ?_
  rw [Array.getElem?_setIfInBounds, turned_at _ _ _ hi, turned_at _ _ _ hi, turned_size]
  by_cases h : k = i
  · subst h; simp [hi]
  · rw [if_neg h]
    by_cases h2 : i < k
    · rw [if_pos h2, if_pos (by omega)]
    · rw [if_neg h2, if_neg (by omega)]
theorem turned_all (u : BitVec 128) : turned u 128 = row (~~~u) := row_eq (turned_size _ _) (row_size _) fun i hi => by rw [turned_at _ _ _ hi, row_at _ _ hi]; simp [hi]

set_option maxHeartbeats 400000 in
set_option maxRecDepth 100000 in
theorem not_any (u : BitVec 128) (w : World) :
    Calls Try.prog 33 #[.agg (row u)] w fun e w' => e = .returned (.agg (row (~~~u))) ∧ Below w.heap.size w w' := by
  have hz := zeroRow
  have HU : Hid (turned u 128 = row (~~~u)) := turned_all u
  have H0 : Hid (turned u 0 = row u) := turned_zero u
  generalize row (~~~u) = res at *
  generalize hr : row u = ru at *
  have HS : Hid (res.size = 128 ∧ res.all (·.oneCell') = true) := by
    unfold Hid; rw [← HU.out, turned_all]; exact ⟨row_size _, row_one _⟩
  clear hr
  go_enter Try.func33, Try.ntmps33
  go_wp2_with fail
  go_loopw [3] (fun i wr => ∃ k : Nat, k ≤ 128 ∧ i = .int .i64 k ∧ Hid (At wr w.heap.size (turned u k) ∧ At wr (w.heap.size + 1) zeros ∧ Below w.heap.size w wr)) (fun i _ => 128 - (intOf i).toNat)
  case atStart =>
    refine ⟨0, by omega, rfl, ?_, ?_, ?_⟩
    · rw [H0.out]; exact heap_alloc2_old _ _ _
    · exact heap_alloc2_new _ _ _
    · exact ((Below.refl _ _).alloc (Nat.le_refl _) _).alloc (by simp) _
  case round =>
    obtain ⟨k, hk, rfl, hw⟩ := hrel
    by_cases hlt : k < 128
    · have g1 : wr.cell? ⟨w.heap.size, k, none⟩ = some (.bool (u.getLsbD k)) := by
        rw [(hw.out.1).cell k, turned_at _ _ _ hlt, if_neg (by omega)]
      have f1 := (hw.out.1).free k
      have hd : decide ((k : Int) < 128) = true := by simp; omega
      obtain ⟨x, hx⟩ : ∃ x, u.getLsbD k = x := ⟨_, rfl⟩
      rw [hx] at g1
      have Hx := Lib.hid hx; clear hx
      go_wp2
      obtain ⟨m1, m2, m3⟩ := hw.out
      refine ⟨⟨k + 1, by omega, by go_num, ?_, ?_, ?_⟩, by simp [intOf]; omega⟩
      · rw [← Hx.out, ← turned_next u k]
        exact m1.set _ _
      · exact m2.other _ _ (by simp)
      · exact m3.setCell (by simp) _
    · obtain rfl : k = 128 := by omega
      have hd : decide (((128 : Nat) : Int) < 128) = false := by simp
      have HW : Hid (At wr w.heap.size res) := by rw [← HU.out]; exact hw.out.1
      go_wp2_with (first | (refine wpList_load_row rfl 25 _ rfl w.heap.size rfl 25 res (0, 0) _ HW.out Try.underlying25 rfl (by rw [HS.out.1]; exact sizeRow) ?_) | (refine wpList_store_row rfl 25 _ _ rfl (w.heap.size + 1) res rfl rfl 25 zeros hw.out.2.1 (by rw [HS.out.1]; exact sizeRow) (by rw [HS.out.1, zeros_size]) HS.out.2 ?_))
      refine bodyPost_ret (v := .agg res) (results_cell_row rfl _ _ (w.heap.size + 1) 25 res (0, 0) _ rfl (setRow_heap _ _ _ _ _ _ hw.out.2.1) Try.underlying25 rfl (by rw [HS.out.1]; exact sizeRow)) rfl ⟨rfl, below_setRow hw.out.2.2 (by omega) _⟩
end Go.Proofs.Ytgkgdkdendmfnaa
