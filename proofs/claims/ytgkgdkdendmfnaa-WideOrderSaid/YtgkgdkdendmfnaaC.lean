/- Rows of 128 bits: Add of the document's own (limnerref02). -/
import Derived.Test.YtgkgdkdendmfnaaB
namespace Go.Proofs.Ytgkgdkdendmfnaa
open Go.RowKit

/-- Two numbers, and one more, if carry. -/
def sum3 (u v : BitVec 128) (c : Bool) : BitVec 128 := u + v + BitVec.setWidth 128 (BitVec.ofBool c)
theorem sum3_bit (u v : BitVec 128) (c : Bool) (i : Nat) (h : i < 128) : (sum3 u v c).getLsbD i = (u.getLsbD i ^^ (v.getLsbD i ^^ BitVec.carry i u v c)) := BitVec.getLsbD_add_add_bool h u v c
theorem carry_next (u v : BitVec 128) (c : Bool) (i : Nat) : BitVec.carry (i + 1) u v c = Bool.atLeastTwo (u.getLsbD i) (v.getLsbD i) (BitVec.carry i u v c) := BitVec.carry_succ i u v c
theorem carry_0 (u v : BitVec 128) (c : Bool) : BitVec.carry 0 u v c = c := BitVec.carry_zero

/-- Four new blocks: what lies in them, and that nothing else has turned. -/
theorem four (w : World) (A B C D : Array Value) : At ((((w.alloc (.cells A 25)).alloc (.cells B 25)).alloc (.cells C 25)).alloc (.cells D 25)) w.heap.size A ∧
    At ((((w.alloc (.cells A 25)).alloc (.cells B 25)).alloc (.cells C 25)).alloc (.cells D 25)) (w.heap.size + 1) B ∧
    At ((((w.alloc (.cells A 25)).alloc (.cells B 25)).alloc (.cells C 25)).alloc (.cells D 25)) (w.heap.size + 2) C ∧
    At ((((w.alloc (.cells A 25)).alloc (.cells B 25)).alloc (.cells C 25)).alloc (.cells D 25)) (w.heap.size + 3) D ∧
    Below w.heap.size w ((((w.alloc (.cells A 25)).alloc (.cells B 25)).alloc (.cells C 25)).alloc (.cells D 25)) := by
  have s1 : (w.alloc (.cells A 25)).heap.size = w.heap.size + 1 := by simp
  have s2 : ((w.alloc (.cells A 25)).alloc (.cells B 25)).heap.size = w.heap.size + 2 := by simp
  have s3 : (((w.alloc (.cells A 25)).alloc (.cells B 25)).alloc (.cells C 25)).heap.size = w.heap.size + 3 := by simp
  refine ⟨?_, ?_, ?_, ?_, ?_⟩
  · unfold At
    rw [heap_alloc_old _ _ (by omega), heap_alloc_old _ _ (by omega), heap_alloc_old _ _ (by omega)]
    exact heap_alloc_new _ _
  · unfold At
    rw [heap_alloc_old _ _ (by omega), heap_alloc_old _ _ (by omega), ← s1]
    exact heap_alloc_new _ _
  · unfold At
    rw [heap_alloc_old _ _ (by omega), ← s2]
    exact heap_alloc_new _ _
  · unfold At
    rw [← s3]
    exact heap_alloc_new _ _
  · exact ((((Below.refl _ _).alloc (Nat.le_refl _) _).alloc (by omega) _).alloc (by omega) _).alloc (by omega) _

set_option maxHeartbeats 1000000 in
set_option maxRecDepth 100000 in
theorem add_any (u v : BitVec 128) (c : Bool) (w : World) :
    Calls Try.prog 12 #[.agg (row u), .agg (row v), .bool c] w fun e w' => e = .returned (.agg (row (sum3 u v c))) ∧ Below w.heap.size w w' := by
  have hz := zeroRow
  obtain ⟨f, hf⟩ : ∃ f : Nat → Bool, f = fun i => (sum3 u v c).getLsbD i := ⟨_, rfl⟩
  have HF : Hid (∀ i, i < 128 → f i = (u.getLsbD i ^^ (v.getLsbD i ^^ BitVec.carry i u v c))) := fun i hi => by rw [hf]; exact sum3_bit u v c i hi
  have HU : Hid (upto f 128 = row (sum3 u v c)) := by rw [hf]; exact upto_all _
  have HS : Hid ((row (sum3 u v c)).size = 128 ∧ (row (sum3 u v c)).all (·.oneCell') = true) := ⟨row_size _, row_one _⟩
  have HA : Hid (∀ i, i < 128 → (row u)[i]? = some (.bool (u.getLsbD i))) := fun i hi => row_at u i hi
  have HB : Hid (∀ i, i < 128 → (row v)[i]? = some (.bool (v.getLsbD i))) := fun i hi => row_at v i hi
  have HC : Hid (∀ i, BitVec.carry (i + 1) u v c = Bool.atLeastTwo (u.getLsbD i) (v.getLsbD i) (BitVec.carry i u v c)) := carry_next u v c
  have HC0 : Hid (BitVec.carry 0 u v c = c) := carry_0 u v c
  generalize row (sum3 u v c) = res at *
  generalize row u = ru at *
  generalize row v = rv at *
  clear hf
  obtain ⟨ca, hca⟩ : ∃ ca : Nat → Bool, ca = fun i => BitVec.carry i u v c := ⟨_, rfl⟩
  have HCA := Lib.hid hca; clear hca
  go_enter Try.func12, Try.ntmps12
  go_wp2_with fail
  go_loopw [2, 8] (fun cy i wr => ∃ k : Nat, k ≤ 128 ∧ i = .int .i64 k ∧ cy = .bool (ca k) ∧ Hid (At wr w.heap.size ru ∧ At wr (w.heap.size + 1) rv ∧ At wr (w.heap.size + 2) zeros ∧ At wr (w.heap.size + 3) (upto f k) ∧ Below w.heap.size w wr)) (fun _ i _ => 128 - (intOf i).toNat)
  case atStart =>
    refine ⟨0, by omega, rfl, by rw [HCA.out]; show Value.bool c = .bool (BitVec.carry 0 u v c); rw [HC0.out], ?_⟩
    have h4 := four w ru rv zeros zeros
    rw [upto_zero]
    exact h4
  case round =>
    obtain ⟨k, hk, rfl, rfl, hw⟩ := hrel
    by_cases hlt : k < 128
    · have g1 : wr.cell? ⟨w.heap.size, k, none⟩ = some (.bool (u.getLsbD k)) := by rw [(hw.out.1).cell k]; exact HA.out k hlt
      have g2 : wr.cell? ⟨w.heap.size + 1, k, none⟩ = some (.bool (v.getLsbD k)) := by rw [(hw.out.2.1).cell k]; exact HB.out k hlt
      have g3 : wr.cell? ⟨w.heap.size + 3, k, none⟩ = some (.bool false) := by rw [(hw.out.2.2.2.1).cell k, upto_at _ _ _ hlt]; simp
      have f3 := (hw.out.2.2.2.1).free k
      have hd : decide ((k : Int) < 128) = true := by simp; omega
      have HN : Hid (ca (k + 1) = Bool.atLeastTwo (u.getLsbD k) (v.getLsbD k) (ca k)) := by unfold Hid; rw [HCA.out]; exact HC.out k
      have HFk : Hid (f k = (u.getLsbD k ^^ (v.getLsbD k ^^ ca k))) := by unfold Hid; rw [HCA.out]; exact HF.out k hlt
      have HX : Hid ((upto f k).setIfInBounds k (.bool (f k)) = upto f (k + 1)) := upto_next f k
      clear HA HB HC HC0 HF HU
      generalize upto f k = nw at *
      generalize ca k = cc at *
      generalize f k = fk at *
      generalize u.getLsbD k = x at *
      generalize v.getLsbD k = y at *
      cases x <;> cases y <;> cases cc
      all_goals
        go_wp2
        obtain ⟨m1, m2, m3, m4, m5⟩ := hw.out
        refine ⟨⟨k + 1, by omega, by go_num, by rw [HN.out]; rfl, ?_⟩, by simp [intOf]; omega⟩
        refine ⟨m1.other _ _ (by dsimp only; omega), m2.other _ _ (by dsimp only; omega), m3.other _ _ (by dsimp only; omega), ?_, m5.setCell (by dsimp only; omega) _⟩
        rw [← HX.out, HFk.out]
        exact m4.set _ _
    · obtain rfl : k = 128 := by omega
      have hd : decide (((128 : Nat) : Int) < 128) = false := by simp
      have HW : Hid (At wr (w.heap.size + 3) res) := by rw [← HU.out]; exact hw.out.2.2.2.1
      clear HA HB HC HC0 HF
      go_wp2_with (first | (refine wpList_load_row rfl 25 _ rfl (w.heap.size + 3) rfl 25 res (0, 0) _ HW.out Try.underlying25 rfl (by rw [HS.out.1]; exact sizeRow) ?_) | (refine wpList_store_row rfl 25 _ _ rfl (w.heap.size + 2) res rfl rfl 25 zeros hw.out.2.2.1 (by rw [HS.out.1]; exact sizeRow) (by rw [HS.out.1, zeros_size]) HS.out.2 ?_))
      refine bodyPost_ret (v := .agg res) (results_cell_row rfl _ _ (w.heap.size + 2) 25 res (0, 0) _ rfl (setRow_heap _ _ _ _ _ _ hw.out.2.2.1) Try.underlying25 rfl (by rw [HS.out.1]; exact sizeRow)) rfl ⟨rfl, below_setRow hw.out.2.2.2.2 (by omega) _⟩
end Go.Proofs.Ytgkgdkdendmfnaa
