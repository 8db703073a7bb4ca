/- Rows of 128 bits: Mul of the document's own (limnerref02): the product modulo 2^128. -/
import Derived.Test.YtgkgdkdendmfnaaG
namespace Go.Proofs.Ytgkgdkdendmfnaa
open Go.RowKit

theorem sum3_plain (u v : BitVec 128) : sum3 u v false = u + v := by
  unfold sum3
  rw [show BitVec.setWidth 128 (BitVec.ofBool false) = 0 by decide]
  exact BitVec.add_zero _
/-- What Mul has done behind k rounds. -/
def prodTo (u v : BitVec 128) : Nat → BitVec 128
  | 0 => 0
  | k + 1 => if u.getLsbD k then prodTo u v k + v <<< k else prodTo u v k
theorem prodTo_eq (u v : BitVec 128) : ∀ k, prodTo u v k = BitVec.ofNat 128 (u.toNat % 2 ^ k) * v
  | 0 => by
    unfold prodTo
    rw [show u.toNat % 2 ^ 0 = 0 by omega]
    simp
  | k + 1 => by
    unfold prodTo
    rw [prodTo_eq u v k]
    have e : u.toNat % 2 ^ (k + 1) = u.toNat % 2 ^ k + 2 ^ k * (u.toNat.testBit k).toNat := by
      rw [Nat.mod_pow_succ, Nat.toNat_testBit]
    rw [e, show u.toNat.testBit k = u.getLsbD k from rfl]
    cases u.getLsbD k
    · simp
    · simp only [if_true, Bool.toNat_true, Nat.mul_one, BitVec.ofNat_add, BitVec.add_mul]
      congr 1
      rw [BitVec.shiftLeft_eq_mul_twoPow, BitVec.mul_comm]
      congr 1
      apply BitVec.eq_of_toNat_eq
      rw [BitVec.toNat_ofNat, BitVec.toNat_twoPow]
theorem prodTo_all (u v : BitVec 128) : prodTo u v 128 = u * v := by
  rw [prodTo_eq, Nat.mod_eq_of_lt u.isLt, BitVec.ofNat_toNat, BitVec.setWidth_eq]
theorem shift_next (v : BitVec 128) (k : Nat) : v <<< k + v <<< k = v <<< (k + 1) := by
  rw [BitVec.shiftLeft_add, BitVec.shiftLeft_eq_mul_twoPow (v <<< k) 1, show BitVec.twoPow 128 1 = 2#128 by decide, BitVec.mul_two]
#print axioms prodTo_all
#print axioms shift_next

theorem At.row {w : World} {g : Nat} {cs : Array Value} (h : At w g cs) {g' : Nat} (rs : Array Value) (hg : g' ≠ g) : At (w.setRow g' rs) g cs := by
  unfold At; rw [setRow_other _ _ _ _ (by omega)]; exact h
theorem zeros_row : zeros = row 0 := row_eq zeros_size (row_size _) fun i hi => by rw [row_at _ _ hi, zeros_at i hi]; simp
set_option maxHeartbeats 1000000 in
set_option maxRecDepth 100000 in
theorem mul_any (u v : BitVec 128) (w : World) :
    Calls Try.prog 19 #[.agg (row u), .agg (row v)] w fun e w' => e = .returned (.agg (row (u * v))) ∧ Below w.heap.size w w' := by
  have hz := zeroRow
  obtain ⟨pr, hpr⟩ : ∃ pr : Nat → Array Value, pr = fun k => row (prodTo u v k) := ⟨_, rfl⟩
  obtain ⟨sh, hsh⟩ : ∃ sh : Nat → Array Value, sh = fun k => row (v <<< k) := ⟨_, rfl⟩
  have HZ : Hid (∀ k, (pr k).size = 128 ∧ (pr k).all (·.oneCell') = true ∧ (sh k).size = 128 ∧ (sh k).all (·.oneCell') = true) := fun k => by rw [hpr, hsh]; exact ⟨row_size _, row_one _, row_size _, row_one _⟩
  have H0 : Hid (pr 0 = zeros ∧ sh 0 = row v ∧ pr 128 = row (u * v)) := by
    rw [hpr, hsh]
    exact ⟨zeros_row.symm, by show row (v <<< 0) = row v; rw [BitVec.shiftLeft_zero], by show row (prodTo u v 128) = _; rw [prodTo_all]⟩
  have HN : Hid (∀ k, (u.getLsbD k = true → ∀ w, Calls Try.prog 12 #[.agg (pr k), .agg (sh k), .bool false] w fun e w' => e = .returned (.agg (pr (k + 1))) ∧ Below w.heap.size w w') ∧
      (u.getLsbD k = false → pr (k + 1) = pr k) ∧ ∀ w, Calls Try.prog 12 #[.agg (sh k), .agg (sh k), .bool false] w fun e w' => e = .returned (.agg (sh (k + 1))) ∧ Below w.heap.size w w') := fun k => by
    rw [hpr, hsh]
    refine ⟨fun h w => ?_, fun h => ?_, fun w => ?_⟩
    · have := add_any (prodTo u v k) (v <<< k) false w
      rw [sum3_plain] at this
      show Calls _ _ _ _ fun e w' => e = .returned (.agg (row (prodTo u v (k + 1)))) ∧ _
      rw [show prodTo u v (k + 1) = prodTo u v k + v <<< k by simp [prodTo, h]]
      exact this
    · show row (prodTo u v (k + 1)) = row (prodTo u v k)
      rw [show prodTo u v (k + 1) = prodTo u v k by simp [prodTo, h]]
    · have := add_any (v <<< k) (v <<< k) false w
      rw [sum3_plain, shift_next] at this
      exact this
  have HA : Hid (∀ i, i < 128 → (row u)[i]? = some (.bool (u.getLsbD i))) := fun i hi => row_at u i hi
  generalize row (u * v) = res at *
  generalize row u = ru at *
  generalize row v = rv at *
  clear hpr hsh
  go_enter Try.func19, Try.ntmps19
  go_wp2_with fail
  go_loopw [6] (fun i wr => ∃ k : Nat, k ≤ 128 ∧ i = .int .i64 k ∧ Hid (At wr w.heap.size ru ∧ At wr (w.heap.size + 1) (sh k) ∧ At wr (w.heap.size + 2) zeros ∧ At wr (w.heap.size + 3) (pr k) ∧ Below w.heap.size w wr ∧ w.heap.size + 4 ≤ wr.heap.size)) (fun i _ => 128 - (intOf i).toNat)
  case atStart =>
    refine ⟨0, by omega, rfl, ?_⟩
    obtain ⟨m1, m2, m3, m4, m5⟩ := four w ru rv zeros zeros
    rw [H0.out.1, H0.out.2.1]
    exact ⟨m1, m2, m3, m4, m5, by simp⟩
  case round =>
    obtain ⟨k, hk, rfl, hw⟩ := hrel
    by_cases hlt : k < 128
    · have g1 : wr.cell? ⟨w.heap.size, k, none⟩ = some (.bool (u.getLsbD k)) := by rw [(hw.out.1).cell k]; exact HA.out k hlt
      have hd : decide ((k : Int) < 128) = true := by simp; omega
      have hkk : (k : Int) < 128 := by omega
      have Z := Lib.hid (HZ.out k)
      have Z1 := Lib.hid (HZ.out (k + 1))
      cases hbit : u.getLsbD k
      · have HQ : Hid (pr (k + 1) = pr k) := (HN.out k).2.1 hbit
        have HC := Lib.hid (HN.out k).2.2
        rw [hbit] at g1
        clear HA HN HZ hbit
        go_wp2_with (refine wpList_load_row rfl 25 _ rfl (w.heap.size + 1) rfl 25 (sh k) (0, 0) _ hw.out.2.1 Try.underlying25 rfl (by rw [Z.out.2.2.1]; exact sizeRow) ?_)
        refine (HC.out wr).mono ?_
        rintro e w1 ⟨rfl, hb1⟩
        have s4 := hw.out.2.2.2.2.2
        have c1 : At w1 w.heap.size ru := At.on hw.out.1 hb1 (by omega)
        have c2 : At w1 (w.heap.size + 1) (sh k) := At.on hw.out.2.1 hb1 (by omega)
        have c3 : At w1 (w.heap.size + 2) zeros := At.on hw.out.2.2.1 hb1 (by omega)
        have c4 : At w1 (w.heap.size + 3) (pr k) := At.on hw.out.2.2.2.1 hb1 (by omega)
        have b1 : Below w.heap.size w w1 := below_next hw.out.2.2.2.2.1 hb1
        have s1 : w.heap.size + 4 ≤ w1.heap.size := Nat.le_trans s4 hb1.size
        have C := Lib.hid (And.intro c1 (And.intro c2 (And.intro c3 (And.intro c4 (And.intro b1 s1)))))
        clear c1 c2 c3 c4 b1 s1 hb1 s4 hw g1
        go_wp2_with (refine wpList_store_row rfl 25 _ _ rfl (w.heap.size + 1) (sh (k + 1)) rfl rfl 25 (sh k) C.out.2.1 (by rw [Z1.out.2.2.1]; exact sizeRow) (by rw [Z1.out.2.2.1, Z.out.2.2.1]) Z1.out.2.2.2 ?_)
        obtain ⟨c1, c2, c3, c4, c5, c6⟩ := C.out
        refine ⟨⟨k + 1, by omega, by go_num, ⟨c1.row _ (by omega), setRow_heap _ _ _ _ _ _ c2, c3.row _ (by omega), ?_, below_setRow c5 (by omega) _, Nat.le_trans c6 (below_setRow (Below.refl 0 _) (by omega) _).size⟩⟩, by simp [intOf]; omega⟩
        rw [HQ.out]
        exact c4.row _ (by omega)
      · have HQ := Lib.hid ((HN.out k).1 hbit)
        have HC := Lib.hid (HN.out k).2.2
        rw [hbit] at g1
        clear HA HN HZ hbit
        go_wp2_with (first | (refine wpList_load_row rfl 25 _ rfl (w.heap.size + 3) rfl 25 (pr k) (0, 0) _ hw.out.2.2.2.1 Try.underlying25 rfl (by rw [Z.out.1]; exact sizeRow) ?_) | (refine wpList_load_row rfl 25 _ rfl (w.heap.size + 1) rfl 25 (sh k) (0, 0) _ hw.out.2.1 Try.underlying25 rfl (by rw [Z.out.2.2.1]; exact sizeRow) ?_))
        refine (HQ.out wr).mono ?_
        rintro e w1 ⟨rfl, hb1⟩
        have s4 := hw.out.2.2.2.2.2
        have c1 : At w1 w.heap.size ru := At.on hw.out.1 hb1 (by omega)
        have c2 : At w1 (w.heap.size + 1) (sh k) := At.on hw.out.2.1 hb1 (by omega)
        have c3 : At w1 (w.heap.size + 2) zeros := At.on hw.out.2.2.1 hb1 (by omega)
        have c4 : At w1 (w.heap.size + 3) (pr k) := At.on hw.out.2.2.2.1 hb1 (by omega)
        have b1 : Below w.heap.size w w1 := below_next hw.out.2.2.2.2.1 hb1
        have s1 : w.heap.size + 4 ≤ w1.heap.size := Nat.le_trans s4 hb1.size
        have C := Lib.hid (And.intro c1 (And.intro c2 (And.intro c3 (And.intro c4 (And.intro b1 s1)))))
        clear c1 c2 c3 c4 b1 s1 hb1 s4 hw g1
        have D1 : Hid (At (w1.setRow (w.heap.size + 3) (pr (k + 1))) (w.heap.size + 1) (sh k)) := C.out.2.1.row _ (by omega)
        go_wp2_with (first | (refine wpList_store_row rfl 25 _ _ rfl (w.heap.size + 3) (pr (k + 1)) rfl rfl 25 (pr k) C.out.2.2.2.1 (by rw [Z1.out.1]; exact sizeRow) (by rw [Z1.out.1, Z.out.1]) Z1.out.2.1 ?_) | (refine wpList_load_row rfl 25 _ rfl (w.heap.size + 1) rfl 25 (sh k) (0, 0) _ D1.out Try.underlying25 rfl (by rw [Z.out.2.2.1]; exact sizeRow) ?_))
        obtain ⟨e1, e2, e3, e4, e5, e6⟩ := C.out
        have f1 := e1.row (g' := w.heap.size + 3) (pr (k + 1)) (by omega)
        have f3 := e3.row (g' := w.heap.size + 3) (pr (k + 1)) (by omega)
        have f4 : At (w1.setRow (w.heap.size + 3) (pr (k + 1))) (w.heap.size + 3) (pr (k + 1)) := setRow_heap _ _ _ _ _ _ e4
        have f5 := below_setRow (g := w.heap.size + 3) e5 (by omega) (pr (k + 1))
        have f6 : w.heap.size + 4 ≤ (w1.setRow (w.heap.size + 3) (pr (k + 1))).heap.size := Nat.le_trans e6 (below_setRow (Below.refl 0 _) (by omega) _).size
        have f2 := D1.out
        generalize w1.setRow (w.heap.size + 3) (pr (k + 1)) = wx at *
        clear C D1 e1 e2 e3 e4 e5 e6 HQ
        refine (HC.out wx).mono ?_
        rintro e w2 ⟨rfl, hb1⟩
        have C := Lib.hid (And.intro (At.on f1 hb1 (by omega)) (And.intro (At.on f2 hb1 (by omega)) (And.intro (At.on f3 hb1 (by omega)) (And.intro (At.on f4 hb1 (by omega)) (And.intro (below_next f5 hb1) (Nat.le_trans f6 hb1.size))))))
        clear f1 f2 f3 f4 f5 f6 hb1
        go_wp2_with (refine wpList_store_row rfl 25 _ _ rfl (w.heap.size + 1) (sh (k + 1)) rfl rfl 25 (sh k) C.out.2.1 (by rw [Z1.out.2.2.1]; exact sizeRow) (by rw [Z1.out.2.2.1, Z.out.2.2.1]) Z1.out.2.2.2 ?_)
        obtain ⟨c1, c2, c3, c4, c5, c6⟩ := C.out
        exact ⟨⟨k + 1, by omega, by go_num, ⟨c1.row _ (by omega), setRow_heap _ _ _ _ _ _ c2, c3.row _ (by omega), c4.row _ (by omega), below_setRow c5 (by omega) _, Nat.le_trans c6 (below_setRow (Below.refl 0 _) (by omega) _).size⟩⟩, by simp [intOf]; omega⟩
    · obtain rfl : k = 128 := by omega
      have hd : decide (((128 : Nat) : Int) < 128) = false := by simp
      have Z := Lib.hid (HZ.out 128)
      have HR := Lib.hid H0.out.2.2
      clear HA HN HZ
      go_wp2_with (first | (refine wpList_load_row rfl 25 _ rfl (w.heap.size + 3) rfl 25 (pr 128) (0, 0) _ hw.out.2.2.2.1 Try.underlying25 rfl (by rw [Z.out.1]; exact sizeRow) ?_) | (refine wpList_store_row rfl 25 _ _ rfl (w.heap.size + 2) (pr 128) rfl rfl 25 zeros hw.out.2.2.1 (by rw [Z.out.1]; exact sizeRow) (by rw [Z.out.1, zeros_size]) Z.out.2.1 ?_))
      refine bodyPost_ret (v := .agg (pr 128)) (results_cell_row rfl _ _ (w.heap.size + 2) 25 (pr 128) (0, 0) _ rfl (setRow_heap _ _ _ _ _ _ hw.out.2.2.1) Try.underlying25 rfl (by rw [Z.out.1]; exact sizeRow)) rfl ⟨by rw [HR.out], below_setRow hw.out.2.2.2.2.1 (by omega) _⟩
end Go.Proofs.Ytgkgdkdendmfnaa
