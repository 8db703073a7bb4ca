/- Rows of 128 bits: Shr, Int, Neg, Sub of the document's own (limnerref02), and bits of a number (the statements' own). -/
import Derived.Test.YtgkgdkdendmfnaaC
namespace Go.Proofs.Ytgkgdkdendmfnaa
open Go.RowKit

theorem below_next {a b c : World} (h : Below a.heap.size a b) (k : Below b.heap.size b c) : Below a.heap.size a c := h.trans (k.mono h.size)
theorem two (w : World) (A B : Array Value) : At ((w.alloc (.cells A 25)).alloc (.cells B 25)) w.heap.size A ∧ At ((w.alloc (.cells A 25)).alloc (.cells B 25)) (w.heap.size + 1) B ∧
    Below w.heap.size w ((w.alloc (.cells A 25)).alloc (.cells B 25)) :=
  ⟨heap_alloc2_old _ _ _, heap_alloc2_new _ _ _, ((Below.refl _ _).alloc (Nat.le_refl _) _).alloc (by simp) _⟩
theorem three (w : World) (A B C : Array Value) : At (((w.alloc (.cells A 25)).alloc (.cells B 25)).alloc (.cells C 25)) w.heap.size A ∧
    At (((w.alloc (.cells A 25)).alloc (.cells B 25)).alloc (.cells C 25)) (w.heap.size + 1) B ∧ At (((w.alloc (.cells A 25)).alloc (.cells B 25)).alloc (.cells C 25)) (w.heap.size + 2) C ∧
    Below w.heap.size w (((w.alloc (.cells A 25)).alloc (.cells B 25)).alloc (.cells C 25)) := by
  have s2 : ((w.alloc (.cells A 25)).alloc (.cells B 25)).heap.size = w.heap.size + 2 := by simp
  obtain ⟨h1, h2, h3⟩ := two w A B
  refine ⟨?_, ?_, ?_, h3.alloc (by omega) _⟩
  · unfold At; rw [heap_alloc_old _ _ (by omega)]; exact h1
  · unfold At; rw [heap_alloc_old _ _ (by omega)]; exact h2
  · unfold At; rw [← s2]; exact heap_alloc_new _ _

/-- A number: hi times 2^64, and lo. -/
def num (hi : Int) (lo : Int) : BitVec 128 := BitVec.ofInt 128 (hi * 18446744073709551616 + lo)
theorem ofInt_mod {a b : Int} (h : a % 340282366920938463463374607431768211456 = b % 340282366920938463463374607431768211456) : BitVec.ofInt 128 a = BitVec.ofInt 128 b := by
  apply BitVec.eq_of_toNat_eq
  rw [BitVec.toNat_ofInt, BitVec.toNat_ofInt]
  show (a % 340282366920938463463374607431768211456).toNat = (b % 340282366920938463463374607431768211456).toNat
  rw [h]
theorem num_nat (hi : Int) (L : Nat) : BitVec.ofNat 128 ((hi % 18446744073709551616).toNat * 2 ^ 64 + L) = num hi L := by
  unfold num
  rw [← BitVec.ofInt_natCast]
  apply ofInt_mod
  have h := Int.emod_nonneg hi (show (18446744073709551616 : Int) ≠ 0 by decide)
  have e : (((hi % 18446744073709551616).toNat * 2 ^ 64 + L : Nat) : Int) = (hi % 18446744073709551616) * 18446744073709551616 + L := by
    rw [Int.natCast_add, Int.natCast_mul, Int.toNat_of_nonneg h]; rfl
  rw [e]
  have h2 := Int.emod_add_mul_ediv hi 18446744073709551616
  omega
set_option maxHeartbeats 400000 in
set_option maxRecDepth 100000 in
theorem bits_num (hi : Int) (L : Nat) (hL : L < 2 ^ 64) (w : World) :
    Calls Try.prog 30 #[.int .i64 hi, .int .u64 L] w fun e w' => e = .returned (.agg (row (num hi L))) ∧ Below w.heap.size w w' := by
  have h := Int.emod_nonneg hi (show (18446744073709551616 : Int) ≠ 0 by decide)
  refine bits_any (hi % 18446744073709551616).toNat L (num hi L) ?_ hi ?_ ⟨hL, ?_⟩ w
  · rw [partBits_all _ _ hL, num_nat]
  · rw [IntKind.wrap_u64, Int.toNat_of_nonneg h]
  · have := Int.emod_lt_of_pos hi (show (0 : Int) < 18446744073709551616 by decide)
    omega
theorem builtRow : Try.prog.built 25 [] = some zeros := by kernel_rfl
theorem keep_row (P : Array Value) (hs : P.size = 128) : (Try.prog.info? 25).map (·.size) = some P.size := by rw [hs]; exact sizeRow
set_option maxHeartbeats 400000 in
set_option maxRecDepth 100000 in
/-- The statements' own: a number's bits. -/
theorem bitsOf_any (hi : Int) (L : Nat) (hL : L < 2 ^ 64) (w : World) :
    Calls Try.prog 10 #[.agg #[.int .i64 hi, .int .u64 L]] w fun e w' => e = .returned (.agg (row (num hi L))) ∧ Below w.heap.size w w' := by
  have hz := zeroRow
  have HL := Lib.hid hL
  have HS : Hid ((row (num hi L)).size = 128 ∧ (row (num hi L)).all (·.oneCell') = true) := ⟨row_size _, row_one _⟩
  have HC : Hid (∀ w, Calls Try.prog 30 #[.int .i64 hi, .int .u64 L] w fun e w' => e = .returned (.agg (row (num hi L))) ∧ Below w.heap.size w w') := fun w => bits_num hi L hL w
  generalize row (num hi L) = res at *
  clear hL
  go_enter Try.func10, Try.ntmps10
  go_wp2_with fail
  refine (HC.out _).mono ?_
  rintro e w1 ⟨rfl, hb⟩
  have m1 : At w1 (w.heap.size + 1) zeros := At.on (B := w.heap.size + 2) (heap_alloc2_new w _ _) (by simpa using hb) (by omega)
  have Hb : Hid (Below w.heap.size w w1) := below_next (((Below.refl _ _).alloc (Nat.le_refl _) _).alloc (by simp) _) hb
  have M1 := Lib.hid m1
  clear m1 hb
  go_wp2_with (refine wpList_store_row rfl 25 _ _ rfl (w.heap.size + 1) res rfl rfl 25 zeros M1.out (by rw [HS.out.1]; exact sizeRow) (by rw [HS.out.1, zeros_size]) HS.out.2 ?_)
  refine bodyPost_ret (v := .agg res) (results_cell_row rfl _ _ (w.heap.size + 1) 25 res (0, 0) _ rfl (setRow_heap _ _ _ _ _ _ M1.out) Try.underlying25 rfl (by rw [HS.out.1]; exact sizeRow)) rfl ⟨rfl, below_setRow Hb.out (by omega) _⟩
set_option maxHeartbeats 400000 in
set_option maxRecDepth 100000 in
theorem neg_any (u : BitVec 128) (w : World) :
    Calls Try.prog 16 #[.agg (row u)] w fun e w' => e = .returned (.agg (row (sum3 (~~~u) 0 true))) ∧ Below w.heap.size w w' := by
  have hz := zeroRow
  have HS : Hid ((row (sum3 (~~~u) 0 true)).size = 128 ∧ (row (sum3 (~~~u) 0 true)).all (·.oneCell') = true) := ⟨row_size _, row_one _⟩
  have HR : Hid ((row u).size = 128) := row_size _
  have HC : Hid (∀ w, Calls Try.prog 33 #[.agg (row u)] w fun e w' => e = .returned (.agg (row (~~~u))) ∧ Below w.heap.size w w') := fun w => not_any u w
  have HD : Hid (∀ w, Calls Try.prog 12 #[.agg (row (~~~u)), .agg zeros, .bool true] w fun e w' => e = .returned (.agg (row (sum3 (~~~u) 0 true))) ∧ Below w.heap.size w w') := fun w => by
    have := add_any (~~~u) 0 true w
    rw [show row 0 = zeros from row_eq (row_size _) zeros_size fun i hi => by rw [row_at _ _ hi, zeros_at i hi]; simp] at this
    exact this
  generalize row (sum3 (~~~u) 0 true) = res at *
  generalize row (~~~u) = mid at *
  generalize row u = ru at *
  go_enter Try.func16, Try.ntmps16
  go_wp2_with (refine wpList_load_row rfl 25 _ rfl w.heap.size rfl 25 ru (0, 0) _ (heap_alloc2_old _ _ _) Try.underlying25 rfl (by rw [HR.out]; exact sizeRow) ?_)
  refine (HC.out _).mono ?_
  rintro e w1 ⟨rfl, hb1⟩
  have hs : ((w.alloc (.cells ru 25)).alloc (.cells zeros 25)).heap.size = w.heap.size + 2 := by simp
  have M1 : Hid (At w1 (w.heap.size + 1) zeros) := At.on (heap_alloc2_new w _ _) hb1 (by omega)
  have B1 : Hid (Below w.heap.size w w1) := below_next (((Below.refl _ _).alloc (Nat.le_refl _) _).alloc (by simp) _) hb1
  have S1 : Hid (w.heap.size + 2 ≤ w1.heap.size) := hs ▸ hb1.size
  clear hb1 hs
  go_wp2_with (refine wpList_build rfl 25 #[] rfl (by show (Try.prog.built 25 []).isSome = true; rw [builtRow]; rfl) ?_)
  refine (HD.out _).mono ?_
  rintro e w2 ⟨rfl, hb2⟩
  have M2 : Hid (At w2 (w.heap.size + 1) zeros) := At.on M1.out hb2 (by have := S1.out; omega)
  have B2 : Hid (Below w.heap.size w w2) := below_next B1.out hb2
  clear hb2
  go_wp2_with (refine wpList_store_row rfl 25 _ _ rfl (w.heap.size + 1) res rfl rfl 25 zeros M2.out (by rw [HS.out.1]; exact sizeRow) (by rw [HS.out.1, zeros_size]) HS.out.2 ?_)
  refine bodyPost_ret (v := .agg res) (results_cell_row rfl _ _ (w.heap.size + 1) 25 res (0, 0) _ rfl (setRow_heap _ _ _ _ _ _ M2.out) Try.underlying25 rfl (by rw [HS.out.1]; exact sizeRow)) rfl ⟨rfl, below_setRow B2.out (by omega) _⟩
end Go.Proofs.Ytgkgdkdendmfnaa
