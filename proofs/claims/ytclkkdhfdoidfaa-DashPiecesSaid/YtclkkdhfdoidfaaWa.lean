/- Package wide, of numbers as halves: Sub, Neg, Cmp, Of, Add, Sign, Int, size, differ, Mul. -/
import Derived.Test.YtclkkdhfdoidfaaA
import Derived.WalkKit
import Derived.WalkSpells
import Derived.WalkLawsBesides
import Derived.Lib.Hide
import Derived.Laws.Rows
import Derived.Laws.CopyOwn
import Derived.Laws.Tables
import Derived.Deep.WholeRow
import Derived.Handy
import Derived.Lib.SmallJoins
import Derived.BigQuiet
import Derived.Deep.RegionHeld3
import Derived.Deep.CutBlock
import Derived.Deep.DeepCutAuto
import Derived.Lib.Mul64
import Derived.Laws.Externs
import Derived.Shelf.Spec.BitsCarry
import Derived.Laws.Bits64b
namespace Go.Proofs.Ytclkkdhfdoidfaa
open Go.RowKit

/-- A number: hi times 2^64, and lo. -/
def num (hi : Int) (lo : Int) : BitVec 128 := BitVec.ofInt 128 (hi * 18446744073709551616 + lo)
theorem ofInt_mod {a b : Int} (h : a % 340282366920938463463374607431768211456 = b % 340282366920938463463374607431768211456) : BitVec.ofInt 128 a = BitVec.ofInt 128 b := by
  apply BitVec.eq_of_toNat_eq
  rw [BitVec.toNat_ofInt, BitVec.toNat_ofInt]
  show (a % 340282366920938463463374607431768211456).toNat = (b % 340282366920938463463374607431768211456).toNat
  rw [h]
/-- The upper half, with its sign. -/
def hiOf (u : BitVec 128) : Int := u.toInt / 18446744073709551616
/-- The lower half. -/
def loOf (u : BitVec 128) : Nat := u.toNat % 18446744073709551616
theorem loOf_lt (u : BitVec 128) : loOf u < 2 ^ 64 := Nat.mod_lt _ (by decide)
theorem toInt_split (u : BitVec 128) : hiOf u * 18446744073709551616 + (loOf u : Int) = u.toInt := by
  unfold hiOf loOf
  have h := BitVec.toInt_eq_toNat_cond u
  have e : ((u.toNat % 18446744073709551616 : Nat) : Int) = u.toInt % 18446744073709551616 := by
    rw [h]
    split
    · omega
    · rw [Int.natCast_emod, show (((2 : Nat) ^ 128 : Nat) : Int) = 18446744073709551616 * 18446744073709551616 by decide]
      omega
  rw [e]
  have := Int.mul_ediv_add_emod u.toInt 18446744073709551616
  omega
theorem num_of (u : BitVec 128) : num (hiOf u) (loOf u) = u := by
  unfold num
  rw [toInt_split, BitVec.ofInt_toInt]
theorem toInt_bounds (u : BitVec 128) : -170141183460469231731687303715884105728 ≤ u.toInt ∧ u.toInt ≤ 170141183460469231731687303715884105727 := by
  have h1 := BitVec.le_toInt u
  have h2 := BitVec.toInt_lt (x := u)
  simp only [show (128 - 1 : Nat) = 127 by decide] at h1 h2
  rw [show ((2 : Int) ^ 127) = 170141183460469231731687303715884105728 by decide] at h1 h2
  omega
theorem hiOf_bounds (u : BitVec 128) : -9223372036854775808 ≤ hiOf u ∧ hiOf u ≤ 9223372036854775807 := by
  have h := toInt_split u
  have hl := loOf_lt u
  have hb := toInt_bounds u
  omega
theorem num_toInt (hi : Int) (L : Nat) (h0 : -9223372036854775808 ≤ hi) (h1 : hi ≤ 9223372036854775807) (hL : L < 2 ^ 64) : (num hi L).toInt = hi * 18446744073709551616 + L := by
  unfold num
  rw [BitVec.toInt_ofInt]
  apply Int.bmod_eq_of_le
  · show -(((340282366920938463463374607431768211456 : Nat) : Int) / 2) ≤ _
    omega
  · show _ < (((340282366920938463463374607431768211456 : Nat) : Int) + 1) / 2
    omega
theorem hiOf_num (hi : Int) (L : Nat) (h0 : -9223372036854775808 ≤ hi) (h1 : hi ≤ 9223372036854775807) (hL : L < 2 ^ 64) : hiOf (num hi L) = hi := by
  unfold hiOf; rw [num_toInt hi L h0 h1 hL]; omega
theorem loOf_num (hi : Int) (L : Nat) (h0 : -9223372036854775808 ≤ hi) (h1 : hi ≤ 9223372036854775807) (hL : L < 2 ^ 64) : loOf (num hi L) = L := by
  have h := toInt_split (num hi L)
  rw [num_toInt hi L h0 h1 hL, hiOf_num hi L h0 h1 hL] at h
  omega
theorem num_same (u v : BitVec 128) : (hiOf u == hiOf v && (loOf u : Int) == (loOf v : Int)) = decide (u = v) := by
  rw [Bool.eq_iff_iff]
  simp only [Bool.and_eq_true, beq_iff_eq, decide_eq_true_eq]
  constructor
  · intro ⟨h1, h2⟩
    rw [← num_of u, ← num_of v, h1, show (loOf u : Int) = (loOf v : Int) from h2]
  · rintro rfl; exact ⟨rfl, rfl⟩
/-- -1, 0, 1: less, the same, greater. -/
def cmpOf (u v : BitVec 128) : Int := if u.slt v then -1 else if v.slt u then 1 else 0
/-- An int's room. -/
def I64 (n : Int) : Prop := -9223372036854775808 ≤ n ∧ n ≤ 9223372036854775807
/-- A number that an int is. -/
def fits (x : Int) : Bool := decide (-9223372036854775808 ≤ x) && decide (x ≤ 9223372036854775807)
theorem fits_iff {x : Int} : fits x = true ↔ -9223372036854775808 ≤ x ∧ x ≤ 9223372036854775807 := by simp [fits]
/-- A product divided, rounded down; exact; an error. -/
def divOf (a b d : Int) : Ending :=
  if d = 0 then .returned (.tuple #[.int .i64 0, .bool false, .int .i64 11])
  else if fits ((a * b).fdiv d) then .returned (.tuple #[.int .i64 ((a * b).fdiv d), .bool (decide ((a * b).fmod d = 0)), .int .i64 0])
  else .returned (.tuple #[.int .i64 0, .bool false, .int .i64 10])
def isRoot (n r : Int) : Prop := 0 ≤ r ∧ r < 4294967296 ∧ r * r ≤ n ∧ n < (r + 1) * (r + 1)
/-- An int as a number. -/
def ofI (n : Int) : BitVec 128 := BitVec.ofInt 128 n
/-- Two halves in their rooms that are a number modulo 2^128 are its halves. -/
theorem halves (u : BitVec 128) (hi lo : Int) (h0 : -9223372036854775808 ≤ hi) (h1 : hi ≤ 9223372036854775807) (l0 : 0 ≤ lo) (l1 : lo < 18446744073709551616)
    (hc : (hi * 18446744073709551616 + lo) % 340282366920938463463374607431768211456 = u.toInt % 340282366920938463463374607431768211456) :
    hi = hiOf u ∧ lo = (loOf u : Int) := by
  obtain ⟨L, rfl⟩ := Int.eq_ofNat_of_zero_le l0
  have e : num hi L = u := by
    unfold num
    rw [ofInt_mod hc, BitVec.ofInt_toInt]
  have hL : L < 2 ^ 64 := by omega
  have a := hiOf_num hi L h0 h1 hL
  have b := loOf_num hi L h0 h1 hL
  rw [e] at a b
  exact ⟨a.symm, by rw [b]⟩
theorem toInt_add_mod (u v : BitVec 128) : (u + v).toInt % 340282366920938463463374607431768211456 = (u.toInt + v.toInt) % 340282366920938463463374607431768211456 := by
  rw [BitVec.toInt_add]; exact Int.bmod_emod
theorem toInt_sub_mod (u v : BitVec 128) : (u - v).toInt % 340282366920938463463374607431768211456 = (u.toInt - v.toInt) % 340282366920938463463374607431768211456 := by
  rw [BitVec.toInt_sub]; exact Int.bmod_emod
theorem toInt_neg_mod (u : BitVec 128) : (-u).toInt % 340282366920938463463374607431768211456 = (-u.toInt) % 340282366920938463463374607431768211456 := by
  rw [BitVec.toInt_neg]; exact Int.bmod_emod
theorem toInt_mul_mod (u v : BitVec 128) : (u * v).toInt % 340282366920938463463374607431768211456 = (u.toInt * v.toInt) % 340282366920938463463374607431768211456 := by
  rw [BitVec.toInt_mul]; exact Int.bmod_emod
theorem ofI_toInt (n : Int) (h : I64 n) : (ofI n).toInt = n := by
  unfold ofI; rw [BitVec.toInt_ofInt]
  unfold I64 at h
  apply Int.bmod_eq_of_le
  · show -(((340282366920938463463374607431768211456 : Nat) : Int) / 2) ≤ _
    omega
  · show _ < (((340282366920938463463374607431768211456 : Nat) : Int) + 1) / 2
    omega
theorem loOf_lt' (u : BitVec 128) : (loOf u : Int) < 18446744073709551616 := by have := loOf_lt u; omega
theorem run_Sub64 (x y b : Int) (hx : 0 ≤ x) (hy : 0 ≤ y) (hy1 : y < 18446744073709551616) (hb0 : 0 ≤ b) (hb : b ≤ 1) (w : World) :
    (callFunc 75 #[.int .u64 x, .int .u64 y, .int .u64 b]).run Try.prog w =
      .ok (.value (.tuple #[.int .u64 ((x - y - b) % 18446744073709551616), .int .u64 (if x < y + b then 1 else 0)])) w := by
  obtain ⟨X, rfl⟩ := Int.eq_ofNat_of_zero_le hx
  obtain ⟨Y, rfl⟩ := Int.eq_ofNat_of_zero_le hy
  obtain ⟨k, rfl⟩ := Int.eq_ofNat_of_zero_le hb0
  have e1 : (((X + 18446744073709551616 - Y - k) % 18446744073709551616 : Nat) : Int) = ((X : Int) - Y - k) % 18446744073709551616 := by omega
  have e2 : ((if X < Y + k then 1 else 0 : Nat) : Int) = (if (X : Int) < Y + k then (1 : Int) else 0) := by
    by_cases h : X < Y + k
    · rw [if_pos h, if_pos (by omega)]; rfl
    · rw [if_neg h, if_neg (by omega)]; rfl
  rw [run_callFunc_extern Try.func75 (by kernel_rfl) (by kernel_rfl) (by kernel_rfl) (e := sub64Entry) (by kernel_rfl), run_sub64 X Y k (by omega), e1, e2]
  rfl
/-- The lower 32 bits. -/
theorem low32 (a : Nat) (ha : a < 18446744073709551616) : bits .and .u64 (a : Int) 4294967295 = ((a % 4294967296 : Nat) : Int) := by
  rw [← Nat.and_two_pow_sub_one_eq_mod a 32]
  exact bits_and_u64_nat a 4294967295 ha (by decide)
theorem u64_of (z : Int) (n : Nat) (h : z = n) (hn : n < 18446744073709551616) : IntKind.u64.wrap z = (n : Int) := by
  rw [h, IntKind.wrap_u64]; omega
set_option maxHeartbeats 1000000 in
theorem mul64_walk (x y x0 x1 y0 y1 p t w1 w2 v hi lo : Nat)
    (E1 : bits .and .u64 (x : Int) 4294967295 = (x0 : Int)) (E2 : (x : Int) / 4294967296 = (x1 : Int)) (E3 : bits .and .u64 (y : Int) 4294967295 = (y0 : Int)) (E4 : (y : Int) / 4294967296 = (y1 : Int))
    (E5 : IntKind.u64.wrap ((x0 : Int) * (y0 : Int)) = (p : Int)) (E6 : IntKind.u64.wrap (IntKind.u64.wrap ((x1 : Int) * (y0 : Int)) + (p : Int) / 4294967296) = (t : Int))
    (E7 : bits .and .u64 (t : Int) 4294967295 = (w1 : Int)) (E8 : (t : Int) / 4294967296 = (w2 : Int)) (E9 : IntKind.u64.wrap ((w1 : Int) + IntKind.u64.wrap ((x0 : Int) * (y1 : Int))) = (v : Int))
    (E10 : IntKind.u64.wrap (IntKind.u64.wrap (IntKind.u64.wrap ((x1 : Int) * (y1 : Int)) + (w2 : Int)) + (v : Int) / 4294967296) = (hi : Int)) (E11 : IntKind.u64.wrap ((x : Int) * (y : Int)) = (lo : Int)) (w : World) :
    Calls Try.prog 64 #[.int .u64 x, .int .u64 y] w fun e w' => e = .returned (.tuple #[.int .u64 (hi : Int), .int .u64 (lo : Int)]) ∧ w' = w := by
  go_enter Try.func64, Try.ntmps64
  go_wp2_with fail
  go_ret2
  exact ⟨rfl, rfl⟩
theorem mul64_any (x y : Nat) (hx : x < 18446744073709551616) (hy : y < 18446744073709551616) (w : World) :
    Calls Try.prog 64 #[.int .u64 x, .int .u64 y] w fun e w' => e = .returned (.tuple #[.int .u64 ((x * y / 18446744073709551616 : Nat) : Int), .int .u64 ((x * y % 18446744073709551616 : Nat) : Int)]) ∧ w' = w := by
  obtain ⟨k1, k2, k3, k4⟩ := Lib.mul64_hi x y hx hy
  have b11 := Lib.half_mul_le (a := x / 4294967296) (b := y / 4294967296) (by omega) (by omega)
  have b10 := Lib.half_mul_le (a := x / 4294967296) (b := y % 4294967296) (by omega) (by omega)
  have b01 := Lib.half_mul_le (a := x % 4294967296) (b := y / 4294967296) (by omega) (by omega)
  have hl : x * y / 18446744073709551616 < 18446744073709551616 := by
    rw [Nat.div_lt_iff_lt_mul (by decide)]; exact Nat.mul_lt_mul'' hx hy
  obtain ⟨p11, e11⟩ : ∃ c, x / 4294967296 * (y / 4294967296) = c := ⟨_, rfl⟩
  obtain ⟨p10, e10⟩ : ∃ c, x / 4294967296 * (y % 4294967296) = c := ⟨_, rfl⟩
  obtain ⟨p01, e01⟩ : ∃ c, x % 4294967296 * (y / 4294967296) = c := ⟨_, rfl⟩
  obtain ⟨p00, e00⟩ : ∃ c, x % 4294967296 * (y % 4294967296) = c := ⟨_, rfl⟩
  rw [e11, e10, e01, e00] at k4
  rw [e10, e01, e00] at k3
  rw [e10, e00] at k2
  rw [e00] at k1
  rw [e11] at b11
  rw [e10] at b10
  rw [e01] at b01
  obtain ⟨t, et⟩ : ∃ t, p10 + p00 / 4294967296 = t := ⟨_, rfl⟩
  rw [et] at k2 k3 k4
  obtain ⟨v, ev⟩ : ∃ v, t % 4294967296 + p01 = v := ⟨_, rfl⟩
  rw [ev] at k3 k4
  rw [← k4] at hl ⊢
  refine mul64_walk x y (x % 4294967296) (x / 4294967296) (y % 4294967296) (y / 4294967296) p00 t (t % 4294967296) (t / 4294967296) v _ _
    (low32 x hx) (by omega) (low32 y hy) (by omega) (u64_of _ _ (by rw [← Int.natCast_mul, e00]) k1) ?_ (low32 _ k2) (by omega) ?_ ?_ ?_ w
  · rw [← Int.natCast_mul, e10, u64_of (p10 : Int) p10 rfl (by omega)]
    exact u64_of _ _ (by omega) k2
  · rw [← Int.natCast_mul, e01, u64_of (p01 : Int) p01 rfl (by omega)]
    exact u64_of _ _ (by omega) k3
  · rw [← Int.natCast_mul, e11, u64_of (p11 : Int) p11 rfl (by omega), u64_of ((p11 : Int) + ((t / 4294967296 : Nat) : Int)) (p11 + t / 4294967296) (by omega) (by omega)]
    exact u64_of _ _ (by omega) hl
  · rw [← Int.natCast_mul, IntKind.wrap_u64]
    generalize x * y = z
    omega
section
variable {C : World → Prop} {ops : Array Oper} {Q : Act → Prop} {a : Act} {o : Oper} {rest : List Oper} {K : Act → Prop}
end
theorem ret_num {hi lo : Int} {u : BitVec 128} (h : hi = hiOf u ∧ lo = (loOf u : Int)) : Ending.returned (.agg #[.int .i64 hi, .int .u64 lo]) = .returned (.agg #[.int .i64 (hiOf u), .int .u64 (loOf u)]) := by rw [h.1, h.2]
theorem hi_zero : hiOf 0 = 0 := by decide
theorem lo_zero : (loOf 0 : Int) = 0 := by decide
/-- A number at hand in memory. -/
def NumAt (w : World) (g : Nat) (hi lo : Int) : Prop := w.heap[g]? = some (.cells #[.int .i64 hi, .int .u64 lo] 101 (0, 0))
theorem NumAt.c0 {w : World} {g : Nat} {hi lo : Int} (h : NumAt w g hi lo) : w.cell? ⟨g, 0, none⟩ = some (.int .i64 hi) := Joins.cell_of_block h 0
theorem NumAt.c1 {w : World} {g : Nat} {hi lo : Int} (h : NumAt w g hi lo) : w.cell? ⟨g, 1, none⟩ = some (.int .u64 lo) := Joins.cell_of_block h 1
theorem NumAt.free {w : World} {g : Nat} {hi lo : Int} (h : NumAt w g hi lo) (i : Nat) : w.frozen? ⟨g, i, none⟩ = false := Joins.unfrozen_of_block h i
theorem NumAt.on {w w' : World} {g : Nat} {hi lo : Int} {B : Nat} (h : NumAt w g hi lo) (hb : Below B w w') (hg : g < B) : NumAt w' g hi lo := by
  unfold NumAt; rw [hb.block g hg]; exact h
/-- A result that is a number in memory. -/
theorem results_num {fn : Func} {tmps : Array Value} {w : World} {g : Nat} {hi lo : Int} (t : Nat) (hres : fn.results = #[.cell t 101]) (ht : tmps[t]? = some (.pointer (some ⟨g, 0, none⟩)))
    (h0 : w.cell? ⟨g, 0, none⟩ = some (.int .i64 hi)) (h1 : w.cell? ⟨g, 1, none⟩ = some (.int .u64 lo)) :
    (results fn tmps).run Try.prog w = .ok (.agg #[.int .i64 hi, .int .u64 lo]) w := by
  simp [results, hres, ht, go_sem, h0, h1]
/-- A number stored whole. -/
theorem NumAt.stored {w : World} {g : Nat} {hi lo : Int} (h : NumAt w g hi lo) (a b : Int) : NumAt ((w.setCell ⟨g, 0, none⟩ (.int .i64 a)).setCell ⟨g, 1, none⟩ (.int .u64 b)) g a b := by
  unfold NumAt at *
  exact Joins.block_setCell (Joins.block_setCell h (.int .i64 a)) (.int .u64 b)
set_option maxHeartbeats 400000 in
theorem sub_c (u v : BitVec 128) (w : World) : Calls Try.prog 72 #[(.agg #[.int .i64 (hiOf u), .int .u64 (loOf u)]), (.agg #[.int .i64 (hiOf v), .int .u64 (loOf v)])] w fun e w' => e = .returned (.agg #[.int .i64 (hiOf (u - v)), .int .u64 (loOf (u - v))]) ∧ Below w.heap.size w w' := by
  have hu := toInt_split u
  have hv := toInt_split v
  have hb := hiOf_bounds u
  have hc := hiOf_bounds v
  have lu := loOf_lt' u
  have lv := loOf_lt' v
  have hm := toInt_sub_mod u v
  have l0 : 0 ≤ (loOf u : Int) := Int.natCast_nonneg _
  have l1 : 0 ≤ (loOf v : Int) := Int.natCast_nonneg _
  have H := Lib.hid (halves (u - v))
  have Hm := Lib.hid hm
  have Hu := Lib.hid hu
  have Hv := Lib.hid hv
  clear hm hu hv
  generalize hiOf u = hx at *
  generalize (loOf u : Int) = lx at *
  generalize hiOf v = hy at *
  generalize (loOf v : Int) = ly at *
  obtain ⟨c, hc0, hc1, hcb⟩ : ∃ c : Int, 0 ≤ c ∧ c ≤ 1 ∧ (if lx < ly + 0 then (1 : Int) else 0) = c ∧ (c = 1 ∧ lx < ly ∨ c = 0 ∧ ly ≤ lx) := by
    by_cases h : lx < ly
    · exact ⟨1, by omega, by omega, by rw [if_pos (by omega)], by omega⟩
    · exact ⟨0, by omega, by omega, by rw [if_neg (by omega)], by omega⟩
  have E1 := run_Sub64 lx ly 0 (by omega) (by omega) (by omega) (by omega) (by omega)
  rw [hcb.1] at E1
  have Hc := Lib.hid hcb.2
  clear hcb
  have E2 := run_Sub64 (IntKind.u64.wrap hx) (IntKind.u64.wrap hy) c (by rw [IntKind.wrap_u64]; omega) (by rw [IntKind.wrap_u64]; omega) (by rw [IntKind.wrap_u64]; omega) (by omega) (by omega)
  generalize (if IntKind.u64.wrap hx < IntKind.u64.wrap hy + c then (1 : Int) else 0) = c2 at E2
  go_enter Try.func72, Try.ntmps72
  go_wp2_with (first | rw [E1] | rw [E2])
  go_returns
  clear E1 E2
  have hc3 := Hc.out
  refine ⟨ret_num (H.out _ _ ?_ ?_ (by omega) (by omega) ?_), by go_grown⟩
  · unfold wrap64; omega
  · unfold wrap64; omega
  · rw [Hm.out, ← Hu.out, ← Hv.out, IntKind.wrap_u64, IntKind.wrap_u64]; unfold wrap64; omega
set_option maxHeartbeats 400000 in
theorem neg_c (u : BitVec 128) (w : World) : Calls Try.prog 71 #[(.agg #[.int .i64 (hiOf u), .int .u64 (loOf u)])] w fun e w' => e = .returned (.agg #[.int .i64 (hiOf (-u)), .int .u64 (loOf (-u))]) ∧ Below w.heap.size w w' := by
  have HS := Lib.hid (sub_c 0 u)
  rw [hi_zero, lo_zero, show (0 : BitVec 128) - u = -u from BitVec.zero_sub u] at HS
  generalize hiOf u = hx at *
  generalize (loOf u : Int) = lx at *
  generalize hiOf (-u) = hn at *
  generalize (loOf (-u) : Int) = ln at *
  go_enter Try.func71, Try.ntmps71
  go_wp2_with fail
  refine (HS.out _).mono ?_
  rintro e w1 ⟨rfl, hb⟩
  have m1 : NumAt w1 (w.heap.size + 1) 0 0 := NumAt.on (B := w.heap.size + 2) (heap_alloc2_new w _ _) (by simpa using hb) (by omega)
  have B1 : Hid (Below w.heap.size w w1) := below_next (((Below.refl _ _).alloc (Nat.le_refl _) _).alloc (by simp) _) hb
  have c0 := m1.c0
  have c1 := m1.c1
  have f0 := m1.free 0
  have f1 := m1.free 1
  go_wp2_with fail
  have m2 := m1.stored hn ln
  exact bodyPost_ret (results_num 2 rfl rfl m2.c0 m2.c1) rfl ⟨rfl, (B1.out.setCell (by dsimp only; omega) _).setCell (by dsimp only; omega) _⟩
def cmpI (a b : Int) : Int := if a < b then -1 else if b < a then 1 else 0
theorem cmpOf_eq (u v : BitVec 128) : cmpOf u v = cmpI u.toInt v.toInt := by
  unfold cmpOf cmpI
  simp only [BitVec.slt, decide_eq_true_eq]
theorem of_c (n : Int) (w : World) (h : I64 n) : Calls Try.prog 73 #[.int .i64 n] w fun e w' => e = .returned (.agg #[.int .i64 (hiOf (ofI n)), .int .u64 (loOf (ofI n))]) ∧ Below w.heap.size w w' := by
  have H := Lib.hid (halves (ofI n))
  have Ho := Lib.hid (ofI_toInt n h)
  unfold I64 at h
  go_enter Try.func73, Try.ntmps73
  go_wp2
  go_returns
  refine ⟨ret_num (H.out _ _ (by omega) (by omega) (by rw [IntKind.wrap_u64]; omega) (by rw [IntKind.wrap_u64]; omega) ?_), by go_grown⟩
  rw [Ho.out, IntKind.wrap_u64]
  have : n / 9223372036854775808 = -1 ∧ n < 0 ∨ n / 9223372036854775808 = 0 ∧ 0 ≤ n := by omega
  omega
theorem run_numI (o : Oper) (a : Act) (x : Operand) (g : Nat) (hi lo : Int) (w : World) (ho : o.op = .load 101 x) (hx : a.eval x = .pointer (some ⟨g, 0, none⟩)) (hc : w.heap[g]? = some (.cells #[.int .i64 hi, .int .u64 lo] 101)) :
    (execOp a.eval o).run Try.prog w = .ok (.value (.agg #[.int .i64 hi, .int .u64 lo])) w := by
  have c1 : w.cell? ⟨g, 0, none⟩ = some (.int .i64 hi) := by rw [Joins.cell_of_block hc 0]; rfl
  have c2 : w.cell? ⟨g, 1, none⟩ = some (.int .u64 lo) := by rw [Joins.cell_of_block hc 1]; rfl
  unfold execOp
  simp only [ho, hx]
  go_simp
theorem int_facts (u : BitVec 128) : I64 (wrap64 (loOf u)) ∧ (hiOf (ofI (wrap64 (loOf u))) == hiOf u && (loOf (ofI (wrap64 (loOf u))) : Int) == (loOf u : Int)) = fits u.toInt ∧ (fits u.toInt = true → wrap64 (loOf u) = u.toInt) := by
  have hu := toInt_split u
  have hb := hiOf_bounds u
  have lu := loOf_lt' u
  have l0 : 0 ≤ (loOf u : Int) := Int.natCast_nonneg _
  have hm : I64 (wrap64 (loOf u)) := ⟨by unfold wrap64; omega, by unfold wrap64; omega⟩
  have hsame := num_same (ofI (wrap64 (loOf u))) u
  have h1 := ofI_toInt _ hm
  have h2 : fits u.toInt = true ↔ wrap64 (loOf u) = u.toInt := by
    rw [fits_iff, ← hu]; unfold wrap64; omega
  refine ⟨hm, ?_, fun h => h2.1 h⟩
  rw [hsame, Bool.eq_iff_iff, decide_eq_true_eq, h2]
  constructor
  · intro h; rw [← h1, h]
  · intro h; rw [h]; unfold ofI; rw [BitVec.ofInt_toInt]
set_option maxRecDepth 100000 in
theorem int_walk (hx lx hy ly z : Int) (ft : Bool) (w : World) (HO : Hid (∀ w, Calls Try.prog 73 #[.int .i64 (wrap64 lx)] w fun e w' => e = .returned (.agg #[.int .i64 hy, .int .u64 ly]) ∧ Below w.heap.size w w'))
    (hsame : (hy == hx && ly == lx) = ft) (Hf : Hid (ft = true → wrap64 lx = z)) :
    Calls Try.prog 69 #[(.agg #[.int .i64 hx, .int .u64 lx])] w fun e w' => e = .returned (.tuple #[.int .i64 (if ft then z else 0), .bool ft]) ∧ Below w.heap.size w w' := by
  go_enter Try.func69, Try.ntmps69
  go_wp2_with fail
  have kx : (w.alloc (.cells #[.int .i64 hx, .int .u64 lx] 101)).heap[w.heap.size]? = some (.cells #[.int .i64 hx, .int .u64 lx] 101) := heap_alloc_last _ _
  have hs1 : w.heap.size < (w.alloc (.cells #[.int .i64 hx, .int .u64 lx] 101)).heap.size := by simp
  have B2 : Hid (Below w.heap.size w (w.alloc (.cells #[.int .i64 hx, .int .u64 lx] 101))) := ((Below.refl _ _).alloc (Nat.le_refl _) _)
  generalize w.alloc (.cells #[.int .i64 hx, .int .u64 lx] 101) = W at *
  refine wp_region_quiet (C := Out W) (by kernel_rfl) (by kernel_rfl) ⟨rfl, rfl, rfl, Nat.le_refl _, fun _ _ => rfl⟩ ?_
  refine BigFrame.wpQuiet_want rfl (fun K hK => ?_)
  refine quiet_val (.int .i64 (wrap64 lx)) (fun w' _ => by go_simp) (hK _ ?_)
  clear hK K
  simp only [Act.put, List.setIfInBounds_toArray, List.set_cons_zero, List.set_cons_succ]
  refine BigFrame.wpQuiet_want rfl (fun K hK => ?_)
  refine quiet_call 73 #[.int .i64 (wrap64 lx)] (.agg #[.int .i64 hy, .int .u64 ly]) (fun w' _ => by go_simp) (fun w' hw' => Calls.out hw' (HO.out _)) (hK _ ?_)
  clear hK K
  simp only [Act.put, List.setIfInBounds_toArray, List.set_cons_zero, List.set_cons_succ]
  refine BigFrame.wpQuiet_want rfl (fun K hK => ?_)
  refine quiet_val (.agg #[.int .i64 hx, .int .u64 lx]) (fun w' hw' => run_numI _ _ _ w.heap.size _ _ w' rfl rfl ((Below.block hw' w.heap.size (by omega)).trans kx)) (hK _ ?_)
  clear hK K
  simp only [Act.put, List.setIfInBounds_toArray, List.set_cons_zero, List.set_cons_succ]
  refine BigFrame.wpQuiet_want rfl (fun K hK => ?_)
  refine quiet_val (.bool (!ft)) (fun w' _ => by go_simp; rw [← hsame]; by_cases e1 : hy = hx <;> by_cases e2 : ly = lx <;> simp [e1, e2]) (hK _ ?_)
  clear hK K
  simp only [Act.put, List.setIfInBounds_toArray, List.set_cons_zero, List.set_cons_succ]
  refine wpQuiet_nil ?_
  intro w' hw'
  have Hw := Lib.hid hw'
  clear hw'
  cases ft
  · clear hsame Hf
    go_wp2_with fail
    go_ret2
    exact ⟨rfl, B2.out.trans (Hw.out.mono (by omega))⟩
  · clear hsame
    have e := Hf.out rfl
    clear Hf
    go_wp2_with fail
    go_ret2
    exact ⟨rfl, B2.out.trans (Hw.out.mono (by omega))⟩
theorem int_c (u : BitVec 128) (w : World) : Calls Try.prog 69 #[(.agg #[.int .i64 (hiOf (u)), .int .u64 (loOf (u))])] w fun e w' => e = .returned (.tuple #[.int .i64 (if fits u.toInt then u.toInt else 0), .bool (fits u.toInt)]) ∧ Below w.heap.size w w' := by
  obtain ⟨h1, h2, h3⟩ := int_facts u
  exact int_walk _ _ _ _ _ _ w (Lib.hid fun w => of_c _ w h1) h2 (Lib.hid h3)
def sz (n : Int) : Int := if n < 0 then -n else n
theorem size_c (n : Int) (h : I64 n) (w : World) : Calls Try.prog 65 #[.int .i64 n] w fun e w' => e = .returned (.int .u64 (sz n)) ∧ w = w' := by
  unfold I64 at h
  by_cases hn : n < 0
  · go_enter Try.func65, Try.ntmps65
    go_wp2
    go_ret
    refine ⟨retI ?_, rfl⟩
    unfold sz
    rw [if_pos hn]
    simp only [IntKind.wrap_u64]
    omega
  · go_enter Try.func65, Try.ntmps65
    go_wp2
    go_ret
    refine ⟨retI ?_, rfl⟩
    unfold sz
    rw [if_neg (by omega)]
    try simp only [IntKind.wrap_u64]
    try omega
theorem differ_c (a b : Int) (w : World) : Calls Try.prog 67 #[.int .i64 a, .int .i64 b] w fun e w' => e = .returned (.bool (decide (a < 0) != decide (b < 0))) ∧ w = w' := by
  go_enter Try.func67, Try.ntmps67
  go_wp2
  go_ret
  exact ⟨rfl, rfl⟩
theorem sz_nat (n : Int) (h : I64 n) : ∃ N : Nat, sz n = (N : Int) ∧ N ≤ 9223372036854775808 ∧ (n = N ∧ 0 ≤ n ∨ n = -(N : Int) ∧ n < 0) := by
  unfold I64 at h
  unfold sz
  by_cases hn : n < 0
  · exact ⟨(-n).toNat, by rw [if_pos hn]; omega, by omega, by omega⟩
  · exact ⟨n.toNat, by rw [if_neg hn]; omega, by omega, by omega⟩
/-- The product of two sizes, and of what they are sizes of. -/
theorem sz_prod (a b : Int) (A B : Nat) (ha : a = A ∧ 0 ≤ a ∨ a = -(A : Int) ∧ a < 0) (hb : b = B ∧ 0 ≤ b ∨ b = -(B : Int) ∧ b < 0) :
    (decide (a < 0) != decide (b < 0)) = true ∧ a * b = -((A * B : Nat) : Int) ∨ (decide (a < 0) != decide (b < 0)) = false ∧ a * b = ((A * B : Nat) : Int) := by
  rcases ha with ⟨h1, h2⟩ | ⟨h1, h2⟩ <;> rcases hb with ⟨h3, h4⟩ | ⟨h3, h4⟩
  · right; refine ⟨by rw [decide_eq_false (by omega), decide_eq_false (by omega)]; rfl, by rw [h1, h3]; simp⟩
  · left; refine ⟨by rw [decide_eq_false (by omega), decide_eq_true (by omega)]; rfl, by rw [h1, h3]; simp [Int.mul_neg]⟩
  · left; refine ⟨by rw [decide_eq_true (by omega), decide_eq_false (by omega)]; rfl, by rw [h1, h3]; simp [Int.neg_mul]⟩
  · right; refine ⟨by rw [decide_eq_true (by omega), decide_eq_true (by omega)]; rfl, by rw [h1, h3, Int.neg_mul_neg]; simp⟩
theorem prod_lt {A B : Nat} (ha : A ≤ 9223372036854775808) (hb : B ≤ 9223372036854775808) : A * B ≤ 85070591730234615865843651857942052864 := Nat.mul_le_mul ha hb
theorem mul_mod (a b : Int) (ha : I64 a) (hb : I64 b) : (ofI a * ofI b).toInt % 340282366920938463463374607431768211456 = a * b % 340282366920938463463374607431768211456 := by
  rw [toInt_mul_mod, ofI_toInt a ha, ofI_toInt b hb]
end Go.Proofs.Ytclkkdhfdoidfaa

