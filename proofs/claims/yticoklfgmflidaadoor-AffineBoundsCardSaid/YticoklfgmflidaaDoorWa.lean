/- Numbers of 128 bits in halves, and what package wide needs of arithmetic: layer 2's own texts, without the rows of bits. -/
import Derived.Test.YticoklfgmflidaaDoorRows
import Derived.WalkKit
import Derived.WalkSpells
import Derived.WalkLawsBesides
import Derived.Lib.Hide
import Derived.Laws.Rows
import Derived.Laws.CopyOwn
import Derived.Laws.Tables
import Derived.Deep.WholeRow
import Derived.Handy
import Derived.Lib.SmallJoins
import Derived.BigQuiet
import Derived.Deep.RegionHeld3
import Derived.Deep.CutBlock
import Derived.Deep.DeepCutAuto
import Derived.Lib.Mul64
import Derived.Laws.Externs
import Derived.Shelf.Spec.BitsCarry
import Derived.Laws.Bits64b
namespace Go.Proofs.YticoklfgmflidaaDoor
open Go.RowKit

theorem below_next {a b c : World} (h : Below a.heap.size a b) (k : Below b.heap.size b c) : Below a.heap.size a c := h.trans (k.mono h.size)
/-- A number: hi times 2^64, and lo. -/
def num (hi : Int) (lo : Int) : BitVec 128 := BitVec.ofInt 128 (hi * 18446744073709551616 + lo)
theorem ofInt_mod {a b : Int} (h : a % 340282366920938463463374607431768211456 = b % 340282366920938463463374607431768211456) : BitVec.ofInt 128 a = BitVec.ofInt 128 b := by
  apply BitVec.eq_of_toNat_eq
  rw [BitVec.toNat_ofInt, BitVec.toNat_ofInt]
  show (a % 340282366920938463463374607431768211456).toNat = (b % 340282366920938463463374607431768211456).toNat
  rw [h]

/-- The upper half, with its sign. -/
def hiOf (u : BitVec 128) : Int := u.toInt / 18446744073709551616
/-- The lower half. -/
def loOf (u : BitVec 128) : Nat := u.toNat % 18446744073709551616
theorem loOf_lt (u : BitVec 128) : loOf u < 2 ^ 64 := Nat.mod_lt _ (by decide)
theorem toInt_split (u : BitVec 128) : hiOf u * 18446744073709551616 + (loOf u : Int) = u.toInt := by
  unfold hiOf loOf
  have h := BitVec.toInt_eq_toNat_cond u
  have e : ((u.toNat % 18446744073709551616 : Nat) : Int) = u.toInt % 18446744073709551616 := by
    rw [h]
    split
    · omega
    · rw [Int.natCast_emod, show (((2 : Nat) ^ 128 : Nat) : Int) = 18446744073709551616 * 18446744073709551616 by decide]
      omega
  rw [e]
  have := Int.mul_ediv_add_emod u.toInt 18446744073709551616
  omega
theorem num_of (u : BitVec 128) : num (hiOf u) (loOf u) = u := by
  unfold num
  rw [toInt_split, BitVec.ofInt_toInt]
theorem toInt_bounds (u : BitVec 128) : -170141183460469231731687303715884105728 ≤ u.toInt ∧ u.toInt ≤ 170141183460469231731687303715884105727 := by
  have h1 := BitVec.le_toInt u
  have h2 := BitVec.toInt_lt (x := u)
  simp only [show (128 - 1 : Nat) = 127 by decide] at h1 h2
  rw [show ((2 : Int) ^ 127) = 170141183460469231731687303715884105728 by decide] at h1 h2
  omega
theorem hiOf_bounds (u : BitVec 128) : -9223372036854775808 ≤ hiOf u ∧ hiOf u ≤ 9223372036854775807 := by
  have h := toInt_split u
  have hl := loOf_lt u
  have hb := toInt_bounds u
  omega
theorem num_toInt (hi : Int) (L : Nat) (h0 : -9223372036854775808 ≤ hi) (h1 : hi ≤ 9223372036854775807) (hL : L < 2 ^ 64) : (num hi L).toInt = hi * 18446744073709551616 + L := by
  unfold num
  rw [BitVec.toInt_ofInt]
  apply Int.bmod_eq_of_le
  · show -(((340282366920938463463374607431768211456 : Nat) : Int) / 2) ≤ _
    omega
  · show _ < (((340282366920938463463374607431768211456 : Nat) : Int) + 1) / 2
    omega
theorem hiOf_num (hi : Int) (L : Nat) (h0 : -9223372036854775808 ≤ hi) (h1 : hi ≤ 9223372036854775807) (hL : L < 2 ^ 64) : hiOf (num hi L) = hi := by
  unfold hiOf; rw [num_toInt hi L h0 h1 hL]; omega
theorem loOf_num (hi : Int) (L : Nat) (h0 : -9223372036854775808 ≤ hi) (h1 : hi ≤ 9223372036854775807) (hL : L < 2 ^ 64) : loOf (num hi L) = L := by
  have h := toInt_split (num hi L)
  rw [num_toInt hi L h0 h1 hL, hiOf_num hi L h0 h1 hL] at h
  omega
theorem num_same (u v : BitVec 128) : (hiOf u == hiOf v && (loOf u : Int) == (loOf v : Int)) = decide (u = v) := by
  rw [Bool.eq_iff_iff]
  simp only [Bool.and_eq_true, beq_iff_eq, decide_eq_true_eq]
  constructor
  · intro ⟨h1, h2⟩
    rw [← num_of u, ← num_of v, h1, show (loOf u : Int) = (loOf v : Int) from h2]
  · rintro rfl; exact ⟨rfl, rfl⟩
/-- -1, 0, 1: less, the same, greater. -/
def cmpOf (u v : BitVec 128) : Int := if u.slt v then -1 else if v.slt u then 1 else 0
/-- An int's room. -/
def I64 (n : Int) : Prop := -9223372036854775808 ≤ n ∧ n ≤ 9223372036854775807
/-- A number that an int is. -/
def fits (x : Int) : Bool := decide (-9223372036854775808 ≤ x) && decide (x ≤ 9223372036854775807)
theorem fits_iff {x : Int} : fits x = true ↔ -9223372036854775808 ≤ x ∧ x ≤ 9223372036854775807 := by simp [fits]
/-- A product divided, rounded down; exact; an error. -/
def divOf (a b d : Int) : Ending :=
  if d = 0 then .returned (.tuple #[.int .i64 0, .bool false, .int .i64 11])
  else if fits ((a * b).fdiv d) then .returned (.tuple #[.int .i64 ((a * b).fdiv d), .bool (decide ((a * b).fmod d = 0)), .int .i64 0])
  else .returned (.tuple #[.int .i64 0, .bool false, .int .i64 10])
def isRoot (n r : Int) : Prop := 0 ≤ r ∧ r < 4294967296 ∧ r * r ≤ n ∧ n < (r + 1) * (r + 1)
/-- An int as a number. -/
def ofI (n : Int) : BitVec 128 := BitVec.ofInt 128 n

/-- Two halves in their rooms that are a number modulo 2^128 are its halves. -/
theorem halves (u : BitVec 128) (hi lo : Int) (h0 : -9223372036854775808 ≤ hi) (h1 : hi ≤ 9223372036854775807) (l0 : 0 ≤ lo) (l1 : lo < 18446744073709551616)
    (hc : (hi * 18446744073709551616 + lo) % 340282366920938463463374607431768211456 = u.toInt % 340282366920938463463374607431768211456) :
    hi = hiOf u ∧ lo = (loOf u : Int) := by
  obtain ⟨L, rfl⟩ := Int.eq_ofNat_of_zero_le l0
  have e : num hi L = u := by
    unfold num
    rw [ofInt_mod hc, BitVec.ofInt_toInt]
  have hL : L < 2 ^ 64 := by omega
  have a := hiOf_num hi L h0 h1 hL
  have b := loOf_num hi L h0 h1 hL
  rw [e] at a b
  exact ⟨a.symm, by rw [b]⟩
theorem toInt_add_mod (u v : BitVec 128) : (u + v).toInt % 340282366920938463463374607431768211456 = (u.toInt + v.toInt) % 340282366920938463463374607431768211456 := by
  rw [BitVec.toInt_add]; exact Int.bmod_emod
theorem toInt_sub_mod (u v : BitVec 128) : (u - v).toInt % 340282366920938463463374607431768211456 = (u.toInt - v.toInt) % 340282366920938463463374607431768211456 := by
  rw [BitVec.toInt_sub]; exact Int.bmod_emod
theorem toInt_neg_mod (u : BitVec 128) : (-u).toInt % 340282366920938463463374607431768211456 = (-u.toInt) % 340282366920938463463374607431768211456 := by
  rw [BitVec.toInt_neg]; exact Int.bmod_emod
theorem toInt_mul_mod (u v : BitVec 128) : (u * v).toInt % 340282366920938463463374607431768211456 = (u.toInt * v.toInt) % 340282366920938463463374607431768211456 := by
  rw [BitVec.toInt_mul]; exact Int.bmod_emod
theorem ofI_toInt (n : Int) (h : I64 n) : (ofI n).toInt = n := by
  unfold ofI; rw [BitVec.toInt_ofInt]
  unfold I64 at h
  apply Int.bmod_eq_of_le
  · show -(((340282366920938463463374607431768211456 : Nat) : Int) / 2) ≤ _
    omega
  · show _ < (((340282366920938463463374607431768211456 : Nat) : Int) + 1) / 2
    omega
theorem loOf_lt' (u : BitVec 128) : (loOf u : Int) < 18446744073709551616 := by have := loOf_lt u; omega

theorem run_Sub64 (x y b : Int) (hx : 0 ≤ x) (hy : 0 ≤ y) (hy1 : y < 18446744073709551616) (hb0 : 0 ≤ b) (hb : b ≤ 1) (w : World) :
    (callFunc 47 #[.int .u64 x, .int .u64 y, .int .u64 b]).run Tryd.prog w =
      .ok (.value (.tuple #[.int .u64 ((x - y - b) % 18446744073709551616), .int .u64 (if x < y + b then 1 else 0)])) w := by
  obtain ⟨X, rfl⟩ := Int.eq_ofNat_of_zero_le hx
  obtain ⟨Y, rfl⟩ := Int.eq_ofNat_of_zero_le hy
  obtain ⟨k, rfl⟩ := Int.eq_ofNat_of_zero_le hb0
  have e1 : (((X + 18446744073709551616 - Y - k) % 18446744073709551616 : Nat) : Int) = ((X : Int) - Y - k) % 18446744073709551616 := by omega
  have e2 : ((if X < Y + k then 1 else 0 : Nat) : Int) = (if (X : Int) < Y + k then (1 : Int) else 0) := by
    by_cases h : X < Y + k
    · rw [if_pos h, if_pos (by omega)]; rfl
    · rw [if_neg h, if_neg (by omega)]; rfl
  rw [run_callFunc_extern Tryd.func47 (by kernel_rfl) (by kernel_rfl) (by kernel_rfl) (e := sub64Entry) (by kernel_rfl), run_sub64 X Y k (by omega), e1, e2]
  rfl

/-- The lower 32 bits. -/
theorem low32 (a : Nat) (ha : a < 18446744073709551616) : bits .and .u64 (a : Int) 4294967295 = ((a % 4294967296 : Nat) : Int) := by
  rw [← Nat.and_two_pow_sub_one_eq_mod a 32]
  exact bits_and_u64_nat a 4294967295 ha (by decide)
theorem u64_of (z : Int) (n : Nat) (h : z = n) (hn : n < 18446744073709551616) : IntKind.u64.wrap z = (n : Int) := by
  rw [h, IntKind.wrap_u64]; omega
set_option maxHeartbeats 1000000 in
theorem mul64_walk (x y x0 x1 y0 y1 p t w1 w2 v hi lo : Nat)
    (E1 : bits .and .u64 (x : Int) 4294967295 = (x0 : Int)) (E2 : (x : Int) / 4294967296 = (x1 : Int)) (E3 : bits .and .u64 (y : Int) 4294967295 = (y0 : Int)) (E4 : (y : Int) / 4294967296 = (y1 : Int))
    (E5 : IntKind.u64.wrap ((x0 : Int) * (y0 : Int)) = (p : Int)) (E6 : IntKind.u64.wrap (IntKind.u64.wrap ((x1 : Int) * (y0 : Int)) + (p : Int) / 4294967296) = (t : Int))
    (E7 : bits .and .u64 (t : Int) 4294967295 = (w1 : Int)) (E8 : (t : Int) / 4294967296 = (w2 : Int)) (E9 : IntKind.u64.wrap ((w1 : Int) + IntKind.u64.wrap ((x0 : Int) * (y1 : Int))) = (v : Int))
    (E10 : IntKind.u64.wrap (IntKind.u64.wrap (IntKind.u64.wrap ((x1 : Int) * (y1 : Int)) + (w2 : Int)) + (v : Int) / 4294967296) = (hi : Int)) (E11 : IntKind.u64.wrap ((x : Int) * (y : Int)) = (lo : Int)) (w : World) :
    Calls Tryd.prog 41 #[.int .u64 x, .int .u64 y] w fun e w' => e = .returned (.tuple #[.int .u64 (hi : Int), .int .u64 (lo : Int)]) ∧ w' = w := by
  go_enter Tryd.func41, Tryd.ntmps41
  go_wp2_with fail
  go_ret2
  exact ⟨rfl, rfl⟩
theorem mul64_any (x y : Nat) (hx : x < 18446744073709551616) (hy : y < 18446744073709551616) (w : World) :
    Calls Tryd.prog 41 #[.int .u64 x, .int .u64 y] w fun e w' => e = .returned (.tuple #[.int .u64 ((x * y / 18446744073709551616 : Nat) : Int), .int .u64 ((x * y % 18446744073709551616 : Nat) : Int)]) ∧ w' = w := by
  obtain ⟨k1, k2, k3, k4⟩ := Lib.mul64_hi x y hx hy
  have b11 := Lib.half_mul_le (a := x / 4294967296) (b := y / 4294967296) (by omega) (by omega)
  have b10 := Lib.half_mul_le (a := x / 4294967296) (b := y % 4294967296) (by omega) (by omega)
  have b01 := Lib.half_mul_le (a := x % 4294967296) (b := y / 4294967296) (by omega) (by omega)
  have hl : x * y / 18446744073709551616 < 18446744073709551616 := by
    rw [Nat.div_lt_iff_lt_mul (by decide)]; exact Nat.mul_lt_mul'' hx hy
  obtain ⟨p11, e11⟩ : ∃ c, x / 4294967296 * (y / 4294967296) = c := ⟨_, rfl⟩
  obtain ⟨p10, e10⟩ : ∃ c, x / 4294967296 * (y % 4294967296) = c := ⟨_, rfl⟩
  obtain ⟨p01, e01⟩ : ∃ c, x % 4294967296 * (y / 4294967296) = c := ⟨_, rfl⟩
  obtain ⟨p00, e00⟩ : ∃ c, x % 4294967296 * (y % 4294967296) = c := ⟨_, rfl⟩
  rw [e11, e10, e01, e00] at k4
  rw [e10, e01, e00] at k3
  rw [e10, e00] at k2
  rw [e00] at k1
  rw [e11] at b11
  rw [e10] at b10
  rw [e01] at b01
  obtain ⟨t, et⟩ : ∃ t, p10 + p00 / 4294967296 = t := ⟨_, rfl⟩
  rw [et] at k2 k3 k4
  obtain ⟨v, ev⟩ : ∃ v, t % 4294967296 + p01 = v := ⟨_, rfl⟩
  rw [ev] at k3 k4
  rw [← k4] at hl ⊢
  refine mul64_walk x y (x % 4294967296) (x / 4294967296) (y % 4294967296) (y / 4294967296) p00 t (t % 4294967296) (t / 4294967296) v _ _
    (low32 x hx) (by omega) (low32 y hy) (by omega) (u64_of _ _ (by rw [← Int.natCast_mul, e00]) k1) ?_ (low32 _ k2) (by omega) ?_ ?_ ?_ w
  · rw [← Int.natCast_mul, e10, u64_of (p10 : Int) p10 rfl (by omega)]
    exact u64_of _ _ (by omega) k2
  · rw [← Int.natCast_mul, e01, u64_of (p01 : Int) p01 rfl (by omega)]
    exact u64_of _ _ (by omega) k3
  · rw [← Int.natCast_mul, e11, u64_of (p11 : Int) p11 rfl (by omega), u64_of ((p11 : Int) + ((t / 4294967296 : Nat) : Int)) (p11 + t / 4294967296) (by omega) (by omega)]
    exact u64_of _ _ (by omega) hl
  · rw [← Int.natCast_mul, IntKind.wrap_u64]
    generalize x * y = z
    omega
section
variable {C : World → Prop} {ops : Array Oper} {Q : Act → Prop} {a : Act} {o : Oper} {rest : List Oper} {K : Act → Prop}
theorem quiet_val (v : Value) (hv : ∀ w, C w → (execOp a.eval o).run Tryd.prog w = .ok (.value v) w) (hk : K (a.put o.dst v)) : o.quiet Tryd.prog a C K :=
  ⟨v, fun w hw => by unfold Oper.quietAt; rw [hv w hw]; exact ⟨rfl, rfl⟩, hk⟩
theorem quiet_call (f : FuncId) (args : Array Value) (v : Value) (hv : ∀ w, C w → (execOp a.eval o).run Tryd.prog w = .ok (.enter f args) w)
    (hc : ∀ w, C w → Calls Tryd.prog f args w fun e w' => e = .returned v ∧ C w') (hk : K (a.put o.dst v)) : o.quiet Tryd.prog a C K :=
  ⟨v, fun w hw => by unfold Oper.quietAt; rw [hv w hw]; exact ⟨rfl, hc w hw⟩, hk⟩
end
/-- The class: what has grown out of w0. -/
def Out (w0 : World) (w : World) : Prop := Below w0.heap.size w0 w
theorem Out.next {w0 w w' : World} (h : Out w0 w) (k : Below w.heap.size w w') : Out w0 w' := below_next h k
theorem Calls.out {w0 w : World} {f : FuncId} {args : Array Value} {v : Value} (h : Out w0 w) (hc : Calls Tryd.prog f args w fun e w' => e = .returned v ∧ Below w.heap.size w w') : Calls Tryd.prog f args w fun e w' => e = .returned v ∧ Out w0 w' :=
  hc.mono fun _ _ ⟨he, hb⟩ => ⟨he, h.next hb⟩

end Go.Proofs.YticoklfgmflidaaDoor

