/- What the contracts of the program's own numbers say (package wide): answers as functions of numbers. -/
import Derived.Test.YtgkgdkdendmfnaaK
namespace Go.Proofs.Ytgkgdkdendmfnaa
open Go.RowKit
/-- -1, 0, 1: less, the same, greater. -/
def cmpOf (u v : BitVec 128) : Int := if u.slt v then -1 else if v.slt u then 1 else 0
/-- An int's room. -/
def I64 (n : Int) : Prop := -9223372036854775808 ≤ n ∧ n ≤ 9223372036854775807
/-- A number that an int is. -/
def fits (x : Int) : Bool := decide (-9223372036854775808 ≤ x) && decide (x ≤ 9223372036854775807)
theorem fits_iff {x : Int} : fits x = true ↔ -9223372036854775808 ≤ x ∧ x ≤ 9223372036854775807 := by simp [fits]
/-- A product divided, rounded down; exact; an error. -/
def divOf (a b d : Int) : Ending :=
  if d = 0 then .returned (.tuple #[.int .i64 0, .bool false, .int .i64 11])
  else if fits ((a * b).fdiv d) then .returned (.tuple #[.int .i64 ((a * b).fdiv d), .bool (decide ((a * b).fmod d = 0)), .int .i64 0])
  else .returned (.tuple #[.int .i64 0, .bool false, .int .i64 10])
def isRoot (n r : Int) : Prop := 0 ≤ r ∧ r < 4294967296 ∧ r * r ≤ n ∧ n < (r + 1) * (r + 1)
/-- An int as a number. -/
def ofI (n : Int) : BitVec 128 := BitVec.ofInt 128 n
end Go.Proofs.Ytgkgdkdendmfnaa
