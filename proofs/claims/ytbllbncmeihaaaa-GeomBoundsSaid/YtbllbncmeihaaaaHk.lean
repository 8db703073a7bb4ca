/- Equality of [4]bool. -/
import Derived.Test.YtbllbncmeihaaaaHh
namespace Go.Proofs.Ytbllbncmeihaaaa
open Go.RowKit
theorem equal_on (w : World) : (Op.equalIn 10000 47 (.agg #[.bool true, .bool true, .bool true, .bool true]) (.agg #[.bool true, .bool true, .bool true, .bool true])).run Try.prog w = .ok true w := by
  have hsz : ∀ w, (sizeOf 4).run Try.prog w = .ok 1 w := fun w => by kernel_rfl
  rw [Op.equalIn]
  simp only [Sem.run_bind, run_underlying Try.underlying47, Result.andThen_ok, hsz, Std.Legacy.Range.forIn_eq_forIn_range', Std.Legacy.Range.size, Nat.sub_zero, Nat.add_sub_cancel, Nat.div_one]
  have hl : ∀ i ∈ List.range' 0 4 1, i < 4 := fun i hi => by simpa using (List.mem_range'_1.1 hi).2
  generalize List.range' 0 4 1 = l at hl ⊢
  induction l with
  | nil => simp
  | cons i l ih =>
    have hi : i < 4 := hl i (by simp)
    have e : (#[Value.bool true, .bool true, .bool true, .bool true] : Array Value)[i]? = some (.bool true) := by
      match i, hi with
      | 0, _ => rfl
      | 1, _ => rfl
      | 2, _ => rfl
      | 3, _ => rfl
    have px : (part 4 #[Value.bool true, .bool true, .bool true, .bool true] (i * 1)).run Try.prog w = .ok (.bool true) w := by
      simp [part, isAgg, run_underlying Try.underlying4, e]
    have pe : (Op.equalIn (9998 + 1) 4 (.bool true) (.bool true)).run Try.prog w = .ok (true == true) w := run_equalIn_bool w 9998 _ _ _ Try.underlying4
    simp only [List.forIn_cons, Sem.run_bind, px, pe, Result.andThen_ok]
    simp only [beq_self_eq_true, Bool.not_true, Bool.false_eq_true, if_false, Sem.run_pure, Result.andThen_ok]
    exact ih fun j hj => hl j (by simp [hj])
end Go.Proofs.Ytbllbncmeihaaaa
