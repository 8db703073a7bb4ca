/- Layer 10: the document's Of, Right, Fade; colours compared. -/
import Derived.Test.YtoppmlfibllhlaaPa
namespace Go.Proofs.Ytoppmlfibllhlaa
open Go.RowKit
theorem results_col {fn : Func} {tmps : Array Value} {W : World} {g : Nat} {f : Nat → Value} {T : TypeId} (hT : T = 43 ∨ T = 28) (a : Nat) (hres : fn.results = #[.cell a T]) (ha : tmps[a]? = some (.pointer (some ⟨g, 0, none⟩))) (hg : Blk W g T (four f)) :
    (results fn tmps).run Try.prog W = .ok (.agg #[f 0, f 1, f 2, f 3]) W := by
  obtain ⟨h0, h1, h2, h3⟩ := hg.c0
  rcases hT with rfl | rfl <;> simp [results, hres, ha, go_sem, h0, h1, h2, h3]
theorem equal_c64 (c : Col) (w : World) : (Op.equalIn 10000 43 (.agg #[.int .i64 (c 0), .int .i64 (c 1), .int .i64 (c 2), .int .i64 (c 3)]) (.agg #[.int .i64 (c 0), .int .i64 (c 1), .int .i64 (c 2), .int .i64 (c 3)])).run Try.prog w = .ok true w := by
  have hsz : ∀ w, (sizeOf 3).run Try.prog w = .ok 1 w := fun w => by kernel_rfl
  rw [Op.equalIn]
  simp only [Sem.run_bind, run_underlying Try.underlying43, Result.andThen_ok, hsz, Std.Legacy.Range.forIn_eq_forIn_range', Std.Legacy.Range.size, Nat.sub_zero, Nat.add_sub_cancel, Nat.div_one]
  have hl : ∀ i ∈ List.range' 0 4 1, i < 4 := fun i hi => by simpa using (List.mem_range'_1.1 hi).2
  generalize List.range' 0 4 1 = l at hl ⊢
  induction l with
  | nil => simp
  | cons i l ih =>
    have hi : i < 4 := hl i (by simp)
    have he : (#[Value.int .i64 (c 0), .int .i64 (c 1), .int .i64 (c 2), .int .i64 (c 3)] : Array Value)[i]? = some (.int .i64 (c i)) := four_at (fun i => .int .i64 (c i)) hi
    have px : (part 3 #[Value.int .i64 (c 0), .int .i64 (c 1), .int .i64 (c 2), .int .i64 (c 3)] (i * 1)).run Try.prog w = .ok (.int .i64 (c i)) w := by
      simp [part, isAgg, run_underlying Try.underlying3, he]
    have pe : (Op.equalIn (9998 + 1) 3 (.int .i64 (c i)) (.int .i64 (c i))).run Try.prog w = .ok (c i == c i) w := run_equalIn_int w 9998 _ _ _ _ _ Try.underlying3
    simp only [List.forIn_cons, Sem.run_bind, px, pe, Result.andThen_ok]
    simp only [beq_self_eq_true, Bool.not_true, Bool.false_eq_true, if_false, Sem.run_pure, Result.andThen_ok]
    exact ih fun j hj => hl j (by simp [hj])
theorem equal_c8 (c : Col) (w : World) : (Op.equalIn 10000 28 (.agg #[.int .u8 (c 0), .int .u8 (c 1), .int .u8 (c 2), .int .u8 (c 3)]) (.agg #[.int .u8 (c 0), .int .u8 (c 1), .int .u8 (c 2), .int .u8 (c 3)])).run Try.prog w = .ok true w := by
  have hsz : ∀ w, (sizeOf 5).run Try.prog w = .ok 1 w := fun w => by kernel_rfl
  rw [Op.equalIn]
  simp only [Sem.run_bind, run_underlying Try.underlying28, Result.andThen_ok, hsz, Std.Legacy.Range.forIn_eq_forIn_range', Std.Legacy.Range.size, Nat.sub_zero, Nat.add_sub_cancel, Nat.div_one]
  have hl : ∀ i ∈ List.range' 0 4 1, i < 4 := fun i hi => by simpa using (List.mem_range'_1.1 hi).2
  generalize List.range' 0 4 1 = l at hl ⊢
  induction l with
  | nil => simp
  | cons i l ih =>
    have hi : i < 4 := hl i (by simp)
    have he : (#[Value.int .u8 (c 0), .int .u8 (c 1), .int .u8 (c 2), .int .u8 (c 3)] : Array Value)[i]? = some (.int .u8 (c i)) := four_at (fun i => .int .u8 (c i)) hi
    have px : (part 5 #[Value.int .u8 (c 0), .int .u8 (c 1), .int .u8 (c 2), .int .u8 (c 3)] (i * 1)).run Try.prog w = .ok (.int .u8 (c i)) w := by
      simp [part, isAgg, run_underlying Try.underlying5, he]
    have pe : (Op.equalIn (9998 + 1) 5 (.int .u8 (c i)) (.int .u8 (c i))).run Try.prog w = .ok (c i == c i) w := run_equalIn_int w 9998 _ _ _ _ _ Try.underlying5
    simp only [List.forIn_cons, Sem.run_bind, px, pe, Result.andThen_ok]
    simp only [beq_self_eq_true, Bool.not_true, Bool.false_eq_true, if_false, Sem.run_pure, Result.andThen_ok]
    exact ih fun j hj => hl j (by simp [hj])
theorem refOf_c (a b : Int) (ha : 0 ≤ a ∧ a ≤ 255) (hb : 0 ≤ b ∧ b ≤ 255) (w : World) : Calls Try.prog 63 #[.int .i64 a, .int .i64 b] w fun e w' => e = .returned (.int .i64 (ofI a b)) ∧ w = w' := by
  obtain ⟨p0, p1, p2, p3⟩ := prod_in ha.1 ha.2 hb.1 hb.2
  have e1 : wrap64 (a * b) = a * b := wrapR _ (by omega) (by omega)
  have HR : Hid (∀ w, Calls Try.prog 74 #[.int .i64 (a * b), .int .i64 255] w fun e w' => e = .returned (.int .i64 (ofI a b)) ∧ w = w') := fun w => by
    have h := round_any (a * b) 255 w (by omega) (by omega) (by omega) (by omega) (by omega) (by omega)
    rw [rnd_255] at h
    exact h
  clear p0 p1 p2 p3
  go_enter Try.func63, Try.ntmps63
  go_wp2_with fail
  refine (HR.out _).mono ?_
  rintro e w' ⟨rfl, rfl⟩
  go_wp2_with fail
  go_ret
  exact ⟨rfl, rfl⟩
def rightC (c : Col) : Bool := decide (c 0 ≤ c 3) && decide (c 1 ≤ c 3) && decide (c 2 ≤ c 3)
theorem rightC_iff {c : Col} : rightC c = true ↔ c 0 ≤ c 3 ∧ c 1 ≤ c 3 ∧ c 2 ≤ c 3 := by simp [rightC, and_assoc]
set_option maxHeartbeats 1000000 in
theorem refRight_c (c : Col) (w : World) : Calls Try.prog 37 #[.agg #[.int .i64 (c 0), .int .i64 (c 1), .int .i64 (c 2), .int .i64 (c 3)]] w fun e w' => e = .returned (.bool (rightC c)) ∧ Below w.heap.size w w' := by
  have HRC : Hid (rightC c = (decide (c 0 ≤ c 3) && decide (c 1 ≤ c 3) && decide (c 2 ≤ c 3))) := rfl
  rw [HRC.out]
  generalize c 0 = c0
  generalize c 1 = c1
  generalize c 2 = c2
  generalize c 3 = c3
  cases h0 : decide (c0 ≤ c3) <;> cases h1 : decide (c1 ≤ c3) <;> cases h2 : decide (c2 ≤ c3)
  all_goals
    go_enter Try.func37, Try.ntmps37
    go_wp2_with fail
    go_ret
    exact ⟨rfl, (Below.refl _ _).alloc (Nat.le_refl _) _⟩
end Go.Proofs.Ytoppmlfibllhlaa

