/- The statement WideOrder: for every input the law returns true, its arguments read as they did. Conditions: none but the row's own. -/
import Derived.Test.YtgkgdkdendmfnaaZg
import Derived.Deep.DeepHandedRow
import Derived.Lib.LaidTab
import Derived.Lib.SmallJoins
import Derived.ProofKit
import Derived.OpenShut
import Derived.Lay
import Derived.MakeChecks
namespace Go.Proofs.Ytgkgdkdendmfnaa.wideOrder
open Go.ChangeShapes Go.WideShapes Go.ChangeAt Go.RowKit
theorem own : ownKnob Try.prog.godebug = none := by kernel_rfl
set_option maxRecDepth 100000 in
theorem witness (os : Os) (H : Type) (enc : TypeId × Value → H) : ∃ (w : World) (tape : Tape) (i : Input), w.os = os ∧ (w.forCall tape i).Shaped Try.prog ∧ i.vars = [] ∧ Input.okWide Try.prog (w.forCall tape i) .any w.heap.size 5 i ∧
    (OpenSpec.ofChange Rows.wideOrderSpec).preRow enc Try.prog Try.f5 Rows.wideOrderRow.domain false Rows.wideOrderRow.laid (w.forCall tape i).memory i.args ∧ ({} : Assume).holds Try.prog (lone (Frame.enter Try.prog 5 i.args .normal) [] (w.forCall tape i)) := by
  obtain ⟨w, tape, i, h1, h2, h3, h4, ⟨⟨h5, h5'⟩, h5''⟩, h6⟩ := ChangeSpec.witness_shaped (s := Rows.wideOrderSpec) (fn := Try.f5) (f := 5) (conds := Rows.wideOrderRow.domain) (apart := false) (enc := enc) (C := Try.checked) (os := os) (X := fun w _ => laidMetH Try.prog Rows.wideOrderRow.laid w) false (World.laidAll Try.prog os Rows.wideOrderRow.laid) #[.agg #[.int .i64 0, .int .u64 0], .agg #[.int .i64 0, .int .u64 0]] 8 (World.laidAll_os _ _ _)
      (World.shaped_of_ZipB (by kernel_rfl) (by kernel_rfl)) (by kernel_rfl) (by kernel_rfl) (by kernel_rfl)
      (by rw [MakeChecks.laidMetH_plain _ _ _ (by kernel_rfl)]; exact laidMet_laidAll _ (by kernel_rfl) (by kernel_rfl))
  exact ⟨w, tape, i, h1, h2, h3, h4, ⟨⟨h5, h5'⟩, h5''⟩, h6⟩
theorem cellsN : Try.prog.cellsOf 24 = 2 := by kernel_rfl
set_option maxRecDepth 100000 in
theorem lifted (os : Os) (started : os.Started) (H : Type) (enc : TypeId × Value → H) (F : Stop.Interp) :
    ReturnsInHanded {} Try.checked os 5 .any ((OpenSpec.ofChange Rows.wideOrderSpec).preRow enc Try.prog Try.f5 Rows.wideOrderRow.domain false Rows.wideOrderRow.laid) (((OpenSpec.ofChange Rows.wideOrderSpec).at F).post enc Try.prog Try.f5 false true false false) := by
  refine returnsInHanded_of_row (C := Try.checked) (s := OpenSpec.ofChange Rows.wideOrderSpec) own started (by kernel_rfl) Try.func5 (witness os H enc) ?_
  intro W base args ds gs before hval0 hW _ _ hsz hL hshape _
  have hval : ∀ (j : Nat) t v, Try.f5.params[j]? = some t → args[j]? = some v → Value.okWide Try.prog W .any base t v := hval0
  have hW' := hW
  obtain ⟨p, q, hA0, hV, rfl, hfz, hnd⟩ := hW
  have hA : DataW.TrodAll enc Try.prog W 0 (fun _ => true) true Try.f5.params.toList args.toList ds p := hA0
  rw [Try.params5] at hA hval
  obtain ⟨v0, vs0, d0, ds0, p0, q0, hargs, rfl, rfl, h0, r0⟩ := trodAll_cons hA
  obtain ⟨v1, vs1, d1, ds1, p1, q1, rfl, rfl, rfl, h1, r1⟩ := trodAll_cons r0
  obtain ⟨rfl, rfl, rfl⟩ := trodAll_nil r1
  obtain rfl : args = #[v0, v1] := by cases args; simp_all
  obtain ⟨rfl, rfl⟩ := trodVars_none hV
  obtain ⟨ca0, cb0, ya0, yb0, m0, rfl, rfl, rfl, ga0, gb0⟩ := Joins.open_agg2 Try.underlying24 (by kernel_rfl) cellsN (hval 0 24 v0 rfl rfl) h0
  obtain ⟨a0, ea0, rfl, wa0⟩ := DataW.trod_int Try.underlying2 ga0
  obtain ⟨b0, eb0, rfl, wb0⟩ := DataW.trod_int Try.underlying22 gb0
  simp at ea0 eb0
  subst ea0 eb0
  obtain ⟨u0, hu0, hv0⟩ : ∃ u : BitVec 128, hiOf u = a0 ∧ (loOf u : Int) = b0 := by
    have ka : -9223372036854775808 ≤ a0 ∧ a0 ≤ 9223372036854775807 := by simpa [Lit.wf, IntKind.min, IntKind.max, IntKind.signed, IntKind.bits] using wa0
    have kb : 0 ≤ b0 ∧ b0 ≤ 18446744073709551615 := by simpa [Lit.wf, IntKind.min, IntKind.max, IntKind.signed, IntKind.bits] using wb0
    refine ⟨num a0 b0.toNat, hiOf_num _ _ ka.1 ka.2 (by omega), ?_⟩
    rw [loOf_num _ _ ka.1 ka.2 (by omega)]
    omega
  subst hu0 hv0
  obtain ⟨ca1, cb1, ya1, yb1, m1, rfl, rfl, rfl, ga1, gb1⟩ := Joins.open_agg2 Try.underlying24 (by kernel_rfl) cellsN (hval 1 24 v1 rfl rfl) h1
  obtain ⟨a1, ea1, rfl, wa1⟩ := DataW.trod_int Try.underlying2 ga1
  obtain ⟨b1, eb1, rfl, wb1⟩ := DataW.trod_int Try.underlying22 gb1
  simp at ea1 eb1
  subst ea1 eb1
  obtain ⟨u1, hu1, hv1⟩ : ∃ u : BitVec 128, hiOf u = a1 ∧ (loOf u : Int) = b1 := by
    have ka : -9223372036854775808 ≤ a1 ∧ a1 ≤ 9223372036854775807 := by simpa [Lit.wf, IntKind.min, IntKind.max, IntKind.signed, IntKind.bits] using wa1
    have kb : 0 ≤ b1 ∧ b1 ≤ 18446744073709551615 := by simpa [Lit.wf, IntKind.min, IntKind.max, IntKind.signed, IntKind.bits] using wb1
    refine ⟨num a1 b1.toNat, hiOf_num _ _ ka.1 ka.2 (by omega), ?_⟩
    rw [loOf_num _ _ ka.1 ka.2 (by omega)]
    omega
  subst hu1 hv1
  clear hA0
  simp only [List.append_nil] at hW'
  refine (orderL u0 u1 W).mono fun e W' ⟨he, hb⟩ => ?_
  subst he
  exact ⟨_, rfl, _, _, _, [], [], [], hW', trodAll_cons_mk (shut_bool Try.underlying4 _) trodAll_mk0, trodAll_cons_mk (Joins.shut_agg2 (y0 := (.lit (.int .i64 (hiOf u0)), [])) (y1 := (.lit (.int .u64 (loOf u0)), [])) Try.underlying24 (by kernel_rfl) cellsN ⟨1, by simp [DataW.trod, Try.underlying2, wa0]⟩ ⟨1, by simp [DataW.trod, Try.underlying22, wb0]⟩) (trodAll_cons_mk (Joins.shut_agg2 (y0 := (.lit (.int .i64 (hiOf u1)), [])) (y1 := (.lit (.int .u64 (loOf u1)), [])) Try.underlying24 (by kernel_rfl) cellsN ⟨1, by simp [DataW.trod, Try.underlying2, wa1]⟩ ⟨1, by simp [DataW.trod, Try.underlying22, wb1]⟩) trodAll_mk0), rfl, hb.frame _, fun h => by cases h⟩
theorem said : Rows.WideOrderSaid :=
  OpenClaim.holds_of_cond 5 Try.f5 rfl rfl rfl rfl rfl rfl rfl ⟨rfl, rfl, rfl, rfl, rfl⟩ rfl rfl rfl rfl rfl (by kernel_rfl) Try.func5 (by kernel_rfl)
    (of_decide_eq_true (by kernel_rfl)) (by unfold Func.isWrapper; first | (rw [if_pos (by decide +kernel)]; kernel_rfl) | (rw [if_neg (by decide +kernel)]; exact ⟨rfl, rfl⟩))
    (fun os started H enc _ F => by rw [OpenClaim.pre_eq_preRow]; exact lifted os started H enc F)
#print axioms said
end Go.Proofs.Ytgkgdkdendmfnaa.wideOrder
