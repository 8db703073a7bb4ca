/- Layer 11: package image's Diff, as the laws ask it. -/
import Derived.Test.YtoppmlfibllhlaaRk
import Derived.Test.YtoppmlfibllhlaaCa
namespace Go.Proofs.Ytoppmlfibllhlaa
open Go.RowKit
theorem diffOk : DiffOk := by
  intro W H oW oH s so l ol w row rov hok hoko hl hol
  cases hr : rightIm W H l with
  | false =>
    refine (diff_m W H oW oH s so l ol w row rov hok hoko hl hol hr).mono ?_
    rintro e w' ⟨rfl, hb⟩
    exact ⟨fun h => by unfold sizeB at h; rw [hr] at h; simp at h, fun _ => rfl, hb⟩
  | true =>
    cases hq : rightIm oW oH ol with
    | false =>
      refine (diff_o W H oW oH s so l ol w row rov hok hoko hl hol hr hq).mono ?_
      rintro e w' ⟨rfl, hb⟩
      exact ⟨fun h => by unfold sizeB at h; rw [hq] at h; simp at h, fun _ => rfl, hb⟩
    | true =>
      cases hs : (decide (W = oW) && decide (H = oH)) with
      | false =>
        refine (diff_s W H oW oH s so l ol w row rov hok hoko hl hol hr hq hs).mono ?_
        rintro e w' ⟨rfl, hb⟩
        exact ⟨fun h => by unfold sizeB at h; rw [hr, hq, Bool.and_assoc, hs] at h; simp at h, fun _ => rfl, hb⟩
      | true =>
        refine (diff_y W H oW oH s so l ol w row rov hok hoko hl hol hr hq hs).mono ?_
        rintro e w' ⟨rfl, hb⟩
        exact ⟨fun _ => rfl, fun h => by unfold sizeB at h; rw [hr, hq, Bool.and_assoc, hs] at h; simp at h, hb⟩
end Go.Proofs.Ytoppmlfibllhlaa
