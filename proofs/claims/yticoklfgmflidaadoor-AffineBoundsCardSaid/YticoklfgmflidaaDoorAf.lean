/- The document's Right of layer 4. -/
import Derived.Test.YticoklfgmflidaaDoorAe
namespace Go.Proofs.YticoklfgmflidaaDoor
open Go.RowKit

set_option maxHeartbeats 2000000 in
set_option maxRecDepth 100000 in
theorem refRight_c (m : Mx) (w : World) : Calls Tryd.prog 10 #[.agg (six m)] w fun e w' => e = .returned (.bool (rightI m)) ∧ Below w.heap.size w w' := by
  have HF : Hid (¬ (-16777216 ≤ m.a ∧ m.a ≤ 16777216 ∧ -16777216 ≤ m.b ∧ m.b ≤ 16777216 ∧ -16777216 ≤ m.c ∧ m.c ≤ 16777216 ∧ -16777216 ≤ m.d ∧ m.d ≤ 16777216) → rightI m = false) := fun h => by
    rw [Bool.eq_false_iff, ne_eq, right_iff]
    omega
  have HG : Hid (-16777216 ≤ m.a ∧ m.a ≤ 16777216 ∧ -16777216 ≤ m.b ∧ m.b ≤ 16777216 ∧ -16777216 ≤ m.c ∧ m.c ≤ 16777216 ∧ -16777216 ≤ m.d ∧ m.d ≤ 16777216 → rightI m = (room m.e && room m.f)) := fun h => by
    have h1 : ent m.a = true := ent_iff.2 (by omega)
    have h2 : ent m.b = true := ent_iff.2 (by omega)
    have h3 : ent m.c = true := ent_iff.2 (by omega)
    have h4 : ent m.d = true := ent_iff.2 (by omega)
    simp [rightI, h1, h2, h3, h4]
  obtain ⟨r, hr⟩ : ∃ r, rightI m = r := ⟨_, rfl⟩
  rw [hr] at HF HG ⊢
  clear hr
  go_enter Tryd.func10, Tryd.ntmps10
  go_wp2_with fail
  go_loopw [3] (fun i wr => ∃ z : Int, i = .int .i64 z ∧ (z = 0 ∨ (z = 1 ∧ -16777216 ≤ m.a ∧ m.a ≤ 16777216) ∨ (z = 2 ∧ -16777216 ≤ m.a ∧ m.a ≤ 16777216 ∧ -16777216 ≤ m.b ∧ m.b ≤ 16777216) ∨ (z = 3 ∧ -16777216 ≤ m.a ∧ m.a ≤ 16777216 ∧ -16777216 ≤ m.b ∧ m.b ≤ 16777216 ∧ -16777216 ≤ m.c ∧ m.c ≤ 16777216) ∨ (z = 4 ∧ -16777216 ≤ m.a ∧ m.a ≤ 16777216 ∧ -16777216 ≤ m.b ∧ m.b ≤ 16777216 ∧ -16777216 ≤ m.c ∧ m.c ≤ 16777216 ∧ -16777216 ≤ m.d ∧ m.d ≤ 16777216)) ∧ Hid (Blk wr w.heap.size 31 (six m) ∧ Below w.heap.size w wr)) (fun i _ => (4 - intOf i).toNat)
  case atStart => exact ⟨0, rfl, .inl rfl, Blk.newAt _ _ _ rfl, (Below.refl _ _).alloc (Nat.le_refl _) _⟩
  case round =>
    obtain ⟨z, rfl, hz, hw⟩ := hrel
    rcases hz with rfl | ⟨rfl, p0, p1⟩ | ⟨rfl, p0, p1, p2, p3⟩ | ⟨rfl, p0, p1, p2, p3, p4, p5⟩ | ⟨rfl, p0, p1, p2, p3, p4, p5, p6, p7⟩
    · have c := hw.out.1.m0
      go_wp2_with fail
      all_goals first
        | (go_ret; exact ⟨by rw [HF.out (by omega)]; rfl, hw.out.2⟩)
        | exact ⟨⟨1, rfl, .inr (.inl ⟨rfl, by omega, by omega⟩), hw⟩, by simp [intOf]⟩
    · have c := hw.out.1.m1
      go_wp2_with fail
      all_goals first
        | (go_ret; exact ⟨by rw [HF.out (by omega)]; rfl, hw.out.2⟩)
        | exact ⟨⟨2, rfl, .inr (.inr (.inl ⟨rfl, by omega, by omega, by omega, by omega⟩)), hw⟩, by simp [intOf]⟩
    · have c := hw.out.1.m2
      go_wp2_with fail
      all_goals first
        | (go_ret; exact ⟨by rw [HF.out (by omega)]; rfl, hw.out.2⟩)
        | exact ⟨⟨3, rfl, .inr (.inr (.inr (.inl ⟨rfl, by omega, by omega, by omega, by omega, by omega, by omega⟩))), hw⟩, by simp [intOf]⟩
    · have c := hw.out.1.m3
      go_wp2_with fail
      all_goals first
        | (go_ret; exact ⟨by rw [HF.out (by omega)]; rfl, hw.out.2⟩)
        | exact ⟨⟨4, rfl, .inr (.inr (.inr (.inr (⟨rfl, by omega, by omega, by omega, by omega, by omega, by omega, by omega, by omega⟩)))), hw⟩, by simp [intOf]⟩
    · have c4 := hw.out.1.m4
      have c5 := hw.out.1.m5
      go_wp2_with (go_at_call 23; refine (refIn_c _ _).mono ?_; rintro e w' ⟨rfl, rfl⟩)
      all_goals go_ret
      all_goals exact ⟨by rw [HG.out ⟨p0, p1, p2, p3, p4, p5, p6, p7⟩]; simp [*], hw.out.2⟩
end Go.Proofs.YticoklfgmflidaaDoor
