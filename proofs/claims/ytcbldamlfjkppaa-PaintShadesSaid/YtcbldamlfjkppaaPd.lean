/- Layer 10: the document's Part. -/
import Derived.Test.YtcbldamlfjkppaaPc
namespace Go.Proofs.Ytcbldamlfjkppaa
open Go.RowKit
def partC (c : Col) (n : Int) : Col := fun i => (c i * n + 8) / 16
theorem part_ok {c : Col} {n : Int} (hc : OkC c) (hn : 0 ≤ n ∧ n ≤ 16) : OkC (partC c n) := fun i hi => by
  obtain ⟨p0, p1, p2, p3⟩ := prod_in (hc i hi).1 (hc i hi).2 hn.1 hn.2
  unfold partC
  omega
set_option maxHeartbeats 2000000 in
set_option maxRecDepth 100000 in
theorem refPart_c (c : Col) (n : Int) (hc : OkC c) (hn : 0 ≤ n ∧ n ≤ 16) (w : World) : Calls Try.prog 18 #[.agg #[.int .i64 (c 0), .int .i64 (c 1), .int .i64 (c 2), .int .i64 (c 3)], .int .i64 n] w fun e w' => e = .returned (.agg #[.int .i64 (partC c n 0), .int .i64 (partC c n 1), .int .i64 (partC c n 2), .int .i64 (partC c n 3)]) ∧ Below w.heap.size w w' := by
  have HC := Lib.hid hc
  have HN := Lib.hid hn
  clear hc hn
  go_enter Try.func18, Try.ntmps18
  go_wp2_with fail
  go_loopw [5] (fun i wr => ∃ k : Nat, k ≤ 4 ∧ i = .int .i64 (k : Int) ∧ Hid (Below w.heap.size w wr ∧ Blk wr w.heap.size 31 (c64 (upto k (partC c n) c)) ∧ Blk wr (w.heap.size + 1) 31 (four fun _ => .int .i64 0))) (fun i _ => 4 - (intOf i).toNat)
  case atStart =>
    refine ⟨0, by omega, rfl, ((Below.refl _ _).alloc (Nat.le_refl _) _).alloc (by simp) _, ?_, Blk.newAt _ _ _ (by simp)⟩
    rw [upto_none64]
    exact (Blk.new _ _ _).alloc _
  case round =>
    obtain ⟨k, hk, rfl, hw⟩ := hrel
    by_cases hlt : k < 4
    · have hd : decide ((k : Int) < 4) = true := by simp; omega
      have c0 : wr.cell? ⟨w.heap.size, k, none⟩ = some (.int .i64 (c k)) := (hw.out.2.1.ck hlt).trans (by rw [upto_at])
      have f0 := hw.out.2.1.free k
      have lg := hw.out.2.1.lt
      obtain ⟨p0, p1, p2, p3⟩ := prod_in (HC.out k hlt).1 (HC.out k hlt).2 HN.out.1 HN.out.2
      have e1 : wrap64 (c k * n) = c k * n := wrapR _ (by omega) (by omega)
      have HR : Hid (∀ w, Calls Try.prog 32 #[.int .i64 (c k * n), .int .i64 16] w fun e w' => e = .returned (.int .i64 (partC c n k)) ∧ w = w') := fun w => by
        have h := round_any (c k * n) 16 w (by omega) (by omega) (by omega) (by omega) (by omega) (by omega)
        rw [rnd_16] at h
        exact h
      clear p0 p1 p2 p3
      go_wp2_with fail
      refine (HR.out _).mono ?_
      rintro e w' ⟨rfl, rfl⟩
      go_wp2_with fail
      refine ⟨⟨k + 1, by omega, by go_num, hw.out.1.setCell (Nat.le_refl _) _, ?_, hw.out.2.2.other _ _ (by simp)⟩, by simp [intOf]; omega⟩
      rw [← upto_set64 _ _ hlt]
      exact hw.out.2.1.set k _
    · have hd : decide ((k : Int) < 4) = false := by simp; omega
      obtain rfl : k = 4 := by omega
      have hb4 := hw.out.2.1
      rw [upto_full64] at hb4
      have HB4 := Lib.hid hb4
      obtain ⟨c0, c1, c2, c3⟩ := HB4.out.c0
      obtain ⟨z0, z1, z2, z3⟩ := hw.out.2.2.c0
      have f0 := hw.out.2.2.free 0
      have f1 := hw.out.2.2.free 1
      have f2 := hw.out.2.2.free 2
      have f3 := hw.out.2.2.free 3
      have lg := hw.out.2.2.lt
      clear hb4
      go_wp2_with fail
      exact bodyPost_ret (results_col (.inl rfl) 4 rfl rfl (hw.out.2.2.set4 fun i => .int .i64 (partC c n i))) rfl ⟨rfl, below_four4 hw.out.1 (by omega) _ _ _ _⟩
end Go.Proofs.Ytcbldamlfjkppaa
