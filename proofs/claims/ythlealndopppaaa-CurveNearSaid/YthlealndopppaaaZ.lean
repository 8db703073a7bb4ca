/- Layer 5: the fixed answers. -/
import Derived.Test.YthlealndopppaaaU
import Derived.Test.YthlealndopppaaaV
import Derived.Test.YthlealndopppaaaG
namespace Go.Proofs.Ythlealndopppaaa
open Go.RowKit
theorem PtsAt.at0 {w : World} {b : Nat} {l : List Pt} (h : PtsAt w b 0 l) {i : Nat} {p : Pt} (hi : l[i]? = some p) : w.cell? ⟨b, i * 2, none⟩ = some (.int .i64 p.1) ∧ w.cell? ⟨b, i * 2 + 1, none⟩ = some (.int .i64 p.2) := by
  have := h i p hi
  simpa using this
set_option maxHeartbeats 2000000 in
set_option maxRecDepth 100000 in
theorem awake_walk (w : World)
    (HF : Hid (∀ u w', Row w' u [(0, 0), (4, 8), (8, 0)] → Calls Try.prog 17 #[u, .int .i64 1] w' fun e w'' => ∃ r, e = .returned (.tuple #[r, .int .i64 0]) ∧ Own w'' w'.heap.size 34 r [(4, 4), (8, 0)] ∧ Below w'.heap.size w' w'')) :
    Calls Try.prog 9 #[] w fun e w' => e = .returned (.bool true) ∧ Below w.heap.size w w' := by
  have HA := Lib.hid at_c
  go_enter Try.func9, Try.ntmps9
  go_wp2_with fail
  refine (HA.out _ _ _).mono ?_
  rintro e w1 ⟨rfl, hb1⟩
  go_wp2_with fail
  refine (HA.out _ _ _).mono ?_
  rintro e w2 ⟨rfl, hb2⟩
  go_wp2_with fail
  refine (HA.out _ _ _).mono ?_
  rintro e w3 ⟨rfl, hb3⟩
  have B3 : Hid (Below w.heap.size w w3) := below_next (below_next hb1 hb2) hb3
  clear hb1 hb2 hb3
  have R3 : Hid (Row (w3.alloc (.cells #[.int .i64 0, .int .i64 0, .int .i64 4, .int .i64 8, .int .i64 8, .int .i64 0] 34)) (.slice (some ⟨w3.heap.size, 0, none⟩) 3 3) [(0, 0), (4, 8), (8, 0)]) := Row.new w3 [(0, 0), (4, 8), (8, 0)] 34 _ 3 rfl rfl
  go_wp2_with fail
  refine (HF.out _ _ R3.out).mono ?_
  rintro e W ⟨r, rfl, hor, hb⟩
  have BW : Hid (Below w.heap.size w W) := B3.out.trans ((((Below.refl _ _).alloc (Nat.le_refl _) _).trans (hb.mono (by simp))).mono B3.out.size)
  obtain ⟨g, c, rfl, hg1, hg2⟩ : ∃ g c, r = .slice (some ⟨g, 0, none⟩) 2 c ∧ g < W.heap.size ∧ PtsAt W g 0 [(4, 4), (8, 0)] := by
    obtain ⟨_, ⟨_, h⟩ | ⟨g, cap, cur, e, _, hg, _⟩⟩ := id hor
    · simp at h
    · refine ⟨g, cap, e, (Array.getElem?_eq_some_iff.1 hg).1, ?_⟩
      have hr := hor.row
      rw [e] at hr
      obtain ⟨b, o, e2, _, hp⟩ := hr.addr (k := 0) (by simp)
      simp at e2
      obtain ⟨rfl, rfl⟩ := e2
      exact hp
  have HV : Hid (∀ w', Out W w' → w'.cell? ⟨g, 0, none⟩ = some (.int .i64 4) ∧ w'.cell? ⟨g, 1, none⟩ = some (.int .i64 4) ∧ w'.cell? ⟨g, 2, none⟩ = some (.int .i64 8) ∧ w'.cell? ⟨g, 3, none⟩ = some (.int .i64 0)) := fun w' hw' => by
    have h := hg2.on hw' hg1
    exact ⟨(h.at0 (i := 0) rfl).1, (h.at0 (i := 0) rfl).2, (h.at0 (i := 1) rfl).1, (h.at0 (i := 1) rfl).2⟩
  clear hor hb hg1 hg2 R3
  go_wp2_with fail
  refine wp_region_quiet (C := Out W) (by kernel_rfl) (by kernel_rfl) ⟨rfl, rfl, rfl, Nat.le_refl _, fun _ _ => rfl⟩ ?_
  refine BigFrame.wpQuiet_want rfl (fun K hK => ?_)
  refine quiet_val (.int .i64 0) (fun w' hw' => by go_simp) (hK _ ?_)
  clear hK K
  simp only [Act.put, List.setIfInBounds_toArray, List.set_cons_zero, List.set_cons_succ]
  refine BigFrame.wpQuiet_want rfl (fun K hK => ?_)
  refine quiet_val (.bool true) (fun w' hw' => by go_simp) (hK _ ?_)
  clear hK K
  simp only [Act.put, List.setIfInBounds_toArray, List.set_cons_zero, List.set_cons_succ]
  refine BigFrame.wpQuiet_want rfl (fun K hK => ?_)
  refine quiet_val (.bool true) (fun w' hw' => by go_simp) (hK _ ?_)
  clear hK K
  simp only [Act.put, List.setIfInBounds_toArray, List.set_cons_zero, List.set_cons_succ]
  refine BigFrame.wpQuiet_want rfl (fun K hK => ?_)
  refine quiet_val (.slice (some ⟨g, 0, none⟩) 2 c) (fun w' hw' => by go_simp) (hK _ ?_)
  clear hK K
  simp only [Act.put, List.setIfInBounds_toArray, List.set_cons_zero, List.set_cons_succ]
  refine BigFrame.wpQuiet_want rfl (fun K hK => ?_)
  refine quiet_val (.int .i64 2) (fun w' hw' => by go_simp) (hK _ ?_)
  clear hK K
  simp only [Act.put, List.setIfInBounds_toArray, List.set_cons_zero, List.set_cons_succ]
  refine BigFrame.wpQuiet_want rfl (fun K hK => ?_)
  refine quiet_val (.bool true) (fun w' hw' => by go_simp) (hK _ ?_)
  clear hK K
  simp only [Act.put, List.setIfInBounds_toArray, List.set_cons_zero, List.set_cons_succ]
  refine BigFrame.wpQuiet_want rfl (fun K hK => ?_)
  refine quiet_val (.bool true) (fun w' hw' => by go_simp) (hK _ ?_)
  clear hK K
  simp only [Act.put, List.setIfInBounds_toArray, List.set_cons_zero, List.set_cons_succ]
  refine BigFrame.wpQuiet_want rfl (fun K hK => ?_)
  refine quiet_val (.bool true) (fun w' hw' => by go_simp) (hK _ ?_)
  clear hK K
  simp only [Act.put, List.setIfInBounds_toArray, List.set_cons_zero, List.set_cons_succ]
  refine BigFrame.wpQuiet_want rfl (fun K hK => ?_)
  refine quiet_val (.slice (some ⟨g, 0, none⟩) 2 c) (fun w' hw' => by go_simp) (hK _ ?_)
  clear hK K
  simp only [Act.put, List.setIfInBounds_toArray, List.set_cons_zero, List.set_cons_succ]
  refine BigFrame.wpQuiet_want rfl (fun K hK => ?_)
  refine quiet_val (.pointer (some ⟨g, 0, none⟩)) (fun w' hw' => by go_simp) (hK _ ?_)
  clear hK K
  simp only [Act.put, List.setIfInBounds_toArray, List.set_cons_zero, List.set_cons_succ]
  refine BigFrame.wpQuiet_want rfl (fun K hK => ?_)
  refine quiet_val (.agg #[.int .i64 4, .int .i64 4]) (fun w' hw' => by obtain ⟨c0, c1, c2, c3⟩ := HV.out w' hw'; go_simp) (hK _ ?_)
  clear hK K
  simp only [Act.put, List.setIfInBounds_toArray, List.set_cons_zero, List.set_cons_succ]
  refine BigFrame.wpQuiet_want rfl (fun K hK => ?_)
  refine quiet_call 23 #[.int .i64 4, .int .i64 4] (.agg #[.int .i64 4, .int .i64 4]) (fun w' _ => by go_simp) (fun w' hw' => Calls.out hw' (HA.out _ _ _)) (hK _ ?_)
  clear hK K
  simp only [Act.put, List.setIfInBounds_toArray, List.set_cons_zero, List.set_cons_succ]
  refine BigFrame.wpQuiet_want rfl (fun K hK => ?_)
  refine quiet_val (.bool true) (fun w' hw' => by go_simp) (hK _ ?_)
  clear hK K
  simp only [Act.put, List.setIfInBounds_toArray, List.set_cons_zero, List.set_cons_succ]
  refine BigFrame.wpQuiet_want rfl (fun K hK => ?_)
  refine quiet_val (.bool true) (fun w' hw' => by go_simp) (hK _ ?_)
  clear hK K
  simp only [Act.put, List.setIfInBounds_toArray, List.set_cons_zero, List.set_cons_succ]
  refine BigFrame.wpQuiet_want rfl (fun K hK => ?_)
  refine quiet_val (.bool true) (fun w' hw' => by go_simp) (hK _ ?_)
  clear hK K
  simp only [Act.put, List.setIfInBounds_toArray, List.set_cons_zero, List.set_cons_succ]
  refine BigFrame.wpQuiet_want rfl (fun K hK => ?_)
  refine quiet_val (.slice (some ⟨g, 0, none⟩) 2 c) (fun w' hw' => by go_simp) (hK _ ?_)
  clear hK K
  simp only [Act.put, List.setIfInBounds_toArray, List.set_cons_zero, List.set_cons_succ]
  refine BigFrame.wpQuiet_want rfl (fun K hK => ?_)
  refine quiet_val (.pointer (some ⟨g, 2, none⟩)) (fun w' hw' => by go_simp) (hK _ ?_)
  clear hK K
  simp only [Act.put, List.setIfInBounds_toArray, List.set_cons_zero, List.set_cons_succ]
  refine BigFrame.wpQuiet_want rfl (fun K hK => ?_)
  refine quiet_val (.agg #[.int .i64 8, .int .i64 0]) (fun w' hw' => by obtain ⟨c0, c1, c2, c3⟩ := HV.out w' hw'; go_simp) (hK _ ?_)
  clear hK K
  simp only [Act.put, List.setIfInBounds_toArray, List.set_cons_zero, List.set_cons_succ]
  refine BigFrame.wpQuiet_want rfl (fun K hK => ?_)
  refine quiet_call 23 #[.int .i64 8, .int .i64 0] (.agg #[.int .i64 8, .int .i64 0]) (fun w' _ => by go_simp) (fun w' hw' => Calls.out hw' (HA.out _ _ _)) (hK _ ?_)
  clear hK K
  simp only [Act.put, List.setIfInBounds_toArray, List.set_cons_zero, List.set_cons_succ]
  refine BigFrame.wpQuiet_want rfl (fun K hK => ?_)
  refine quiet_val (.bool true) (fun w' hw' => by go_simp) (hK _ ?_)
  clear hK K
  simp only [Act.put, List.setIfInBounds_toArray, List.set_cons_zero, List.set_cons_succ]
  refine BigFrame.wpQuiet_want rfl (fun K hK => ?_)
  refine quiet_val (.bool true) (fun w' hw' => by go_simp) (hK _ ?_)
  clear hK K
  simp only [Act.put, List.setIfInBounds_toArray, List.set_cons_zero, List.set_cons_succ]
  refine BigFrame.wpQuiet_want rfl (fun K hK => ?_)
  refine quiet_val (.bool true) (fun w' hw' => by go_simp) (hK _ ?_)
  clear hK K
  simp only [Act.put, List.setIfInBounds_toArray, List.set_cons_zero]
  refine wpQuiet_nil ?_
  intro w5 hb
  have B5 : Hid (Below w.heap.size w w5) := BW.out.trans (hb.mono BW.out.size)
  clear hb
  go_wp2_with fail
  go_ret
  exact ⟨rfl, B5.out⟩
theorem awake_c (w : World) : Calls Try.prog 9 #[] w fun e w' => e = .returned (.bool true) ∧ Below w.heap.size w w' :=
  awake_walk w (Lib.hid fun u w' hr => flat_c u _ 1 w' hr (by decide) (by decide))
end Go.Proofs.Ythlealndopppaaa
