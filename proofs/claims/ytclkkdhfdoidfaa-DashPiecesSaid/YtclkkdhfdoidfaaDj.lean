/- Layer 9: a fixed answer (awake). -/
import Derived.Test.YtclkkdhfdoidfaaDi
import Derived.Test.YtclkkdhfdoidfaaSb
namespace Go.Proofs.Ytclkkdhfdoidfaa
open Go.RowKit
theorem root100 : lenI (10, 0) = 10 := by
  unfold lenI
  exact rootI_eq ⟨by decide, by decide, by decide, by decide⟩
def sampW : List Pt := [(0, 0), (10, 0)]
theorem samp_way : wayI sampW false = sampW := by decide
theorem samp_len : lenW sampW 0 = 10 := root100
theorem samp_end0 : endsI sampW 0 = 0 := rfl
theorem samp_end1 : endsI sampW 1 = 10 := by
  have h : endsI sampW 1 = endsI sampW 0 + lenW sampW 0 := rfl
  rw [h, samp_len, samp_end0]; rfl
theorem samp_ok : Way sampW := fun i hi => by
  obtain rfl : i = 0 := by have : sampW.length = 2 := rfl; omega
  rw [samp_len]; decide
theorem samp_place (d : Int) (h0 : 0 ≤ d) (h1 : d < 10) : placeI sampW d = onP (0, 0) (10, 0) d 10 := by
  rw [placeI_eq samp_ok (i := 0) (by decide) (by rw [samp_end0]; exact h0) (by rw [samp_end1]; exact h1), samp_len, samp_end0, Int.sub_zero]
  rfl
theorem samp_pieces : piecesI (patS [3, 2] 0) sampW = [[(0, 0), (3, 0)], [(5, 0), (8, 0)]] := by
  have hall : allI sampW = 10 := by
    unfold allI
    rw [show sampW.length - 1 = 1 from rfl, samp_end1]; decide
  rw [piecesI_eq (K := 4) ⟨fun k hk => by rw [hall]; rcases (by omega : k = 0 ∨ k = 1 ∨ k = 2 ∨ k = 3) with rfl | rfl | rfl | rfl <;> decide, by rw [hall]; decide⟩]
  have e0 : wholeI (patS [3, 2] 0) sampW 0 = [(0, 0), (3, 0)] := by
    unfold wholeI firstI
    rw [show sampW.length - 1 = 1 from rfl, show patS [3, 2] 0 (0 + 1) = 3 from rfl, show patS [3, 2] 0 0 = 0 from rfl, samp_end1, samp_place 3 (by decide) (by decide)]
    have e : (List.range 1).filter (fun j => decide ((0 : Int) < endsI sampW (j + 1)) && decide (endsI sampW (j + 1) ≤ 3)) = [] := by
      rw [List.filter_eq_nil_iff]
      intro j hj
      obtain rfl : j = 0 := by have := List.mem_range.1 hj; omega
      rw [show 0 + 1 = 1 from rfl, samp_end1]; decide
    rw [e]
    decide
  have e2 : wholeI (patS [3, 2] 0) sampW 2 = [(5, 0), (8, 0)] := by
    unfold wholeI firstI
    rw [show sampW.length - 1 = 1 from rfl, show patS [3, 2] 0 (2 + 1) = 8 from rfl, show patS [3, 2] 0 2 = 5 from rfl, samp_end1, samp_place 8 (by decide) (by decide), samp_place 5 (by decide) (by decide)]
    have e : (List.range 1).filter (fun j => decide ((5 : Int) < endsI sampW (j + 1)) && decide (endsI sampW (j + 1) ≤ 8)) = [] := by
      rw [List.filter_eq_nil_iff]
      intro j hj
      obtain rfl : j = 0 := by have := List.mem_range.1 hj; omega
      rw [show 0 + 1 = 1 from rfl, samp_end1]; decide
    rw [e]
    decide
  rw [doneI_succ, doneI_succ, doneI_succ, doneI_succ, show doneI (patS [3, 2] 0) sampW 0 = [] from rfl, e0, e2, show drawnB (patS [3, 2] 0) 0 = true by decide, show drawnB (patS [3, 2] 0) 1 = false by decide, show drawnB (patS [3, 2] 0) 2 = true by decide, show drawnB (patS [3, 2] 0) 3 = false by decide]
  rfl
theorem samp_dash : dashO sampW false [3, 2] 0 = (0, [([(0, 0), (3, 0)], false), ([(5, 0), (8, 0)], false)]) := by
  have hw : wayO sampW false = (0, sampW) := by
    unfold wayO toldW
    rw [samp_way, show sampW.all roomP = true by decide, show longB sampW = false by decide]
    rfl
  unfold dashO
  rw [if_pos (by decide), hw, if_pos rfl, samp_way]
  unfold dashW
  rw [if_neg (by decide), if_neg (by decide)]
  unfold piecesO
  rw [samp_pieces]
  rfl
theorem SubsR.at {w : World} {v : Value} {S : List Sb} (h : SubsR w v S) {k : Nat} {x : Sb} (hk : S[k]? = some x) : ∃ g c, v = .slice (some ⟨g, 0, none⟩) S.length c ∧ g < w.heap.size ∧ w.cell? ⟨g, k * 2, none⟩ = some x.v ∧ w.cell? ⟨g, k * 2 + 1, none⟩ = some (.bool x.c) := by
  obtain ⟨e0, e1⟩ := cellsB_at S k x hk
  have hlt := (List.getElem?_eq_some_iff.1 hk).1
  have hr := h.row
  obtain ⟨h1, ⟨_, h0⟩ | ⟨g, cap, cur, rfl, _, hg, _⟩⟩ := h.row
  · omega
  · have hc := hr.cells (g := g) rfl
    have c0 := hc _ _ e0
    have c1 := hc _ _ e1
    rw [Addr.add_lit, Nat.zero_add] at c0 c1
    exact ⟨g, cap, rfl, (Array.getElem?_eq_some_iff.1 hg).1, c0, c1⟩
theorem SubsR.pts {w : World} {v : Value} {S : List Sb} (h : SubsR w v S) {x : Sb} (hx : x ∈ S) : Row w x.v x.L := (h.own x hx).row
set_option maxHeartbeats 4000000 in
set_option maxRecDepth 100000 in
theorem awake_c (w : World) : Calls Try.prog 9 #[] w fun e w' => e = .returned (.bool true) ∧ Below w.heap.size w w' := by
  have HAT := Lib.hid (fun x y W => at_c x y W)
  have HD : Hid (∀ W1 : World, Calls Try.prog 25 #[.agg #[.slice (some ⟨W1.heap.size, 0, none⟩) 2 2, .bool false], .agg #[.slice (some ⟨W1.heap.size + 1, 0, none⟩) 2 2, .int .i64 0]] ((W1.alloc (.cells #[.int .i64 0, .int .i64 0, .int .i64 10, .int .i64 0] 32)).alloc (.cells #[.int .i64 3, .int .i64 2] 3)) fun e w' => ∃ (q qc h hc : Nat), e = .returned (.tuple #[.slice (some ⟨q, 0, none⟩) 2 qc, .int .i64 0]) ∧ (q < w'.heap.size ∧ h < w'.heap.size) ∧ w'.cell? ⟨q, 2, none⟩ = some (.slice (some ⟨h, 0, none⟩) 2 hc) ∧ (w'.cell? ⟨h, 0, none⟩ = some (.int .i64 5) ∧ w'.cell? ⟨h, 1, none⟩ = some (.int .i64 0)) ∧ (w'.cell? ⟨h, 2, none⟩ = some (.int .i64 8) ∧ w'.cell? ⟨h, 3, none⟩ = some (.int .i64 0)) ∧ Below W1.heap.size W1 w') := fun W1 => by
    have hb1 : Below W1.heap.size W1 (W1.alloc (.cells #[.int .i64 0, .int .i64 0, .int .i64 10, .int .i64 0] 32)) := (Below.refl _ _).alloc (Nat.le_refl _) _
    have hr1 : Row (W1.alloc (.cells #[.int .i64 0, .int .i64 0, .int .i64 10, .int .i64 0] 32)) (.slice (some ⟨W1.heap.size, 0, none⟩) 2 2) sampW := Row.new W1 sampW _ _ 2 rfl rfl
    have hr2 := hr1.on ((Below.refl _ (W1.alloc (.cells #[.int .i64 0, .int .i64 0, .int .i64 10, .int .i64 0] 32))).alloc (Nat.le_refl _) (.cells #[.int .i64 3, .int .i64 2] 3))
    have hk : Blk ((W1.alloc (.cells #[.int .i64 0, .int .i64 0, .int .i64 10, .int .i64 0] 32)).alloc (.cells #[.int .i64 3, .int .i64 2] 3)) (W1.heap.size + 1) 3 #[.int .i64 3, .int .i64 2] := Blk.newAt _ _ _ (by simp)
    have hi : RowI ((W1.alloc (.cells #[.int .i64 0, .int .i64 0, .int .i64 10, .int .i64 0] 32)).alloc (.cells #[.int .i64 3, .int .i64 2] 3)) (.slice (some ⟨W1.heap.size + 1, 0, none⟩) 2 2) [3, 2] :=
      .inr (.inr ⟨_, _, _, rfl, hk.lt, fun i x hx => by
        rw [Nat.zero_add, hk.cell i]
        simpa using hx⟩)
    refine (dash_c _ _ sampW false [3, 2] 0 _ hr2 (by decide) hi (by decide)).mono ?_
    rw [samp_dash]
    rintro e w' ⟨v, S, rfl, hs, hm, hb⟩
    have hl : S.length = 2 := by have := congrArg List.length hm; simpa using this
    obtain ⟨x1, hx1⟩ : ∃ x, S[1]? = some x := ⟨_, List.getElem?_eq_getElem (by omega)⟩
    have hp : x1.plain = ([(5, 0), (8, 0)], false) := by
      have h := congrArg (fun l => l[1]?) hm
      simp only [List.getElem?_map, hx1] at h
      simpa using h
    have hL : x1.L = [(5, 0), (8, 0)] := congrArg Prod.fst hp
    obtain ⟨q, qc, rfl, hq, c0, _⟩ := hs.at hx1
    have ho := hs.own x1 (List.mem_of_getElem? hx1)
    rw [hL] at ho
    rcases own_some ho with ⟨_, e⟩ | ⟨h, hc, e⟩
    · cases e
    · rw [e] at c0 ho
      have p0 := ho.pts rfl (k := 0) (p := (5, 0)) rfl
      have p1 := ho.pts rfl (k := 1) (p := (8, 0)) rfl
      rw [hl]
      exact ⟨q, qc, h, hc, rfl, ⟨hq, (own_cap ho).2.2.1⟩, c0, p0, p1, hb1.trans (((Below.refl _ _).alloc (by simp) _).trans (hb.mono (by simp; omega)))⟩
  go_enter Try.func9, Try.ntmps9
  go_wp2_with fail
  refine (HAT.out 0 0 _).mono ?_
  rintro e w1 ⟨rfl, hb⟩
  have B1 := Lib.hid hb
  clear hb
  go_wp2_with fail
  refine (HAT.out 10 0 _).mono ?_
  rintro e w2 ⟨rfl, hb⟩
  have B2 : Hid (Below w.heap.size w w2) := B1.out.trans (hb.mono B1.out.size)
  clear hb
  go_wp2_with fail
  refine (HD.out w2).mono ?_
  rintro e w3 ⟨q, qc, h, hc, rfl, hlt, c2, ⟨p0, p1⟩, ⟨p2, p3⟩, hb⟩
  have B3 : Hid (Below w.heap.size w w3) := B2.out.trans (hb.mono B2.out.size)
  have HLT := Lib.hid hlt
  have HC2 := Lib.hid c2
  have HP0 := Lib.hid p0
  have HP1 := Lib.hid p1
  have HP2 := Lib.hid p2
  have HP3 := Lib.hid p3
  clear hb hlt c2 p0 p1 p2 p3
  go_wp2_with fail
  refine wp_region_quiet (C := Out w3) (by kernel_rfl) (by kernel_rfl) ⟨rfl, rfl, rfl, Nat.le_refl _, fun _ _ => rfl⟩ ?_
  refine BigFrame.wpQuiet_want rfl (fun K hK => ?_)
  refine quiet_val (.int .i64 0) (fun w' hw' => by go_simp) (hK _ ?_)
  clear hK K
  simp only [Act.put, List.setIfInBounds_toArray, List.set_cons_zero, List.set_cons_succ]
  refine BigFrame.wpQuiet_want rfl (fun K hK => ?_)
  refine quiet_val (.bool true) (fun w' hw' => by go_simp) (hK _ ?_)
  clear hK K
  simp only [Act.put, List.setIfInBounds_toArray, List.set_cons_zero, List.set_cons_succ]
  refine BigFrame.wpQuiet_want rfl (fun K hK => ?_)
  refine quiet_val (.bool true) (fun w' hw' => by go_simp) (hK _ ?_)
  clear hK K
  simp only [Act.put, List.setIfInBounds_toArray, List.set_cons_zero, List.set_cons_succ]
  refine BigFrame.wpQuiet_want rfl (fun K hK => ?_)
  refine quiet_val (.slice (some ⟨q, 0, none⟩) 2 qc) (fun w' hw' => by go_simp) (hK _ ?_)
  clear hK K
  simp only [Act.put, List.setIfInBounds_toArray, List.set_cons_zero, List.set_cons_succ]
  refine BigFrame.wpQuiet_want rfl (fun K hK => ?_)
  refine quiet_val (.int .i64 2) (fun w' hw' => by go_simp) (hK _ ?_)
  clear hK K
  simp only [Act.put, List.setIfInBounds_toArray, List.set_cons_zero, List.set_cons_succ]
  refine BigFrame.wpQuiet_want rfl (fun K hK => ?_)
  refine quiet_val (.bool true) (fun w' hw' => by go_simp) (hK _ ?_)
  clear hK K
  simp only [Act.put, List.setIfInBounds_toArray, List.set_cons_zero, List.set_cons_succ]
  refine BigFrame.wpQuiet_want rfl (fun K hK => ?_)
  refine quiet_val (.bool true) (fun w' hw' => by go_simp) (hK _ ?_)
  clear hK K
  simp only [Act.put, List.setIfInBounds_toArray, List.set_cons_zero, List.set_cons_succ]
  refine BigFrame.wpQuiet_want rfl (fun K hK => ?_)
  refine quiet_val (.bool true) (fun w' hw' => by go_simp) (hK _ ?_)
  clear hK K
  simp only [Act.put, List.setIfInBounds_toArray, List.set_cons_zero, List.set_cons_succ]
  refine BigFrame.wpQuiet_want rfl (fun K hK => ?_)
  refine quiet_val (.slice (some ⟨q, 0, none⟩) 2 qc) (fun w' hw' => by go_simp) (hK _ ?_)
  clear hK K
  simp only [Act.put, List.setIfInBounds_toArray, List.set_cons_zero, List.set_cons_succ]
  refine BigFrame.wpQuiet_want rfl (fun K hK => ?_)
  refine quiet_val (.pointer (some ⟨q, 2, none⟩)) (fun w' hw' => by go_simp) (hK _ ?_)
  clear hK K
  simp only [Act.put, List.setIfInBounds_toArray, List.set_cons_zero, List.set_cons_succ]
  refine BigFrame.wpQuiet_want rfl (fun K hK => ?_)
  refine quiet_val (.pointer (some ⟨q, 2, none⟩)) (fun w' hw' => by go_simp) (hK _ ?_)
  clear hK K
  simp only [Act.put, List.setIfInBounds_toArray, List.set_cons_zero, List.set_cons_succ]
  refine BigFrame.wpQuiet_want rfl (fun K hK => ?_)
  refine quiet_val (.slice (some ⟨h, 0, none⟩) 2 hc) (fun w' hw' => by have c0 := (cell_below hw' HLT.out.1).trans HC2.out; go_simp) (hK _ ?_)
  clear hK K
  simp only [Act.put, List.setIfInBounds_toArray, List.set_cons_zero, List.set_cons_succ]
  refine BigFrame.wpQuiet_want rfl (fun K hK => ?_)
  refine quiet_val (.int .i64 2) (fun w' hw' => by go_simp) (hK _ ?_)
  clear hK K
  simp only [Act.put, List.setIfInBounds_toArray, List.set_cons_zero, List.set_cons_succ]
  refine BigFrame.wpQuiet_want rfl (fun K hK => ?_)
  refine quiet_val (.bool true) (fun w' hw' => by go_simp) (hK _ ?_)
  clear hK K
  simp only [Act.put, List.setIfInBounds_toArray, List.set_cons_zero, List.set_cons_succ]
  refine BigFrame.wpQuiet_want rfl (fun K hK => ?_)
  refine quiet_val (.bool true) (fun w' hw' => by go_simp) (hK _ ?_)
  clear hK K
  simp only [Act.put, List.setIfInBounds_toArray, List.set_cons_zero, List.set_cons_succ]
  refine BigFrame.wpQuiet_want rfl (fun K hK => ?_)
  refine quiet_val (.bool true) (fun w' hw' => by go_simp) (hK _ ?_)
  clear hK K
  simp only [Act.put, List.setIfInBounds_toArray, List.set_cons_zero, List.set_cons_succ]
  refine BigFrame.wpQuiet_want rfl (fun K hK => ?_)
  refine quiet_val (.slice (some ⟨q, 0, none⟩) 2 qc) (fun w' hw' => by go_simp) (hK _ ?_)
  clear hK K
  simp only [Act.put, List.setIfInBounds_toArray, List.set_cons_zero, List.set_cons_succ]
  refine BigFrame.wpQuiet_want rfl (fun K hK => ?_)
  refine quiet_val (.pointer (some ⟨q, 2, none⟩)) (fun w' hw' => by go_simp) (hK _ ?_)
  clear hK K
  simp only [Act.put, List.setIfInBounds_toArray, List.set_cons_zero, List.set_cons_succ]
  refine BigFrame.wpQuiet_want rfl (fun K hK => ?_)
  refine quiet_val (.pointer (some ⟨q, 2, none⟩)) (fun w' hw' => by go_simp) (hK _ ?_)
  clear hK K
  simp only [Act.put, List.setIfInBounds_toArray, List.set_cons_zero, List.set_cons_succ]
  refine BigFrame.wpQuiet_want rfl (fun K hK => ?_)
  refine quiet_val (.slice (some ⟨h, 0, none⟩) 2 hc) (fun w' hw' => by have c0 := (cell_below hw' HLT.out.1).trans HC2.out; go_simp) (hK _ ?_)
  clear hK K
  simp only [Act.put, List.setIfInBounds_toArray, List.set_cons_zero, List.set_cons_succ]
  refine BigFrame.wpQuiet_want rfl (fun K hK => ?_)
  refine quiet_val (.pointer (some ⟨h, 0, none⟩)) (fun w' hw' => by go_simp) (hK _ ?_)
  clear hK K
  simp only [Act.put, List.setIfInBounds_toArray, List.set_cons_zero, List.set_cons_succ]
  refine BigFrame.wpQuiet_want rfl (fun K hK => ?_)
  refine quiet_val (.agg #[.int .i64 5, .int .i64 0]) (fun w' hw' => by have c0 := (cell_below hw' HLT.out.2).trans HP0.out; have c1 := (cell_below hw' HLT.out.2).trans HP1.out; go_simp) (hK _ ?_)
  clear hK K
  simp only [Act.put, List.setIfInBounds_toArray, List.set_cons_zero, List.set_cons_succ]
  refine BigFrame.wpQuiet_want rfl (fun K hK => ?_)
  refine quiet_call 31 #[.int .i64 5, .int .i64 0] (.agg #[.int .i64 5, .int .i64 0]) (fun w' _ => by go_simp) (fun w' hw' => Calls.out hw' (HAT.out 5 0 w')) (hK _ ?_)
  clear hK K
  simp only [Act.put, List.setIfInBounds_toArray, List.set_cons_zero, List.set_cons_succ]
  refine BigFrame.wpQuiet_want rfl (fun K hK => ?_)
  refine quiet_val (.bool true) (fun w' hw' => by go_simp) (hK _ ?_)
  clear hK K
  simp only [Act.put, List.setIfInBounds_toArray, List.set_cons_zero, List.set_cons_succ]
  refine BigFrame.wpQuiet_want rfl (fun K hK => ?_)
  refine quiet_val (.bool true) (fun w' hw' => by go_simp) (hK _ ?_)
  clear hK K
  simp only [Act.put, List.setIfInBounds_toArray, List.set_cons_zero, List.set_cons_succ]
  refine BigFrame.wpQuiet_want rfl (fun K hK => ?_)
  refine quiet_val (.bool true) (fun w' hw' => by go_simp) (hK _ ?_)
  clear hK K
  simp only [Act.put, List.setIfInBounds_toArray, List.set_cons_zero, List.set_cons_succ]
  refine BigFrame.wpQuiet_want rfl (fun K hK => ?_)
  refine quiet_val (.slice (some ⟨q, 0, none⟩) 2 qc) (fun w' hw' => by go_simp) (hK _ ?_)
  clear hK K
  simp only [Act.put, List.setIfInBounds_toArray, List.set_cons_zero, List.set_cons_succ]
  refine BigFrame.wpQuiet_want rfl (fun K hK => ?_)
  refine quiet_val (.pointer (some ⟨q, 2, none⟩)) (fun w' hw' => by go_simp) (hK _ ?_)
  clear hK K
  simp only [Act.put, List.setIfInBounds_toArray, List.set_cons_zero, List.set_cons_succ]
  refine BigFrame.wpQuiet_want rfl (fun K hK => ?_)
  refine quiet_val (.pointer (some ⟨q, 2, none⟩)) (fun w' hw' => by go_simp) (hK _ ?_)
  clear hK K
  simp only [Act.put, List.setIfInBounds_toArray, List.set_cons_zero, List.set_cons_succ]
  refine BigFrame.wpQuiet_want rfl (fun K hK => ?_)
  refine quiet_val (.slice (some ⟨h, 0, none⟩) 2 hc) (fun w' hw' => by have c0 := (cell_below hw' HLT.out.1).trans HC2.out; go_simp) (hK _ ?_)
  clear hK K
  simp only [Act.put, List.setIfInBounds_toArray, List.set_cons_zero, List.set_cons_succ]
  refine BigFrame.wpQuiet_want rfl (fun K hK => ?_)
  refine quiet_val (.pointer (some ⟨h, 2, none⟩)) (fun w' hw' => by go_simp) (hK _ ?_)
  clear hK K
  simp only [Act.put, List.setIfInBounds_toArray, List.set_cons_zero, List.set_cons_succ]
  refine BigFrame.wpQuiet_want rfl (fun K hK => ?_)
  refine quiet_val (.agg #[.int .i64 8, .int .i64 0]) (fun w' hw' => by have c0 := (cell_below hw' HLT.out.2).trans HP2.out; have c1 := (cell_below hw' HLT.out.2).trans HP3.out; go_simp) (hK _ ?_)
  clear hK K
  simp only [Act.put, List.setIfInBounds_toArray, List.set_cons_zero, List.set_cons_succ]
  refine BigFrame.wpQuiet_want rfl (fun K hK => ?_)
  refine quiet_call 31 #[.int .i64 8, .int .i64 0] (.agg #[.int .i64 8, .int .i64 0]) (fun w' _ => by go_simp) (fun w' hw' => Calls.out hw' (HAT.out 8 0 w')) (hK _ ?_)
  clear hK K
  simp only [Act.put, List.setIfInBounds_toArray, List.set_cons_zero, List.set_cons_succ]
  refine BigFrame.wpQuiet_want rfl (fun K hK => ?_)
  refine quiet_val (.bool true) (fun w' hw' => by go_simp) (hK _ ?_)
  clear hK K
  simp only [Act.put, List.setIfInBounds_toArray, List.set_cons_zero, List.set_cons_succ]
  refine BigFrame.wpQuiet_want rfl (fun K hK => ?_)
  refine quiet_val (.bool true) (fun w' hw' => by go_simp) (hK _ ?_)
  clear hK K
  simp only [Act.put, List.setIfInBounds_toArray, List.set_cons_zero, List.set_cons_succ]
  refine BigFrame.wpQuiet_want rfl (fun K hK => ?_)
  refine quiet_val (.bool true) (fun w' hw' => by go_simp) (hK _ ?_)
  clear hK K
  simp only [Act.put, List.setIfInBounds_toArray, List.set_cons_zero]
  refine wpQuiet_nil ?_
  intro w4 hb
  have B4 : Hid (Below w.heap.size w w4) := B3.out.trans (hb.mono B3.out.size)
  clear hb
  go_wp2_with fail
  go_ret
  exact ⟨rfl, B4.out⟩
end Go.Proofs.Ytclkkdhfdoidfaa
