/- Layer 6: the points of a segment, its end, a curve's points. -/
import Derived.Test.YtffgpikhahpomaaDoorSf
import Derived.Test.YtffgpikhahpomaaDoorW
namespace Go.Proofs.YtffgpikhahpomaaDoor
open Go.RowKit
def needPts (s : Sg) : List Pt := s.pts.take (needI s.k)
def endI (s : Sg) : Pt := s.pts.getD (needI s.k - 1) (0, 0)
set_option maxHeartbeats 1000000 in
theorem points_c (s : Sg) (w : World) (hr : Rd w) : Calls Tryd.prog 53 #[.agg (seven s.k s.p s.q s.r)] w fun e w' => e = .returned (.slice (some ⟨w.heap.size, 1, none⟩) (needI s.k) 3) ∧ w.alloc (.cells s.cells 48) = w' := by
  have HN := Lib.hid (need_c s.k)
  have HR := Lib.hid hr
  have S2 := fun w g o => slice_to w g o (needI s.k) (needI_le s.k)
  obtain ⟨n, hn⟩ : ∃ n, needI s.k = n := ⟨_, rfl⟩
  rw [hn] at HN S2 ⊢
  clear hn hr
  go_enter Tryd.func53, Tryd.ntmps53
  go_wp2_with fail
  refine (HN.out _ (HR.out.on ?_)).mono ?_
  · go_grown
  rintro e w' ⟨rfl, rfl⟩
  go_wp2_with fail
  go_ret
  exact ⟨rfl, rfl⟩
theorem points_row (s : Sg) (w : World) : Row (w.alloc (.cells s.cells 48)) (.slice (some ⟨w.heap.size, 1, none⟩) (needI s.k) 3) (needPts s) := by
  have h := seven_pts (Blk.new w 48 s.cells)
  refine .inr (.inr ⟨_, 1, 3, ?_, by simp, h.take⟩)
  unfold needPts
  have := needI_le s.k
  rw [List.length_take, show s.pts.length = 3 from rfl, Nat.min_eq_left this]
set_option maxHeartbeats 1000000 in
theorem end_c2 (s : Sg) (w : World) (hr : Rd w) (h1 : 1 ≤ needI s.k) : Calls Tryd.prog 44 #[.agg (seven s.k s.p s.q s.r)] w fun e w' => e = .returned (.agg (two (endI s))) ∧ Below w.heap.size w w' := by
  have HN := Lib.hid (need_c s.k)
  have HR := Lib.hid hr
  have h3 := needI_le s.k
  clear hr
  rcases (by omega : needI s.k = 1 ∨ needI s.k = 2 ∨ needI s.k = 3) with hn | hn | hn
  · have e : endI s = s.p := by simp [endI, hn, Sg.pts]
    rw [e]
    rw [hn] at HN
    clear hn h1 h3 e
    go_enter Tryd.func44, Tryd.ntmps44
    go_wp2_with fail
    refine (HN.out _ (HR.out.on ?_)).mono ?_
    · go_grown
    rintro e w' ⟨rfl, rfl⟩
    go_wp2_with fail
    go_returns
    exact ⟨rfl, by go_grown⟩
  · have e : endI s = s.q := by simp [endI, hn, Sg.pts]
    rw [e]
    rw [hn] at HN
    clear hn h1 h3 e
    go_enter Tryd.func44, Tryd.ntmps44
    go_wp2_with fail
    refine (HN.out _ (HR.out.on ?_)).mono ?_
    · go_grown
    rintro e w' ⟨rfl, rfl⟩
    go_wp2_with fail
    go_returns
    exact ⟨rfl, by go_grown⟩
  · have e : endI s = s.r := by simp [endI, hn, Sg.pts]
    rw [e]
    rw [hn] at HN
    clear hn h1 h3 e
    go_enter Tryd.func44, Tryd.ntmps44
    go_wp2_with fail
    refine (HN.out _ (HR.out.on ?_)).mono ?_
    · go_grown
    rintro e w' ⟨rfl, rfl⟩
    go_wp2_with fail
    go_returns
    exact ⟨rfl, by go_grown⟩
theorem owns_base {w : World} {base base' size n : Nat} {t : TypeId} {v : Value} {xs : List Value} (h : w.ownsRow base t size v n xs) (hb : base' ≤ base) : w.ownsRow base' t size v n xs := by
  unfold World.ownsRow at *
  obtain ⟨h1, h2 | ⟨g, cap, cur, e1, e2, h3⟩⟩ := h
  · exact ⟨h1, .inl h2⟩
  · exact ⟨h1, .inr ⟨g, cap, cur, e1, Nat.le_trans hb e2, h3⟩⟩
/-- What holds in the region of curve. -/
def CurM (w0 : World) (f : Pt) (s : Sg) (b : Nat → Bool) (vs : Nat → Value) (w : World) : Prop :=
  Below w0.heap.size w0 w ∧ (b 1 = true → b 4 = false → Own w w0.heap.size 44 (vs 1) [f]) ∧ (b 3 = true → b 4 = false → Row w (vs 3) (needPts s)) ∧ (b 4 = true → Own w w0.heap.size 44 (vs 4) (f :: needPts s))
section
variable {w0 w w' : World} {f : Pt} {s : Sg} {b : Nat → Bool} {vs : Nat → Value}
theorem CurM.other (h : CurM w0 f s b vs w) (i : Nat) (v : Value) (h1 : 1 ≠ i) (h3 : 3 ≠ i) (h4 : 4 ≠ i) : CurM w0 f s (upd b i true) (upd vs i v) w := by
  unfold CurM
  rw [upd_other _ _ _ _ h1, upd_other _ _ _ _ h3, upd_other _ _ _ _ h4, upd_other _ _ _ _ h1, upd_other _ _ _ _ h3, upd_other _ _ _ _ h4]
  exact h
theorem CurM.made (h : CurM w0 f s b vs w) (h4 : b 4 = false) (v : Value) (ho : Own w' w0.heap.size 44 v [f]) (hb : Below w.heap.size w w') : CurM w0 f s (upd b 1 true) (upd vs 1 v) w' := by
  refine ⟨below_next h.1 hb, fun _ _ => ho, fun h3 _ => (h.2.2.1 h3 h4).on hb, fun h5 => ?_⟩
  rw [upd_other _ _ _ _ (by decide), h4] at h5; cases h5
theorem CurM.pts (h : CurM w0 f s b vs w) (h4 : b 4 = false) (v : Value) (ho : Row w' v (needPts s)) (hb : Below w.heap.size w w') : CurM w0 f s (upd b 3 true) (upd vs 3 v) w' := by
  refine ⟨below_next h.1 hb, fun h1 _ => (h.2.1 h1 h4).grow hb, fun _ _ => ho, fun h5 => ?_⟩
  rw [upd_other _ _ _ _ (by decide), h4] at h5; cases h5
theorem CurM.app (h : CurM w0 f s b vs w) (v : Value) (ho : Own w' w0.heap.size 44 v (f :: needPts s)) (hb : Below w0.heap.size w0 w') : CurM w0 f s (upd b 4 true) (upd vs 4 v) w' := by
  have _ := h
  refine ⟨hb, fun _ h5 => ?_, fun _ h5 => ?_, fun _ => ho⟩
  · rw [upd_same] at h5; cases h5
  · rw [upd_same] at h5; cases h5
end
theorem needPts_len (s : Sg) : (needPts s).length ≤ 3 := by unfold needPts; simp [Sg.pts]; omega
set_option maxHeartbeats 2000000 in
set_option maxRecDepth 100000 in
theorem curve_c (s : Sg) (x y : Int) (w : World) (hr : Rd w) : Calls Tryd.prog 56 #[.agg (seven s.k s.p s.q s.r), .agg #[.int .i64 x, .int .i64 y]] w fun e w' => ∃ v, e = .returned v ∧ Own w' w.heap.size 44 v ((x, y) :: needPts s) ∧ Below w.heap.size w w' := by
  have HP := Lib.hid (fun w => points_c s w)
  have HR := Lib.hid hr
  clear hr
  obtain ⟨w0, hw0⟩ : ∃ w0, (w.alloc (.cells s.cells 48)).alloc (.cells (two (x, y)) 44) = w0 := ⟨_, rfl⟩
  have B0 : Hid (Below w.heap.size w w0) := by rw [← hw0]; exact ((Below.refl _ _).alloc (Nat.le_refl _) _).alloc (by simp) _
  have K1 : Hid (Blk w0 w.heap.size 48 s.cells) := by rw [← hw0]; exact (Blk.new _ _ _).alloc _
  have K2 : Hid (Blk w0 (w.heap.size + 1) 44 (two (x, y))) := by rw [← hw0]; exact Blk.newAt _ _ _ (by simp)
  have HW0 := Lib.hid hw0
  clear hw0
  go_enter Tryd.func56, Tryd.ntmps56
  go_wp2_with fail
  rw [show (w.alloc (.cells (seven s.k s.p s.q s.r) 48)).alloc (.cells #[.int .i64 x, .int .i64 y] 44) = w0 from HW0.out]
  refine wp_region_put2 (by kernel_rfl) (by kernel_rfl) (by kernel_rfl) (fun b' vs w' => (b' 0 = true → vs 0 = .agg #[.int .i64 x, .int .i64 y]) ∧ (b' 2 = true → vs 2 = .agg (seven s.k s.p s.q s.r)) ∧ (b' 5 = true → b' 4 = true ∧ vs 5 = vs 4) ∧ (b' 4 = true → b' 3 = true ∧ b' 1 = true) ∧ Hid (CurM w0 (x, y) s b' vs w')) ?_ ?_ ?_
  · intro vs _
    exact ⟨fun h => Bool.noConfusion h, fun h => Bool.noConfusion h, fun h => Bool.noConfusion h, fun h => Bool.noConfusion h, ⟨rfl, rfl, rfl, Nat.le_refl _, fun _ _ => rfl⟩, fun h => Bool.noConfusion h, fun h => Bool.noConfusion h, fun h => Bool.noConfusion h⟩
  · rintro b' vs w' i op hi hun hall ⟨h0, h2, h5, h43, hM⟩
    have hil : i < 6 := (List.getElem?_eq_some_iff.1 hi).1
    rcases i with _ | _ | _ | _ | _ | _ | i
    · obtain rfl := Option.some.inj hi
      have kb := K2.out.on hM.out.1 K2.out.lt
      have c0 := kb.p0
      have c1 := kb.p1
      refine wpOp_step rfl (fun K hK => ?_)
      have HKK := Lib.hid hK; clear hK
      simp only [putAll, Act.put, List.setIfInBounds_toArray, List.set_cons_zero, List.set_cons_succ]
      go_simp
      exact HKK.out _ _ ⟨_, by simp only [putAll, Act.put, List.setIfInBounds_toArray, List.set_cons_zero, List.set_cons_succ] <;> rfl, fun _ => rfl, h2, h5, h43, CurM.other hM.out 0 _ (by decide) (by decide) (by decide)⟩
    · obtain rfl := Option.some.inj hi
      have d0 := h0 (hall ⟨0, .data⟩ (by simp) rfl)
      have h4 : b' 4 = false := by
        cases hz : b' 4 with
        | false => rfl
        | true => rw [(h43 hz).2] at hun; cases hun
      refine wpOp_step rfl (fun K hK => ?_)
      have HKK := Lib.hid hK; clear hK
      simp only [putAll, Act.put, List.setIfInBounds_toArray, List.set_cons_zero, List.set_cons_succ, d0]
      go_simp
      refine HKK.out _ _ ⟨_, by simp only [putAll, Act.put, List.setIfInBounds_toArray, List.set_cons_zero, List.set_cons_succ, d0] <;> rfl, h0, h2, fun h => ?_, fun h => ⟨(h43 h).1, rfl⟩, CurM.made hM.out h4 _ (Own.made w' hM.out.1.size 44 [(x, y)] _ 1 rfl rfl (by decide)) ((Below.refl _ _).alloc (Nat.le_refl _) _)⟩
      rw [show upd b' 1 true 4 = b' 4 from upd_other _ _ _ _ (by decide)]
      exact h5 (by rwa [upd_other _ _ _ _ (by decide)] at h)
    · obtain rfl := Option.some.inj hi
      have kb := K1.out.on hM.out.1 K1.out.lt
      have c0 := kb.s0
      have c1 := kb.s1
      have c2 := kb.s2
      have c3 := kb.s3
      have c4 := kb.s4
      have c5 := kb.s5
      have c6 := kb.s6
      refine wpOp_step rfl (fun K hK => ?_)
      have HKK := Lib.hid hK; clear hK
      simp only [putAll, Act.put, List.setIfInBounds_toArray, List.set_cons_zero, List.set_cons_succ]
      go_simp
      exact HKK.out _ _ ⟨_, by simp only [putAll, Act.put, List.setIfInBounds_toArray, List.set_cons_zero, List.set_cons_succ] <;> rfl, h0, fun _ => rfl, h5, h43, CurM.other hM.out 2 _ (by decide) (by decide) (by decide)⟩
    · obtain rfl := Option.some.inj hi
      have d2 := h2 (hall ⟨2, .data⟩ (by simp) rfl)
      have h4 : b' 4 = false := by
        cases hz : b' 4 with
        | false => rfl
        | true => rw [(h43 hz).1] at hun; cases hun
      refine wpOp_step rfl (fun K hK => ?_)
      have HKK := Lib.hid hK; clear hK
      simp only [putAll, Act.put, List.setIfInBounds_toArray, List.set_cons_zero, List.set_cons_succ, d2]
      go_simp
      refine (HP.out _ (HR.out.on (below_next B0.out hM.out.1))).mono ?_
      rintro e w3 ⟨rfl, rfl⟩
      refine HKK.out _ _ ⟨_, by simp only [putAll, Act.put, List.setIfInBounds_toArray, List.set_cons_zero, List.set_cons_succ, d2] <;> rfl, h0, h2, fun h => ?_, fun h => ⟨rfl, (h43 h).2⟩, CurM.pts hM.out h4 _ (points_row s w') ((Below.refl _ _).alloc (Nat.le_refl _) _)⟩
      exact h5 (by rwa [upd_other _ _ _ _ (by decide)] at h)
    · obtain rfl := Option.some.inj hi
      have b1 := hall ⟨1, .data⟩ (by simp) rfl
      have b3 := hall ⟨3, .data⟩ (by simp) rfl
      have o1 := hM.out.2.1 b1 hun
      have o3 := hM.out.2.2.1 b3 hun
      have hl3 := needPts_len s
      refine wpOp_step rfl (fun K hK => ?_)
      refine wp_append_pts _ _ 37 44 rfl Tryd.underlying37 infoP w0.heap.size (vs 1) [(x, y)] rfl o1 (vs 3) (needPts s) rfl o3 (by simp; omega) hM.out.1.size ?_
      intro v' w3 ho hg _
      have _ := hl3
      refine hK _ _ ⟨_, rfl, h0, h2, fun h => ?_, fun _ => ⟨by rw [upd_other _ _ _ _ (by decide)]; exact b3, by rw [upd_other _ _ _ _ (by decide)]; exact b1⟩, CurM.app hM.out _ ho (own_below o1 hg hM.out.1 (Nat.le_refl _) hM.out.1.size)⟩
      rw [upd_other _ _ _ _ (by decide)] at h
      rw [(h5 h).1] at hun; cases hun
    · obtain rfl := Option.some.inj hi
      have b4 := hall ⟨4, .data⟩ (by simp) rfl
      refine wpOp_step rfl (fun K hK => ?_)
      have HKK := Lib.hid hK; clear hK
      simp only [putAll, Act.put, List.setIfInBounds_toArray, List.set_cons_zero, List.set_cons_succ]
      go_simp
      exact HKK.out _ _ ⟨_, by simp only [putAll, Act.put, List.setIfInBounds_toArray, List.set_cons_zero, List.set_cons_succ] <;> rfl, h0, h2, fun _ => ⟨b4, rfl⟩, h43, CurM.other hM.out 5 _ (by decide) (by decide) (by decide)⟩
    · exact absurd hil (by omega)
  · rintro b' vs w' hb ⟨h0, h2, h5, h43, hM⟩
    have e5 := (h5 (hb 5 (by decide))).2
    have o4 := Lib.hid (hM.out.2.2.2 (hb 4 (by decide)))
    have B4 := Lib.hid (below_next B0.out hM.out.1)
    have BS := Lib.hid B0.out.size
    clear h0 h2 h5 h43 hM
    simp only [putAll, Act.put, List.setIfInBounds_toArray, List.set_cons_zero, List.set_cons_succ, e5]
    generalize vs 4 = v4 at o4 ⊢
    go_wp2_with fail
    go_ret
    exact ⟨_, rfl, owns_base o4.out BS.out, B4.out⟩
end Go.Proofs.YtffgpikhahpomaaDoor
