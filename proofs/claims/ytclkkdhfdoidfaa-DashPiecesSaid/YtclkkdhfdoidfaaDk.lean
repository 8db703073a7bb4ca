/- Layer 9: the document's Right; the law DashChecks. -/
import Derived.Test.YtclkkdhfdoidfaaDj
namespace Go.Proofs.Ytclkkdhfdoidfaa
open Go.RowKit
theorem right_len {L : List Int} {phase : Int} (h0 : L ≠ []) (h : ¬ (L.length = 2 ∨ L.length = 4 ∨ L.length = 6 ∨ L.length = 8)) : rightI L phase = false := by
  have hl := List.length_pos_iff.2 h0
  by_cases h8 : L.length ≤ 8
  · exact right_odd (by omega)
  · exact right_big (by omega)
theorem right_rest {L : List Int} {phase : Int} (h0 : L ≠ []) (h : L.length = 2 ∨ L.length = 4 ∨ L.length = 6 ∨ L.length = 8) (ha : L.all okL = true) : rightI L phase = (decide (0 ≤ phase) && decide (phase < sumI L)) := by
  rw [right_phase (by omega) (by omega) ha]
  unfold phaseB; rw [if_neg h0]
set_option maxHeartbeats 4000000 in
set_option maxRecDepth 100000 in
theorem refRight_c (s : Value) (L : List Int) (phase : Int) (w : World) (row : RowI w s L) :
    Calls Try.prog 10 #[s, .int .i64 phase] w fun e w' => e = .returned (.bool (rightI L phase)) ∧ Below w.heap.size w w' := by
  have H1 := Lib.hid (@right_len L phase)
  have H2 := Lib.hid (@right_rest L phase)
  have H3 := Lib.hid (@right_all L phase)
  have H4 : Hid (L = [] → rightI L phase = decide (phase = 0)) := fun h => by unfold rightI; rw [if_pos h]
  have HSB : Hid (L.all okL = true → ∀ k, 0 ≤ sumI (L.take k) ∧ sumI (L.take k) ≤ k * 1048576) := fun h => sumI_bound h
  have HTK : Hid (∀ k x, L[k]? = some x → (L.take k).all okL = true → okL x = true → (L.take (k + 1)).all okL = true) := fun k x hx h1 h2 => by
    rw [List.take_add_one, List.all_append, h1, hx]
    simp [h2]
  have HSM : Hid (∀ k, (L.take k).all okL = true → 0 ≤ sumI (L.take k) ∧ sumI (L.take k) ≤ k * 1048576) := fun k h => by
    have := sumI_bound h k
    rwa [List.take_take, Nat.min_self] at this
  have HBD : Hid (∀ k x, L[k]? = some x → okL x = false → L.all okL = false) := fun k x hx h => by
    rw [List.all_eq_false]
    exact ⟨x, List.mem_of_getElem? hx, by simp [h]⟩
  obtain ⟨ao, c, rfl⟩ := row.shape
  obtain ⟨n, hn⟩ : ∃ n, L.length = n := ⟨_, rfl⟩
  rw [hn] at row H1 H2 ⊢
  have HN := Lib.hid hn
  have HROW := Lib.hid row
  clear hn row
  by_cases hn0 : n = 0
  · have HE := Lib.hid (H4.out (List.eq_nil_of_length_eq_zero (by rw [HN.out]; exact hn0)))
    subst hn0
    go_enter Try.func10, Try.ntmps10
    go_wp2_with fail
    go_ret
    exact ⟨retB (by rw [HE.out, Bool.eq_iff_iff]; simp), Below.refl _ _⟩
  have HNE : Hid (L ≠ []) := fun e => hn0 (by rw [← HN.out, e]; rfl)
  have z1 : ((n : Int) == 0) = false := by simp; omega
  have z2 : decide ((n : Int) = 0) = false := by simp; omega
  have z3 : decide (n = 0) = false := by simp; omega
  by_cases hg : n = 2 ∨ n = 4 ∨ n = 6 ∨ n = 8
  · have HR : Hid (L.all okL = true → rightI L phase = (decide (0 ≤ phase) && decide (phase < sumI L))) := H2.out HNE.out hg
    clear H1 H2 hn0
    rcases hg with rfl | rfl | rfl | rfl
    · go_enter Try.func10, Try.ntmps10
      go_wp2_with fail
      go_loopw [5, 6] (fun s5 s6 wr => ∃ k : Nat, k ≤ 2 ∧ s6 = .int .i64 k ∧ s5 = .int .i64 (sumI (L.take k)) ∧ Hid ((L.take k).all okL = true ∧ w = wr)) (fun _ s6 _ => 2 - (intOf s6).toNat)
      case atStart => exact ⟨0, by omega, rfl, rfl, rfl, rfl⟩
      case round =>
        obtain ⟨k, hk, rfl, rfl, hw⟩ := hrel
        obtain rfl := hw.out.2
        by_cases hlt : k < 2
        · have hd : decide ((k : Int) < 2) = true := by simp; omega
          obtain ⟨x, hq⟩ : ∃ x, L[k]? = some x := ⟨_, List.getElem?_eq_getElem (by rw [HN.out]; exact hlt)⟩
          obtain ⟨b, o, rfl, hbs, c0⟩ := HROW.out.addr hq
          have HQ := Lib.hid hq
          by_cases hok : okL x = true
          · have HOK := Lib.hid hok
            have hx : 1 ≤ x ∧ x ≤ 1048576 := by unfold okL at hok; simpa using hok
            have y1 : decide (x < 1) = false := by simp; omega
            have y2 : decide (x > 1048576) = false := by simp; omega
            have b1 := HSM.out k hw.out.1
            obtain ⟨y, hy⟩ : ∃ y, sumI (L.take k) + x = y := ⟨_, rfl⟩
            have HW : Hid (wrap64 (sumI (L.take k) + x) = y) := by unfold Hid; rw [← hy]; exact wrapR _ (by omega) (by omega)
            have HS : Hid (sumI (L.take (k + 1)) = y) := by unfold Hid; rw [sumI_take hq, hy]
            have HT := Lib.hid (HTK.out k x hq hw.out.1 hok)
            generalize sumI (L.take k) = z at *
            clear b1 hq hbs hy hok hx
            go_wp2_with fail
            rw [HW.out]
            exact ⟨⟨k + 1, by omega, by go_num, by rw [HS.out], HT.out, trivial⟩, by simp [intOf]; omega⟩
          · have hok2 : okL x = false := by simpa using hok
            have HR2 := Lib.hid (H3.out (HBD.out k x hq hok2))
            clear hq hbs
            by_cases h1 : x < 1
            · have y1 : decide (x < 1) = true := by simp; omega
              clear hok hok2
              go_wp2_with fail
              go_ret
              exact ⟨retB (by rw [HR2.out]), Below.refl _ _⟩
            · have y1 : decide (x < 1) = false := by simp; omega
              have y2 : decide (x > 1048576) = true := by unfold okL at hok2; simp at hok2; simp; omega
              clear hok hok2
              go_wp2_with fail
              go_ret
              exact ⟨retB (by rw [HR2.out]), Below.refl _ _⟩
        · have hd : decide ((k : Int) < 2) = false := by simp; omega
          have hkn : L.take k = L := by rw [show k = L.length by rw [HN.out]; omega, List.take_length]
          rw [hkn] at hw ⊢
          have HF := Lib.hid (HR.out hw.out.1)
          generalize sumI L = z at *
          clear hkn
          by_cases hp : 0 ≤ phase
          · have hd2 : decide (phase ≥ 0) = true := by simp; omega
            go_wp2_with fail
            go_ret
            exact ⟨retB (by rw [HF.out, Bool.eq_iff_iff]; simp; omega), Below.refl _ _⟩
          · have hd2 : decide (phase ≥ 0) = false := by simp; omega
            go_wp2_with fail
            go_ret
            exact ⟨retB (by rw [HF.out, Bool.eq_iff_iff]; simp; omega), Below.refl _ _⟩
    · go_enter Try.func10, Try.ntmps10
      go_wp2_with fail
      go_loopw [5, 6] (fun s5 s6 wr => ∃ k : Nat, k ≤ 4 ∧ s6 = .int .i64 k ∧ s5 = .int .i64 (sumI (L.take k)) ∧ Hid ((L.take k).all okL = true ∧ w = wr)) (fun _ s6 _ => 4 - (intOf s6).toNat)
      case atStart => exact ⟨0, by omega, rfl, rfl, rfl, rfl⟩
      case round =>
        obtain ⟨k, hk, rfl, rfl, hw⟩ := hrel
        obtain rfl := hw.out.2
        by_cases hlt : k < 4
        · have hd : decide ((k : Int) < 4) = true := by simp; omega
          obtain ⟨x, hq⟩ : ∃ x, L[k]? = some x := ⟨_, List.getElem?_eq_getElem (by rw [HN.out]; exact hlt)⟩
          obtain ⟨b, o, rfl, hbs, c0⟩ := HROW.out.addr hq
          have HQ := Lib.hid hq
          by_cases hok : okL x = true
          · have HOK := Lib.hid hok
            have hx : 1 ≤ x ∧ x ≤ 1048576 := by unfold okL at hok; simpa using hok
            have y1 : decide (x < 1) = false := by simp; omega
            have y2 : decide (x > 1048576) = false := by simp; omega
            have b1 := HSM.out k hw.out.1
            obtain ⟨y, hy⟩ : ∃ y, sumI (L.take k) + x = y := ⟨_, rfl⟩
            have HW : Hid (wrap64 (sumI (L.take k) + x) = y) := by unfold Hid; rw [← hy]; exact wrapR _ (by omega) (by omega)
            have HS : Hid (sumI (L.take (k + 1)) = y) := by unfold Hid; rw [sumI_take hq, hy]
            have HT := Lib.hid (HTK.out k x hq hw.out.1 hok)
            generalize sumI (L.take k) = z at *
            clear b1 hq hbs hy hok hx
            go_wp2_with fail
            rw [HW.out]
            exact ⟨⟨k + 1, by omega, by go_num, by rw [HS.out], HT.out, trivial⟩, by simp [intOf]; omega⟩
          · have hok2 : okL x = false := by simpa using hok
            have HR2 := Lib.hid (H3.out (HBD.out k x hq hok2))
            clear hq hbs
            by_cases h1 : x < 1
            · have y1 : decide (x < 1) = true := by simp; omega
              clear hok hok2
              go_wp2_with fail
              go_ret
              exact ⟨retB (by rw [HR2.out]), Below.refl _ _⟩
            · have y1 : decide (x < 1) = false := by simp; omega
              have y2 : decide (x > 1048576) = true := by unfold okL at hok2; simp at hok2; simp; omega
              clear hok hok2
              go_wp2_with fail
              go_ret
              exact ⟨retB (by rw [HR2.out]), Below.refl _ _⟩
        · have hd : decide ((k : Int) < 4) = false := by simp; omega
          have hkn : L.take k = L := by rw [show k = L.length by rw [HN.out]; omega, List.take_length]
          rw [hkn] at hw ⊢
          have HF := Lib.hid (HR.out hw.out.1)
          generalize sumI L = z at *
          clear hkn
          by_cases hp : 0 ≤ phase
          · have hd2 : decide (phase ≥ 0) = true := by simp; omega
            go_wp2_with fail
            go_ret
            exact ⟨retB (by rw [HF.out, Bool.eq_iff_iff]; simp; omega), Below.refl _ _⟩
          · have hd2 : decide (phase ≥ 0) = false := by simp; omega
            go_wp2_with fail
            go_ret
            exact ⟨retB (by rw [HF.out, Bool.eq_iff_iff]; simp; omega), Below.refl _ _⟩
    · go_enter Try.func10, Try.ntmps10
      go_wp2_with fail
      go_loopw [5, 6] (fun s5 s6 wr => ∃ k : Nat, k ≤ 6 ∧ s6 = .int .i64 k ∧ s5 = .int .i64 (sumI (L.take k)) ∧ Hid ((L.take k).all okL = true ∧ w = wr)) (fun _ s6 _ => 6 - (intOf s6).toNat)
      case atStart => exact ⟨0, by omega, rfl, rfl, rfl, rfl⟩
      case round =>
        obtain ⟨k, hk, rfl, rfl, hw⟩ := hrel
        obtain rfl := hw.out.2
        by_cases hlt : k < 6
        · have hd : decide ((k : Int) < 6) = true := by simp; omega
          obtain ⟨x, hq⟩ : ∃ x, L[k]? = some x := ⟨_, List.getElem?_eq_getElem (by rw [HN.out]; exact hlt)⟩
          obtain ⟨b, o, rfl, hbs, c0⟩ := HROW.out.addr hq
          have HQ := Lib.hid hq
          by_cases hok : okL x = true
          · have HOK := Lib.hid hok
            have hx : 1 ≤ x ∧ x ≤ 1048576 := by unfold okL at hok; simpa using hok
            have y1 : decide (x < 1) = false := by simp; omega
            have y2 : decide (x > 1048576) = false := by simp; omega
            have b1 := HSM.out k hw.out.1
            obtain ⟨y, hy⟩ : ∃ y, sumI (L.take k) + x = y := ⟨_, rfl⟩
            have HW : Hid (wrap64 (sumI (L.take k) + x) = y) := by unfold Hid; rw [← hy]; exact wrapR _ (by omega) (by omega)
            have HS : Hid (sumI (L.take (k + 1)) = y) := by unfold Hid; rw [sumI_take hq, hy]
            have HT := Lib.hid (HTK.out k x hq hw.out.1 hok)
            generalize sumI (L.take k) = z at *
            clear b1 hq hbs hy hok hx
            go_wp2_with fail
            rw [HW.out]
            exact ⟨⟨k + 1, by omega, by go_num, by rw [HS.out], HT.out, trivial⟩, by simp [intOf]; omega⟩
          · have hok2 : okL x = false := by simpa using hok
            have HR2 := Lib.hid (H3.out (HBD.out k x hq hok2))
            clear hq hbs
            by_cases h1 : x < 1
            · have y1 : decide (x < 1) = true := by simp; omega
              clear hok hok2
              go_wp2_with fail
              go_ret
              exact ⟨retB (by rw [HR2.out]), Below.refl _ _⟩
            · have y1 : decide (x < 1) = false := by simp; omega
              have y2 : decide (x > 1048576) = true := by unfold okL at hok2; simp at hok2; simp; omega
              clear hok hok2
              go_wp2_with fail
              go_ret
              exact ⟨retB (by rw [HR2.out]), Below.refl _ _⟩
        · have hd : decide ((k : Int) < 6) = false := by simp; omega
          have hkn : L.take k = L := by rw [show k = L.length by rw [HN.out]; omega, List.take_length]
          rw [hkn] at hw ⊢
          have HF := Lib.hid (HR.out hw.out.1)
          generalize sumI L = z at *
          clear hkn
          by_cases hp : 0 ≤ phase
          · have hd2 : decide (phase ≥ 0) = true := by simp; omega
            go_wp2_with fail
            go_ret
            exact ⟨retB (by rw [HF.out, Bool.eq_iff_iff]; simp; omega), Below.refl _ _⟩
          · have hd2 : decide (phase ≥ 0) = false := by simp; omega
            go_wp2_with fail
            go_ret
            exact ⟨retB (by rw [HF.out, Bool.eq_iff_iff]; simp; omega), Below.refl _ _⟩
    · go_enter Try.func10, Try.ntmps10
      go_wp2_with fail
      go_loopw [5, 6] (fun s5 s6 wr => ∃ k : Nat, k ≤ 8 ∧ s6 = .int .i64 k ∧ s5 = .int .i64 (sumI (L.take k)) ∧ Hid ((L.take k).all okL = true ∧ w = wr)) (fun _ s6 _ => 8 - (intOf s6).toNat)
      case atStart => exact ⟨0, by omega, rfl, rfl, rfl, rfl⟩
      case round =>
        obtain ⟨k, hk, rfl, rfl, hw⟩ := hrel
        obtain rfl := hw.out.2
        by_cases hlt : k < 8
        · have hd : decide ((k : Int) < 8) = true := by simp; omega
          obtain ⟨x, hq⟩ : ∃ x, L[k]? = some x := ⟨_, List.getElem?_eq_getElem (by rw [HN.out]; exact hlt)⟩
          obtain ⟨b, o, rfl, hbs, c0⟩ := HROW.out.addr hq
          have HQ := Lib.hid hq
          by_cases hok : okL x = true
          · have HOK := Lib.hid hok
            have hx : 1 ≤ x ∧ x ≤ 1048576 := by unfold okL at hok; simpa using hok
            have y1 : decide (x < 1) = false := by simp; omega
            have y2 : decide (x > 1048576) = false := by simp; omega
            have b1 := HSM.out k hw.out.1
            obtain ⟨y, hy⟩ : ∃ y, sumI (L.take k) + x = y := ⟨_, rfl⟩
            have HW : Hid (wrap64 (sumI (L.take k) + x) = y) := by unfold Hid; rw [← hy]; exact wrapR _ (by omega) (by omega)
            have HS : Hid (sumI (L.take (k + 1)) = y) := by unfold Hid; rw [sumI_take hq, hy]
            have HT := Lib.hid (HTK.out k x hq hw.out.1 hok)
            generalize sumI (L.take k) = z at *
            clear b1 hq hbs hy hok hx
            go_wp2_with fail
            rw [HW.out]
            exact ⟨⟨k + 1, by omega, by go_num, by rw [HS.out], HT.out, trivial⟩, by simp [intOf]; omega⟩
          · have hok2 : okL x = false := by simpa using hok
            have HR2 := Lib.hid (H3.out (HBD.out k x hq hok2))
            clear hq hbs
            by_cases h1 : x < 1
            · have y1 : decide (x < 1) = true := by simp; omega
              clear hok hok2
              go_wp2_with fail
              go_ret
              exact ⟨retB (by rw [HR2.out]), Below.refl _ _⟩
            · have y1 : decide (x < 1) = false := by simp; omega
              have y2 : decide (x > 1048576) = true := by unfold okL at hok2; simp at hok2; simp; omega
              clear hok hok2
              go_wp2_with fail
              go_ret
              exact ⟨retB (by rw [HR2.out]), Below.refl _ _⟩
        · have hd : decide ((k : Int) < 8) = false := by simp; omega
          have hkn : L.take k = L := by rw [show k = L.length by rw [HN.out]; omega, List.take_length]
          rw [hkn] at hw ⊢
          have HF := Lib.hid (HR.out hw.out.1)
          generalize sumI L = z at *
          clear hkn
          by_cases hp : 0 ≤ phase
          · have hd2 : decide (phase ≥ 0) = true := by simp; omega
            go_wp2_with fail
            go_ret
            exact ⟨retB (by rw [HF.out, Bool.eq_iff_iff]; simp; omega), Below.refl _ _⟩
          · have hd2 : decide (phase ≥ 0) = false := by simp; omega
            go_wp2_with fail
            go_ret
            exact ⟨retB (by rw [HF.out, Bool.eq_iff_iff]; simp; omega), Below.refl _ _⟩
  · have HR := Lib.hid (H1.out HNE.out hg)
    have a2 : ((n : Int) == 2) = false := by simp; omega
    have a4 : ((n : Int) == 4) = false := by simp; omega
    have a6 : ((n : Int) == 6) = false := by simp; omega
    have a8 : ((n : Int) == 8) = false := by simp; omega
    have b2 : decide ((n : Int) = 2) = false := by simp; omega
    have b4 : decide ((n : Int) = 4) = false := by simp; omega
    have b6 : decide ((n : Int) = 6) = false := by simp; omega
    have b8 : decide ((n : Int) = 8) = false := by simp; omega
    have c2 : decide (n = 2) = false := by simp; omega
    have c4 : decide (n = 4) = false := by simp; omega
    have c6 : decide (n = 6) = false := by simp; omega
    have c8 : decide (n = 8) = false := by simp; omega
    have x2 : ¬ n = 2 := by omega
    have x4 : ¬ n = 4 := by omega
    have x6 : ¬ n = 6 := by omega
    have x8 : ¬ n = 8 := by omega
    have m2 : ((n : Int) != 2) = true := by simp; omega
    have m4 : ((n : Int) != 4) = true := by simp; omega
    have m6 : ((n : Int) != 6) = true := by simp; omega
    have m8 : ((n : Int) != 8) = true := by simp; omega
    clear hg
    go_enter Try.func10, Try.ntmps10
    go_wp2_with fail
    go_ret
    exact ⟨retB (by rw [HR.out]), Below.refl _ _⟩
set_option maxHeartbeats 4000000 in
set_option maxRecDepth 100000 in
theorem dashChecks_law (s : Value) (L : List Int) (phase : Int) (w : World) (row : RowI w s L) :
    Calls Try.prog 3 #[.agg #[s, .int .i64 phase]] w fun e w' => e = .returned (.bool true) ∧ Below w.heap.size w w' := by
  obtain ⟨w1, hw1⟩ : ∃ W, w.alloc (.cells #[s, .int .i64 phase] 24) = W := ⟨_, rfl⟩
  have M1 : Hid (Below w.heap.size w w1 ∧ Blk w1 w.heap.size 24 #[s, .int .i64 phase]) := by rw [← hw1]; exact ⟨(Below.refl _ _).alloc (Nat.le_refl _) _, Blk.new _ _ _⟩
  have HW1 := Lib.hid hw1
  have HAW := Lib.hid awake_c
  have HRI : Hid (∀ A, Below w.heap.size w A → Calls Try.prog 10 #[s, .int .i64 phase] A fun e w' => e = .returned (.bool (rightI L phase)) ∧ Below A.heap.size A w') := fun A hA => refRight_c s L phase A (row.on hA)
  have HCK : Hid (L.length ≤ 100 → ∀ A, Below w.heap.size w A → Calls Try.prog 11 #[.agg #[s, .int .i64 phase]] A fun e w' => e = .returned (.int .i64 (codeR (rightI L phase))) ∧ Below A.heap.size A w') := fun h A hA => check_c s L phase A (by omega) (row.on hA)
  have HOK : Hid (rightI L phase = true → L.length ≤ 8 ∧ L.all okL = true) := fun h => by
    refine ⟨?_, ?_⟩
    · rcases Nat.lt_or_ge 8 L.length with h8 | h8
      · rw [right_big h8] at h; cases h
      · exact h8
    · cases ha : L.all okL with
      | true => rfl
      | false => rw [right_all ha] at h; cases h
  have HSU : Hid (L.length ≤ 8 → L.all okL = true → ∀ A, Below w.heap.size w A → Calls Try.prog 12 #[.agg #[s, .int .i64 phase]] A fun e w' => e = .returned (.int .i64 (sumI L)) ∧ Below A.heap.size A w') := fun h1 h2 A hA => sum_c s L phase A h1 h2 (row.on hA)
  have HRW : Hid (∀ A, Below w.heap.size w A → RowI A s L) := fun A hA => row.on hA
  have HSB : Hid (L.all okL = true → ∀ k, 0 ≤ sumI (L.take k) ∧ sumI (L.take k) ≤ k * 1048576) := fun h => sumI_bound h
  obtain ⟨ao, c, rfl⟩ := row.shape
  obtain ⟨n, hn⟩ : ∃ n, L.length = n := ⟨_, rfl⟩
  rw [hn] at M1 HW1 HRI HCK HOK HSU HRW ⊢
  have HN := Lib.hid hn
  clear hw1 row hn
  generalize rightI L phase = r at *
  have c0 : w1.cell? ⟨w.heap.size, 0, none⟩ = some (.slice ao n c) := M1.out.2.cell 0
  have c1 : w1.cell? ⟨w.heap.size, 1, none⟩ = some (.int .i64 phase) := M1.out.2.cell 1
  by_cases h100 : 100 < n
  · have hd : decide ((n : Int) > 100) = true := by simp; omega
    go_enter Try.func3, Try.ntmps3
    go_wp2_with fail
    rw [HW1.out]
    refine (HAW.out w1).mono ?_
    rintro e w2 ⟨rfl, hb⟩
    have B2 : Hid (Below w.heap.size w w2) := M1.out.1.trans (hb.mono M1.out.1.size)
    clear hb
    go_wp2_with fail
    go_ret
    exact ⟨rfl, B2.out⟩
  · have hd : decide ((n : Int) > 100) = false := by simp; omega
    have H100 : Hid (n ≤ 100) := by unfold Hid; omega
    clear h100
    go_enter Try.func3, Try.ntmps3
    go_wp2_with fail
    rw [HW1.out]
    refine (HRI.out w1 M1.out.1).mono ?_
    rintro e w2 ⟨rfl, hb⟩
    have M2 : Hid (Below w.heap.size w w2 ∧ Blk w2 w.heap.size 24 #[.slice ao n c, .int .i64 phase]) := ⟨M1.out.1.trans (hb.mono M1.out.1.size), M1.out.2.grow hb⟩
    clear hb c0 c1
    have c0 : w2.cell? ⟨w.heap.size, 0, none⟩ = some (.slice ao n c) := M2.out.2.cell 0
    have c1 : w2.cell? ⟨w.heap.size, 1, none⟩ = some (.int .i64 phase) := M2.out.2.cell 1
    cases r
    · have HCC := Lib.hid (HCK.out H100.out)
      have hcr : codeR false = 30 := rfl
      go_wp2_with fail
      refine (HCC.out w2 M2.out.1).mono ?_
      rintro e w3 ⟨rfl, hb⟩
      have B3 : Hid (Below w.heap.size w w3) := M2.out.1.trans (hb.mono M2.out.1.size)
      clear hb c0 c1
      go_wp2_with fail
      refine (HAW.out w3).mono ?_
      rintro e w4 ⟨rfl, hb⟩
      have B4 : Hid (Below w.heap.size w w4) := B3.out.trans (hb.mono B3.out.size)
      clear hb
      go_wp2_with fail
      go_ret
      exact ⟨rfl, B4.out⟩
    · have HCC := Lib.hid (HCK.out H100.out)
      have H8 := Lib.hid (HOK.out rfl)
      have hcr : codeR true = 0 := rfl
      have HSU2 := Lib.hid (HSU.out H8.out.1 H8.out.2)
      have HSB2 := Lib.hid (HSB.out H8.out.2)
      have h8 := H8.out.1
      have HR2 := Lib.hid (HRW.out w2 M2.out.1)
      go_wp2_with fail
      go_loopw [3, 26] (fun x i wr => ∃ k : Nat, k ≤ n ∧ i = .int .i64 k ∧ x = .int .i64 (sumI (L.take k)) ∧ Hid (w2 = wr)) (fun _ i _ => n - (intOf i).toNat)
      case atStart => exact ⟨0, by omega, rfl, rfl, rfl⟩
      case round =>
        obtain ⟨k, hk, rfl, rfl, hw⟩ := hrel
        obtain rfl := hw.out
        by_cases hlt : k < n
        · have hd : decide ((k : Int) < (n : Int)) = true := by simp; omega
          obtain ⟨x, hq⟩ : ∃ x, L[k]? = some x := ⟨_, List.getElem?_eq_getElem (by rw [HN.out]; exact hlt)⟩
          obtain ⟨b, o, rfl, hbs, d0⟩ := HR2.out.addr hq
          have b1 := HSB2.out (k + 1)
          rw [sumI_take hq] at b1
          have HS := Lib.hid (sumI_take hq)
          obtain ⟨y, hy⟩ : ∃ y, sumI (L.take k) + x = y := ⟨_, rfl⟩
          have HW : Hid (wrap64 (sumI (L.take k) + x) = y) := by unfold Hid; rw [← hy]; exact wrapR _ (by omega) (by omega)
          rw [hy] at HS
          generalize sumI (L.take k) = z at *
          clear b1 hq hbs hy
          go_wp2_with fail
          rw [HW.out]
          exact ⟨⟨k + 1, by omega, by go_num, by rw [HS.out], trivial⟩, by simp [intOf]; omega⟩
        · have hd : decide ((k : Int) < (n : Int)) = false := by simp; omega
          have hkn : L.take k = L := by rw [show k = L.length by rw [HN.out]; omega, List.take_length]
          rw [hkn]
          generalize sumI L = z at *
          clear hkn
          go_wp2_with fail
          refine (HCC.out w2 M2.out.1).mono ?_
          rintro e w3 ⟨rfl, hb⟩
          have M3 : Hid (Below w.heap.size w w3 ∧ Blk w3 w.heap.size 24 #[.slice ao n c, .int .i64 phase]) := ⟨M2.out.1.trans (hb.mono M2.out.1.size), M2.out.2.grow hb⟩
          clear hb c0 c1
          have c0 : w3.cell? ⟨w.heap.size, 0, none⟩ = some (.slice ao n c) := M3.out.2.cell 0
          have c1 : w3.cell? ⟨w.heap.size, 1, none⟩ = some (.int .i64 phase) := M3.out.2.cell 1
          go_wp2_with fail
          refine (HSU2.out w3 M3.out.1).mono ?_
          rintro e w4 ⟨rfl, hb⟩
          have B4 : Hid (Below w.heap.size w w4) := M3.out.1.trans (hb.mono M3.out.1.size)
          clear hb c0 c1
          go_wp2_with fail
          refine (HAW.out w4).mono ?_
          rintro e w5 ⟨rfl, hb⟩
          have B5 : Hid (Below w.heap.size w w5) := B4.out.trans (hb.mono B4.out.size)
          clear hb
          go_wp2_with fail
          go_ret
          exact ⟨rfl, B5.out⟩
end Go.Proofs.Ytclkkdhfdoidfaa
