/- Layer 5: weights. -/
import Derived.Test.YthlealndopppaaaNw
import Derived.Test.YthlealndopppaaaE
namespace Go.Proofs.Ythlealndopppaaa
open Go.RowKit
theorem infoI : (Try.prog.info? 3).map (fun i => (i.zero, i.size, i.bytes)) = some (some (.int .i64 0), 1, 8) := by kernel_rfl
theorem made_ints (c : Nat) : madeCells #[.int .i64 0] (c * 1) = Array.replicate c (Value.int .i64 0) := by
  apply Array.ext
  · simp [madeCells]
  · intro j h1 h2
    simp [madeCells, Nat.mod_one]
theorem make_ints (W : World) (c : Nat) (hc : c ≤ 64) : (Instr.makeSlice 66 (.int .i64 (c : Int)) (.int .i64 (c : Int))).run Try.prog W = .ok (.slice (some ⟨W.heap.size, 0, none⟩) c c) (W.alloc (.cells (Array.replicate c (Value.int .i64 0)) 3)) := by
  obtain ⟨i, hi, hz0, hz1, hz2⟩ := info_parts infoI
  have h := run_make (P := Try.prog) W 66 3 i _ Try.underlying66 hi hz0 .i64 .i64 c c (by omega) (by omega) (by rw [hz2]; omega) (by omega)
  rw [hz1] at h
  rw [← made_ints]
  exact h
/-- A row of ints at hand. -/
theorem Blk.int {w : World} {b : Nat} {t : TypeId} {l : List Int} (h : Blk w b t (l.map (Value.int .i64)).toArray) {j : Nat} {x : Int} (hj : l[j]? = some x) : w.cell? ⟨b, j, none⟩ = some (.int .i64 x) := by
  rw [h.cell]; simp [hj]
theorem Blk.setInt {w : World} {b : Nat} {t : TypeId} {l : List Int} (h : Blk w b t (l.map (Value.int .i64)).toArray) (j : Nat) (x : Int) : Blk (w.setCell ⟨b, j, none⟩ (.int .i64 x)) b t ((l.set j x).map (Value.int .i64)).toArray := by
  have := h.set j (.int .i64 x)
  rwa [show (l.map (Value.int .i64)).toArray.setIfInBounds j (.int .i64 x) = ((l.set j x).map (Value.int .i64)).toArray by simp [List.map_set]] at this
set_option maxHeartbeats 8000000 in
set_option maxRecDepth 100000 in
theorem weights_walk (n D F : Nat) (i g : Int) (w : World) (hn : n ≤ 4) (hn1 : 1 ≤ n) (hD : D ≤ 6) (hF : F = 2 ^ D) (hg : 0 ≤ g ∧ g ≤ 64) (hi : 0 ≤ i ∧ i ≤ 64) (hgi : (F : Int) - i = g) :
    Calls Try.prog 31 #[.int .i64 (n : Int), .int .i64 i, .int .i64 (D : Int)] w fun e w' => ∃ b, e = .returned (.slice (some ⟨b, 0, none⟩) n n) ∧ Blk w' b 3 ((wI g i (n - 1)).map (Value.int .i64)).toArray ∧ Below w.heap.size w w' := by
  have hF64 : F ≤ 64 := by rw [hF]; exact pow_small hD
  have ew2 : wrap64 ((2 : Int) ^ min D 64) = (F : Int) := by
    have e : ((2 : Int) ^ D) = (F : Int) := by rw [hF]; try simp
    rw [Nat.min_eq_left (by omega), e]; exact wrapR _ (by omega) (by omega)
  have ew : wrap64 ((2 : Int) ^ D) = (F : Int) := by
    have e : ((2 : Int) ^ D) = (F : Int) := by rw [hF]; try simp
    rw [e]; exact wrapR _ (by omega) (by omega)
  have EG : Hid (IntKind.i64.wrap ((F : Int) - i) = g) := by unfold Hid; rw [wrap_is, wrapR _ (by omega) (by omega)]; exact hgi
  have HG := Lib.hid hg; have HI := Lib.hid hi; have HN := Lib.hid hn
  have S0 : Hid (Blk (w.alloc (.cells #[.int .i64 1] 3)) w.heap.size 3 ((wI g i 0).map (Value.int .i64)).toArray ∧ Below w.heap.size w (w.alloc (.cells #[.int .i64 1] 3))) := ⟨Blk.new _ _ _, (Below.refl _ _).alloc (Nat.le_refl _) _⟩
  clear hF hg hi hgi hF64
  go_enter Try.func31, Try.ntmps31
  go_wp2_with fail
  simp only [ew]
  clear hD ew ew2
  go_loopw [7, 9] (fun v kk wr => ∃ (K k gw : Nat), K + 1 = k ∧ k ≤ n ∧ v = .slice (some ⟨gw, 0, none⟩) k k ∧ kk = .int .i64 k ∧ Hid (Blk wr gw 3 ((wI g i K).map (Value.int .i64)).toArray ∧ Below w.heap.size w wr)) (fun _ kk _ => n - (intOf kk).toNat)
  case atStart => exact ⟨0, 1, w.heap.size, rfl, hn1, rfl, rfl, S0.out⟩
  case round =>
    obtain ⟨K, k, gw, hK, hkn, rfl, rfl, hw⟩ := hrel
    by_cases hlt : k < n
    · have hd : decide ((k : Int) < (n : Int)) = true := decide_eq_true (by omega)
      obtain ⟨k1, hk1⟩ : ∃ k1, k + 1 = k1 := ⟨_, rfl⟩
      have e1 : wrap64 ((k : Int) + 1) = (k1 : Int) := by rw [wrapR _ (by omega) (by omega)]; omega
      have e1' : ((k : Int) + 1) = (k1 : Int) := by omega
      have HM : ∀ W : World, (Instr.makeSlice 66 (.int .i64 (k1 : Int)) (.int .i64 (k1 : Int))).run Try.prog W = .ok (.slice (some ⟨W.heap.size, 0, none⟩) k1 k1) (W.alloc (.cells (Array.replicate k1 (Value.int .i64 0)) 3)) := fun W => make_ints W k1 (by omega)
      have hwl := wI_length g i K
      have SM : Hid (Blk (wr.alloc (.cells (Array.replicate k1 (Value.int .i64 0)) 3)) wr.heap.size 3 ((nxt (wI g i K) g i 0).map (Value.int .i64)).toArray ∧ Blk (wr.alloc (.cells (Array.replicate k1 (Value.int .i64 0)) 3)) gw 3 ((wI g i K).map (Value.int .i64)).toArray ∧ Below w.heap.size w (wr.alloc (.cells (Array.replicate k1 (Value.int .i64 0)) 3))) := by
        refine ⟨?_, hw.out.1.alloc _, hw.out.2.alloc hw.out.2.size _⟩
        rw [nxt_zero, hwl, show K + 1 + 1 = k1 by omega, show ((List.replicate k1 (0 : Int)).map (Value.int .i64)).toArray = Array.replicate k1 (Value.int .i64 0) by simp]
        exact Blk.new _ _ _
      have HK1 := Lib.hid hk1; have HK := Lib.hid hK
      have hwr : Hid (w.heap.size ≤ wr.heap.size ∧ gw < wr.heap.size) := ⟨hw.out.2.size, hw.out.1.lt⟩
      clear hwl hk1 hK
      go_wp2_with fail
      generalize wr.heap.size = gn at SM hwr ⊢
      go_loopw [11] (fun jj wi => ∃ J : Nat, J ≤ k ∧ jj = .int .i64 J ∧ Hid (Blk wi gn 3 ((nxt (wI g i K) g i J).map (Value.int .i64)).toArray ∧ Blk wi gw 3 ((wI g i K).map (Value.int .i64)).toArray ∧ Below w.heap.size w wi)) (fun jj _ => k - (intOf jj).toNat)
      case atStart => exact ⟨0, by omega, rfl, SM.out⟩
      case round =>
        obtain ⟨J, hJ, rfl, hi⟩ := hrel
        by_cases hlj : J < k
        · have hdj : decide ((J : Int) < (k : Int)) = true := decide_eq_true (by omega)
          have hk1 : k + 1 = k1 := HK1.out
          have hKk : K + 1 = k := HK.out
          have hn4 : n ≤ 4 := HN.out
          have hwl := wI_length g i K
          have hwbd := wI_bound g i HG.out HI.out K (by omega)
          obtain ⟨y, hy⟩ : ∃ y, (wI g i K)[J]? = some y := ⟨_, List.getElem?_eq_getElem (by omega)⟩
          have hyD : (wI g i K).getD J 0 = y := by rw [List.getD_eq_getElem?_getD, hy]; rfl
          obtain ⟨x, hx⟩ : ∃ x, nxtE (wI g i K) g i J J = x := ⟨_, rfl⟩
          obtain ⟨x2, hx2⟩ : ∃ x, nxtE (wI g i K) g i J (J + 1) = x := ⟨_, rfl⟩
          obtain ⟨J1, hJ1⟩ : ∃ J1, J + 1 = J1 := ⟨_, rfl⟩
          obtain ⟨yg, hyg⟩ : ∃ z, y * g = z := ⟨_, rfl⟩
          obtain ⟨yi, hyi⟩ : ∃ z, y * i = z := ⟨_, rfl⟩
          obtain ⟨s1, hs1⟩ : ∃ z, x + yg = z := ⟨_, rfl⟩
          obtain ⟨s2, hs2⟩ : ∃ z, x2 + yi = z := ⟨_, rfl⟩
          have bx : 0 ≤ x ∧ x ≤ 128 * 2097152 := by rw [← hx]; exact nxtE_bound (by omega) hwbd HG.out HI.out J J
          have bx2 : 0 ≤ x2 ∧ x2 ≤ 128 * 2097152 := by rw [← hx2]; exact nxtE_bound (by omega) hwbd HG.out HI.out J (J + 1)
          have by1 : 0 ≤ y ∧ y ≤ 2097152 := hwbd y (List.mem_of_getElem? hy)
          have byg : 0 ≤ yg ∧ yg ≤ 64 * 2097152 := by rw [← hyg]; exact mul_bound by1 HG.out
          have byi : 0 ≤ yi ∧ yi ≤ 64 * 2097152 := by rw [← hyi]; exact mul_bound by1 HI.out
          have EYG : Hid (IntKind.i64.wrap (y * g) = yg) := by unfold Hid; rw [wrap_is, hyg, wrapR _ (by omega) (by omega)]
          have EYI : Hid (IntKind.i64.wrap (y * i) = yi) := by unfold Hid; rw [wrap_is, hyi, wrapR _ (by omega) (by omega)]
          have ES1 : Hid (IntKind.i64.wrap (x + yg) = s1) := by unfold Hid; rw [wrap_is, hs1, wrapR _ (by omega) (by omega)]
          have ES2 : Hid (IntKind.i64.wrap (x2 + yi) = s2) := by unfold Hid; rw [wrap_is, hs2, wrapR _ (by omega) (by omega)]
          have EJ1 : Hid (IntKind.i64.wrap ((J : Int) + 1) = (J1 : Int)) := by unfold Hid; rw [wrap_is, wrapR _ (by omega) (by omega)]; omega
          have HX : Hid ((nxt (wI g i K) g i J)[J]? = some x) := by unfold Hid; rw [nxt_at _ _ _ _ _ (by omega), hx]
          have HX2 : Hid (((nxt (wI g i K) g i J).set J s1)[J1]? = some x2) := by
            unfold Hid
            rw [List.getElem?_set_ne (by omega), nxt_at _ _ _ _ _ (by omega), ← hJ1, hx2]
          have HY := Lib.hid hy
          have HC : Hid (((nxt (wI g i K) g i J).set J s1).set J1 s2 = nxt (wI g i K) g i J1) := by
            have h := nxt_step (wI g i K) g i J
            rw [hx, hx2, hyD, hyg, hyi, hs1, hs2, hJ1] at h
            exact h
          have HJ1 := Lib.hid hJ1
          have hJk1 : J < k1 := by omega
          have hJ1k1 : J1 < k1 := by omega
          clear hwl hwbd hy hyD hx hx2 hJ1 hyg hyi hs1 hs2 bx bx2 by1 byg byi hKk hk1 hn4
          go_wp2_with fail
          refine wp_region_put (by kernel_rfl) (by kernel_rfl) (by kernel_rfl) (fun b' vs w' => (b' 0 = true → vs 0 = .slice (some ⟨gn, 0, none⟩) k1 k1) ∧ (b' 1 = true → vs 1 = .int .i64 (J : Int)) ∧ (b' 2 = true → vs 2 = .pointer (some ⟨gn, J, none⟩)) ∧ (b' 3 = true → vs 3 = .int .i64 x) ∧ (b' 4 = true → vs 4 = .slice (some ⟨gw, 0, none⟩) k k) ∧ (b' 5 = true → vs 5 = .int .i64 (J : Int)) ∧ (b' 6 = true → vs 6 = .pointer (some ⟨gw, J, none⟩)) ∧ (b' 7 = true → vs 7 = .int .i64 y) ∧ (b' 8 = true → vs 8 = .int .i64 (F : Int)) ∧ (b' 9 = true → vs 9 = .int .i64 i) ∧ (b' 10 = true → vs 10 = .int .i64 g) ∧ (b' 11 = true → vs 11 = .int .i64 yg) ∧ (b' 12 = true → vs 12 = .int .i64 s1) ∧ (b' 13 = true → vs 13 = .pointer (some ⟨gn, J, none⟩)) ∧ (b' 14 = true → b' 12 = true) ∧ (b' 12 = true → b' 3 = true) ∧ Hid (RegM w.heap.size w [] [⟨gn, 3, ((nxt (wI g i K) g i J).map (Value.int .i64)).toArray, 14, (((nxt (wI g i K) g i J).set J s1).map (Value.int .i64)).toArray⟩] [(gw, 3, ((wI g i K).map (Value.int .i64)).toArray)] b' vs w')) ?_ ?_ ?_
          · intro vs
            exact ⟨fun h => Bool.noConfusion h, fun h => Bool.noConfusion h, fun h => Bool.noConfusion h, fun h => Bool.noConfusion h, fun h => Bool.noConfusion h, fun h => Bool.noConfusion h, fun h => Bool.noConfusion h, fun h => Bool.noConfusion h, fun h => Bool.noConfusion h, fun h => Bool.noConfusion h, fun h => Bool.noConfusion h, fun h => Bool.noConfusion h, fun h => Bool.noConfusion h, fun h => Bool.noConfusion h, fun h => Bool.noConfusion h, fun h => Bool.noConfusion h, RegM.start (⟨⟨hi.out.2.2, hi.out.2.2.size⟩, fun s hs => (by rcases List.mem_singleton.1 hs with rfl; exact hi.out.1), (show Lays wr [(gw, 3, ((wI g i K).map (Value.int .i64)).toArray)] from ⟨hi.out.2.1, trivial⟩)⟩) vs⟩
          · rintro b' vs w' i op hi hun hall ⟨h0, h1, h2, h3, h4, h5, h6, h7, h8, h9, h10, h11, h12, h13, hA, hB, hM⟩
            have hil : i < 15 := (List.getElem?_eq_some_iff.1 hi).1
            rcases i with _ | _ | _ | _ | _ | _ | _ | _ | _ | _ | _ | _ | _ | _ | _ | i
            · obtain rfl := Option.some.inj hi
              clear hi hil
              refine wpOp_step rfl (fun K hK => ?_)
              have HKK := Lib.hid hK; clear hK
              simp only [putAll, Act.put, List.setIfInBounds_toArray, List.set_cons_zero, List.set_cons_succ]
              go_simp
              exact HKK.out _ _ ⟨_, by simp only [putAll, Act.put, List.setIfInBounds_toArray, List.set_cons_zero, List.set_cons_succ] <;> rfl, fun _ => rfl, h1, h2, h3, h4, h5, h6, h7, h8, h9, h10, h11, h12, h13, hA, hB, RegM.other hM.out 0 _ rfl⟩
            · obtain rfl := Option.some.inj hi
              clear hi hil
              refine wpOp_step rfl (fun K hK => ?_)
              have HKK := Lib.hid hK; clear hK
              simp only [putAll, Act.put, List.setIfInBounds_toArray, List.set_cons_zero, List.set_cons_succ]
              go_simp
              exact HKK.out _ _ ⟨_, by simp only [putAll, Act.put, List.setIfInBounds_toArray, List.set_cons_zero, List.set_cons_succ] <;> rfl, h0, fun _ => rfl, h2, h3, h4, h5, h6, h7, h8, h9, h10, h11, h12, h13, hA, hB, RegM.other hM.out 1 _ rfl⟩
            · obtain rfl := Option.some.inj hi
              clear hi hil
              have d0 := h0 (hall ⟨0, .data⟩ (by simp) rfl)
              have d1 := h1 (hall ⟨1, .data⟩ (by simp) rfl)
              refine wpOp_step rfl (fun K hK => ?_)
              have HKK := Lib.hid hK; clear hK
              simp only [putAll, Act.put, List.setIfInBounds_toArray, List.set_cons_zero, List.set_cons_succ]
              go_simp
              exact HKK.out _ _ ⟨_, by simp only [putAll, Act.put, List.setIfInBounds_toArray, List.set_cons_zero, List.set_cons_succ, d0, d1] <;> rfl, h0, h1, fun _ => rfl, h3, h4, h5, h6, h7, h8, h9, h10, h11, h12, h13, hA, hB, RegM.other hM.out 2 _ rfl⟩
            · obtain rfl := Option.some.inj hi
              clear hi hil
              have d2 := h2 (hall ⟨2, .data⟩ (by simp) rfl)
              have q0 : w'.cell? ⟨gn, J, none⟩ = some (.int .i64 x) := by
                cases hq : b' 14 with
                | false => exact (RegM.at hM.out ⟨gn, 3, ((nxt (wI g i K) g i J).map (Value.int .i64)).toArray, 14, (((nxt (wI g i K) g i J).set J s1).map (Value.int .i64)).toArray⟩ (by simp) hq).int HX.out
                | true => have h3 := hB (hA hq); rw [show b' 3 = false from hun] at h3; cases h3
              refine wpOp_step rfl (fun K hK => ?_)
              have HKK := Lib.hid hK; clear hK
              simp only [putAll, Act.put, List.setIfInBounds_toArray, List.set_cons_zero, List.set_cons_succ]
              go_simp
              exact HKK.out _ _ ⟨_, by simp only [putAll, Act.put, List.setIfInBounds_toArray, List.set_cons_zero, List.set_cons_succ, d2] <;> rfl, h0, h1, h2, fun _ => rfl, h4, h5, h6, h7, h8, h9, h10, h11, h12, h13, hA, (fun _ => rfl), RegM.other hM.out 3 _ rfl⟩
            · obtain rfl := Option.some.inj hi
              clear hi hil
              refine wpOp_step rfl (fun K hK => ?_)
              have HKK := Lib.hid hK; clear hK
              simp only [putAll, Act.put, List.setIfInBounds_toArray, List.set_cons_zero, List.set_cons_succ]
              go_simp
              exact HKK.out _ _ ⟨_, by simp only [putAll, Act.put, List.setIfInBounds_toArray, List.set_cons_zero, List.set_cons_succ] <;> rfl, h0, h1, h2, h3, fun _ => rfl, h5, h6, h7, h8, h9, h10, h11, h12, h13, hA, hB, RegM.other hM.out 4 _ rfl⟩
            · obtain rfl := Option.some.inj hi
              clear hi hil
              refine wpOp_step rfl (fun K hK => ?_)
              have HKK := Lib.hid hK; clear hK
              simp only [putAll, Act.put, List.setIfInBounds_toArray, List.set_cons_zero, List.set_cons_succ]
              go_simp
              exact HKK.out _ _ ⟨_, by simp only [putAll, Act.put, List.setIfInBounds_toArray, List.set_cons_zero, List.set_cons_succ] <;> rfl, h0, h1, h2, h3, h4, fun _ => rfl, h6, h7, h8, h9, h10, h11, h12, h13, hA, hB, RegM.other hM.out 5 _ rfl⟩
            · obtain rfl := Option.some.inj hi
              clear hi hil
              have d4 := h4 (hall ⟨4, .data⟩ (by simp) rfl)
              have d5 := h5 (hall ⟨5, .data⟩ (by simp) rfl)
              refine wpOp_step rfl (fun K hK => ?_)
              have HKK := Lib.hid hK; clear hK
              simp only [putAll, Act.put, List.setIfInBounds_toArray, List.set_cons_zero, List.set_cons_succ]
              go_simp
              exact HKK.out _ _ ⟨_, by simp only [putAll, Act.put, List.setIfInBounds_toArray, List.set_cons_zero, List.set_cons_succ, d4, d5] <;> rfl, h0, h1, h2, h3, h4, h5, fun _ => rfl, h7, h8, h9, h10, h11, h12, h13, hA, hB, RegM.other hM.out 6 _ rfl⟩
            · obtain rfl := Option.some.inj hi
              clear hi hil
              have d6 := h6 (hall ⟨6, .data⟩ (by simp) rfl)
              have q0 := (RegM.lays hM.out).1.int HY.out
              refine wpOp_step rfl (fun K hK => ?_)
              have HKK := Lib.hid hK; clear hK
              simp only [putAll, Act.put, List.setIfInBounds_toArray, List.set_cons_zero, List.set_cons_succ]
              go_simp
              exact HKK.out _ _ ⟨_, by simp only [putAll, Act.put, List.setIfInBounds_toArray, List.set_cons_zero, List.set_cons_succ, d6] <;> rfl, h0, h1, h2, h3, h4, h5, h6, fun _ => rfl, h8, h9, h10, h11, h12, h13, hA, hB, RegM.other hM.out 7 _ rfl⟩
            · obtain rfl := Option.some.inj hi
              clear hi hil
              refine wpOp_step rfl (fun K hK => ?_)
              have HKK := Lib.hid hK; clear hK
              simp only [putAll, Act.put, List.setIfInBounds_toArray, List.set_cons_zero, List.set_cons_succ]
              go_simp
              exact HKK.out _ _ ⟨_, by simp only [putAll, Act.put, List.setIfInBounds_toArray, List.set_cons_zero, List.set_cons_succ] <;> rfl, h0, h1, h2, h3, h4, h5, h6, h7, fun _ => rfl, h9, h10, h11, h12, h13, hA, hB, RegM.other hM.out 8 _ rfl⟩
            · obtain rfl := Option.some.inj hi
              clear hi hil
              refine wpOp_step rfl (fun K hK => ?_)
              have HKK := Lib.hid hK; clear hK
              simp only [putAll, Act.put, List.setIfInBounds_toArray, List.set_cons_zero, List.set_cons_succ]
              go_simp
              exact HKK.out _ _ ⟨_, by simp only [putAll, Act.put, List.setIfInBounds_toArray, List.set_cons_zero, List.set_cons_succ] <;> rfl, h0, h1, h2, h3, h4, h5, h6, h7, h8, fun _ => rfl, h10, h11, h12, h13, hA, hB, RegM.other hM.out 9 _ rfl⟩
            · obtain rfl := Option.some.inj hi
              clear hi hil
              have d8 := h8 (hall ⟨8, .data⟩ (by simp) rfl)
              have d9 := h9 (hall ⟨9, .data⟩ (by simp) rfl)
              refine wpOp_step rfl (fun K hK => ?_)
              have HKK := Lib.hid hK; clear hK
              simp only [putAll, Act.put, List.setIfInBounds_toArray, List.set_cons_zero, List.set_cons_succ]
              go_simp
              exact HKK.out _ _ ⟨_, by simp only [putAll, Act.put, List.setIfInBounds_toArray, List.set_cons_zero, List.set_cons_succ, d8, d9, EG.out] <;> rfl, h0, h1, h2, h3, h4, h5, h6, h7, h8, h9, fun _ => rfl, h11, h12, h13, hA, hB, RegM.other hM.out 10 _ rfl⟩
            · obtain rfl := Option.some.inj hi
              clear hi hil
              have d7 := h7 (hall ⟨7, .data⟩ (by simp) rfl)
              have d10 := h10 (hall ⟨10, .data⟩ (by simp) rfl)
              refine wpOp_step rfl (fun K hK => ?_)
              have HKK := Lib.hid hK; clear hK
              simp only [putAll, Act.put, List.setIfInBounds_toArray, List.set_cons_zero, List.set_cons_succ]
              go_simp
              exact HKK.out _ _ ⟨_, by simp only [putAll, Act.put, List.setIfInBounds_toArray, List.set_cons_zero, List.set_cons_succ, d7, d10, EYG.out] <;> rfl, h0, h1, h2, h3, h4, h5, h6, h7, h8, h9, h10, fun _ => rfl, h12, h13, hA, hB, RegM.other hM.out 11 _ rfl⟩
            · obtain rfl := Option.some.inj hi
              clear hi hil
              have d3 := h3 (hall ⟨3, .data⟩ (by simp) rfl)
              have d11 := h11 (hall ⟨11, .data⟩ (by simp) rfl)
              have hL : b' 3 = true := hall ⟨3, .data⟩ (by simp) rfl
              refine wpOp_step rfl (fun K hK => ?_)
              have HKK := Lib.hid hK; clear hK
              simp only [putAll, Act.put, List.setIfInBounds_toArray, List.set_cons_zero, List.set_cons_succ]
              go_simp
              exact HKK.out _ _ ⟨_, by simp only [putAll, Act.put, List.setIfInBounds_toArray, List.set_cons_zero, List.set_cons_succ, d3, d11, ES1.out] <;> rfl, h0, h1, h2, h3, h4, h5, h6, h7, h8, h9, h10, h11, fun _ => rfl, h13, (fun _ => rfl), (fun _ => hL), RegM.other hM.out 12 _ rfl⟩
            · obtain rfl := Option.some.inj hi
              clear hi hil
              have d0 := h0 (hall ⟨0, .data⟩ (by simp) rfl)
              have d1 := h1 (hall ⟨1, .data⟩ (by simp) rfl)
              refine wpOp_step rfl (fun K hK => ?_)
              have HKK := Lib.hid hK; clear hK
              simp only [putAll, Act.put, List.setIfInBounds_toArray, List.set_cons_zero, List.set_cons_succ]
              go_simp
              exact HKK.out _ _ ⟨_, by simp only [putAll, Act.put, List.setIfInBounds_toArray, List.set_cons_zero, List.set_cons_succ, d0, d1] <;> rfl, h0, h1, h2, h3, h4, h5, h6, h7, h8, h9, h10, h11, h12, fun _ => rfl, hA, hB, RegM.other hM.out 13 _ rfl⟩
            · obtain rfl := Option.some.inj hi
              clear hi hil
              have d13 := h13 (hall ⟨13, .data⟩ (by simp) rfl)
              have d12 := h12 (hall ⟨12, .data⟩ (by simp) rfl)
              have kg := RegM.at hM.out ⟨gn, 3, ((nxt (wI g i K) g i J).map (Value.int .i64)).toArray, 14, (((nxt (wI g i K) g i J).set J s1).map (Value.int .i64)).toArray⟩ (by simp) hun
              have q0 := kg.int HX.out
              have f0 := kg.free J
              have hL : b' 12 = true := hall ⟨12, .data⟩ (by simp) rfl
              have dL := h3 (hB hL)
              refine wpOp_step rfl (fun K hK => ?_)
              have HKK := Lib.hid hK; clear hK
              simp only [putAll, Act.put, List.setIfInBounds_toArray, List.set_cons_zero, List.set_cons_succ]
              go_simp
              exact HKK.out _ _ ⟨_, by simp only [putAll, Act.put, List.setIfInBounds_toArray, List.set_cons_zero, List.set_cons_succ, dL, d13, d12] <;> rfl, h0, h1, h2, h3, h4, h5, h6, h7, h8, h9, h10, h11, h12, h13, (fun _ => hL), hB, RegM.stored hM.out undef (Below.setCell (RegM.below hM.out) hwr.out.1 _) (by simp) (kg.setInt J s1) ⟨(RegM.lays hM.out).1.other _ _ (Nat.ne_of_lt hwr.out.2), trivial⟩⟩
            · omega
          · rintro b' vs w2 hall ⟨h0, h1, h2, h3, h4, h5, h6, h7, h8, h9, h10, h11, h12, h13, hA, hB, hM⟩
            have d0 := h0 (hall 0 (by simp))
            have d1 := h1 (hall 1 (by simp))
            have d2 := h2 (hall 2 (by simp))
            have d3 := h3 (hall 3 (by simp))
            have d4 := h4 (hall 4 (by simp))
            have d5 := h5 (hall 5 (by simp))
            have d6 := h6 (hall 6 (by simp))
            have d7 := h7 (hall 7 (by simp))
            have d8 := h8 (hall 8 (by simp))
            have d9 := h9 (hall 9 (by simp))
            have d10 := h10 (hall 10 (by simp))
            have d11 := h11 (hall 11 (by simp))
            have d12 := h12 (hall 12 (by simp))
            have d13 := h13 (hall 13 (by simp))
            have k0 := Lib.hid (RegM.done hM.out ⟨gn, 3, ((nxt (wI g i K) g i J).map (Value.int .i64)).toArray, 14, (((nxt (wI g i K) g i J).set J s1).map (Value.int .i64)).toArray⟩ (by simp) (hall _ (by simp)))
            have LS := Lib.hid (RegM.lays hM.out)
            have BB_ := Lib.hid (RegM.below hM.out)
            have BN := hM.out.1.2
            simp only [putAll, Act.put, List.setIfInBounds_toArray, List.set_cons_zero, List.set_cons_succ, d0, d1, d2, d3, d4, d5, d6, d7, d8, d9, d10, d11, d12, d13]
            clear h0 d0 h1 d1 h2 d2 h3 d3 h4 d4 h5 d5 h6 d6 h7 d7 h8 d8 h9 d9 h10 d10 h11 d11 h12 d12 h13 d13
            have S10 : Hid (Blk w2 gn 3 (((nxt (wI g i K) g i J).set J s1).map (Value.int .i64)).toArray ∧ Blk w2 gw 3 ((wI g i K).map (Value.int .i64)).toArray ∧ Below w.heap.size w w2) := ⟨k0.out, LS.out.1, BB_.out⟩
            clear k0 LS BB_ hM hall
            go_wp2_with fail
            refine wp_region_put (by kernel_rfl) (by kernel_rfl) (by kernel_rfl) (fun b' vs w' => (b' 0 = true → vs 0 = .slice (some ⟨gn, 0, none⟩) k1 k1) ∧ (b' 1 = true → vs 1 = .int .i64 (J : Int)) ∧ (b' 2 = true → vs 2 = .int .i64 (J1 : Int)) ∧ (b' 3 = true → vs 3 = .pointer (some ⟨gn, J1, none⟩)) ∧ (b' 4 = true → vs 4 = .int .i64 x2) ∧ (b' 5 = true → vs 5 = .slice (some ⟨gw, 0, none⟩) k k) ∧ (b' 6 = true → vs 6 = .int .i64 (J : Int)) ∧ (b' 7 = true → vs 7 = .pointer (some ⟨gw, J, none⟩)) ∧ (b' 8 = true → vs 8 = .int .i64 y) ∧ (b' 9 = true → vs 9 = .int .i64 i) ∧ (b' 10 = true → vs 10 = .int .i64 yi) ∧ (b' 11 = true → vs 11 = .int .i64 s2) ∧ (b' 12 = true → vs 12 = .pointer (some ⟨gn, J1, none⟩)) ∧ (b' 13 = true → b' 11 = true) ∧ (b' 11 = true → b' 4 = true) ∧ Hid (RegM w.heap.size w [] [⟨gn, 3, (((nxt (wI g i K) g i J).set J s1).map (Value.int .i64)).toArray, 13, ((((nxt (wI g i K) g i J).set J s1).set J1 s2).map (Value.int .i64)).toArray⟩] [(gw, 3, ((wI g i K).map (Value.int .i64)).toArray)] b' vs w')) ?_ ?_ ?_
            · intro vs
              exact ⟨fun h => Bool.noConfusion h, fun h => Bool.noConfusion h, fun h => Bool.noConfusion h, fun h => Bool.noConfusion h, fun h => Bool.noConfusion h, fun h => Bool.noConfusion h, fun h => Bool.noConfusion h, fun h => Bool.noConfusion h, fun h => Bool.noConfusion h, fun h => Bool.noConfusion h, fun h => Bool.noConfusion h, fun h => Bool.noConfusion h, fun h => Bool.noConfusion h, fun h => Bool.noConfusion h, fun h => Bool.noConfusion h, RegM.start (⟨⟨S10.out.2.2, S10.out.2.2.size⟩, fun s hs => (by rcases List.mem_singleton.1 hs with rfl; exact S10.out.1), (show Lays w2 [(gw, 3, ((wI g i K).map (Value.int .i64)).toArray)] from ⟨S10.out.2.1, trivial⟩)⟩) vs⟩
            · rintro b' vs w' i op hi hun hall ⟨h0, h1, h2, h3, h4, h5, h6, h7, h8, h9, h10, h11, h12, hA, hB, hM⟩
              have hil : i < 14 := (List.getElem?_eq_some_iff.1 hi).1
              rcases i with _ | _ | _ | _ | _ | _ | _ | _ | _ | _ | _ | _ | _ | _ | i
              · obtain rfl := Option.some.inj hi
                clear hi hil
                refine wpOp_step rfl (fun K hK => ?_)
                have HKK := Lib.hid hK; clear hK
                simp only [putAll, Act.put, List.setIfInBounds_toArray, List.set_cons_zero, List.set_cons_succ]
                go_simp
                exact HKK.out _ _ ⟨_, by simp only [putAll, Act.put, List.setIfInBounds_toArray, List.set_cons_zero, List.set_cons_succ] <;> rfl, fun _ => rfl, h1, h2, h3, h4, h5, h6, h7, h8, h9, h10, h11, h12, hA, hB, RegM.other hM.out 0 _ rfl⟩
              · obtain rfl := Option.some.inj hi
                clear hi hil
                refine wpOp_step rfl (fun K hK => ?_)
                have HKK := Lib.hid hK; clear hK
                simp only [putAll, Act.put, List.setIfInBounds_toArray, List.set_cons_zero, List.set_cons_succ]
                go_simp
                exact HKK.out _ _ ⟨_, by simp only [putAll, Act.put, List.setIfInBounds_toArray, List.set_cons_zero, List.set_cons_succ] <;> rfl, h0, fun _ => rfl, h2, h3, h4, h5, h6, h7, h8, h9, h10, h11, h12, hA, hB, RegM.other hM.out 1 _ rfl⟩
              · obtain rfl := Option.some.inj hi
                clear hi hil
                have d1 := h1 (hall ⟨1, .data⟩ (by simp) rfl)
                refine wpOp_step rfl (fun K hK => ?_)
                have HKK := Lib.hid hK; clear hK
                simp only [putAll, Act.put, List.setIfInBounds_toArray, List.set_cons_zero, List.set_cons_succ]
                go_simp
                exact HKK.out _ _ ⟨_, by simp only [putAll, Act.put, List.setIfInBounds_toArray, List.set_cons_zero, List.set_cons_succ, d1, EJ1.out] <;> rfl, h0, h1, fun _ => rfl, h3, h4, h5, h6, h7, h8, h9, h10, h11, h12, hA, hB, RegM.other hM.out 2 _ rfl⟩
              · obtain rfl := Option.some.inj hi
                clear hi hil
                have d0 := h0 (hall ⟨0, .data⟩ (by simp) rfl)
                have d2 := h2 (hall ⟨2, .data⟩ (by simp) rfl)
                refine wpOp_step rfl (fun K hK => ?_)
                have HKK := Lib.hid hK; clear hK
                simp only [putAll, Act.put, List.setIfInBounds_toArray, List.set_cons_zero, List.set_cons_succ]
                go_simp
                exact HKK.out _ _ ⟨_, by simp only [putAll, Act.put, List.setIfInBounds_toArray, List.set_cons_zero, List.set_cons_succ, d0, d2] <;> rfl, h0, h1, h2, fun _ => rfl, h4, h5, h6, h7, h8, h9, h10, h11, h12, hA, hB, RegM.other hM.out 3 _ rfl⟩
              · obtain rfl := Option.some.inj hi
                clear hi hil
                have d3 := h3 (hall ⟨3, .data⟩ (by simp) rfl)
                have q0 : w'.cell? ⟨gn, J1, none⟩ = some (.int .i64 x2) := by
                  cases hq : b' 13 with
                  | false => exact (RegM.at hM.out ⟨gn, 3, (((nxt (wI g i K) g i J).set J s1).map (Value.int .i64)).toArray, 13, ((((nxt (wI g i K) g i J).set J s1).set J1 s2).map (Value.int .i64)).toArray⟩ (by simp) hq).int HX2.out
                  | true => have h3 := hB (hA hq); rw [show b' 4 = false from hun] at h3; cases h3
                refine wpOp_step rfl (fun K hK => ?_)
                have HKK := Lib.hid hK; clear hK
                simp only [putAll, Act.put, List.setIfInBounds_toArray, List.set_cons_zero, List.set_cons_succ]
                go_simp
                exact HKK.out _ _ ⟨_, by simp only [putAll, Act.put, List.setIfInBounds_toArray, List.set_cons_zero, List.set_cons_succ, d3] <;> rfl, h0, h1, h2, h3, fun _ => rfl, h5, h6, h7, h8, h9, h10, h11, h12, hA, (fun _ => rfl), RegM.other hM.out 4 _ rfl⟩
              · obtain rfl := Option.some.inj hi
                clear hi hil
                refine wpOp_step rfl (fun K hK => ?_)
                have HKK := Lib.hid hK; clear hK
                simp only [putAll, Act.put, List.setIfInBounds_toArray, List.set_cons_zero, List.set_cons_succ]
                go_simp
                exact HKK.out _ _ ⟨_, by simp only [putAll, Act.put, List.setIfInBounds_toArray, List.set_cons_zero, List.set_cons_succ] <;> rfl, h0, h1, h2, h3, h4, fun _ => rfl, h6, h7, h8, h9, h10, h11, h12, hA, hB, RegM.other hM.out 5 _ rfl⟩
              · obtain rfl := Option.some.inj hi
                clear hi hil
                refine wpOp_step rfl (fun K hK => ?_)
                have HKK := Lib.hid hK; clear hK
                simp only [putAll, Act.put, List.setIfInBounds_toArray, List.set_cons_zero, List.set_cons_succ]
                go_simp
                exact HKK.out _ _ ⟨_, by simp only [putAll, Act.put, List.setIfInBounds_toArray, List.set_cons_zero, List.set_cons_succ] <;> rfl, h0, h1, h2, h3, h4, h5, fun _ => rfl, h7, h8, h9, h10, h11, h12, hA, hB, RegM.other hM.out 6 _ rfl⟩
              · obtain rfl := Option.some.inj hi
                clear hi hil
                have d5 := h5 (hall ⟨5, .data⟩ (by simp) rfl)
                have d6 := h6 (hall ⟨6, .data⟩ (by simp) rfl)
                refine wpOp_step rfl (fun K hK => ?_)
                have HKK := Lib.hid hK; clear hK
                simp only [putAll, Act.put, List.setIfInBounds_toArray, List.set_cons_zero, List.set_cons_succ]
                go_simp
                exact HKK.out _ _ ⟨_, by simp only [putAll, Act.put, List.setIfInBounds_toArray, List.set_cons_zero, List.set_cons_succ, d5, d6] <;> rfl, h0, h1, h2, h3, h4, h5, h6, fun _ => rfl, h8, h9, h10, h11, h12, hA, hB, RegM.other hM.out 7 _ rfl⟩
              · obtain rfl := Option.some.inj hi
                clear hi hil
                have d7 := h7 (hall ⟨7, .data⟩ (by simp) rfl)
                have q0 := (RegM.lays hM.out).1.int HY.out
                refine wpOp_step rfl (fun K hK => ?_)
                have HKK := Lib.hid hK; clear hK
                simp only [putAll, Act.put, List.setIfInBounds_toArray, List.set_cons_zero, List.set_cons_succ]
                go_simp
                exact HKK.out _ _ ⟨_, by simp only [putAll, Act.put, List.setIfInBounds_toArray, List.set_cons_zero, List.set_cons_succ, d7] <;> rfl, h0, h1, h2, h3, h4, h5, h6, h7, fun _ => rfl, h9, h10, h11, h12, hA, hB, RegM.other hM.out 8 _ rfl⟩
              · obtain rfl := Option.some.inj hi
                clear hi hil
                refine wpOp_step rfl (fun K hK => ?_)
                have HKK := Lib.hid hK; clear hK
                simp only [putAll, Act.put, List.setIfInBounds_toArray, List.set_cons_zero, List.set_cons_succ]
                go_simp
                exact HKK.out _ _ ⟨_, by simp only [putAll, Act.put, List.setIfInBounds_toArray, List.set_cons_zero, List.set_cons_succ] <;> rfl, h0, h1, h2, h3, h4, h5, h6, h7, h8, fun _ => rfl, h10, h11, h12, hA, hB, RegM.other hM.out 9 _ rfl⟩
              · obtain rfl := Option.some.inj hi
                clear hi hil
                have d8 := h8 (hall ⟨8, .data⟩ (by simp) rfl)
                have d9 := h9 (hall ⟨9, .data⟩ (by simp) rfl)
                refine wpOp_step rfl (fun K hK => ?_)
                have HKK := Lib.hid hK; clear hK
                simp only [putAll, Act.put, List.setIfInBounds_toArray, List.set_cons_zero, List.set_cons_succ]
                go_simp
                exact HKK.out _ _ ⟨_, by simp only [putAll, Act.put, List.setIfInBounds_toArray, List.set_cons_zero, List.set_cons_succ, d8, d9, EYI.out] <;> rfl, h0, h1, h2, h3, h4, h5, h6, h7, h8, h9, fun _ => rfl, h11, h12, hA, hB, RegM.other hM.out 10 _ rfl⟩
              · obtain rfl := Option.some.inj hi
                clear hi hil
                have d4 := h4 (hall ⟨4, .data⟩ (by simp) rfl)
                have d10 := h10 (hall ⟨10, .data⟩ (by simp) rfl)
                have hL : b' 4 = true := hall ⟨4, .data⟩ (by simp) rfl
                refine wpOp_step rfl (fun K hK => ?_)
                have HKK := Lib.hid hK; clear hK
                simp only [putAll, Act.put, List.setIfInBounds_toArray, List.set_cons_zero, List.set_cons_succ]
                go_simp
                exact HKK.out _ _ ⟨_, by simp only [putAll, Act.put, List.setIfInBounds_toArray, List.set_cons_zero, List.set_cons_succ, d4, d10, ES2.out] <;> rfl, h0, h1, h2, h3, h4, h5, h6, h7, h8, h9, h10, fun _ => rfl, h12, (fun _ => rfl), (fun _ => hL), RegM.other hM.out 11 _ rfl⟩
              · obtain rfl := Option.some.inj hi
                clear hi hil
                have d0 := h0 (hall ⟨0, .data⟩ (by simp) rfl)
                have d2 := h2 (hall ⟨2, .data⟩ (by simp) rfl)
                refine wpOp_step rfl (fun K hK => ?_)
                have HKK := Lib.hid hK; clear hK
                simp only [putAll, Act.put, List.setIfInBounds_toArray, List.set_cons_zero, List.set_cons_succ]
                go_simp
                exact HKK.out _ _ ⟨_, by simp only [putAll, Act.put, List.setIfInBounds_toArray, List.set_cons_zero, List.set_cons_succ, d0, d2] <;> rfl, h0, h1, h2, h3, h4, h5, h6, h7, h8, h9, h10, h11, fun _ => rfl, hA, hB, RegM.other hM.out 12 _ rfl⟩
              · obtain rfl := Option.some.inj hi
                clear hi hil
                have d12 := h12 (hall ⟨12, .data⟩ (by simp) rfl)
                have d11 := h11 (hall ⟨11, .data⟩ (by simp) rfl)
                have kg := RegM.at hM.out ⟨gn, 3, (((nxt (wI g i K) g i J).set J s1).map (Value.int .i64)).toArray, 13, ((((nxt (wI g i K) g i J).set J s1).set J1 s2).map (Value.int .i64)).toArray⟩ (by simp) hun
                have q0 := kg.int HX2.out
                have f0 := kg.free J1
                have hL : b' 11 = true := hall ⟨11, .data⟩ (by simp) rfl
                have dL := h4 (hB hL)
                refine wpOp_step rfl (fun K hK => ?_)
                have HKK := Lib.hid hK; clear hK
                simp only [putAll, Act.put, List.setIfInBounds_toArray, List.set_cons_zero, List.set_cons_succ]
                go_simp
                exact HKK.out _ _ ⟨_, by simp only [putAll, Act.put, List.setIfInBounds_toArray, List.set_cons_zero, List.set_cons_succ, dL, d12, d11] <;> rfl, h0, h1, h2, h3, h4, h5, h6, h7, h8, h9, h10, h11, h12, (fun _ => hL), hB, RegM.stored hM.out undef (Below.setCell (RegM.below hM.out) hwr.out.1 _) (by simp) (kg.setInt J1 s2) ⟨(RegM.lays hM.out).1.other _ _ (Nat.ne_of_lt hwr.out.2), trivial⟩⟩
              · omega
            · rintro b' vs w2 hall ⟨h0, h1, h2, h3, h4, h5, h6, h7, h8, h9, h10, h11, h12, hA, hB, hM⟩
              have d0 := h0 (hall 0 (by simp))
              have d1 := h1 (hall 1 (by simp))
              have d2 := h2 (hall 2 (by simp))
              have d3 := h3 (hall 3 (by simp))
              have d4 := h4 (hall 4 (by simp))
              have d5 := h5 (hall 5 (by simp))
              have d6 := h6 (hall 6 (by simp))
              have d7 := h7 (hall 7 (by simp))
              have d8 := h8 (hall 8 (by simp))
              have d9 := h9 (hall 9 (by simp))
              have d10 := h10 (hall 10 (by simp))
              have d11 := h11 (hall 11 (by simp))
              have d12 := h12 (hall 12 (by simp))
              have k0 := Lib.hid (RegM.done hM.out ⟨gn, 3, (((nxt (wI g i K) g i J).set J s1).map (Value.int .i64)).toArray, 13, ((((nxt (wI g i K) g i J).set J s1).set J1 s2).map (Value.int .i64)).toArray⟩ (by simp) (hall _ (by simp)))
              have LS := Lib.hid (RegM.lays hM.out)
              have BB_ := Lib.hid (RegM.below hM.out)
              have BN := hM.out.1.2
              simp only [putAll, Act.put, List.setIfInBounds_toArray, List.set_cons_zero, List.set_cons_succ, d0, d1, d2, d3, d4, d5, d6, d7, d8, d9, d10, d11, d12]
              clear h0 d0 h1 d1 h2 d2 h3 d3 h4 d4 h5 d5 h6 d6 h7 d7 h8 d8 h9 d9 h10 d10 h11 d11 h12 d12
              go_wp2_with fail
              have hq := HJ1.out
              exact ⟨⟨J1, by omega, by go_num, by rw [HC.out] at k0; exact k0.out, LS.out.1, BB_.out⟩, by simp [intOf]; omega⟩
        · have hdj : decide ((J : Int) < (k : Int)) = false := decide_eq_false (by omega)
          have hJk : J = k := by omega
          subst hJk
          go_wp2_with fail
          have hk1 : J + 1 = k1 := HK1.out
          have hKk : K + 1 = J := HK.out
          refine ⟨⟨K + 1, k1, gn, by omega, by omega, rfl, by go_num, ?_, hi.out.2.2⟩, by simp [intOf]; omega⟩
          rw [wI, hKk]; exact hi.out.1
    · have hd : decide ((k : Int) < (n : Int)) = false := decide_eq_false (by omega)
      have hkk : k = n := by omega
      subst hkk
      have hKK : k - 1 = K := by omega
      clear hK
      go_wp2_with fail
      go_ret
      exact ⟨gw, rfl, by rw [hKK]; exact hw.out.1, hw.out.2⟩
end Go.Proofs.Ythlealndopppaaa
