/- Layer 15: the document: the text of a path. -/
import Derived.Test.YtbnbglngpgikfaaGreatDoorQq
import Derived.Test.YtbnbglngpgikfaaGreatDoorNd
namespace Go.Proofs.YtbnbglngpgikfaaGreatDoor
open Go.RowKit Go.Shelf
attribute [local go_sem] Oper.semAt_some
/-- The text of a path, as the document builds it. -/
def ptT (p : Pt) : Wd := 32 :: (textT p.1 ++ (32 :: textT p.2))
def segT (s : Sg) : Wd := letC false s.k :: (s.pts.take (needI s.k)).flatMap ptT
def textUp : List Sg → Wd
  | [] => []
  | [s] => segT s
  | s :: t :: l => segT s ++ (32 :: textUp (t :: l))
theorem spaced_pts : ∀ l : List Pt, spaced (l.flatMap ptW) = l.flatMap ptT
  | [] => rfl
  | p :: l => by
    rw [List.flatMap_cons, List.flatMap_cons, ← spaced_pts l]
    simp [ptW, ptT, spaced]
theorem segB_text (s : Sg) : segB s ≠ [] ∧ joinW (segB s) = segT s := by
  unfold segB segT
  refine ⟨by simp, ?_⟩
  rw [joinW, spaced_pts]
  rfl
theorem joinW_append (a b : List Wd) (ha : a ≠ []) (hb : b ≠ []) : joinW (a ++ b) = joinW a ++ (32 :: joinW b) := by
  cases a with
  | nil => exact absurd rfl ha
  | cons x a =>
    cases b with
    | nil => exact absurd rfl hb
    | cons y b => rw [List.cons_append, joinW, joinW, joinW, spaced_append, spaced]; simp
theorem showT_up (l : List Sg) : joinW (l.flatMap segB) = textUp l := by
  induction l with
  | nil => rfl
  | cons s l ih =>
    cases l with
    | nil => rw [List.flatMap_cons, List.flatMap_nil, List.append_nil, textUp]; exact (segB_text s).2
    | cons t l =>
      rw [List.flatMap_cons, joinW_append _ _ (segB_text s).1 (by rw [List.flatMap_cons]; simp [(segB_text t).1]), ih, (segB_text s).2, textUp]
/-- A segment more, behind those that stand. -/
def preT (l : List Sg) : Wd := match l with
  | [] => []
  | _ :: _ => textUp l ++ [32]
theorem textUp_snoc (l : List Sg) (s : Sg) : textUp (l ++ [s]) = preT l ++ segT s := by
  induction l with
  | nil => rfl
  | cons t l ih =>
    cases l with
    | nil => simp [textUp, preT]
    | cons u l =>
      rw [List.cons_append, List.cons_append, textUp]
      rw [List.cons_append] at ih
      rw [ih]
      simp [preT, textUp]
theorem textUp_len {l : List Sg} (h : checkI l = 0) : ∀ k, (textUp (l.take k)).length ≤ l.length * 500 := fun k => by
  rw [← showT_up]
  have h0 : ∀ w ∈ (l.take k).flatMap segB, w.length ≤ 60 := fun w hw => by
    obtain ⟨s, hs, hw⟩ := List.mem_flatMap.1 hw
    exact segs_text h w (List.mem_flatMap.2 ⟨s, List.mem_of_mem_take hs, hw⟩)
  have h1 := lens_of _ 60 h0
  have h2 := segs_len (l.take k)
  rw [List.length_take] at h2
  have h3 : ((l.take k).flatMap segB).length * (60 + 1) ≤ (l.length * 7) * 61 := Nat.mul_le_mul_right _ (by omega)
  omega
theorem ptT_len (p : Pt) (h : inB p.1 = true ∧ inB p.2 = true) : (ptT p).length ≤ 122 := by
  have h1 := textT_le p.1 h.1
  have h2 := textT_le p.2 h.2
  simp [ptT]; omega
theorem seg_pt {w : World} {b o i : Nat} {l : List Sg} {s : Sg} {x y : Int} {j : Nat} (h : SegsAt w b o l) (hi : l[i]? = some s) (hj : s.pts[j]? = some (x, y)) : w.cell? ⟨b, o + i * 7 + 1 + j * 2, none⟩ = some (.int .i64 x) ∧ w.cell? ⟨b, o + i * 7 + 1 + j * 2 + 1, none⟩ = some (.int .i64 y) := by
  match j, hj with
  | 0, hj => simp [Sg.pts] at hj; have h1 := h.c1 hi; have h2 := h.c2 hi; rw [hj] at h1 h2; exact ⟨h1, h2⟩
  | 1, hj => simp [Sg.pts] at hj; have h1 := h.c3 hi; have h2 := h.c4 hi; rw [hj] at h1 h2; exact ⟨h1, h2⟩
  | 2, hj => simp [Sg.pts] at hj; have h1 := h.c5 hi; have h2 := h.c6 hi; rw [hj] at h1 h2; exact ⟨h1, h2⟩
  | j + 3, hj => simp [Sg.pts] at hj
set_option maxHeartbeats 4000000 in
set_option maxRecDepth 100000 in
theorem refShow_c (u : Value) (l : List Sg) (w : World) (row : RowS w u l) (hc : checkI l = 0) : Calls Tryz.prog 14 #[u] w fun e w' => e = .returned (.string ⟨(showT l).toArray⟩) ∧ Below w.heap.size w w' := by
  have HST : Hid (showT l = textUp l) := by unfold Hid showT; rw [pathW_big, showT_up]
  rw [HST.out]
  obtain ⟨ao, c, rfl⟩ := row.shape
  obtain ⟨N, hN⟩ : ∃ N, w.heap.size = N := ⟨_, rfl⟩
  obtain ⟨n, hn⟩ : ∃ n, l.length = n := ⟨_, rfl⟩
  have HOK := Lib.hid hc
  have HROW := Lib.hid row
  have HLN : Hid (l.length = n ∧ n ≤ 4096) := ⟨hn, by have := (check_parts hc).1; omega⟩
  have HN := Lib.hid hN
  have HTL := Lib.hid (textUp_len hc)
  rw [hn] at HROW HTL ⊢
  rw [hN]
  clear row hc hN hn
  go_enter Tryz.func14, Tryz.ntmps14
  go_wp2_with fail
  have hn63 : (n : Int) ≤ 4096 := by have := HLN.out; omega
  go_loopw [3, 4] (fun t i wr => ∃ (k : Nat) (T : Wd), k ≤ n ∧ i = .int .i64 (k : Int) ∧ t = .string ⟨T.toArray⟩ ∧ Hid (T = textUp (l.take k)) ∧ Hid (Below N w wr)) (fun _ i _ => n - (intOf i).toNat)
  case atStart => exact ⟨0, [], by omega, rfl, rfl, rfl, by unfold Hid; rw [← HN.out]; exact Below.refl _ _⟩
  case round =>
    obtain ⟨k, T, hk, rfl, rfl, hT, hw⟩ := hrel
    have hTl : (T.length : Int) ≤ 3000000 := by have := HTL.out k; rw [← hT.out] at this; have := HLN.out; omega
    by_cases hlt : k < n
    · have hd : decide ((k : Int) < (n : Int)) = true := by simp; omega
      obtain ⟨b, o, rfl, hbs, hpa⟩ := RowS.addr HROW.out (k := k) (by rw [HLN.out.1]; exact hlt)
      obtain ⟨s, hq⟩ : ∃ p, l[k]? = some p := ⟨_, List.getElem?_eq_getElem (by rw [HLN.out.1]; exact hlt)⟩
      have HAT : Hid (∀ W, Below N w W → SegsAt W b o l) := fun W hW => hpa.on hW (by rw [← HN.out]; exact hbs)
      have HQ := Lib.hid hq
      have hso := seg_ok HOK.out hq
      have HSO := Lib.hid hso
      have hcut := fun W => letter_cut hso.kind W
      obtain ⟨k1, k5⟩ : 1 ≤ s.k ∧ s.k ≤ 5 := by have := isKind_cases hso.kind; omega
      have c0 := (HAT.out wr hw.out).c0 hq
      have HLT := Lib.hid hlt
      obtain ⟨Z0, hZ0⟩ : ∃ Z, preT (l.take k) = Z := ⟨_, rfl⟩
      have HZ0 := Lib.hid hZ0
      have HUP : Hid (textUp (l.take (k + 1)) = Z0 ++ segT s) := by unfold Hid; rw [List.take_add_one, hq, ← hZ0]; exact textUp_snoc _ s
      have hZl : (Z0.length : Int) ≤ 3000001 := by
        rw [← hZ0]
        unfold preT
        split
        · simp
        · rw [List.length_append]
          have := HTL.out k
          have := HLN.out
          simp; omega
      clear hpa hbs hso hZ0 c0
      have HCUT := Lib.hid hcut
      have HEK : Hid (IntKind.i64.wrap (s.k - 1) = s.k - 1) := (wrap_is _).trans (wrapR _ (by omega) (by omega))
      clear hcut
      obtain ⟨m, hm2⟩ : ∃ m, needI s.k = m := ⟨_, rfl⟩
      have HM := Lib.hid hm2
      have hm3 : m ≤ 3 := by rw [← hm2]; exact needI_le s.k
      have HND : Hid (∀ W, Calls Tryz.prog 21 #[.int .i64 s.k] W fun e w' => e = .returned (.int .i64 (m : Int)) ∧ W = w') := fun W => by rw [← hm2]; exact refNeed_c s.k W
      obtain ⟨P, hP⟩ : ∃ P, s.pts.take m = P := ⟨_, rfl⟩
      have HP := Lib.hid hP
      have HPL : Hid (P.length = m) := by unfold Hid; rw [← hP, List.length_take]; simp [Sg.pts]; omega
      have hm63 : (m : Int) ≤ 3 := by omega
      clear hm2 hP
      by_cases hk0 : k = 0
      · have hkn : ¬ (0 < k) := by omega
        have hkf : decide ((k : Int) > 0) = false := by simp; omega
        obtain rfl : Z0 = T := by rw [← HZ0.out, hT.out, hk0]; rfl
        have HK0 := Lib.hid hkn
        clear hk0 hkn
        have HZL := Lib.hid hZl
        have HDD := Lib.hid hd
        obtain ⟨Z1, hZ1⟩ : ∃ Z, Z0 ++ [letC false s.k] = Z := ⟨_, rfl⟩
        have HZ1 := Lib.hid hZ1
        have HADZ : Hid (∀ W, (Op.stringOp .add ⟨Z0.toArray⟩ ⟨[letC false s.k].toArray⟩).run Tryz.prog W = .ok (.string ⟨Z1.toArray⟩) W) := fun W => by rw [← hZ1]; exact run_string_add_lists W Z0 _ (by omega) (by simp)
        clear hZl hZ1
        go_upto_region 7 with fail
        have hb0 : decide (0 < k) = false := decide_eq_false HK0.out
        try rw [hb0]
        refine wp_region_put2 (by kernel_rfl) (by kernel_rfl) (by kernel_rfl) (fun b' vs w' => (b' 0 = true → vs 0 = .string ⟨Z0.toArray⟩) ∧ (b' 1 = true → vs 1 = .slice (some ⟨b, o, none⟩) n c) ∧ (b' 2 = true → vs 2 = .int .i64 (k : Int)) ∧ (b' 3 = true → vs 3 = .pointer (some ⟨b, o + k * 7, none⟩)) ∧ (b' 4 = true → vs 4 = .pointer (some ⟨b, o + k * 7, none⟩)) ∧ (b' 5 = true → vs 5 = .int .i64 s.k) ∧ (b' 6 = true → vs 6 = .int .i64 (s.k - 1)) ∧ (b' 7 = true → vs 7 = .slice (some ⟨b, o, none⟩) n c) ∧ (b' 8 = true → vs 8 = .int .i64 (k : Int)) ∧ (b' 9 = true → vs 9 = .pointer (some ⟨b, o + k * 7, none⟩)) ∧ (b' 10 = true → vs 10 = .pointer (some ⟨b, o + k * 7, none⟩)) ∧ (b' 11 = true → vs 11 = .int .i64 s.k) ∧ (b' 12 = true → vs 12 = .string ⟨[letC false s.k].toArray⟩) ∧ (b' 13 = true → vs 13 = .string ⟨Z1.toArray⟩) ∧ (b' 14 = true → vs 14 = .string ⟨Z1.toArray⟩) ∧ Hid (Below N w w') ∧ (b' 14 = true → b' 13 = true) ∧ (b' 13 = true → b' 0 = true) ∧ (b' 14 = false → vs 14 = .string ⟨Z0.toArray⟩)) ?_ ?_ ?_
        · intro vs hvs
          exact ⟨fun h => Bool.noConfusion h, fun h => Bool.noConfusion h, fun h => Bool.noConfusion h, fun h => Bool.noConfusion h, fun h => Bool.noConfusion h, fun h => Bool.noConfusion h, fun h => Bool.noConfusion h, fun h => Bool.noConfusion h, fun h => Bool.noConfusion h, fun h => Bool.noConfusion h, fun h => Bool.noConfusion h, fun h => Bool.noConfusion h, fun h => Bool.noConfusion h, fun h => Bool.noConfusion h, fun h => Bool.noConfusion h, Lib.hid (Below.drew hw.out), fun h => Bool.noConfusion h, fun h => Bool.noConfusion h, fun _ => hvs 14 _ 3 rfl rfl⟩
        · rintro b' vs w' i op hi hun hall ⟨h0, h1, h2, h3, h4, h5, h6, h7, h8, h9, h10, h11, h12, h13, h14, hS, hE14_13, hE13_0, o14⟩
          have hil : i < 15 := (List.getElem?_eq_some_iff.1 hi).1
          rcases i with _ | _ | _ | _ | _ | _ | _ | _ | _ | _ | _ | _ | _ | _ | _ | i
          · obtain rfl := Option.some.inj hi
            clear hi hil
            have n14 : b' 14 = false := by
              cases hz : b' 14 with
              | false => rfl
              | true => exact absurd (hE13_0 (hE14_13 (hz))) (by rw [hun]; decide)
            have z14 := o14 n14
            refine wpOp_step rfl (fun K hK => ?_)
            have HKK := Lib.hid hK; clear hK
            simp only [putAll, Act.put, List.setIfInBounds_toArray, List.set_cons_zero, List.set_cons_succ]
            go_simp
            exact HKK.out _ _ ⟨_, by simp only [putAll, Act.put, List.setIfInBounds_toArray, List.set_cons_zero, List.set_cons_succ, z14] <;> rfl, fun _ => rfl, h1, h2, h3, h4, h5, h6, h7, h8, h9, h10, h11, h12, h13, h14, hS, hE14_13, fun _ => rfl, o14⟩
          · obtain rfl := Option.some.inj hi
            clear hi hil
            refine wpOp_step rfl (fun K hK => ?_)
            have HKK := Lib.hid hK; clear hK
            simp only [putAll, Act.put, List.setIfInBounds_toArray, List.set_cons_zero, List.set_cons_succ]
            go_simp
            exact HKK.out _ _ ⟨_, by simp only [putAll, Act.put, List.setIfInBounds_toArray, List.set_cons_zero, List.set_cons_succ] <;> rfl, h0, fun _ => rfl, h2, h3, h4, h5, h6, h7, h8, h9, h10, h11, h12, h13, h14, hS, hE14_13, hE13_0, o14⟩
          · obtain rfl := Option.some.inj hi
            clear hi hil
            refine wpOp_step rfl (fun K hK => ?_)
            have HKK := Lib.hid hK; clear hK
            simp only [putAll, Act.put, List.setIfInBounds_toArray, List.set_cons_zero, List.set_cons_succ]
            go_simp
            exact HKK.out _ _ ⟨_, by simp only [putAll, Act.put, List.setIfInBounds_toArray, List.set_cons_zero, List.set_cons_succ] <;> rfl, h0, h1, fun _ => rfl, h3, h4, h5, h6, h7, h8, h9, h10, h11, h12, h13, h14, hS, hE14_13, hE13_0, o14⟩
          · obtain rfl := Option.some.inj hi
            clear hi hil
            have d1 := h1 (hall ⟨1, .data⟩ (by simp) rfl)
            have d2 := h2 (hall ⟨2, .data⟩ (by simp) rfl)
            have hd := HDD.out
            refine wpOp_step rfl (fun K hK => ?_)
            have HKK := Lib.hid hK; clear hK
            simp only [putAll, Act.put, List.setIfInBounds_toArray, List.set_cons_zero, List.set_cons_succ]
            go_simp
            exact HKK.out _ _ ⟨_, by simp only [putAll, Act.put, List.setIfInBounds_toArray, List.set_cons_zero, List.set_cons_succ, d1, d2] <;> rfl, h0, h1, h2, fun _ => rfl, h4, h5, h6, h7, h8, h9, h10, h11, h12, h13, h14, hS, hE14_13, hE13_0, o14⟩
          · obtain rfl := Option.some.inj hi
            clear hi hil
            have d3 := h3 (hall ⟨3, .data⟩ (by simp) rfl)
            refine wpOp_step rfl (fun K hK => ?_)
            have HKK := Lib.hid hK; clear hK
            simp only [putAll, Act.put, List.setIfInBounds_toArray, List.set_cons_zero, List.set_cons_succ]
            go_simp
            exact HKK.out _ _ ⟨_, by simp only [putAll, Act.put, List.setIfInBounds_toArray, List.set_cons_zero, List.set_cons_succ, d3] <;> rfl, h0, h1, h2, h3, fun _ => rfl, h5, h6, h7, h8, h9, h10, h11, h12, h13, h14, hS, hE14_13, hE13_0, o14⟩
          · obtain rfl := Option.some.inj hi
            clear hi hil
            have d4 := h4 (hall ⟨4, .data⟩ (by simp) rfl)
            have k0 := (HAT.out w' hS.out).c0 HQ.out
            refine wpOp_step rfl (fun K hK => ?_)
            have HKK := Lib.hid hK; clear hK
            simp only [putAll, Act.put, List.setIfInBounds_toArray, List.set_cons_zero, List.set_cons_succ]
            go_simp
            exact HKK.out _ _ ⟨_, by simp only [putAll, Act.put, List.setIfInBounds_toArray, List.set_cons_zero, List.set_cons_succ, d4] <;> rfl, h0, h1, h2, h3, h4, fun _ => rfl, h6, h7, h8, h9, h10, h11, h12, h13, h14, hS, hE14_13, hE13_0, o14⟩
          · obtain rfl := Option.some.inj hi
            clear hi hil
            have d5 := h5 (hall ⟨5, .data⟩ (by simp) rfl)
            refine wpOp_step rfl (fun K hK => ?_)
            have HKK := Lib.hid hK; clear hK
            simp only [putAll, Act.put, List.setIfInBounds_toArray, List.set_cons_zero, List.set_cons_succ]
            go_simp
            exact HKK.out _ _ ⟨_, by simp only [putAll, Act.put, List.setIfInBounds_toArray, List.set_cons_zero, List.set_cons_succ, d5, HEK.out] <;> rfl, h0, h1, h2, h3, h4, h5, fun _ => rfl, h7, h8, h9, h10, h11, h12, h13, h14, hS, hE14_13, hE13_0, o14⟩
          · obtain rfl := Option.some.inj hi
            clear hi hil
            refine wpOp_step rfl (fun K hK => ?_)
            have HKK := Lib.hid hK; clear hK
            simp only [putAll, Act.put, List.setIfInBounds_toArray, List.set_cons_zero, List.set_cons_succ]
            go_simp
            exact HKK.out _ _ ⟨_, by simp only [putAll, Act.put, List.setIfInBounds_toArray, List.set_cons_zero, List.set_cons_succ] <;> rfl, h0, h1, h2, h3, h4, h5, h6, fun _ => rfl, h8, h9, h10, h11, h12, h13, h14, hS, hE14_13, hE13_0, o14⟩
          · obtain rfl := Option.some.inj hi
            clear hi hil
            refine wpOp_step rfl (fun K hK => ?_)
            have HKK := Lib.hid hK; clear hK
            simp only [putAll, Act.put, List.setIfInBounds_toArray, List.set_cons_zero, List.set_cons_succ]
            go_simp
            exact HKK.out _ _ ⟨_, by simp only [putAll, Act.put, List.setIfInBounds_toArray, List.set_cons_zero, List.set_cons_succ] <;> rfl, h0, h1, h2, h3, h4, h5, h6, h7, fun _ => rfl, h9, h10, h11, h12, h13, h14, hS, hE14_13, hE13_0, o14⟩
          · obtain rfl := Option.some.inj hi
            clear hi hil
            have d7 := h7 (hall ⟨7, .data⟩ (by simp) rfl)
            have d8 := h8 (hall ⟨8, .data⟩ (by simp) rfl)
            have hd := HDD.out
            refine wpOp_step rfl (fun K hK => ?_)
            have HKK := Lib.hid hK; clear hK
            simp only [putAll, Act.put, List.setIfInBounds_toArray, List.set_cons_zero, List.set_cons_succ]
            go_simp
            exact HKK.out _ _ ⟨_, by simp only [putAll, Act.put, List.setIfInBounds_toArray, List.set_cons_zero, List.set_cons_succ, d7, d8] <;> rfl, h0, h1, h2, h3, h4, h5, h6, h7, h8, fun _ => rfl, h10, h11, h12, h13, h14, hS, hE14_13, hE13_0, o14⟩
          · obtain rfl := Option.some.inj hi
            clear hi hil
            have d9 := h9 (hall ⟨9, .data⟩ (by simp) rfl)
            refine wpOp_step rfl (fun K hK => ?_)
            have HKK := Lib.hid hK; clear hK
            simp only [putAll, Act.put, List.setIfInBounds_toArray, List.set_cons_zero, List.set_cons_succ]
            go_simp
            exact HKK.out _ _ ⟨_, by simp only [putAll, Act.put, List.setIfInBounds_toArray, List.set_cons_zero, List.set_cons_succ, d9] <;> rfl, h0, h1, h2, h3, h4, h5, h6, h7, h8, h9, fun _ => rfl, h11, h12, h13, h14, hS, hE14_13, hE13_0, o14⟩
          · obtain rfl := Option.some.inj hi
            clear hi hil
            have d10 := h10 (hall ⟨10, .data⟩ (by simp) rfl)
            have k0 := (HAT.out w' hS.out).c0 HQ.out
            refine wpOp_step rfl (fun K hK => ?_)
            have HKK := Lib.hid hK; clear hK
            simp only [putAll, Act.put, List.setIfInBounds_toArray, List.set_cons_zero, List.set_cons_succ]
            go_simp
            exact HKK.out _ _ ⟨_, by simp only [putAll, Act.put, List.setIfInBounds_toArray, List.set_cons_zero, List.set_cons_succ, d10] <;> rfl, h0, h1, h2, h3, h4, h5, h6, h7, h8, h9, h10, fun _ => rfl, h12, h13, h14, hS, hE14_13, hE13_0, o14⟩
          · obtain rfl := Option.some.inj hi
            clear hi hil
            have d6 := h6 (hall ⟨6, .data⟩ (by simp) rfl)
            have d11 := h11 (hall ⟨11, .data⟩ (by simp) rfl)
            have hcut := HCUT.out
            refine wpOp_step rfl (fun K hK => ?_)
            have HKK := Lib.hid hK; clear hK
            simp only [putAll, Act.put, List.setIfInBounds_toArray, List.set_cons_zero, List.set_cons_succ]
            go_simp
            exact HKK.out _ _ ⟨_, by simp only [putAll, Act.put, List.setIfInBounds_toArray, List.set_cons_zero, List.set_cons_succ, d6, d11] <;> rfl, h0, h1, h2, h3, h4, h5, h6, h7, h8, h9, h10, h11, fun _ => rfl, h13, h14, hS, hE14_13, hE13_0, o14⟩
          · obtain rfl := Option.some.inj hi
            clear hi hil
            have d0 := h0 (hall ⟨0, .data⟩ (by simp) rfl)
            have d12 := h12 (hall ⟨12, .data⟩ (by simp) rfl)
            have hadd := HADZ.out
            refine wpOp_step rfl (fun K hK => ?_)
            have HKK := Lib.hid hK; clear hK
            simp only [putAll, Act.put, List.setIfInBounds_toArray, List.set_cons_zero, List.set_cons_succ]
            go_simp
            exact HKK.out _ _ ⟨_, by simp only [putAll, Act.put, List.setIfInBounds_toArray, List.set_cons_zero, List.set_cons_succ, d0, d12] <;> rfl, h0, h1, h2, h3, h4, h5, h6, h7, h8, h9, h10, h11, h12, fun _ => rfl, h14, hS, fun _ => rfl, fun _ => hall ⟨0, .data⟩ (by simp) rfl, o14⟩
          · obtain rfl := Option.some.inj hi
            clear hi hil
            have d13 := h13 (hall ⟨13, .data⟩ (by simp) rfl)
            refine wpOp_step rfl (fun K hK => ?_)
            have HKK := Lib.hid hK; clear hK
            simp only [putAll, Act.put, List.setIfInBounds_toArray, List.set_cons_zero, List.set_cons_succ]
            go_simp
            exact HKK.out _ _ ⟨_, by simp only [putAll, Act.put, List.setIfInBounds_toArray, List.set_cons_zero, List.set_cons_succ, d13] <;> rfl, h0, h1, h2, h3, h4, h5, h6, h7, h8, h9, h10, h11, h12, h13, fun _ => rfl, hS, fun _ => hall ⟨13, .data⟩ (by simp) rfl, hE13_0, fun h => Bool.noConfusion h⟩
          · omega
        · rintro b' vs wz hall ⟨h0, h1, h2, h3, h4, h5, h6, h7, h8, h9, h10, h11, h12, h13, h14, hS, hE14_13, hE13_0, o14⟩
          have d0 := h0 (hall 0 (by simp))
          have d1 := h1 (hall 1 (by simp))
          have d2 := h2 (hall 2 (by simp))
          have d3 := h3 (hall 3 (by simp))
          have d4 := h4 (hall 4 (by simp))
          have d5 := h5 (hall 5 (by simp))
          have d6 := h6 (hall 6 (by simp))
          have d7 := h7 (hall 7 (by simp))
          have d8 := h8 (hall 8 (by simp))
          have d9 := h9 (hall 9 (by simp))
          have d10 := h10 (hall 10 (by simp))
          have d11 := h11 (hall 11 (by simp))
          have d12 := h12 (hall 12 (by simp))
          have d13 := h13 (hall 13 (by simp))
          have d14 := h14 (hall 14 (by simp))
          have PP := hS
          simp only [putAll, Act.put, List.setIfInBounds_toArray, List.set_cons_zero, List.set_cons_succ, d0, d1, d2, d3, d4, d5, d6, d7, d8, d9, d10, d11, d12, d13, d14]
          clear hall h0 d0 h1 d1 h2 d2 h3 d3 h4 d4 h5 d5 h6 d6 h7 d7 h8 d8 h9 d9 h10 d10 h11 d11 h12 d12 h13 d13 h14 d14 hS hE14_13 hE13_0 o14
          have HS7 := PP
          clear PP
          go_wp2_with fail
          go_loopw [3, 5] (fun t i wr => ∃ (j : Nat) (Z : Wd), j ≤ m ∧ i = .int .i64 (j : Int) ∧ t = .string ⟨Z.toArray⟩ ∧ Hid (Z = Z0 ++ [letC false s.k] ++ (P.take j).flatMap ptT) ∧ Hid ((Z.length : Int) ≤ 3000002 + 122 * (j : Int)) ∧ Hid (Below N w wr)) (fun _ i _ => m - (intOf i).toNat)
          case atStart => exact ⟨0, _, by omega, rfl, rfl, by unfold Hid; rw [← HZ1.out]; simp, by have := HZL.out; unfold Hid; rw [← HZ1.out]; simp; omega, HS7.out⟩
          case round =>
            obtain ⟨j, Z, hj, rfl, rfl, hZ, hZl, hx⟩ := hrel
            have c0 := (HAT.out wr hx.out).c0 HQ.out
            by_cases hjm : j < m
            · have hd2 : decide ((j : Int) < (m : Int)) = true := by simp; omega
              obtain ⟨⟨px, py⟩, hp⟩ : ∃ p, P[j]? = some p := ⟨_, List.getElem?_eq_getElem (by rw [HPL.out]; exact hjm)⟩
              have HPX : Hid (inB px = true ∧ inB py = true) := by
                have := HSO.out.pts (px, py) (by rw [HM.out, HP.out]; exact List.mem_of_getElem? hp)
                unfold Hid
                rw [in_room, in_room]; exact this
              have HPT : Hid (∀ W, Below N w W → W.cell? ⟨b, o + k * 7 + 1 + j * 2, none⟩ = some (.int .i64 px) ∧ W.cell? ⟨b, o + k * 7 + 1 + j * 2 + 1, none⟩ = some (.int .i64 py)) := fun W hW => seg_pt (HAT.out W hW) HQ.out (by
                have h1 : (s.pts.take m)[j]? = some (px, py) := by rw [HP.out]; exact hp
                rw [List.getElem?_take, if_pos hjm] at h1
                exact h1)
              have hlx := textT_le px HPX.out.1
              have hly := textT_le py HPX.out.2
              obtain ⟨A1, hA1⟩ : ∃ A, [32] ++ textT px = A := ⟨_, rfl⟩
              obtain ⟨A2, hA2⟩ : ∃ A, A1 ++ [32] = A := ⟨_, rfl⟩
              obtain ⟨A3, hA3⟩ : ∃ A, A2 ++ textT py = A := ⟨_, rfl⟩
              obtain ⟨A4, hA4⟩ : ∃ A, Z ++ A3 = A := ⟨_, rfl⟩
              have n1 : A1.length ≤ 61 := by rw [← hA1]; simp; omega
              have n2 : A2.length ≤ 62 := by rw [← hA2]; simp; omega
              have n3 : A3.length ≤ 122 := by rw [← hA3]; simp; omega
              have n4 : A4.length ≤ Z.length + 122 := by rw [← hA4]; simp; omega
              have HAD : Hid ((∀ W, (Op.stringOp .add ⟨#[32]⟩ ⟨(textT px).toArray⟩).run Tryz.prog W = .ok (.string ⟨A1.toArray⟩) W) ∧ (∀ W, (Op.stringOp .add ⟨A1.toArray⟩ ⟨#[32]⟩).run Tryz.prog W = .ok (.string ⟨A2.toArray⟩) W) ∧ (∀ W, (Op.stringOp .add ⟨A2.toArray⟩ ⟨(textT py).toArray⟩).run Tryz.prog W = .ok (.string ⟨A3.toArray⟩) W) ∧ (∀ W, (Op.stringOp .add ⟨Z.toArray⟩ ⟨A3.toArray⟩).run Tryz.prog W = .ok (.string ⟨A4.toArray⟩) W)) := by
                have := hZl.out
                refine ⟨fun W => ?_, fun W => ?_, fun W => ?_, fun W => ?_⟩
                · rw [← hA1]; exact run_string_add_lists W [32] _ (by simp) (by omega)
                · rw [← hA2]; exact run_string_add_lists W _ [32] (by omega) (by simp)
                · rw [← hA3]; exact run_string_add_lists W _ _ (by omega) (by omega)
                · rw [← hA4]; exact run_string_add_lists W _ _ (by omega) (by omega)
              have HNX : Hid (A4 = Z0 ++ [letC false s.k] ++ (P.take (j + 1)).flatMap ptT) := by
                unfold Hid
                rw [← hA4, ← hA3, ← hA2, ← hA1, List.take_add_one, hp, List.flatMap_append, hZ.out]
                simp [ptT]
              have HLN2 : Hid ((A4.length : Int) ≤ 3000002 + 122 * ((j + 1 : Nat) : Int)) := by
                have := hZl.out
                unfold Hid
                omega
              have HDD3 : Hid (decide ((k : Int) < (n : Int)) = true ∧ (j : Int) < 3) := ⟨HDD.out, by omega⟩
              have HJM := Lib.hid hjm
              clear hp hlx hly hA1 hA2 hA3 hA4 n1 n2 n3 n4
              go_wp2_with fail
              refine (HND.out wr).mono ?_
              rintro e w5 ⟨rfl, rfl⟩
              clear c0
              go_upto_region 11 with fail
              refine wp_region_put2 (by kernel_rfl) (by kernel_rfl) (by kernel_rfl) (fun b' vs w' => (b' 0 = true → vs 0 = .string ⟨Z.toArray⟩) ∧ (b' 1 = true → vs 1 = .slice (some ⟨b, o, none⟩) n c) ∧ (b' 2 = true → vs 2 = .int .i64 (k : Int)) ∧ (b' 3 = true → vs 3 = .int .i64 (j : Int)) ∧ (b' 4 = true → vs 4 = .pointer (some ⟨b, o + k * 7, none⟩)) ∧ (b' 5 = true → vs 5 = .pointer (some ⟨b, o + k * 7 + 1, none⟩)) ∧ (b' 6 = true → vs 6 = .pointer (some ⟨b, o + k * 7 + 1 + j * 2, none⟩)) ∧ (b' 7 = true → vs 7 = .pointer (some ⟨b, o + k * 7 + 1 + j * 2, none⟩)) ∧ (b' 8 = true → vs 8 = .int .i64 px) ∧ (b' 9 = true → vs 9 = .string ⟨(textT px).toArray⟩) ∧ (b' 10 = true → vs 10 = .string ⟨A1.toArray⟩) ∧ (b' 11 = true → vs 11 = .string ⟨A2.toArray⟩) ∧ (b' 12 = true → vs 12 = .slice (some ⟨b, o, none⟩) n c) ∧ (b' 13 = true → vs 13 = .int .i64 (k : Int)) ∧ (b' 14 = true → vs 14 = .int .i64 (j : Int)) ∧ (b' 15 = true → vs 15 = .pointer (some ⟨b, o + k * 7, none⟩)) ∧ (b' 16 = true → vs 16 = .pointer (some ⟨b, o + k * 7 + 1, none⟩)) ∧ (b' 17 = true → vs 17 = .pointer (some ⟨b, o + k * 7 + 1 + j * 2, none⟩)) ∧ (b' 18 = true → vs 18 = .pointer (some ⟨b, o + k * 7 + 1 + j * 2 + 1, none⟩)) ∧ (b' 19 = true → vs 19 = .int .i64 py) ∧ (b' 20 = true → vs 20 = .string ⟨(textT py).toArray⟩) ∧ (b' 21 = true → vs 21 = .string ⟨A3.toArray⟩) ∧ (b' 22 = true → vs 22 = .string ⟨A4.toArray⟩) ∧ (b' 23 = true → vs 23 = .string ⟨A4.toArray⟩) ∧ Hid (Below N w w') ∧ (b' 23 = true → b' 22 = true) ∧ (b' 22 = true → b' 0 = true) ∧ (b' 23 = false → vs 23 = .string ⟨Z.toArray⟩)) ?_ ?_ ?_
              · intro vs hvs
                exact ⟨fun h => Bool.noConfusion h, fun h => Bool.noConfusion h, fun h => Bool.noConfusion h, fun h => Bool.noConfusion h, fun h => Bool.noConfusion h, fun h => Bool.noConfusion h, fun h => Bool.noConfusion h, fun h => Bool.noConfusion h, fun h => Bool.noConfusion h, fun h => Bool.noConfusion h, fun h => Bool.noConfusion h, fun h => Bool.noConfusion h, fun h => Bool.noConfusion h, fun h => Bool.noConfusion h, fun h => Bool.noConfusion h, fun h => Bool.noConfusion h, fun h => Bool.noConfusion h, fun h => Bool.noConfusion h, fun h => Bool.noConfusion h, fun h => Bool.noConfusion h, fun h => Bool.noConfusion h, fun h => Bool.noConfusion h, fun h => Bool.noConfusion h, fun h => Bool.noConfusion h, Lib.hid (Below.drew hx.out), fun h => Bool.noConfusion h, fun h => Bool.noConfusion h, fun _ => hvs 23 _ 3 rfl rfl⟩
              · rintro b' vs w' i op hi hun hall ⟨h0, h1, h2, h3, h4, h5, h6, h7, h8, h9, h10, h11, h12, h13, h14, h15, h16, h17, h18, h19, h20, h21, h22, h23, hS, hE23_22, hE22_0, o23⟩
                have hil : i < 24 := (List.getElem?_eq_some_iff.1 hi).1
                rcases i with _ | _ | _ | _ | _ | _ | _ | _ | _ | _ | _ | _ | _ | _ | _ | _ | _ | _ | _ | _ | _ | _ | _ | _ | i
                · obtain rfl := Option.some.inj hi
                  clear hi hil
                  have n23 : b' 23 = false := by
                    cases hz : b' 23 with
                    | false => rfl
                    | true => exact absurd (hE22_0 (hE23_22 (hz))) (by rw [hun]; decide)
                  have z23 := o23 n23
                  refine wpOp_step rfl (fun K hK => ?_)
                  have HKK := Lib.hid hK; clear hK
                  simp only [putAll, Act.put, List.setIfInBounds_toArray, List.set_cons_zero, List.set_cons_succ]
                  go_simp
                  exact HKK.out _ _ ⟨_, by simp only [putAll, Act.put, List.setIfInBounds_toArray, List.set_cons_zero, List.set_cons_succ, z23] <;> rfl, fun _ => rfl, h1, h2, h3, h4, h5, h6, h7, h8, h9, h10, h11, h12, h13, h14, h15, h16, h17, h18, h19, h20, h21, h22, h23, hS, hE23_22, fun _ => rfl, o23⟩
                · obtain rfl := Option.some.inj hi
                  clear hi hil
                  refine wpOp_step rfl (fun K hK => ?_)
                  have HKK := Lib.hid hK; clear hK
                  simp only [putAll, Act.put, List.setIfInBounds_toArray, List.set_cons_zero, List.set_cons_succ]
                  go_simp
                  exact HKK.out _ _ ⟨_, by simp only [putAll, Act.put, List.setIfInBounds_toArray, List.set_cons_zero, List.set_cons_succ] <;> rfl, h0, fun _ => rfl, h2, h3, h4, h5, h6, h7, h8, h9, h10, h11, h12, h13, h14, h15, h16, h17, h18, h19, h20, h21, h22, h23, hS, hE23_22, hE22_0, o23⟩
                · obtain rfl := Option.some.inj hi
                  clear hi hil
                  refine wpOp_step rfl (fun K hK => ?_)
                  have HKK := Lib.hid hK; clear hK
                  simp only [putAll, Act.put, List.setIfInBounds_toArray, List.set_cons_zero, List.set_cons_succ]
                  go_simp
                  exact HKK.out _ _ ⟨_, by simp only [putAll, Act.put, List.setIfInBounds_toArray, List.set_cons_zero, List.set_cons_succ] <;> rfl, h0, h1, fun _ => rfl, h3, h4, h5, h6, h7, h8, h9, h10, h11, h12, h13, h14, h15, h16, h17, h18, h19, h20, h21, h22, h23, hS, hE23_22, hE22_0, o23⟩
                · obtain rfl := Option.some.inj hi
                  clear hi hil
                  refine wpOp_step rfl (fun K hK => ?_)
                  have HKK := Lib.hid hK; clear hK
                  simp only [putAll, Act.put, List.setIfInBounds_toArray, List.set_cons_zero, List.set_cons_succ]
                  go_simp
                  exact HKK.out _ _ ⟨_, by simp only [putAll, Act.put, List.setIfInBounds_toArray, List.set_cons_zero, List.set_cons_succ] <;> rfl, h0, h1, h2, fun _ => rfl, h4, h5, h6, h7, h8, h9, h10, h11, h12, h13, h14, h15, h16, h17, h18, h19, h20, h21, h22, h23, hS, hE23_22, hE22_0, o23⟩
                · obtain rfl := Option.some.inj hi
                  clear hi hil
                  have d1 := h1 (hall ⟨1, .data⟩ (by simp) rfl)
                  have d2 := h2 (hall ⟨2, .data⟩ (by simp) rfl)
                  have hd := HDD3.out.1
                  refine wpOp_step rfl (fun K hK => ?_)
                  have HKK := Lib.hid hK; clear hK
                  simp only [putAll, Act.put, List.setIfInBounds_toArray, List.set_cons_zero, List.set_cons_succ]
                  go_simp
                  exact HKK.out _ _ ⟨_, by simp only [putAll, Act.put, List.setIfInBounds_toArray, List.set_cons_zero, List.set_cons_succ, d1, d2] <;> rfl, h0, h1, h2, h3, fun _ => rfl, h5, h6, h7, h8, h9, h10, h11, h12, h13, h14, h15, h16, h17, h18, h19, h20, h21, h22, h23, hS, hE23_22, hE22_0, o23⟩
                · obtain rfl := Option.some.inj hi
                  clear hi hil
                  have d4 := h4 (hall ⟨4, .data⟩ (by simp) rfl)
                  refine wpOp_step rfl (fun K hK => ?_)
                  have HKK := Lib.hid hK; clear hK
                  simp only [putAll, Act.put, List.setIfInBounds_toArray, List.set_cons_zero, List.set_cons_succ]
                  go_simp
                  exact HKK.out _ _ ⟨_, by simp only [putAll, Act.put, List.setIfInBounds_toArray, List.set_cons_zero, List.set_cons_succ, d4] <;> rfl, h0, h1, h2, h3, h4, fun _ => rfl, h6, h7, h8, h9, h10, h11, h12, h13, h14, h15, h16, h17, h18, h19, h20, h21, h22, h23, hS, hE23_22, hE22_0, o23⟩
                · obtain rfl := Option.some.inj hi
                  clear hi hil
                  have d5 := h5 (hall ⟨5, .data⟩ (by simp) rfl)
                  have d3 := h3 (hall ⟨3, .data⟩ (by simp) rfl)
                  have hd3 := HDD3.out.2
                  refine wpOp_step rfl (fun K hK => ?_)
                  have HKK := Lib.hid hK; clear hK
                  simp only [putAll, Act.put, List.setIfInBounds_toArray, List.set_cons_zero, List.set_cons_succ]
                  go_simp
                  exact HKK.out _ _ ⟨_, by simp only [putAll, Act.put, List.setIfInBounds_toArray, List.set_cons_zero, List.set_cons_succ, d5, d3] <;> rfl, h0, h1, h2, h3, h4, h5, fun _ => rfl, h7, h8, h9, h10, h11, h12, h13, h14, h15, h16, h17, h18, h19, h20, h21, h22, h23, hS, hE23_22, hE22_0, o23⟩
                · obtain rfl := Option.some.inj hi
                  clear hi hil
                  have d6 := h6 (hall ⟨6, .data⟩ (by simp) rfl)
                  refine wpOp_step rfl (fun K hK => ?_)
                  have HKK := Lib.hid hK; clear hK
                  simp only [putAll, Act.put, List.setIfInBounds_toArray, List.set_cons_zero, List.set_cons_succ]
                  go_simp
                  exact HKK.out _ _ ⟨_, by simp only [putAll, Act.put, List.setIfInBounds_toArray, List.set_cons_zero, List.set_cons_succ, d6] <;> rfl, h0, h1, h2, h3, h4, h5, h6, fun _ => rfl, h8, h9, h10, h11, h12, h13, h14, h15, h16, h17, h18, h19, h20, h21, h22, h23, hS, hE23_22, hE22_0, o23⟩
                · obtain rfl := Option.some.inj hi
                  clear hi hil
                  have d7 := h7 (hall ⟨7, .data⟩ (by simp) rfl)
                  have k0 := (HPT.out w' hS.out).1
                  refine wpOp_step rfl (fun K hK => ?_)
                  have HKK := Lib.hid hK; clear hK
                  simp only [putAll, Act.put, List.setIfInBounds_toArray, List.set_cons_zero, List.set_cons_succ]
                  go_simp
                  exact HKK.out _ _ ⟨_, by simp only [putAll, Act.put, List.setIfInBounds_toArray, List.set_cons_zero, List.set_cons_succ, d7] <;> rfl, h0, h1, h2, h3, h4, h5, h6, h7, fun _ => rfl, h9, h10, h11, h12, h13, h14, h15, h16, h17, h18, h19, h20, h21, h22, h23, hS, hE23_22, hE22_0, o23⟩
                · obtain rfl := Option.some.inj hi
                  clear hi hil
                  have d8 := h8 (hall ⟨8, .data⟩ (by simp) rfl)
                  refine wpOp_step rfl (fun K hK => ?_)
                  have HKK := Lib.hid hK; clear hK
                  simp only [putAll, Act.put, List.setIfInBounds_toArray, List.set_cons_zero, List.set_cons_succ]
                  go_simp
                  refine (refText_in px HPX.out.1 w').mono ?_
                  rintro e w9 ⟨rfl, hb2⟩
                  exact HKK.out _ _ ⟨_, by simp only [putAll, Act.put, List.setIfInBounds_toArray, List.set_cons_zero, List.set_cons_succ, d8] <;> rfl, h0, h1, h2, h3, h4, h5, h6, h7, h8, fun _ => rfl, h10, h11, h12, h13, h14, h15, h16, h17, h18, h19, h20, h21, h22, h23, Lib.hid (hS.out.trans (hb2.mono (by have := hS.out.size; have := HN.out; omega))), hE23_22, hE22_0, o23⟩
                · obtain rfl := Option.some.inj hi
                  clear hi hil
                  have d9 := h9 (hall ⟨9, .data⟩ (by simp) rfl)
                  have hadd := HAD.out.1
                  refine wpOp_step rfl (fun K hK => ?_)
                  have HKK := Lib.hid hK; clear hK
                  simp only [putAll, Act.put, List.setIfInBounds_toArray, List.set_cons_zero, List.set_cons_succ]
                  go_simp
                  exact HKK.out _ _ ⟨_, by simp only [putAll, Act.put, List.setIfInBounds_toArray, List.set_cons_zero, List.set_cons_succ, d9] <;> rfl, h0, h1, h2, h3, h4, h5, h6, h7, h8, h9, fun _ => rfl, h11, h12, h13, h14, h15, h16, h17, h18, h19, h20, h21, h22, h23, hS, hE23_22, hE22_0, o23⟩
                · obtain rfl := Option.some.inj hi
                  clear hi hil
                  have d10 := h10 (hall ⟨10, .data⟩ (by simp) rfl)
                  have hadd := HAD.out.2.1
                  refine wpOp_step rfl (fun K hK => ?_)
                  have HKK := Lib.hid hK; clear hK
                  simp only [putAll, Act.put, List.setIfInBounds_toArray, List.set_cons_zero, List.set_cons_succ]
                  go_simp
                  exact HKK.out _ _ ⟨_, by simp only [putAll, Act.put, List.setIfInBounds_toArray, List.set_cons_zero, List.set_cons_succ, d10] <;> rfl, h0, h1, h2, h3, h4, h5, h6, h7, h8, h9, h10, fun _ => rfl, h12, h13, h14, h15, h16, h17, h18, h19, h20, h21, h22, h23, hS, hE23_22, hE22_0, o23⟩
                · obtain rfl := Option.some.inj hi
                  clear hi hil
                  refine wpOp_step rfl (fun K hK => ?_)
                  have HKK := Lib.hid hK; clear hK
                  simp only [putAll, Act.put, List.setIfInBounds_toArray, List.set_cons_zero, List.set_cons_succ]
                  go_simp
                  exact HKK.out _ _ ⟨_, by simp only [putAll, Act.put, List.setIfInBounds_toArray, List.set_cons_zero, List.set_cons_succ] <;> rfl, h0, h1, h2, h3, h4, h5, h6, h7, h8, h9, h10, h11, fun _ => rfl, h13, h14, h15, h16, h17, h18, h19, h20, h21, h22, h23, hS, hE23_22, hE22_0, o23⟩
                · obtain rfl := Option.some.inj hi
                  clear hi hil
                  refine wpOp_step rfl (fun K hK => ?_)
                  have HKK := Lib.hid hK; clear hK
                  simp only [putAll, Act.put, List.setIfInBounds_toArray, List.set_cons_zero, List.set_cons_succ]
                  go_simp
                  exact HKK.out _ _ ⟨_, by simp only [putAll, Act.put, List.setIfInBounds_toArray, List.set_cons_zero, List.set_cons_succ] <;> rfl, h0, h1, h2, h3, h4, h5, h6, h7, h8, h9, h10, h11, h12, fun _ => rfl, h14, h15, h16, h17, h18, h19, h20, h21, h22, h23, hS, hE23_22, hE22_0, o23⟩
                · obtain rfl := Option.some.inj hi
                  clear hi hil
                  refine wpOp_step rfl (fun K hK => ?_)
                  have HKK := Lib.hid hK; clear hK
                  simp only [putAll, Act.put, List.setIfInBounds_toArray, List.set_cons_zero, List.set_cons_succ]
                  go_simp
                  exact HKK.out _ _ ⟨_, by simp only [putAll, Act.put, List.setIfInBounds_toArray, List.set_cons_zero, List.set_cons_succ] <;> rfl, h0, h1, h2, h3, h4, h5, h6, h7, h8, h9, h10, h11, h12, h13, fun _ => rfl, h15, h16, h17, h18, h19, h20, h21, h22, h23, hS, hE23_22, hE22_0, o23⟩
                · obtain rfl := Option.some.inj hi
                  clear hi hil
                  have d12 := h12 (hall ⟨12, .data⟩ (by simp) rfl)
                  have d13 := h13 (hall ⟨13, .data⟩ (by simp) rfl)
                  have hd := HDD3.out.1
                  refine wpOp_step rfl (fun K hK => ?_)
                  have HKK := Lib.hid hK; clear hK
                  simp only [putAll, Act.put, List.setIfInBounds_toArray, List.set_cons_zero, List.set_cons_succ]
                  go_simp
                  exact HKK.out _ _ ⟨_, by simp only [putAll, Act.put, List.setIfInBounds_toArray, List.set_cons_zero, List.set_cons_succ, d12, d13] <;> rfl, h0, h1, h2, h3, h4, h5, h6, h7, h8, h9, h10, h11, h12, h13, h14, fun _ => rfl, h16, h17, h18, h19, h20, h21, h22, h23, hS, hE23_22, hE22_0, o23⟩
                · obtain rfl := Option.some.inj hi
                  clear hi hil
                  have d15 := h15 (hall ⟨15, .data⟩ (by simp) rfl)
                  refine wpOp_step rfl (fun K hK => ?_)
                  have HKK := Lib.hid hK; clear hK
                  simp only [putAll, Act.put, List.setIfInBounds_toArray, List.set_cons_zero, List.set_cons_succ]
                  go_simp
                  exact HKK.out _ _ ⟨_, by simp only [putAll, Act.put, List.setIfInBounds_toArray, List.set_cons_zero, List.set_cons_succ, d15] <;> rfl, h0, h1, h2, h3, h4, h5, h6, h7, h8, h9, h10, h11, h12, h13, h14, h15, fun _ => rfl, h17, h18, h19, h20, h21, h22, h23, hS, hE23_22, hE22_0, o23⟩
                · obtain rfl := Option.some.inj hi
                  clear hi hil
                  have d16 := h16 (hall ⟨16, .data⟩ (by simp) rfl)
                  have d14 := h14 (hall ⟨14, .data⟩ (by simp) rfl)
                  have hd3 := HDD3.out.2
                  refine wpOp_step rfl (fun K hK => ?_)
                  have HKK := Lib.hid hK; clear hK
                  simp only [putAll, Act.put, List.setIfInBounds_toArray, List.set_cons_zero, List.set_cons_succ]
                  go_simp
                  exact HKK.out _ _ ⟨_, by simp only [putAll, Act.put, List.setIfInBounds_toArray, List.set_cons_zero, List.set_cons_succ, d16, d14] <;> rfl, h0, h1, h2, h3, h4, h5, h6, h7, h8, h9, h10, h11, h12, h13, h14, h15, h16, fun _ => rfl, h18, h19, h20, h21, h22, h23, hS, hE23_22, hE22_0, o23⟩
                · obtain rfl := Option.some.inj hi
                  clear hi hil
                  have d17 := h17 (hall ⟨17, .data⟩ (by simp) rfl)
                  refine wpOp_step rfl (fun K hK => ?_)
                  have HKK := Lib.hid hK; clear hK
                  simp only [putAll, Act.put, List.setIfInBounds_toArray, List.set_cons_zero, List.set_cons_succ]
                  go_simp
                  exact HKK.out _ _ ⟨_, by simp only [putAll, Act.put, List.setIfInBounds_toArray, List.set_cons_zero, List.set_cons_succ, d17] <;> rfl, h0, h1, h2, h3, h4, h5, h6, h7, h8, h9, h10, h11, h12, h13, h14, h15, h16, h17, fun _ => rfl, h19, h20, h21, h22, h23, hS, hE23_22, hE22_0, o23⟩
                · obtain rfl := Option.some.inj hi
                  clear hi hil
                  have d18 := h18 (hall ⟨18, .data⟩ (by simp) rfl)
                  have k1 := (HPT.out w' hS.out).2
                  refine wpOp_step rfl (fun K hK => ?_)
                  have HKK := Lib.hid hK; clear hK
                  simp only [putAll, Act.put, List.setIfInBounds_toArray, List.set_cons_zero, List.set_cons_succ]
                  go_simp
                  exact HKK.out _ _ ⟨_, by simp only [putAll, Act.put, List.setIfInBounds_toArray, List.set_cons_zero, List.set_cons_succ, d18] <;> rfl, h0, h1, h2, h3, h4, h5, h6, h7, h8, h9, h10, h11, h12, h13, h14, h15, h16, h17, h18, fun _ => rfl, h20, h21, h22, h23, hS, hE23_22, hE22_0, o23⟩
                · obtain rfl := Option.some.inj hi
                  clear hi hil
                  have d19 := h19 (hall ⟨19, .data⟩ (by simp) rfl)
                  refine wpOp_step rfl (fun K hK => ?_)
                  have HKK := Lib.hid hK; clear hK
                  simp only [putAll, Act.put, List.setIfInBounds_toArray, List.set_cons_zero, List.set_cons_succ]
                  go_simp
                  refine (refText_in py HPX.out.2 w').mono ?_
                  rintro e w9 ⟨rfl, hb2⟩
                  exact HKK.out _ _ ⟨_, by simp only [putAll, Act.put, List.setIfInBounds_toArray, List.set_cons_zero, List.set_cons_succ, d19] <;> rfl, h0, h1, h2, h3, h4, h5, h6, h7, h8, h9, h10, h11, h12, h13, h14, h15, h16, h17, h18, h19, fun _ => rfl, h21, h22, h23, Lib.hid (hS.out.trans (hb2.mono (by have := hS.out.size; have := HN.out; omega))), hE23_22, hE22_0, o23⟩
                · obtain rfl := Option.some.inj hi
                  clear hi hil
                  have d11 := h11 (hall ⟨11, .data⟩ (by simp) rfl)
                  have d20 := h20 (hall ⟨20, .data⟩ (by simp) rfl)
                  have hadd := HAD.out.2.2.1
                  refine wpOp_step rfl (fun K hK => ?_)
                  have HKK := Lib.hid hK; clear hK
                  simp only [putAll, Act.put, List.setIfInBounds_toArray, List.set_cons_zero, List.set_cons_succ]
                  go_simp
                  exact HKK.out _ _ ⟨_, by simp only [putAll, Act.put, List.setIfInBounds_toArray, List.set_cons_zero, List.set_cons_succ, d11, d20] <;> rfl, h0, h1, h2, h3, h4, h5, h6, h7, h8, h9, h10, h11, h12, h13, h14, h15, h16, h17, h18, h19, h20, fun _ => rfl, h22, h23, hS, hE23_22, hE22_0, o23⟩
                · obtain rfl := Option.some.inj hi
                  clear hi hil
                  have d0 := h0 (hall ⟨0, .data⟩ (by simp) rfl)
                  have d21 := h21 (hall ⟨21, .data⟩ (by simp) rfl)
                  have hadd := HAD.out.2.2.2
                  refine wpOp_step rfl (fun K hK => ?_)
                  have HKK := Lib.hid hK; clear hK
                  simp only [putAll, Act.put, List.setIfInBounds_toArray, List.set_cons_zero, List.set_cons_succ]
                  go_simp
                  exact HKK.out _ _ ⟨_, by simp only [putAll, Act.put, List.setIfInBounds_toArray, List.set_cons_zero, List.set_cons_succ, d0, d21] <;> rfl, h0, h1, h2, h3, h4, h5, h6, h7, h8, h9, h10, h11, h12, h13, h14, h15, h16, h17, h18, h19, h20, h21, fun _ => rfl, h23, hS, fun _ => rfl, fun _ => hall ⟨0, .data⟩ (by simp) rfl, o23⟩
                · obtain rfl := Option.some.inj hi
                  clear hi hil
                  have d22 := h22 (hall ⟨22, .data⟩ (by simp) rfl)
                  refine wpOp_step rfl (fun K hK => ?_)
                  have HKK := Lib.hid hK; clear hK
                  simp only [putAll, Act.put, List.setIfInBounds_toArray, List.set_cons_zero, List.set_cons_succ]
                  go_simp
                  exact HKK.out _ _ ⟨_, by simp only [putAll, Act.put, List.setIfInBounds_toArray, List.set_cons_zero, List.set_cons_succ, d22] <;> rfl, h0, h1, h2, h3, h4, h5, h6, h7, h8, h9, h10, h11, h12, h13, h14, h15, h16, h17, h18, h19, h20, h21, h22, fun _ => rfl, hS, fun _ => hall ⟨22, .data⟩ (by simp) rfl, hE22_0, fun h => Bool.noConfusion h⟩
                · omega
              · rintro b' vs wz hall ⟨h0, h1, h2, h3, h4, h5, h6, h7, h8, h9, h10, h11, h12, h13, h14, h15, h16, h17, h18, h19, h20, h21, h22, h23, hS, hE23_22, hE22_0, o23⟩
                have d0 := h0 (hall 0 (by simp))
                have d1 := h1 (hall 1 (by simp))
                have d2 := h2 (hall 2 (by simp))
                have d3 := h3 (hall 3 (by simp))
                have d4 := h4 (hall 4 (by simp))
                have d5 := h5 (hall 5 (by simp))
                have d6 := h6 (hall 6 (by simp))
                have d7 := h7 (hall 7 (by simp))
                have d8 := h8 (hall 8 (by simp))
                have d9 := h9 (hall 9 (by simp))
                have d10 := h10 (hall 10 (by simp))
                have d11 := h11 (hall 11 (by simp))
                have d12 := h12 (hall 12 (by simp))
                have d13 := h13 (hall 13 (by simp))
                have d14 := h14 (hall 14 (by simp))
                have d15 := h15 (hall 15 (by simp))
                have d16 := h16 (hall 16 (by simp))
                have d17 := h17 (hall 17 (by simp))
                have d18 := h18 (hall 18 (by simp))
                have d19 := h19 (hall 19 (by simp))
                have d20 := h20 (hall 20 (by simp))
                have d21 := h21 (hall 21 (by simp))
                have d22 := h22 (hall 22 (by simp))
                have d23 := h23 (hall 23 (by simp))
                have PP := hS
                simp only [putAll, Act.put, List.setIfInBounds_toArray, List.set_cons_zero, List.set_cons_succ, d0, d1, d2, d3, d4, d5, d6, d7, d8, d9, d10, d11, d12, d13, d14, d15, d16, d17, d18, d19, d20, d21, d22, d23]
                clear hall h0 d0 h1 d1 h2 d2 h3 d3 h4 d4 h5 d5 h6 d6 h7 d7 h8 d8 h9 d9 h10 d10 h11 d11 h12 d12 h13 d13 h14 d14 h15 d15 h16 d16 h17 d17 h18 d18 h19 d19 h20 d20 h21 d21 h22 d22 h23 d23 hS hE23_22 hE22_0 o23
                have HS7 := PP
                clear PP
                go_wp2_with fail
                refine ⟨⟨j + 1, _, by have := HJM.out; omega, by go_num, rfl, HNX.out, HLN2.out, HS7.out⟩, by have := HJM.out; simp [intOf]; omega⟩
            · have hd2 : decide ((j : Int) < (m : Int)) = false := by simp; omega
              obtain rfl : j = m := by omega
              have HFIN : Hid (Z = textUp (l.take (k + 1))) := by
                unfold Hid
                rw [hZ.out, HUP.out, segT, HM.out, HP.out, List.take_of_length_le (Nat.le_of_eq HPL.out)]
                simp
              go_wp2_with fail
              refine (HND.out wr).mono ?_
              rintro e w5 ⟨rfl, rfl⟩
              go_wp2_with fail
              exact ⟨⟨k + 1, Z, by have := HLT.out; omega, by go_num, rfl, HFIN.out, hx.out⟩, by have := HLT.out; simp [intOf]; omega⟩
      · have hkp : (0 : Int) < (k : Int) := by omega
        have HZT : Hid (Z0 = T ++ [32]) := by
          unfold Hid
          rw [← HZ0.out, hT.out]
          unfold preT
          split
          · rename_i e
            have h1 := congrArg List.length e
            rw [List.length_take, List.length_nil] at h1
            have h2 := HLT.out
            have h3 := HLN.out.1
            omega
          · rfl
        have HZL := Lib.hid hZl
        have HDD := Lib.hid hd
        obtain ⟨Z1, hZ1⟩ : ∃ Z, Z0 ++ [letC false s.k] = Z := ⟨_, rfl⟩
        have HZ1 := Lib.hid hZ1
        have HADZ : Hid (∀ W, (Op.stringOp .add ⟨Z0.toArray⟩ ⟨[letC false s.k].toArray⟩).run Tryz.prog W = .ok (.string ⟨Z1.toArray⟩) W) := fun W => by rw [← hZ1]; exact run_string_add_lists W Z0 _ (by omega) (by simp)
        clear hZl hZ1
        go_upto_region 7 with fail
        rw [cat_mk, ← HZT.out]
        have hb0 : decide (0 < k) = true := decide_eq_true (by omega)
        try rw [hb0]
        refine wp_region_put2 (by kernel_rfl) (by kernel_rfl) (by kernel_rfl) (fun b' vs w' => (b' 0 = true → vs 0 = .string ⟨Z0.toArray⟩) ∧ (b' 1 = true → vs 1 = .slice (some ⟨b, o, none⟩) n c) ∧ (b' 2 = true → vs 2 = .int .i64 (k : Int)) ∧ (b' 3 = true → vs 3 = .pointer (some ⟨b, o + k * 7, none⟩)) ∧ (b' 4 = true → vs 4 = .pointer (some ⟨b, o + k * 7, none⟩)) ∧ (b' 5 = true → vs 5 = .int .i64 s.k) ∧ (b' 6 = true → vs 6 = .int .i64 (s.k - 1)) ∧ (b' 7 = true → vs 7 = .slice (some ⟨b, o, none⟩) n c) ∧ (b' 8 = true → vs 8 = .int .i64 (k : Int)) ∧ (b' 9 = true → vs 9 = .pointer (some ⟨b, o + k * 7, none⟩)) ∧ (b' 10 = true → vs 10 = .pointer (some ⟨b, o + k * 7, none⟩)) ∧ (b' 11 = true → vs 11 = .int .i64 s.k) ∧ (b' 12 = true → vs 12 = .string ⟨[letC false s.k].toArray⟩) ∧ (b' 13 = true → vs 13 = .string ⟨Z1.toArray⟩) ∧ (b' 14 = true → vs 14 = .string ⟨Z1.toArray⟩) ∧ Hid (Below N w w') ∧ (b' 14 = true → b' 13 = true) ∧ (b' 13 = true → b' 0 = true) ∧ (b' 14 = false → vs 14 = .string ⟨Z0.toArray⟩)) ?_ ?_ ?_
        · intro vs hvs
          exact ⟨fun h => Bool.noConfusion h, fun h => Bool.noConfusion h, fun h => Bool.noConfusion h, fun h => Bool.noConfusion h, fun h => Bool.noConfusion h, fun h => Bool.noConfusion h, fun h => Bool.noConfusion h, fun h => Bool.noConfusion h, fun h => Bool.noConfusion h, fun h => Bool.noConfusion h, fun h => Bool.noConfusion h, fun h => Bool.noConfusion h, fun h => Bool.noConfusion h, fun h => Bool.noConfusion h, fun h => Bool.noConfusion h, Lib.hid (Below.drew hw.out), fun h => Bool.noConfusion h, fun h => Bool.noConfusion h, fun _ => hvs 14 _ 3 rfl rfl⟩
        · rintro b' vs w' i op hi hun hall ⟨h0, h1, h2, h3, h4, h5, h6, h7, h8, h9, h10, h11, h12, h13, h14, hS, hE14_13, hE13_0, o14⟩
          have hil : i < 15 := (List.getElem?_eq_some_iff.1 hi).1
          rcases i with _ | _ | _ | _ | _ | _ | _ | _ | _ | _ | _ | _ | _ | _ | _ | i
          · obtain rfl := Option.some.inj hi
            clear hi hil
            have n14 : b' 14 = false := by
              cases hz : b' 14 with
              | false => rfl
              | true => exact absurd (hE13_0 (hE14_13 (hz))) (by rw [hun]; decide)
            have z14 := o14 n14
            refine wpOp_step rfl (fun K hK => ?_)
            have HKK := Lib.hid hK; clear hK
            simp only [putAll, Act.put, List.setIfInBounds_toArray, List.set_cons_zero, List.set_cons_succ]
            go_simp
            exact HKK.out _ _ ⟨_, by simp only [putAll, Act.put, List.setIfInBounds_toArray, List.set_cons_zero, List.set_cons_succ, z14] <;> rfl, fun _ => rfl, h1, h2, h3, h4, h5, h6, h7, h8, h9, h10, h11, h12, h13, h14, hS, hE14_13, fun _ => rfl, o14⟩
          · obtain rfl := Option.some.inj hi
            clear hi hil
            refine wpOp_step rfl (fun K hK => ?_)
            have HKK := Lib.hid hK; clear hK
            simp only [putAll, Act.put, List.setIfInBounds_toArray, List.set_cons_zero, List.set_cons_succ]
            go_simp
            exact HKK.out _ _ ⟨_, by simp only [putAll, Act.put, List.setIfInBounds_toArray, List.set_cons_zero, List.set_cons_succ] <;> rfl, h0, fun _ => rfl, h2, h3, h4, h5, h6, h7, h8, h9, h10, h11, h12, h13, h14, hS, hE14_13, hE13_0, o14⟩
          · obtain rfl := Option.some.inj hi
            clear hi hil
            refine wpOp_step rfl (fun K hK => ?_)
            have HKK := Lib.hid hK; clear hK
            simp only [putAll, Act.put, List.setIfInBounds_toArray, List.set_cons_zero, List.set_cons_succ]
            go_simp
            exact HKK.out _ _ ⟨_, by simp only [putAll, Act.put, List.setIfInBounds_toArray, List.set_cons_zero, List.set_cons_succ] <;> rfl, h0, h1, fun _ => rfl, h3, h4, h5, h6, h7, h8, h9, h10, h11, h12, h13, h14, hS, hE14_13, hE13_0, o14⟩
          · obtain rfl := Option.some.inj hi
            clear hi hil
            have d1 := h1 (hall ⟨1, .data⟩ (by simp) rfl)
            have d2 := h2 (hall ⟨2, .data⟩ (by simp) rfl)
            have hd := HDD.out
            refine wpOp_step rfl (fun K hK => ?_)
            have HKK := Lib.hid hK; clear hK
            simp only [putAll, Act.put, List.setIfInBounds_toArray, List.set_cons_zero, List.set_cons_succ]
            go_simp
            exact HKK.out _ _ ⟨_, by simp only [putAll, Act.put, List.setIfInBounds_toArray, List.set_cons_zero, List.set_cons_succ, d1, d2] <;> rfl, h0, h1, h2, fun _ => rfl, h4, h5, h6, h7, h8, h9, h10, h11, h12, h13, h14, hS, hE14_13, hE13_0, o14⟩
          · obtain rfl := Option.some.inj hi
            clear hi hil
            have d3 := h3 (hall ⟨3, .data⟩ (by simp) rfl)
            refine wpOp_step rfl (fun K hK => ?_)
            have HKK := Lib.hid hK; clear hK
            simp only [putAll, Act.put, List.setIfInBounds_toArray, List.set_cons_zero, List.set_cons_succ]
            go_simp
            exact HKK.out _ _ ⟨_, by simp only [putAll, Act.put, List.setIfInBounds_toArray, List.set_cons_zero, List.set_cons_succ, d3] <;> rfl, h0, h1, h2, h3, fun _ => rfl, h5, h6, h7, h8, h9, h10, h11, h12, h13, h14, hS, hE14_13, hE13_0, o14⟩
          · obtain rfl := Option.some.inj hi
            clear hi hil
            have d4 := h4 (hall ⟨4, .data⟩ (by simp) rfl)
            have k0 := (HAT.out w' hS.out).c0 HQ.out
            refine wpOp_step rfl (fun K hK => ?_)
            have HKK := Lib.hid hK; clear hK
            simp only [putAll, Act.put, List.setIfInBounds_toArray, List.set_cons_zero, List.set_cons_succ]
            go_simp
            exact HKK.out _ _ ⟨_, by simp only [putAll, Act.put, List.setIfInBounds_toArray, List.set_cons_zero, List.set_cons_succ, d4] <;> rfl, h0, h1, h2, h3, h4, fun _ => rfl, h6, h7, h8, h9, h10, h11, h12, h13, h14, hS, hE14_13, hE13_0, o14⟩
          · obtain rfl := Option.some.inj hi
            clear hi hil
            have d5 := h5 (hall ⟨5, .data⟩ (by simp) rfl)
            refine wpOp_step rfl (fun K hK => ?_)
            have HKK := Lib.hid hK; clear hK
            simp only [putAll, Act.put, List.setIfInBounds_toArray, List.set_cons_zero, List.set_cons_succ]
            go_simp
            exact HKK.out _ _ ⟨_, by simp only [putAll, Act.put, List.setIfInBounds_toArray, List.set_cons_zero, List.set_cons_succ, d5, HEK.out] <;> rfl, h0, h1, h2, h3, h4, h5, fun _ => rfl, h7, h8, h9, h10, h11, h12, h13, h14, hS, hE14_13, hE13_0, o14⟩
          · obtain rfl := Option.some.inj hi
            clear hi hil
            refine wpOp_step rfl (fun K hK => ?_)
            have HKK := Lib.hid hK; clear hK
            simp only [putAll, Act.put, List.setIfInBounds_toArray, List.set_cons_zero, List.set_cons_succ]
            go_simp
            exact HKK.out _ _ ⟨_, by simp only [putAll, Act.put, List.setIfInBounds_toArray, List.set_cons_zero, List.set_cons_succ] <;> rfl, h0, h1, h2, h3, h4, h5, h6, fun _ => rfl, h8, h9, h10, h11, h12, h13, h14, hS, hE14_13, hE13_0, o14⟩
          · obtain rfl := Option.some.inj hi
            clear hi hil
            refine wpOp_step rfl (fun K hK => ?_)
            have HKK := Lib.hid hK; clear hK
            simp only [putAll, Act.put, List.setIfInBounds_toArray, List.set_cons_zero, List.set_cons_succ]
            go_simp
            exact HKK.out _ _ ⟨_, by simp only [putAll, Act.put, List.setIfInBounds_toArray, List.set_cons_zero, List.set_cons_succ] <;> rfl, h0, h1, h2, h3, h4, h5, h6, h7, fun _ => rfl, h9, h10, h11, h12, h13, h14, hS, hE14_13, hE13_0, o14⟩
          · obtain rfl := Option.some.inj hi
            clear hi hil
            have d7 := h7 (hall ⟨7, .data⟩ (by simp) rfl)
            have d8 := h8 (hall ⟨8, .data⟩ (by simp) rfl)
            have hd := HDD.out
            refine wpOp_step rfl (fun K hK => ?_)
            have HKK := Lib.hid hK; clear hK
            simp only [putAll, Act.put, List.setIfInBounds_toArray, List.set_cons_zero, List.set_cons_succ]
            go_simp
            exact HKK.out _ _ ⟨_, by simp only [putAll, Act.put, List.setIfInBounds_toArray, List.set_cons_zero, List.set_cons_succ, d7, d8] <;> rfl, h0, h1, h2, h3, h4, h5, h6, h7, h8, fun _ => rfl, h10, h11, h12, h13, h14, hS, hE14_13, hE13_0, o14⟩
          · obtain rfl := Option.some.inj hi
            clear hi hil
            have d9 := h9 (hall ⟨9, .data⟩ (by simp) rfl)
            refine wpOp_step rfl (fun K hK => ?_)
            have HKK := Lib.hid hK; clear hK
            simp only [putAll, Act.put, List.setIfInBounds_toArray, List.set_cons_zero, List.set_cons_succ]
            go_simp
            exact HKK.out _ _ ⟨_, by simp only [putAll, Act.put, List.setIfInBounds_toArray, List.set_cons_zero, List.set_cons_succ, d9] <;> rfl, h0, h1, h2, h3, h4, h5, h6, h7, h8, h9, fun _ => rfl, h11, h12, h13, h14, hS, hE14_13, hE13_0, o14⟩
          · obtain rfl := Option.some.inj hi
            clear hi hil
            have d10 := h10 (hall ⟨10, .data⟩ (by simp) rfl)
            have k0 := (HAT.out w' hS.out).c0 HQ.out
            refine wpOp_step rfl (fun K hK => ?_)
            have HKK := Lib.hid hK; clear hK
            simp only [putAll, Act.put, List.setIfInBounds_toArray, List.set_cons_zero, List.set_cons_succ]
            go_simp
            exact HKK.out _ _ ⟨_, by simp only [putAll, Act.put, List.setIfInBounds_toArray, List.set_cons_zero, List.set_cons_succ, d10] <;> rfl, h0, h1, h2, h3, h4, h5, h6, h7, h8, h9, h10, fun _ => rfl, h12, h13, h14, hS, hE14_13, hE13_0, o14⟩
          · obtain rfl := Option.some.inj hi
            clear hi hil
            have d6 := h6 (hall ⟨6, .data⟩ (by simp) rfl)
            have d11 := h11 (hall ⟨11, .data⟩ (by simp) rfl)
            have hcut := HCUT.out
            refine wpOp_step rfl (fun K hK => ?_)
            have HKK := Lib.hid hK; clear hK
            simp only [putAll, Act.put, List.setIfInBounds_toArray, List.set_cons_zero, List.set_cons_succ]
            go_simp
            exact HKK.out _ _ ⟨_, by simp only [putAll, Act.put, List.setIfInBounds_toArray, List.set_cons_zero, List.set_cons_succ, d6, d11] <;> rfl, h0, h1, h2, h3, h4, h5, h6, h7, h8, h9, h10, h11, fun _ => rfl, h13, h14, hS, hE14_13, hE13_0, o14⟩
          · obtain rfl := Option.some.inj hi
            clear hi hil
            have d0 := h0 (hall ⟨0, .data⟩ (by simp) rfl)
            have d12 := h12 (hall ⟨12, .data⟩ (by simp) rfl)
            have hadd := HADZ.out
            refine wpOp_step rfl (fun K hK => ?_)
            have HKK := Lib.hid hK; clear hK
            simp only [putAll, Act.put, List.setIfInBounds_toArray, List.set_cons_zero, List.set_cons_succ]
            go_simp
            exact HKK.out _ _ ⟨_, by simp only [putAll, Act.put, List.setIfInBounds_toArray, List.set_cons_zero, List.set_cons_succ, d0, d12] <;> rfl, h0, h1, h2, h3, h4, h5, h6, h7, h8, h9, h10, h11, h12, fun _ => rfl, h14, hS, fun _ => rfl, fun _ => hall ⟨0, .data⟩ (by simp) rfl, o14⟩
          · obtain rfl := Option.some.inj hi
            clear hi hil
            have d13 := h13 (hall ⟨13, .data⟩ (by simp) rfl)
            refine wpOp_step rfl (fun K hK => ?_)
            have HKK := Lib.hid hK; clear hK
            simp only [putAll, Act.put, List.setIfInBounds_toArray, List.set_cons_zero, List.set_cons_succ]
            go_simp
            exact HKK.out _ _ ⟨_, by simp only [putAll, Act.put, List.setIfInBounds_toArray, List.set_cons_zero, List.set_cons_succ, d13] <;> rfl, h0, h1, h2, h3, h4, h5, h6, h7, h8, h9, h10, h11, h12, h13, fun _ => rfl, hS, fun _ => hall ⟨13, .data⟩ (by simp) rfl, hE13_0, fun h => Bool.noConfusion h⟩
          · omega
        · rintro b' vs wz hall ⟨h0, h1, h2, h3, h4, h5, h6, h7, h8, h9, h10, h11, h12, h13, h14, hS, hE14_13, hE13_0, o14⟩
          have d0 := h0 (hall 0 (by simp))
          have d1 := h1 (hall 1 (by simp))
          have d2 := h2 (hall 2 (by simp))
          have d3 := h3 (hall 3 (by simp))
          have d4 := h4 (hall 4 (by simp))
          have d5 := h5 (hall 5 (by simp))
          have d6 := h6 (hall 6 (by simp))
          have d7 := h7 (hall 7 (by simp))
          have d8 := h8 (hall 8 (by simp))
          have d9 := h9 (hall 9 (by simp))
          have d10 := h10 (hall 10 (by simp))
          have d11 := h11 (hall 11 (by simp))
          have d12 := h12 (hall 12 (by simp))
          have d13 := h13 (hall 13 (by simp))
          have d14 := h14 (hall 14 (by simp))
          have PP := hS
          simp only [putAll, Act.put, List.setIfInBounds_toArray, List.set_cons_zero, List.set_cons_succ, d0, d1, d2, d3, d4, d5, d6, d7, d8, d9, d10, d11, d12, d13, d14]
          clear hall h0 d0 h1 d1 h2 d2 h3 d3 h4 d4 h5 d5 h6 d6 h7 d7 h8 d8 h9 d9 h10 d10 h11 d11 h12 d12 h13 d13 h14 d14 hS hE14_13 hE13_0 o14
          have HS7 := PP
          clear PP
          go_wp2_with fail
          go_loopw [3, 5] (fun t i wr => ∃ (j : Nat) (Z : Wd), j ≤ m ∧ i = .int .i64 (j : Int) ∧ t = .string ⟨Z.toArray⟩ ∧ Hid (Z = Z0 ++ [letC false s.k] ++ (P.take j).flatMap ptT) ∧ Hid ((Z.length : Int) ≤ 3000002 + 122 * (j : Int)) ∧ Hid (Below N w wr)) (fun _ i _ => m - (intOf i).toNat)
          case atStart => exact ⟨0, _, by omega, rfl, rfl, by unfold Hid; rw [← HZ1.out]; simp, by have := HZL.out; unfold Hid; rw [← HZ1.out]; simp; omega, HS7.out⟩
          case round =>
            obtain ⟨j, Z, hj, rfl, rfl, hZ, hZl, hx⟩ := hrel
            have c0 := (HAT.out wr hx.out).c0 HQ.out
            by_cases hjm : j < m
            · have hd2 : decide ((j : Int) < (m : Int)) = true := by simp; omega
              obtain ⟨⟨px, py⟩, hp⟩ : ∃ p, P[j]? = some p := ⟨_, List.getElem?_eq_getElem (by rw [HPL.out]; exact hjm)⟩
              have HPX : Hid (inB px = true ∧ inB py = true) := by
                have := HSO.out.pts (px, py) (by rw [HM.out, HP.out]; exact List.mem_of_getElem? hp)
                unfold Hid
                rw [in_room, in_room]; exact this
              have HPT : Hid (∀ W, Below N w W → W.cell? ⟨b, o + k * 7 + 1 + j * 2, none⟩ = some (.int .i64 px) ∧ W.cell? ⟨b, o + k * 7 + 1 + j * 2 + 1, none⟩ = some (.int .i64 py)) := fun W hW => seg_pt (HAT.out W hW) HQ.out (by
                have h1 : (s.pts.take m)[j]? = some (px, py) := by rw [HP.out]; exact hp
                rw [List.getElem?_take, if_pos hjm] at h1
                exact h1)
              have hlx := textT_le px HPX.out.1
              have hly := textT_le py HPX.out.2
              obtain ⟨A1, hA1⟩ : ∃ A, [32] ++ textT px = A := ⟨_, rfl⟩
              obtain ⟨A2, hA2⟩ : ∃ A, A1 ++ [32] = A := ⟨_, rfl⟩
              obtain ⟨A3, hA3⟩ : ∃ A, A2 ++ textT py = A := ⟨_, rfl⟩
              obtain ⟨A4, hA4⟩ : ∃ A, Z ++ A3 = A := ⟨_, rfl⟩
              have n1 : A1.length ≤ 61 := by rw [← hA1]; simp; omega
              have n2 : A2.length ≤ 62 := by rw [← hA2]; simp; omega
              have n3 : A3.length ≤ 122 := by rw [← hA3]; simp; omega
              have n4 : A4.length ≤ Z.length + 122 := by rw [← hA4]; simp; omega
              have HAD : Hid ((∀ W, (Op.stringOp .add ⟨#[32]⟩ ⟨(textT px).toArray⟩).run Tryz.prog W = .ok (.string ⟨A1.toArray⟩) W) ∧ (∀ W, (Op.stringOp .add ⟨A1.toArray⟩ ⟨#[32]⟩).run Tryz.prog W = .ok (.string ⟨A2.toArray⟩) W) ∧ (∀ W, (Op.stringOp .add ⟨A2.toArray⟩ ⟨(textT py).toArray⟩).run Tryz.prog W = .ok (.string ⟨A3.toArray⟩) W) ∧ (∀ W, (Op.stringOp .add ⟨Z.toArray⟩ ⟨A3.toArray⟩).run Tryz.prog W = .ok (.string ⟨A4.toArray⟩) W)) := by
                have := hZl.out
                refine ⟨fun W => ?_, fun W => ?_, fun W => ?_, fun W => ?_⟩
                · rw [← hA1]; exact run_string_add_lists W [32] _ (by simp) (by omega)
                · rw [← hA2]; exact run_string_add_lists W _ [32] (by omega) (by simp)
                · rw [← hA3]; exact run_string_add_lists W _ _ (by omega) (by omega)
                · rw [← hA4]; exact run_string_add_lists W _ _ (by omega) (by omega)
              have HNX : Hid (A4 = Z0 ++ [letC false s.k] ++ (P.take (j + 1)).flatMap ptT) := by
                unfold Hid
                rw [← hA4, ← hA3, ← hA2, ← hA1, List.take_add_one, hp, List.flatMap_append, hZ.out]
                simp [ptT]
              have HLN2 : Hid ((A4.length : Int) ≤ 3000002 + 122 * ((j + 1 : Nat) : Int)) := by
                have := hZl.out
                unfold Hid
                omega
              have HDD3 : Hid (decide ((k : Int) < (n : Int)) = true ∧ (j : Int) < 3) := ⟨HDD.out, by omega⟩
              have HJM := Lib.hid hjm
              clear hp hlx hly hA1 hA2 hA3 hA4 n1 n2 n3 n4
              go_wp2_with fail
              refine (HND.out wr).mono ?_
              rintro e w5 ⟨rfl, rfl⟩
              clear c0
              go_upto_region 11 with fail
              refine wp_region_put2 (by kernel_rfl) (by kernel_rfl) (by kernel_rfl) (fun b' vs w' => (b' 0 = true → vs 0 = .string ⟨Z.toArray⟩) ∧ (b' 1 = true → vs 1 = .slice (some ⟨b, o, none⟩) n c) ∧ (b' 2 = true → vs 2 = .int .i64 (k : Int)) ∧ (b' 3 = true → vs 3 = .int .i64 (j : Int)) ∧ (b' 4 = true → vs 4 = .pointer (some ⟨b, o + k * 7, none⟩)) ∧ (b' 5 = true → vs 5 = .pointer (some ⟨b, o + k * 7 + 1, none⟩)) ∧ (b' 6 = true → vs 6 = .pointer (some ⟨b, o + k * 7 + 1 + j * 2, none⟩)) ∧ (b' 7 = true → vs 7 = .pointer (some ⟨b, o + k * 7 + 1 + j * 2, none⟩)) ∧ (b' 8 = true → vs 8 = .int .i64 px) ∧ (b' 9 = true → vs 9 = .string ⟨(textT px).toArray⟩) ∧ (b' 10 = true → vs 10 = .string ⟨A1.toArray⟩) ∧ (b' 11 = true → vs 11 = .string ⟨A2.toArray⟩) ∧ (b' 12 = true → vs 12 = .slice (some ⟨b, o, none⟩) n c) ∧ (b' 13 = true → vs 13 = .int .i64 (k : Int)) ∧ (b' 14 = true → vs 14 = .int .i64 (j : Int)) ∧ (b' 15 = true → vs 15 = .pointer (some ⟨b, o + k * 7, none⟩)) ∧ (b' 16 = true → vs 16 = .pointer (some ⟨b, o + k * 7 + 1, none⟩)) ∧ (b' 17 = true → vs 17 = .pointer (some ⟨b, o + k * 7 + 1 + j * 2, none⟩)) ∧ (b' 18 = true → vs 18 = .pointer (some ⟨b, o + k * 7 + 1 + j * 2 + 1, none⟩)) ∧ (b' 19 = true → vs 19 = .int .i64 py) ∧ (b' 20 = true → vs 20 = .string ⟨(textT py).toArray⟩) ∧ (b' 21 = true → vs 21 = .string ⟨A3.toArray⟩) ∧ (b' 22 = true → vs 22 = .string ⟨A4.toArray⟩) ∧ (b' 23 = true → vs 23 = .string ⟨A4.toArray⟩) ∧ Hid (Below N w w') ∧ (b' 23 = true → b' 22 = true) ∧ (b' 22 = true → b' 0 = true) ∧ (b' 23 = false → vs 23 = .string ⟨Z.toArray⟩)) ?_ ?_ ?_
              · intro vs hvs
                exact ⟨fun h => Bool.noConfusion h, fun h => Bool.noConfusion h, fun h => Bool.noConfusion h, fun h => Bool.noConfusion h, fun h => Bool.noConfusion h, fun h => Bool.noConfusion h, fun h => Bool.noConfusion h, fun h => Bool.noConfusion h, fun h => Bool.noConfusion h, fun h => Bool.noConfusion h, fun h => Bool.noConfusion h, fun h => Bool.noConfusion h, fun h => Bool.noConfusion h, fun h => Bool.noConfusion h, fun h => Bool.noConfusion h, fun h => Bool.noConfusion h, fun h => Bool.noConfusion h, fun h => Bool.noConfusion h, fun h => Bool.noConfusion h, fun h => Bool.noConfusion h, fun h => Bool.noConfusion h, fun h => Bool.noConfusion h, fun h => Bool.noConfusion h, fun h => Bool.noConfusion h, Lib.hid (Below.drew hx.out), fun h => Bool.noConfusion h, fun h => Bool.noConfusion h, fun _ => hvs 23 _ 3 rfl rfl⟩
              · rintro b' vs w' i op hi hun hall ⟨h0, h1, h2, h3, h4, h5, h6, h7, h8, h9, h10, h11, h12, h13, h14, h15, h16, h17, h18, h19, h20, h21, h22, h23, hS, hE23_22, hE22_0, o23⟩
                have hil : i < 24 := (List.getElem?_eq_some_iff.1 hi).1
                rcases i with _ | _ | _ | _ | _ | _ | _ | _ | _ | _ | _ | _ | _ | _ | _ | _ | _ | _ | _ | _ | _ | _ | _ | _ | i
                · obtain rfl := Option.some.inj hi
                  clear hi hil
                  have n23 : b' 23 = false := by
                    cases hz : b' 23 with
                    | false => rfl
                    | true => exact absurd (hE22_0 (hE23_22 (hz))) (by rw [hun]; decide)
                  have z23 := o23 n23
                  refine wpOp_step rfl (fun K hK => ?_)
                  have HKK := Lib.hid hK; clear hK
                  simp only [putAll, Act.put, List.setIfInBounds_toArray, List.set_cons_zero, List.set_cons_succ]
                  go_simp
                  exact HKK.out _ _ ⟨_, by simp only [putAll, Act.put, List.setIfInBounds_toArray, List.set_cons_zero, List.set_cons_succ, z23] <;> rfl, fun _ => rfl, h1, h2, h3, h4, h5, h6, h7, h8, h9, h10, h11, h12, h13, h14, h15, h16, h17, h18, h19, h20, h21, h22, h23, hS, hE23_22, fun _ => rfl, o23⟩
                · obtain rfl := Option.some.inj hi
                  clear hi hil
                  refine wpOp_step rfl (fun K hK => ?_)
                  have HKK := Lib.hid hK; clear hK
                  simp only [putAll, Act.put, List.setIfInBounds_toArray, List.set_cons_zero, List.set_cons_succ]
                  go_simp
                  exact HKK.out _ _ ⟨_, by simp only [putAll, Act.put, List.setIfInBounds_toArray, List.set_cons_zero, List.set_cons_succ] <;> rfl, h0, fun _ => rfl, h2, h3, h4, h5, h6, h7, h8, h9, h10, h11, h12, h13, h14, h15, h16, h17, h18, h19, h20, h21, h22, h23, hS, hE23_22, hE22_0, o23⟩
                · obtain rfl := Option.some.inj hi
                  clear hi hil
                  refine wpOp_step rfl (fun K hK => ?_)
                  have HKK := Lib.hid hK; clear hK
                  simp only [putAll, Act.put, List.setIfInBounds_toArray, List.set_cons_zero, List.set_cons_succ]
                  go_simp
                  exact HKK.out _ _ ⟨_, by simp only [putAll, Act.put, List.setIfInBounds_toArray, List.set_cons_zero, List.set_cons_succ] <;> rfl, h0, h1, fun _ => rfl, h3, h4, h5, h6, h7, h8, h9, h10, h11, h12, h13, h14, h15, h16, h17, h18, h19, h20, h21, h22, h23, hS, hE23_22, hE22_0, o23⟩
                · obtain rfl := Option.some.inj hi
                  clear hi hil
                  refine wpOp_step rfl (fun K hK => ?_)
                  have HKK := Lib.hid hK; clear hK
                  simp only [putAll, Act.put, List.setIfInBounds_toArray, List.set_cons_zero, List.set_cons_succ]
                  go_simp
                  exact HKK.out _ _ ⟨_, by simp only [putAll, Act.put, List.setIfInBounds_toArray, List.set_cons_zero, List.set_cons_succ] <;> rfl, h0, h1, h2, fun _ => rfl, h4, h5, h6, h7, h8, h9, h10, h11, h12, h13, h14, h15, h16, h17, h18, h19, h20, h21, h22, h23, hS, hE23_22, hE22_0, o23⟩
                · obtain rfl := Option.some.inj hi
                  clear hi hil
                  have d1 := h1 (hall ⟨1, .data⟩ (by simp) rfl)
                  have d2 := h2 (hall ⟨2, .data⟩ (by simp) rfl)
                  have hd := HDD3.out.1
                  refine wpOp_step rfl (fun K hK => ?_)
                  have HKK := Lib.hid hK; clear hK
                  simp only [putAll, Act.put, List.setIfInBounds_toArray, List.set_cons_zero, List.set_cons_succ]
                  go_simp
                  exact HKK.out _ _ ⟨_, by simp only [putAll, Act.put, List.setIfInBounds_toArray, List.set_cons_zero, List.set_cons_succ, d1, d2] <;> rfl, h0, h1, h2, h3, fun _ => rfl, h5, h6, h7, h8, h9, h10, h11, h12, h13, h14, h15, h16, h17, h18, h19, h20, h21, h22, h23, hS, hE23_22, hE22_0, o23⟩
                · obtain rfl := Option.some.inj hi
                  clear hi hil
                  have d4 := h4 (hall ⟨4, .data⟩ (by simp) rfl)
                  refine wpOp_step rfl (fun K hK => ?_)
                  have HKK := Lib.hid hK; clear hK
                  simp only [putAll, Act.put, List.setIfInBounds_toArray, List.set_cons_zero, List.set_cons_succ]
                  go_simp
                  exact HKK.out _ _ ⟨_, by simp only [putAll, Act.put, List.setIfInBounds_toArray, List.set_cons_zero, List.set_cons_succ, d4] <;> rfl, h0, h1, h2, h3, h4, fun _ => rfl, h6, h7, h8, h9, h10, h11, h12, h13, h14, h15, h16, h17, h18, h19, h20, h21, h22, h23, hS, hE23_22, hE22_0, o23⟩
                · obtain rfl := Option.some.inj hi
                  clear hi hil
                  have d5 := h5 (hall ⟨5, .data⟩ (by simp) rfl)
                  have d3 := h3 (hall ⟨3, .data⟩ (by simp) rfl)
                  have hd3 := HDD3.out.2
                  refine wpOp_step rfl (fun K hK => ?_)
                  have HKK := Lib.hid hK; clear hK
                  simp only [putAll, Act.put, List.setIfInBounds_toArray, List.set_cons_zero, List.set_cons_succ]
                  go_simp
                  exact HKK.out _ _ ⟨_, by simp only [putAll, Act.put, List.setIfInBounds_toArray, List.set_cons_zero, List.set_cons_succ, d5, d3] <;> rfl, h0, h1, h2, h3, h4, h5, fun _ => rfl, h7, h8, h9, h10, h11, h12, h13, h14, h15, h16, h17, h18, h19, h20, h21, h22, h23, hS, hE23_22, hE22_0, o23⟩
                · obtain rfl := Option.some.inj hi
                  clear hi hil
                  have d6 := h6 (hall ⟨6, .data⟩ (by simp) rfl)
                  refine wpOp_step rfl (fun K hK => ?_)
                  have HKK := Lib.hid hK; clear hK
                  simp only [putAll, Act.put, List.setIfInBounds_toArray, List.set_cons_zero, List.set_cons_succ]
                  go_simp
                  exact HKK.out _ _ ⟨_, by simp only [putAll, Act.put, List.setIfInBounds_toArray, List.set_cons_zero, List.set_cons_succ, d6] <;> rfl, h0, h1, h2, h3, h4, h5, h6, fun _ => rfl, h8, h9, h10, h11, h12, h13, h14, h15, h16, h17, h18, h19, h20, h21, h22, h23, hS, hE23_22, hE22_0, o23⟩
                · obtain rfl := Option.some.inj hi
                  clear hi hil
                  have d7 := h7 (hall ⟨7, .data⟩ (by simp) rfl)
                  have k0 := (HPT.out w' hS.out).1
                  refine wpOp_step rfl (fun K hK => ?_)
                  have HKK := Lib.hid hK; clear hK
                  simp only [putAll, Act.put, List.setIfInBounds_toArray, List.set_cons_zero, List.set_cons_succ]
                  go_simp
                  exact HKK.out _ _ ⟨_, by simp only [putAll, Act.put, List.setIfInBounds_toArray, List.set_cons_zero, List.set_cons_succ, d7] <;> rfl, h0, h1, h2, h3, h4, h5, h6, h7, fun _ => rfl, h9, h10, h11, h12, h13, h14, h15, h16, h17, h18, h19, h20, h21, h22, h23, hS, hE23_22, hE22_0, o23⟩
                · obtain rfl := Option.some.inj hi
                  clear hi hil
                  have d8 := h8 (hall ⟨8, .data⟩ (by simp) rfl)
                  refine wpOp_step rfl (fun K hK => ?_)
                  have HKK := Lib.hid hK; clear hK
                  simp only [putAll, Act.put, List.setIfInBounds_toArray, List.set_cons_zero, List.set_cons_succ]
                  go_simp
                  refine (refText_in px HPX.out.1 w').mono ?_
                  rintro e w9 ⟨rfl, hb2⟩
                  exact HKK.out _ _ ⟨_, by simp only [putAll, Act.put, List.setIfInBounds_toArray, List.set_cons_zero, List.set_cons_succ, d8] <;> rfl, h0, h1, h2, h3, h4, h5, h6, h7, h8, fun _ => rfl, h10, h11, h12, h13, h14, h15, h16, h17, h18, h19, h20, h21, h22, h23, Lib.hid (hS.out.trans (hb2.mono (by have := hS.out.size; have := HN.out; omega))), hE23_22, hE22_0, o23⟩
                · obtain rfl := Option.some.inj hi
                  clear hi hil
                  have d9 := h9 (hall ⟨9, .data⟩ (by simp) rfl)
                  have hadd := HAD.out.1
                  refine wpOp_step rfl (fun K hK => ?_)
                  have HKK := Lib.hid hK; clear hK
                  simp only [putAll, Act.put, List.setIfInBounds_toArray, List.set_cons_zero, List.set_cons_succ]
                  go_simp
                  exact HKK.out _ _ ⟨_, by simp only [putAll, Act.put, List.setIfInBounds_toArray, List.set_cons_zero, List.set_cons_succ, d9] <;> rfl, h0, h1, h2, h3, h4, h5, h6, h7, h8, h9, fun _ => rfl, h11, h12, h13, h14, h15, h16, h17, h18, h19, h20, h21, h22, h23, hS, hE23_22, hE22_0, o23⟩
                · obtain rfl := Option.some.inj hi
                  clear hi hil
                  have d10 := h10 (hall ⟨10, .data⟩ (by simp) rfl)
                  have hadd := HAD.out.2.1
                  refine wpOp_step rfl (fun K hK => ?_)
                  have HKK := Lib.hid hK; clear hK
                  simp only [putAll, Act.put, List.setIfInBounds_toArray, List.set_cons_zero, List.set_cons_succ]
                  go_simp
                  exact HKK.out _ _ ⟨_, by simp only [putAll, Act.put, List.setIfInBounds_toArray, List.set_cons_zero, List.set_cons_succ, d10] <;> rfl, h0, h1, h2, h3, h4, h5, h6, h7, h8, h9, h10, fun _ => rfl, h12, h13, h14, h15, h16, h17, h18, h19, h20, h21, h22, h23, hS, hE23_22, hE22_0, o23⟩
                · obtain rfl := Option.some.inj hi
                  clear hi hil
                  refine wpOp_step rfl (fun K hK => ?_)
                  have HKK := Lib.hid hK; clear hK
                  simp only [putAll, Act.put, List.setIfInBounds_toArray, List.set_cons_zero, List.set_cons_succ]
                  go_simp
                  exact HKK.out _ _ ⟨_, by simp only [putAll, Act.put, List.setIfInBounds_toArray, List.set_cons_zero, List.set_cons_succ] <;> rfl, h0, h1, h2, h3, h4, h5, h6, h7, h8, h9, h10, h11, fun _ => rfl, h13, h14, h15, h16, h17, h18, h19, h20, h21, h22, h23, hS, hE23_22, hE22_0, o23⟩
                · obtain rfl := Option.some.inj hi
                  clear hi hil
                  refine wpOp_step rfl (fun K hK => ?_)
                  have HKK := Lib.hid hK; clear hK
                  simp only [putAll, Act.put, List.setIfInBounds_toArray, List.set_cons_zero, List.set_cons_succ]
                  go_simp
                  exact HKK.out _ _ ⟨_, by simp only [putAll, Act.put, List.setIfInBounds_toArray, List.set_cons_zero, List.set_cons_succ] <;> rfl, h0, h1, h2, h3, h4, h5, h6, h7, h8, h9, h10, h11, h12, fun _ => rfl, h14, h15, h16, h17, h18, h19, h20, h21, h22, h23, hS, hE23_22, hE22_0, o23⟩
                · obtain rfl := Option.some.inj hi
                  clear hi hil
                  refine wpOp_step rfl (fun K hK => ?_)
                  have HKK := Lib.hid hK; clear hK
                  simp only [putAll, Act.put, List.setIfInBounds_toArray, List.set_cons_zero, List.set_cons_succ]
                  go_simp
                  exact HKK.out _ _ ⟨_, by simp only [putAll, Act.put, List.setIfInBounds_toArray, List.set_cons_zero, List.set_cons_succ] <;> rfl, h0, h1, h2, h3, h4, h5, h6, h7, h8, h9, h10, h11, h12, h13, fun _ => rfl, h15, h16, h17, h18, h19, h20, h21, h22, h23, hS, hE23_22, hE22_0, o23⟩
                · obtain rfl := Option.some.inj hi
                  clear hi hil
                  have d12 := h12 (hall ⟨12, .data⟩ (by simp) rfl)
                  have d13 := h13 (hall ⟨13, .data⟩ (by simp) rfl)
                  have hd := HDD3.out.1
                  refine wpOp_step rfl (fun K hK => ?_)
                  have HKK := Lib.hid hK; clear hK
                  simp only [putAll, Act.put, List.setIfInBounds_toArray, List.set_cons_zero, List.set_cons_succ]
                  go_simp
                  exact HKK.out _ _ ⟨_, by simp only [putAll, Act.put, List.setIfInBounds_toArray, List.set_cons_zero, List.set_cons_succ, d12, d13] <;> rfl, h0, h1, h2, h3, h4, h5, h6, h7, h8, h9, h10, h11, h12, h13, h14, fun _ => rfl, h16, h17, h18, h19, h20, h21, h22, h23, hS, hE23_22, hE22_0, o23⟩
                · obtain rfl := Option.some.inj hi
                  clear hi hil
                  have d15 := h15 (hall ⟨15, .data⟩ (by simp) rfl)
                  refine wpOp_step rfl (fun K hK => ?_)
                  have HKK := Lib.hid hK; clear hK
                  simp only [putAll, Act.put, List.setIfInBounds_toArray, List.set_cons_zero, List.set_cons_succ]
                  go_simp
                  exact HKK.out _ _ ⟨_, by simp only [putAll, Act.put, List.setIfInBounds_toArray, List.set_cons_zero, List.set_cons_succ, d15] <;> rfl, h0, h1, h2, h3, h4, h5, h6, h7, h8, h9, h10, h11, h12, h13, h14, h15, fun _ => rfl, h17, h18, h19, h20, h21, h22, h23, hS, hE23_22, hE22_0, o23⟩
                · obtain rfl := Option.some.inj hi
                  clear hi hil
                  have d16 := h16 (hall ⟨16, .data⟩ (by simp) rfl)
                  have d14 := h14 (hall ⟨14, .data⟩ (by simp) rfl)
                  have hd3 := HDD3.out.2
                  refine wpOp_step rfl (fun K hK => ?_)
                  have HKK := Lib.hid hK; clear hK
                  simp only [putAll, Act.put, List.setIfInBounds_toArray, List.set_cons_zero, List.set_cons_succ]
                  go_simp
                  exact HKK.out _ _ ⟨_, by simp only [putAll, Act.put, List.setIfInBounds_toArray, List.set_cons_zero, List.set_cons_succ, d16, d14] <;> rfl, h0, h1, h2, h3, h4, h5, h6, h7, h8, h9, h10, h11, h12, h13, h14, h15, h16, fun _ => rfl, h18, h19, h20, h21, h22, h23, hS, hE23_22, hE22_0, o23⟩
                · obtain rfl := Option.some.inj hi
                  clear hi hil
                  have d17 := h17 (hall ⟨17, .data⟩ (by simp) rfl)
                  refine wpOp_step rfl (fun K hK => ?_)
                  have HKK := Lib.hid hK; clear hK
                  simp only [putAll, Act.put, List.setIfInBounds_toArray, List.set_cons_zero, List.set_cons_succ]
                  go_simp
                  exact HKK.out _ _ ⟨_, by simp only [putAll, Act.put, List.setIfInBounds_toArray, List.set_cons_zero, List.set_cons_succ, d17] <;> rfl, h0, h1, h2, h3, h4, h5, h6, h7, h8, h9, h10, h11, h12, h13, h14, h15, h16, h17, fun _ => rfl, h19, h20, h21, h22, h23, hS, hE23_22, hE22_0, o23⟩
                · obtain rfl := Option.some.inj hi
                  clear hi hil
                  have d18 := h18 (hall ⟨18, .data⟩ (by simp) rfl)
                  have k1 := (HPT.out w' hS.out).2
                  refine wpOp_step rfl (fun K hK => ?_)
                  have HKK := Lib.hid hK; clear hK
                  simp only [putAll, Act.put, List.setIfInBounds_toArray, List.set_cons_zero, List.set_cons_succ]
                  go_simp
                  exact HKK.out _ _ ⟨_, by simp only [putAll, Act.put, List.setIfInBounds_toArray, List.set_cons_zero, List.set_cons_succ, d18] <;> rfl, h0, h1, h2, h3, h4, h5, h6, h7, h8, h9, h10, h11, h12, h13, h14, h15, h16, h17, h18, fun _ => rfl, h20, h21, h22, h23, hS, hE23_22, hE22_0, o23⟩
                · obtain rfl := Option.some.inj hi
                  clear hi hil
                  have d19 := h19 (hall ⟨19, .data⟩ (by simp) rfl)
                  refine wpOp_step rfl (fun K hK => ?_)
                  have HKK := Lib.hid hK; clear hK
                  simp only [putAll, Act.put, List.setIfInBounds_toArray, List.set_cons_zero, List.set_cons_succ]
                  go_simp
                  refine (refText_in py HPX.out.2 w').mono ?_
                  rintro e w9 ⟨rfl, hb2⟩
                  exact HKK.out _ _ ⟨_, by simp only [putAll, Act.put, List.setIfInBounds_toArray, List.set_cons_zero, List.set_cons_succ, d19] <;> rfl, h0, h1, h2, h3, h4, h5, h6, h7, h8, h9, h10, h11, h12, h13, h14, h15, h16, h17, h18, h19, fun _ => rfl, h21, h22, h23, Lib.hid (hS.out.trans (hb2.mono (by have := hS.out.size; have := HN.out; omega))), hE23_22, hE22_0, o23⟩
                · obtain rfl := Option.some.inj hi
                  clear hi hil
                  have d11 := h11 (hall ⟨11, .data⟩ (by simp) rfl)
                  have d20 := h20 (hall ⟨20, .data⟩ (by simp) rfl)
                  have hadd := HAD.out.2.2.1
                  refine wpOp_step rfl (fun K hK => ?_)
                  have HKK := Lib.hid hK; clear hK
                  simp only [putAll, Act.put, List.setIfInBounds_toArray, List.set_cons_zero, List.set_cons_succ]
                  go_simp
                  exact HKK.out _ _ ⟨_, by simp only [putAll, Act.put, List.setIfInBounds_toArray, List.set_cons_zero, List.set_cons_succ, d11, d20] <;> rfl, h0, h1, h2, h3, h4, h5, h6, h7, h8, h9, h10, h11, h12, h13, h14, h15, h16, h17, h18, h19, h20, fun _ => rfl, h22, h23, hS, hE23_22, hE22_0, o23⟩
                · obtain rfl := Option.some.inj hi
                  clear hi hil
                  have d0 := h0 (hall ⟨0, .data⟩ (by simp) rfl)
                  have d21 := h21 (hall ⟨21, .data⟩ (by simp) rfl)
                  have hadd := HAD.out.2.2.2
                  refine wpOp_step rfl (fun K hK => ?_)
                  have HKK := Lib.hid hK; clear hK
                  simp only [putAll, Act.put, List.setIfInBounds_toArray, List.set_cons_zero, List.set_cons_succ]
                  go_simp
                  exact HKK.out _ _ ⟨_, by simp only [putAll, Act.put, List.setIfInBounds_toArray, List.set_cons_zero, List.set_cons_succ, d0, d21] <;> rfl, h0, h1, h2, h3, h4, h5, h6, h7, h8, h9, h10, h11, h12, h13, h14, h15, h16, h17, h18, h19, h20, h21, fun _ => rfl, h23, hS, fun _ => rfl, fun _ => hall ⟨0, .data⟩ (by simp) rfl, o23⟩
                · obtain rfl := Option.some.inj hi
                  clear hi hil
                  have d22 := h22 (hall ⟨22, .data⟩ (by simp) rfl)
                  refine wpOp_step rfl (fun K hK => ?_)
                  have HKK := Lib.hid hK; clear hK
                  simp only [putAll, Act.put, List.setIfInBounds_toArray, List.set_cons_zero, List.set_cons_succ]
                  go_simp
                  exact HKK.out _ _ ⟨_, by simp only [putAll, Act.put, List.setIfInBounds_toArray, List.set_cons_zero, List.set_cons_succ, d22] <;> rfl, h0, h1, h2, h3, h4, h5, h6, h7, h8, h9, h10, h11, h12, h13, h14, h15, h16, h17, h18, h19, h20, h21, h22, fun _ => rfl, hS, fun _ => hall ⟨22, .data⟩ (by simp) rfl, hE22_0, fun h => Bool.noConfusion h⟩
                · omega
              · rintro b' vs wz hall ⟨h0, h1, h2, h3, h4, h5, h6, h7, h8, h9, h10, h11, h12, h13, h14, h15, h16, h17, h18, h19, h20, h21, h22, h23, hS, hE23_22, hE22_0, o23⟩
                have d0 := h0 (hall 0 (by simp))
                have d1 := h1 (hall 1 (by simp))
                have d2 := h2 (hall 2 (by simp))
                have d3 := h3 (hall 3 (by simp))
                have d4 := h4 (hall 4 (by simp))
                have d5 := h5 (hall 5 (by simp))
                have d6 := h6 (hall 6 (by simp))
                have d7 := h7 (hall 7 (by simp))
                have d8 := h8 (hall 8 (by simp))
                have d9 := h9 (hall 9 (by simp))
                have d10 := h10 (hall 10 (by simp))
                have d11 := h11 (hall 11 (by simp))
                have d12 := h12 (hall 12 (by simp))
                have d13 := h13 (hall 13 (by simp))
                have d14 := h14 (hall 14 (by simp))
                have d15 := h15 (hall 15 (by simp))
                have d16 := h16 (hall 16 (by simp))
                have d17 := h17 (hall 17 (by simp))
                have d18 := h18 (hall 18 (by simp))
                have d19 := h19 (hall 19 (by simp))
                have d20 := h20 (hall 20 (by simp))
                have d21 := h21 (hall 21 (by simp))
                have d22 := h22 (hall 22 (by simp))
                have d23 := h23 (hall 23 (by simp))
                have PP := hS
                simp only [putAll, Act.put, List.setIfInBounds_toArray, List.set_cons_zero, List.set_cons_succ, d0, d1, d2, d3, d4, d5, d6, d7, d8, d9, d10, d11, d12, d13, d14, d15, d16, d17, d18, d19, d20, d21, d22, d23]
                clear hall h0 d0 h1 d1 h2 d2 h3 d3 h4 d4 h5 d5 h6 d6 h7 d7 h8 d8 h9 d9 h10 d10 h11 d11 h12 d12 h13 d13 h14 d14 h15 d15 h16 d16 h17 d17 h18 d18 h19 d19 h20 d20 h21 d21 h22 d22 h23 d23 hS hE23_22 hE22_0 o23
                have HS7 := PP
                clear PP
                go_wp2_with fail
                refine ⟨⟨j + 1, _, by have := HJM.out; omega, by go_num, rfl, HNX.out, HLN2.out, HS7.out⟩, by have := HJM.out; simp [intOf]; omega⟩
            · have hd2 : decide ((j : Int) < (m : Int)) = false := by simp; omega
              obtain rfl : j = m := by omega
              have HFIN : Hid (Z = textUp (l.take (k + 1))) := by
                unfold Hid
                rw [hZ.out, HUP.out, segT, HM.out, HP.out, List.take_of_length_le (Nat.le_of_eq HPL.out)]
                simp
              go_wp2_with fail
              refine (HND.out wr).mono ?_
              rintro e w5 ⟨rfl, rfl⟩
              go_wp2_with fail
              exact ⟨⟨k + 1, Z, by have := HLT.out; omega, by go_num, rfl, HFIN.out, hx.out⟩, by have := HLT.out; simp [intOf]; omega⟩
    · have hd : decide ((k : Int) < (n : Int)) = false := by simp; omega
      obtain rfl : k = n := by omega
      go_wp2_with fail
      go_ret
      refine ⟨?_, hw.out⟩
      rw [hT.out, List.take_of_length_le (Nat.le_of_eq HLN.out.1)]
      rfl
end Go.Proofs.YtbnbglngpgikfaaGreatDoor
