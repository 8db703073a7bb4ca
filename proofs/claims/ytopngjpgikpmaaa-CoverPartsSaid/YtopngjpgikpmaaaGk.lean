/- The document's Side and Winds. -/
import Derived.Test.YtopngjpgikpmaaaGc
import Derived.Test.YtopngjpgikpmaaaL
import Derived.OrdersHeld
namespace Go.Proofs.Ytopngjpgikpmaaa
open Go.RowKit

theorem part_facts (a b : Int) (h1 : 0 < a) (h2 : a ≤ 8589934592) (h3 : 0 < b) (h4 : b ≤ 8589934592) :
    (0 ≤ a % 65536 * b ∧ a % 65536 * b ≤ 562949953421312) ∧ (0 ≤ a / 65536 * b ∧ a / 65536 * b ≤ 1125899906842624) ∧ (a / 65536 * b + a % 65536 * b / 65536) * 65536 + a % 65536 * b % 65536 = a * b := by
  obtain ⟨A, rfl⟩ := Int.eq_ofNat_of_zero_le (show 0 ≤ a by omega)
  obtain ⟨B, rfl⟩ := Int.eq_ofNat_of_zero_le (show 0 ≤ b by omega)
  have k1 := Nat.mul_le_mul (show A % 65536 ≤ 65535 by omega) (show B ≤ 8589934592 by omega)
  have k2 := Nat.mul_le_mul (show A / 65536 ≤ 131072 by omega) (show B ≤ 8589934592 by omega)
  have e1 : ((A % 65536 * B : Nat) : Int) = (A : Int) % 65536 * B := by simp
  have e2 : ((A / 65536 * B : Nat) : Int) = (A : Int) / 65536 * B := by simp
  have e3 : (A : Int) / 65536 * B * 65536 + (A : Int) % 65536 * B = A * B := by
    have := Int.mul_ediv_add_emod (A : Int) 65536
    rw [Int.mul_right_comm, ← Int.add_mul, Int.mul_comm _ 65536, this]
  rw [← e1, ← e2] at *
  generalize A % 65536 * B = p at *
  generalize A / 65536 * B = q at *
  generalize (A : Int) * B = z at *
  omega
set_option maxHeartbeats 400000 in
set_option maxRecDepth 100000 in
theorem product_pp (a b : Int) (h1 : 0 < a) (h2 : a ≤ 8589934592) (h3 : 0 < b) (h4 : b ≤ 8589934592) (w : World) :
    Calls Try.prog 61 #[.int .i64 (a), .int .i64 (b)] w fun e w' => e = .returned (.tuple #[.int .i64 1, .int .i64 (a / 65536 * b + a % 65536 * b / 65536), .int .i64 (a % 65536 * b % 65536)]) ∧ w = w' := by
  obtain ⟨⟨p1, p2⟩, ⟨p3, p4⟩, _⟩ := part_facts a b h1 h2 h3 h4
  have z1 : (a == 0) = false := by simp; omega
  have z2 : (b == 0) = false := by simp; omega
  go_enter Try.func61, Try.ntmps61
  go_wp2_with fail
  go_returns
  exact ⟨rfl, rfl⟩
set_option maxHeartbeats 400000 in
set_option maxRecDepth 100000 in
theorem product_np (a b : Int) (h1 : 0 < a) (h2 : a ≤ 8589934592) (h3 : 0 < b) (h4 : b ≤ 8589934592) (w : World) :
    Calls Try.prog 61 #[.int .i64 (-a), .int .i64 (b)] w fun e w' => e = .returned (.tuple #[.int .i64 (-1), .int .i64 (a / 65536 * b + a % 65536 * b / 65536), .int .i64 (a % 65536 * b % 65536)]) ∧ w = w' := by
  obtain ⟨⟨p1, p2⟩, ⟨p3, p4⟩, _⟩ := part_facts a b h1 h2 h3 h4
  have z1 : (a == 0) = false := by simp; omega
  have z2 : (b == 0) = false := by simp; omega
  go_enter Try.func61, Try.ntmps61
  go_wp2_with fail
  go_returns
  exact ⟨rfl, rfl⟩
set_option maxHeartbeats 400000 in
set_option maxRecDepth 100000 in
theorem product_pn (a b : Int) (h1 : 0 < a) (h2 : a ≤ 8589934592) (h3 : 0 < b) (h4 : b ≤ 8589934592) (w : World) :
    Calls Try.prog 61 #[.int .i64 (a), .int .i64 (-b)] w fun e w' => e = .returned (.tuple #[.int .i64 (-1), .int .i64 (a / 65536 * b + a % 65536 * b / 65536), .int .i64 (a % 65536 * b % 65536)]) ∧ w = w' := by
  obtain ⟨⟨p1, p2⟩, ⟨p3, p4⟩, _⟩ := part_facts a b h1 h2 h3 h4
  have z1 : (a == 0) = false := by simp; omega
  have z2 : (b == 0) = false := by simp; omega
  go_enter Try.func61, Try.ntmps61
  go_wp2_with fail
  go_returns
  exact ⟨rfl, rfl⟩
set_option maxHeartbeats 400000 in
set_option maxRecDepth 100000 in
theorem product_nn (a b : Int) (h1 : 0 < a) (h2 : a ≤ 8589934592) (h3 : 0 < b) (h4 : b ≤ 8589934592) (w : World) :
    Calls Try.prog 61 #[.int .i64 (-a), .int .i64 (-b)] w fun e w' => e = .returned (.tuple #[.int .i64 1, .int .i64 (a / 65536 * b + a % 65536 * b / 65536), .int .i64 (a % 65536 * b % 65536)]) ∧ w = w' := by
  obtain ⟨⟨p1, p2⟩, ⟨p3, p4⟩, _⟩ := part_facts a b h1 h2 h3 h4
  have z1 : (a == 0) = false := by simp; omega
  have z2 : (b == 0) = false := by simp; omega
  go_enter Try.func61, Try.ntmps61
  go_wp2_with fail
  go_returns
  exact ⟨rfl, rfl⟩
set_option maxHeartbeats 400000 in
set_option maxRecDepth 100000 in
theorem product_z1 (b : Int) (h3 : -8589934592 ≤ b) (h4 : b ≤ 8589934592) (w : World) :
    Calls Try.prog 61 #[.int .i64 0, .int .i64 b] w fun e w' => e = .returned (.tuple #[.int .i64 0, .int .i64 0, .int .i64 0]) ∧ w = w' := by
  by_cases hn : b < 0
  · go_enter Try.func61, Try.ntmps61
    go_wp2_with fail
    all_goals (go_returns; exact ⟨rfl, rfl⟩)
  · go_enter Try.func61, Try.ntmps61
    go_wp2_with fail
    all_goals (go_returns; exact ⟨rfl, rfl⟩)
set_option maxHeartbeats 400000 in
set_option maxRecDepth 100000 in
theorem product_z2 (a : Int) (h1 : -8589934592 ≤ a) (h2 : a ≤ 8589934592) (w : World) :
    Calls Try.prog 61 #[.int .i64 a, .int .i64 0] w fun e w' => e = .returned (.tuple #[.int .i64 0, .int .i64 0, .int .i64 0]) ∧ w = w' := by
  by_cases hn : a < 0
  · go_enter Try.func61, Try.ntmps61
    go_wp2_with fail
    all_goals (go_returns; exact ⟨rfl, rfl⟩)
  · go_enter Try.func61, Try.ntmps61
    go_wp2_with fail
    all_goals (go_returns; exact ⟨rfl, rfl⟩)
/-- Three numbers that tell a number: its sign, and its size in two parts. -/
def Rep (x s m n : Int) : Prop := 0 ≤ m ∧ 0 ≤ n ∧ n < 65536 ∧ (s = 0 ∧ m = 0 ∧ n = 0 ∧ x = 0 ∨ s = 1 ∧ x = m * 65536 + n ∧ 0 < x ∨ s = -1 ∧ x = -(m * 65536 + n) ∧ x < 0)
theorem product_c (a b : Int) (h1 : -8589934592 ≤ a) (h2 : a ≤ 8589934592) (h3 : -8589934592 ≤ b) (h4 : b ≤ 8589934592) :
    ∃ s m n : Int, Rep (a * b) s m n ∧ ∀ w, Calls Try.prog 61 #[.int .i64 a, .int .i64 b] w fun e w' => e = .returned (.tuple #[.int .i64 s, .int .i64 m, .int .i64 n]) ∧ w = w' := by
  rcases Int.lt_trichotomy a 0 with ha | rfl | ha
  · rcases Int.lt_trichotomy b 0 with hb | rfl | hb
    · obtain ⟨A, rfl⟩ : ∃ A, a = -A := ⟨-a, by omega⟩
      obtain ⟨B, rfl⟩ : ∃ B, b = -B := ⟨-b, by omega⟩
      have hp : 0 < A * B := Int.mul_pos (by omega) (by omega)
      have k := part_facts A B (by omega) (by omega) (by omega) (by omega)
      refine ⟨_, _, _, ?_, fun w => product_nn A B (by omega) (by omega) (by omega) (by omega) w⟩
      rw [Int.neg_mul_neg]
      generalize A * B = z at *; generalize A % 65536 * B = p at *; generalize A / 65536 * B = q at *
      unfold Rep; omega
    · exact ⟨0, 0, 0, by simp [Rep], fun w => product_z2 a (by omega) (by omega) w⟩
    · obtain ⟨A, rfl⟩ : ∃ A, a = -A := ⟨-a, by omega⟩
      have hp : 0 < A * b := Int.mul_pos (by omega) (by omega)
      have k := part_facts A b (by omega) (by omega) (by omega) (by omega)
      refine ⟨_, _, _, ?_, fun w => product_np A b (by omega) (by omega) (by omega) (by omega) w⟩
      rw [Int.neg_mul]
      generalize A * b = z at *; generalize A % 65536 * b = p at *; generalize A / 65536 * b = q at *
      unfold Rep; omega
  · exact ⟨0, 0, 0, by simp [Rep], fun w => product_z1 b (by omega) (by omega) w⟩
  · rcases Int.lt_trichotomy b 0 with hb | rfl | hb
    · obtain ⟨B, rfl⟩ : ∃ B, b = -B := ⟨-b, by omega⟩
      have hp : 0 < a * B := Int.mul_pos (by omega) (by omega)
      have k := part_facts a B (by omega) (by omega) (by omega) (by omega)
      refine ⟨_, _, _, ?_, fun w => product_pn a B (by omega) (by omega) (by omega) (by omega) w⟩
      rw [Int.mul_neg]
      generalize a * B = z at *; generalize a % 65536 * B = p at *; generalize a / 65536 * B = q at *
      unfold Rep; omega
    · exact ⟨0, 0, 0, by simp [Rep], fun w => product_z2 a (by omega) (by omega) w⟩
    · have hp : 0 < a * b := Int.mul_pos (by omega) (by omega)
      have k := part_facts a b (by omega) (by omega) (by omega) (by omega)
      refine ⟨_, _, _, ?_, fun w => product_pp a b (by omega) (by omega) (by omega) (by omega) w⟩
      generalize a * b = z at *; generalize a % 65536 * b = p at *; generalize a / 65536 * b = q at *
      unfold Rep; omega
def sideR (s m n t p q : Int) : Int := if s = t then if m = p ∧ n = q then 0 else if p < m ∨ m = p ∧ q < n then s else -s else if t < s then 1 else -1
theorem sideR_eq {x y s m n t p q : Int} (h1 : Rep x s m n) (h2 : Rep y t p q) : sideR s m n t p q = cmpI x y := by
  unfold Rep at h1 h2
  unfold sideR cmpI
  repeat' split
  all_goals omega
set_option maxHeartbeats 1000000 in
set_option maxRecDepth 100000 in
theorem refSide_walk (ax ay bx bY cx cy s m n t p q : Int) (w : World)
    (e1 : wrap64 (bx - ax) = bx - ax) (e2 : wrap64 (cy - ay) = cy - ay) (e3 : wrap64 (bY - ay) = bY - ay) (e4 : wrap64 (cx - ax) = cx - ax) (hs : -1 ≤ s ∧ s ≤ 1)
    (HM1 : Hid (∀ w, Calls Try.prog 61 #[.int .i64 (bx - ax), .int .i64 (cy - ay)] w fun e w' => e = .returned (.tuple #[.int .i64 s, .int .i64 m, .int .i64 n]) ∧ w = w'))
    (HM2 : Hid (∀ w, Calls Try.prog 61 #[.int .i64 (bY - ay), .int .i64 (cx - ax)] w fun e w' => e = .returned (.tuple #[.int .i64 t, .int .i64 p, .int .i64 q]) ∧ w = w')) :
    Calls Try.prog 53 #[.agg #[.int .i64 ax, .int .i64 ay], .agg #[.int .i64 bx, .int .i64 bY], .agg #[.int .i64 cx, .int .i64 cy]] w fun e w' => e = .returned (.int .i64 (sideR s m n t p q)) ∧ Below w.heap.size w w' := by
  go_enter Try.func53, Try.ntmps53
  go_wp2_with fail
  refine (HM1.out _).mono ?_
  rintro e w' ⟨rfl, rfl⟩
  go_wp2_with fail
  refine (HM2.out _).mono ?_
  rintro e w' ⟨rfl, rfl⟩
  go_wp2_with fail
  all_goals go_ret
  all_goals refine ⟨retI ?_, by go_grown⟩
  all_goals (simp only [bne_iff_ne, ne_eq, bne_eq_false_iff_eq, beq_iff_eq, beq_eq_false_iff_ne] at *; clear HM1 HM2)
  all_goals (unfold sideR; repeat' split)
  all_goals omega
theorem refSide_c (ax ay bx bY cx cy : Int) (w : World) (h : room ax = true ∧ room ay = true ∧ room bx = true ∧ room bY = true ∧ room cx = true ∧ room cy = true) :
    Calls Try.prog 53 #[.agg #[.int .i64 ax, .int .i64 ay], .agg #[.int .i64 bx, .int .i64 bY], .agg #[.int .i64 cx, .int .i64 cy]] w fun e w' => e = .returned (.int .i64 (sideI ax ay bx bY cx cy)) ∧ Below w.heap.size w w' := by
  simp only [room_iff] at h
  obtain ⟨s, m, n, r1, k1⟩ := product_c (bx - ax) (cy - ay) (by omega) (by omega) (by omega) (by omega)
  obtain ⟨t, p, q, r2, k2⟩ := product_c (bY - ay) (cx - ax) (by omega) (by omega) (by omega) (by omega)
  have hs : -1 ≤ s ∧ s ≤ 1 := by unfold Rep at r1; omega
  unfold sideI
  rw [← sideR_eq r1 r2]
  refine refSide_walk ax ay bx bY cx cy s m n t p q w ?_ ?_ ?_ ?_ hs (Lib.hid k1) (Lib.hid k2)
  all_goals (unfold wrap64; omega)
section
variable {w w' : World} {g : Nat} {t : TypeId} {cs : Array Value}
end
section
variable {w1 w w' : World} {t : TypeId} {z : Array Value} {A : List Laid} {b : Nat → Bool} {vs : Nat → Value}
end
def nxt (l : List Pt) (k : Nat) : Pt := if k + 1 < l.length then l.getD (k + 1) (0, 0) else l.getD 0 (0, 0)
def rsum (l : List Pt) (s : Pt) : Nat → Int
  | 0 => 0
  | k + 1 => rsum l s k + cntP (l.getD k (0, 0)) (nxt l k) s
theorem rsum_bound (l : List Pt) (s : Pt) : ∀ k : Nat, -(k : Int) ≤ rsum l s k ∧ rsum l s k ≤ k
  | 0 => by simp [rsum]
  | k + 1 => by
    have h := rsum_bound l s k
    have hb := cntP_bound (l.getD k (0, 0)) (nxt l k) s
    unfold rsum
    omega
set_option maxHeartbeats 1000000 in
set_option maxRecDepth 100000 in
theorem refWinds_some (w : World) (b o c : Nat) (l : List Pt) (sx sy : Int) (hl : l.length ≤ 1000) (hpos : 0 < l.length) (hb : b < w.heap.size) (hp : PtsAt w b o l) (hr : l.all roomP = true) (hs : roomP (sx, sy) = true) :
    Calls Try.prog 36 #[.slice (some ⟨b, o, none⟩) l.length c, .agg #[.int .i64 sx, .int .i64 sy]] w fun e w' => e = .returned (.int .i64 (rsum l (sx, sy) l.length)) ∧ Below w.heap.size w w' := by
  obtain ⟨n, hn⟩ : ∃ n, l.length = n := ⟨_, rfl⟩
  rw [hn] at hl hpos ⊢
  have HP := Lib.hid hp
  have HB := Lib.hid hb
  have HN := Lib.hid hn
  have HR := Lib.hid hr
  have HS := Lib.hid hs
  have HC := Lib.hid (fun (px py qx qy : Int) (w : World) (h : room px = true ∧ room py = true ∧ room qx = true ∧ room qy = true ∧ room sx = true ∧ room sy = true) => refSide_c px py qx qy sx sy w h)
  clear hp hb hn hr hs
  have z0 : ((n : Int) == 0) = false := by simp; omega
  go_enter Try.func36, Try.ntmps36
  go_wp2_with fail
  go_loopw [5, 6] (fun t i wr => ∃ (k : Nat) (v : Int), k ≤ n ∧ i = .int .i64 k ∧ t = .int .i64 v ∧ -(k : Int) ≤ v ∧ v ≤ k ∧ Hid (rsum l (sx, sy) k = v) ∧ Hid (Blk wr w.heap.size 43 (two (sx, sy)) ∧ Below w.heap.size w wr)) (fun _ i _ => n - (intOf i).toNat)
  case atStart =>
    exact ⟨0, 0, by omega, rfl, rfl, by omega, by omega, rfl, heap_alloc_new _ _, (Below.refl _ _).alloc (Nat.le_refl _) _⟩
  case round =>
    obtain ⟨k, v, hk, rfl, rfl, hv1, hv2, hf, hw⟩ := hrel
    by_cases hlt : k < n
    · have hd : decide ((k : Int) < (n : Int)) = true := by simp; omega
      obtain ⟨⟨px, py⟩, hq⟩ : ∃ p, l[k]? = some p := ⟨_, List.getElem?_eq_getElem (by rw [HN.out]; exact hlt)⟩
      obtain ⟨⟨ox, oy⟩, hq0⟩ : ∃ p, l[0]? = some p := ⟨_, List.getElem?_eq_getElem (by rw [HN.out]; exact hpos)⟩
      have HK := Lib.hid hq
      have HK0 := Lib.hid hq0
      clear hq hq0
      go_upto_region 5 with fail
      have hP := HP.out.on hw.out.2 HB.out
      have hbw : b < wr.heap.size := Nat.lt_of_lt_of_le HB.out hw.out.2.size
      refine wp_region_put (by kernel_rfl) (by kernel_rfl) (by kernel_rfl) (fun b' vs w' => (b' 0 = true → vs 0 = .slice (some ⟨b, o, none⟩) n c) ∧ (b' 1 = true → vs 1 = .int .i64 k) ∧ (b' 2 = true → vs 2 = .pointer (some ⟨b, o + k * 2, none⟩)) ∧ (b' 3 = true → vs 3 = .agg #[.int .i64 px, .int .i64 py]) ∧ (b' 4 = true → vs 4 = .slice (some ⟨b, o, none⟩) n c) ∧ (b' 5 = true → vs 5 = .pointer (some ⟨b, o, none⟩)) ∧ (b' 6 = true → vs 6 = .agg #[.int .i64 ox, .int .i64 oy]) ∧ Hid (LayM wr 43 (two (0, 0)) [⟨7, 9, two (px, py)⟩, ⟨8, 10, two (ox, oy)⟩] b' vs w')) ?_ ?_ ?_
      · intro vs
        exact ⟨fun h => Bool.noConfusion h, fun h => Bool.noConfusion h, fun h => Bool.noConfusion h, fun h => Bool.noConfusion h, fun h => Bool.noConfusion h, fun h => Bool.noConfusion h, fun h => Bool.noConfusion h, LayM.start vs⟩
      · rintro b' vs w' i op hi hun hall ⟨h0, h1, h2, h3, h4, h5, h6, hM⟩
        have hil : i < 11 := (List.getElem?_eq_some_iff.1 hi).1
        have hbelow := LayM.below hM.out
        rcases i with _ | _ | _ | _ | _ | _ | _ | _ | _ | _ | _ | i
        · obtain rfl := Option.some.inj hi
          refine wpOp_step rfl (fun K hK => ?_)
          have HKK := Lib.hid hK; clear hK
          simp only [putAll, Act.put, List.setIfInBounds_toArray, List.set_cons_zero, List.set_cons_succ]
          go_simp
          exact HKK.out _ _ ⟨_, by simp only [putAll, Act.put, List.setIfInBounds_toArray, List.set_cons_zero, List.set_cons_succ] <;> rfl, fun _ => rfl, h1, h2, h3, h4, h5, h6, LayM.other hM.out 0 _ rfl⟩
        · obtain rfl := Option.some.inj hi
          refine wpOp_step rfl (fun K hK => ?_)
          have HKK := Lib.hid hK; clear hK
          simp only [putAll, Act.put, List.setIfInBounds_toArray, List.set_cons_zero, List.set_cons_succ]
          go_simp
          exact HKK.out _ _ ⟨_, by simp only [putAll, Act.put, List.setIfInBounds_toArray, List.set_cons_zero, List.set_cons_succ] <;> rfl, h0, fun _ => rfl, h2, h3, h4, h5, h6, LayM.other hM.out 1 _ rfl⟩
        · obtain rfl := Option.some.inj hi
          have d0 := h0 (hall ⟨0, .data⟩ (by simp) rfl)
          have d1 := h1 (hall ⟨1, .data⟩ (by simp) rfl)
          refine wpOp_step rfl (fun K hK => ?_)
          have HKK := Lib.hid hK; clear hK
          simp only [putAll, Act.put, List.setIfInBounds_toArray, List.set_cons_zero, List.set_cons_succ]
          go_simp
          exact HKK.out _ _ ⟨_, by simp only [putAll, Act.put, List.setIfInBounds_toArray, List.set_cons_zero, List.set_cons_succ, d0, d1] <;> rfl, h0, h1, fun _ => rfl, h3, h4, h5, h6, LayM.other hM.out 2 _ rfl⟩
        · obtain rfl := Option.some.inj hi
          have d2 := h2 (hall ⟨2, .data⟩ (by simp) rfl)
          obtain ⟨c0, c1⟩ := (hP.on hbelow hbw) k (px, py) HK.out
          refine wpOp_step rfl (fun K hK => ?_)
          have HKK := Lib.hid hK; clear hK
          simp only [putAll, Act.put, List.setIfInBounds_toArray, List.set_cons_zero, List.set_cons_succ]
          go_simp
          exact HKK.out _ _ ⟨_, by simp only [putAll, Act.put, List.setIfInBounds_toArray, List.set_cons_zero, List.set_cons_succ, d2] <;> rfl, h0, h1, h2, fun _ => rfl, h4, h5, h6, LayM.other hM.out 3 _ rfl⟩
        · obtain rfl := Option.some.inj hi
          refine wpOp_step rfl (fun K hK => ?_)
          have HKK := Lib.hid hK; clear hK
          simp only [putAll, Act.put, List.setIfInBounds_toArray, List.set_cons_zero, List.set_cons_succ]
          go_simp
          exact HKK.out _ _ ⟨_, by simp only [putAll, Act.put, List.setIfInBounds_toArray, List.set_cons_zero, List.set_cons_succ] <;> rfl, h0, h1, h2, h3, fun _ => rfl, h5, h6, LayM.other hM.out 4 _ rfl⟩
        · obtain rfl := Option.some.inj hi
          have d4 := h4 (hall ⟨4, .data⟩ (by simp) rfl)
          refine wpOp_step rfl (fun K hK => ?_)
          have HKK := Lib.hid hK; clear hK
          simp only [putAll, Act.put, List.setIfInBounds_toArray, List.set_cons_zero, List.set_cons_succ]
          go_simp
          exact HKK.out _ _ ⟨_, by simp only [putAll, Act.put, List.setIfInBounds_toArray, List.set_cons_zero, List.set_cons_succ, d4] <;> rfl, h0, h1, h2, h3, h4, fun _ => rfl, h6, LayM.other hM.out 5 _ rfl⟩
        · obtain rfl := Option.some.inj hi
          have d5 := h5 (hall ⟨5, .data⟩ (by simp) rfl)
          obtain ⟨c0, c1⟩ := (hP.on hbelow hbw) 0 (ox, oy) HK0.out; simp only [Nat.zero_mul, Nat.add_zero] at c0 c1
          refine wpOp_step rfl (fun K hK => ?_)
          have HKK := Lib.hid hK; clear hK
          simp only [putAll, Act.put, List.setIfInBounds_toArray, List.set_cons_zero, List.set_cons_succ]
          go_simp
          exact HKK.out _ _ ⟨_, by simp only [putAll, Act.put, List.setIfInBounds_toArray, List.set_cons_zero, List.set_cons_succ, d5] <;> rfl, h0, h1, h2, h3, h4, h5, fun _ => rfl, LayM.other hM.out 6 _ rfl⟩
        · obtain rfl := Option.some.inj hi
          refine wpOp_step rfl (fun K hK => ?_)
          have HKK := Lib.hid hK; clear hK
          simp only [putAll, Act.put, List.setIfInBounds_toArray, List.set_cons_zero, List.set_cons_succ]
          go_simp
          exact HKK.out _ _ ⟨_, by simp only [putAll, Act.put, List.setIfInBounds_toArray, List.set_cons_zero, List.set_cons_succ] <;> rfl, h0, h1, h2, h3, h4, h5, h6, LayM.made hM.out rfl ⟨7, 9, two (px, py)⟩ (by simp) hun⟩
        · obtain rfl := Option.some.inj hi
          refine wpOp_step rfl (fun K hK => ?_)
          have HKK := Lib.hid hK; clear hK
          simp only [putAll, Act.put, List.setIfInBounds_toArray, List.set_cons_zero, List.set_cons_succ]
          go_simp
          exact HKK.out _ _ ⟨_, by simp only [putAll, Act.put, List.setIfInBounds_toArray, List.set_cons_zero, List.set_cons_succ] <;> rfl, h0, h1, h2, h3, h4, h5, h6, LayM.made hM.out rfl ⟨8, 10, two (ox, oy)⟩ (by simp) hun⟩
        · obtain rfl := Option.some.inj hi
          have d3 := h3 (hall ⟨3, .data⟩ (by simp) rfl)
          have dal := hall ⟨7, .data⟩ (by simp) rfl
          obtain ⟨g, eg, lg, kg⟩ := LayM.at hM.out ⟨7, 9, two (px, py)⟩ (by simp) dal hun
          have c0 := kg.p0
          have c1 := kg.p1
          have f0 := kg.free 0
          have f1 := kg.free 1
          have lgw := kg.lt
          refine wpOp_step rfl (fun K hK => ?_)
          have HKK := Lib.hid hK; clear hK
          simp only [putAll, Act.put, List.setIfInBounds_toArray, List.set_cons_zero, List.set_cons_succ]
          go_simp
          exact HKK.out _ _ ⟨_, by simp only [putAll, Act.put, List.setIfInBounds_toArray, List.set_cons_zero, List.set_cons_succ, d3, eg] <;> rfl, h0, h1, h2, h3, h4, h5, h6, LayM.stored hM.out rfl ⟨7, 9, two (px, py)⟩ (by simp) undef dal eg (below_two hbelow lg _ _) (kg.setP _ _) (fun g' cs hne k => k.otherP hne _ _)⟩
        · obtain rfl := Option.some.inj hi
          have d6 := h6 (hall ⟨6, .data⟩ (by simp) rfl)
          have dal := hall ⟨8, .data⟩ (by simp) rfl
          obtain ⟨g, eg, lg, kg⟩ := LayM.at hM.out ⟨8, 10, two (ox, oy)⟩ (by simp) dal hun
          have c0 := kg.p0
          have c1 := kg.p1
          have f0 := kg.free 0
          have f1 := kg.free 1
          have lgw := kg.lt
          refine wpOp_step rfl (fun K hK => ?_)
          have HKK := Lib.hid hK; clear hK
          simp only [putAll, Act.put, List.setIfInBounds_toArray, List.set_cons_zero, List.set_cons_succ]
          go_simp
          exact HKK.out _ _ ⟨_, by simp only [putAll, Act.put, List.setIfInBounds_toArray, List.set_cons_zero, List.set_cons_succ, d6, eg] <;> rfl, h0, h1, h2, h3, h4, h5, h6, LayM.stored hM.out rfl ⟨8, 10, two (ox, oy)⟩ (by simp) undef dal eg (below_two hbelow lg _ _) (kg.setP _ _) (fun g' cs hne k => k.otherP hne _ _)⟩
        · omega
      · rintro b' vs w' hall ⟨h0, h1, h2, h3, h4, h5, h6, hM⟩
        have d0 := h0 (hall 0 (by simp)); have d1 := h1 (hall 1 (by simp)); have d2 := h2 (hall 2 (by simp)); have d3 := h3 (hall 3 (by simp)); have d4 := h4 (hall 4 (by simp)); have d5 := h5 (hall 5 (by simp)); have d6 := h6 (hall 6 (by simp))
        obtain ⟨gp, ep, lp, kp⟩ := LayM.done hM.out ⟨7, 9, two (px, py)⟩ (by simp) (hall 7 (by simp)) (hall 9 (by simp))
        obtain ⟨gq, eq, lq, kq⟩ := LayM.done hM.out ⟨8, 10, two (ox, oy)⟩ (by simp) (hall 8 (by simp)) (hall 10 (by simp))
        simp only [putAll, Act.put, List.setIfInBounds_toArray, List.set_cons_zero, List.set_cons_succ, d0, d1, d2, d3, d4, d5, d6, ep, eq]
        -- REST
        have hne : gp ≠ gq := LayM.ne hM.out ⟨7, 9, two (px, py)⟩ ⟨8, 10, two (ox, oy)⟩ (by simp) (by simp) (by simp) (hall 7 (by simp)) (hall 8 (by simp)) ep eq
        have hbelow := LayM.below hM.out
        have ks := hw.out.1.grow hbelow
        have hB2 : Hid (Below w.heap.size w w') := below_next hw.out.2 hbelow
        have hbig : Hid (w.heap.size < gp ∧ w.heap.size < gq) := ⟨Nat.lt_of_lt_of_le hw.out.1.lt lp, Nat.lt_of_lt_of_le hw.out.1.lt lq⟩
        have kq' : Blk w' gq 43 (two (ox, oy)) := kq
        have KP : Hid (Blk w' gp 43 (two (px, py))) := kp
        have KQ := Lib.hid kq'; have KS := Lib.hid ks; have HNE := Lib.hid hne
        have g0 := kq'.p0
        have g1 := kq'.p1
        have f0 := kq'.free 0
        have f1 := kq'.free 1
        have lgq := kq'.lt
        clear h0 h1 h2 h3 h4 h5 h6 hM ep eq lp lq kp kq kq' hne hbelow ks hP hbw hall d0 d1 d2 d3 d4 d5 d6
        obtain ⟨qx, qy, hnx⟩ : ∃ qx qy, nxt l k = (qx, qy) := ⟨_, _, rfl⟩
        have HNX := Lib.hid hnx
        clear hnx
        go_upto_if 26 with fail
        go_cut [5] from 27 to 31 (fun u wx => u = .int .i64 v ∧ Hid (Blk wx gp 43 (two (px, py)) ∧ Blk wx gq 43 (two (qx, qy)) ∧ Blk wx w.heap.size 43 (two (sx, sy)) ∧ Below w.heap.size w wx))
        case first =>
          by_cases hk1 : k + 1 < n
          · have hd1 : decide (((k : Int) + 1) < (n : Int)) = true := by simp; omega
            obtain ⟨⟨rx, ry⟩, hq1⟩ : ∃ p, l[k + 1]? = some p := ⟨_, List.getElem?_eq_getElem (by rw [HN.out]; exact hk1)⟩
            obtain ⟨c0, c1⟩ := (HP.out.on hB2.out HB.out) (k + 1) (rx, ry) hq1
            have hrr : Hid ((rx, ry) = (qx, qy)) := by
              have := HNX.out
              unfold nxt at this
              rw [if_pos (by rw [HN.out]; exact hk1), List.getD_eq_getElem?_getD, hq1] at this
              exact this
            clear hq1
            simp only at c0 c1
            go_wp2_with fail
            go_meet
            refine ⟨rfl, KP.out.otherP HNE.out _ _, ?_, KS.out.otherP (by have := hbig.out.2; omega) _ _, below_two hB2.out (by have := hbig.out.2; omega) _ _⟩
            rw [← hrr.out]
            exact KQ.out.setP _ _
          · have hd1 : decide (((k : Int) + 1) < (n : Int)) = false := by simp; omega
            have hrr : Hid ((ox, oy) = (qx, qy)) := by
              have := HNX.out
              unfold nxt at this
              rw [if_neg (by rw [HN.out]; exact hk1), List.getD_eq_getElem?_getD, HK0.out] at this
              exact this
            go_wp2_with fail
            go_meet
            refine ⟨rfl, KP.out, ?_, KS.out, hB2.out⟩
            rw [← hrr.out]
            exact KQ.out
        case rest =>
          obtain ⟨rfl, hc⟩ := hcut
          have kp := hc.out.1
          have kq := hc.out.2.1
          have ks := hc.out.2.2.1
          have c0 := kp.p0
          have c1 := kp.p1
          have c2 := kq.p0
          have c3 := kq.p1
          have c4 := ks.p0
          have c5 := ks.p1
          have KP1 := Lib.hid kp; have KQ1 := Lib.hid kq; have KS1 := Lib.hid ks; have HB1 := Lib.hid hc.out.2.2.2
          have l0 := kp.lt
          have l1 := kq.lt
          have l2 := ks.lt
          clear kp kq ks hc g0 g1 f0 f1 lgq KP KQ KS
          have hnext : rsum l (sx, sy) (k + 1) = v + cnt px py qx qy sx sy := by
            unfold rsum
            rw [hf.out, List.getD_eq_getElem?_getD, HK.out, HNX.out]; rfl
          have hrm : room px = true ∧ room py = true ∧ room qx = true ∧ room qy = true ∧ room sx = true ∧ room sy = true := by
            have r1 := HS.out
            have r2 : roomP (px, py) = true := List.all_eq_true.1 HR.out _ (List.mem_of_getElem? HK.out)
            have r3 : roomP (qx, qy) = true := by
              rw [← HNX.out]
              unfold nxt
              split
              · rename_i h
                rw [List.getD_eq_getElem?_getD, List.getElem?_eq_getElem h]
                exact List.all_eq_true.1 HR.out _ (List.getElem_mem h)
              · rw [List.getD_eq_getElem?_getD, HK0.out]
                exact List.all_eq_true.1 HR.out _ (List.mem_of_getElem? HK0.out)
            simp only [roomP, Bool.and_eq_true] at r1 r2 r3
            exact ⟨r2.1, r2.2, r3.1, r3.2, r1.1, r1.2⟩
          have HCC := Lib.hid (fun w => HC.out px py qx qy w hrm)
          have hcb := cntP_bound (px, py) (qx, qy) (sx, sy)
          have HF := Lib.hid hnext
          simp only [cntP] at hcb
          have hcd : Hid (cnt px py qx qy sx sy = if py ≤ sy ∧ sy < qy ∧ 0 < sideI px py qx qy sx sy then 1 else if qy ≤ sy ∧ sy < py ∧ sideI px py qx qy sx sy < 0 then -1 else 0) := rfl
          generalize sideI px py qx qy sx sy = sd at *
          generalize cnt px py qx qy sx sy = e0 at *
          clear hrm hnext
          have FIN : Hid (∀ v' wx, v' = v + e0 → Blk wx w.heap.size 43 (two (sx, sy)) → Below w.heap.size w wx → ∃ (k' : Nat) (v'' : Int), k' ≤ n ∧ Value.int .i64 ((k : Int) + 1) = .int .i64 k' ∧ Value.int .i64 v' = .int .i64 v'' ∧ -(k' : Int) ≤ v'' ∧ v'' ≤ k' ∧ Hid (rsum l (sx, sy) k' = v'') ∧ Hid (Blk wx w.heap.size 43 (two (sx, sy)) ∧ Below w.heap.size w wx)) := by
            intro v' wx hv' h1 h2
            exact ⟨k + 1, v', by omega, by simp, rfl, by omega, by omega, by rw [hv']; exact HF, h1, h2⟩
          by_cases a1 : py ≤ sy ∧ sy < qy
          · obtain ⟨a1, a2⟩ := a1
            go_wp2_with fail
            refine (HCC.out _).mono ?_
            rintro e w1 ⟨rfl, hb1⟩
            have c3' := (KQ1.out.grow hb1).p1
            have c5' := (KS1.out.grow hb1).p1
            have c1' := (KP1.out.grow hb1).p1
            have S1 : Hid (Blk w1 w.heap.size 43 (two (sx, sy)) ∧ Below w.heap.size w w1) := ⟨KS1.out.grow hb1, below_next HB1.out hb1⟩
            clear hb1
            by_cases a3 : 0 < sd
            · have he : e0 = 1 := by have := hcd.out; rw [if_pos ⟨a1, a2, a3⟩] at this; exact this
              go_wp2_with fail
              exact ⟨FIN.out _ _ (by omega) S1.out.1 S1.out.2, by simp [intOf]; omega⟩
            · have he : e0 = 0 := by have := hcd.out; rw [if_neg (fun h => a3 h.2.2), if_neg (fun h => by omega)] at this; exact this
              go_wp2_with fail
              exact ⟨FIN.out _ _ (by omega) S1.out.1 S1.out.2, by simp [intOf]; omega⟩
          · by_cases a2 : qy ≤ sy ∧ sy < py
            · obtain ⟨a2, a3⟩ := a2
              have a4 : ¬ py ≤ sy := by omega
              go_wp2_with fail
              refine (HCC.out _).mono ?_
              rintro e w1 ⟨rfl, hb1⟩
              have S1 : Hid (Blk w1 w.heap.size 43 (two (sx, sy)) ∧ Below w.heap.size w w1) := ⟨KS1.out.grow hb1, below_next HB1.out hb1⟩
              clear hb1
              by_cases a5 : sd < 0
              · have he : e0 = -1 := by have := hcd.out; rw [if_neg (fun h => by omega), if_pos ⟨a2, a3, a5⟩] at this; exact this
                go_wp2_with fail
                exact ⟨FIN.out _ _ (by omega) S1.out.1 S1.out.2, by simp [intOf]; omega⟩
              · have he : e0 = 0 := by have := hcd.out; rw [if_neg (fun h => by omega), if_neg (fun h => a5 h.2.2)] at this; exact this
                go_wp2_with fail
                exact ⟨FIN.out _ _ (by omega) S1.out.1 S1.out.2, by simp [intOf]; omega⟩
            · have he : e0 = 0 := by have := hcd.out; rw [if_neg (fun h => a1 ⟨h.1, h.2.1⟩), if_neg (fun h => a2 ⟨h.1, h.2.1⟩)] at this; exact this
              by_cases k1 : py ≤ sy <;> by_cases k2 : sy < qy <;> by_cases k3 : qy ≤ sy <;> by_cases k4 : sy < py <;> first | (exfalso; omega) | skip
              all_goals clear a1 a2
              all_goals go_wp2_with fail
              all_goals exact ⟨FIN.out _ _ (by omega) KS1.out HB1.out, by simp [intOf]; omega⟩
    · have hd : decide ((k : Int) < (n : Int)) = false := by simp; omega
      have hkn : Hid (k = n) := by unfold Hid; omega
      go_wp2_with fail
      go_ret
      exact ⟨retI (by rw [← hkn.out]; exact hf.out.symm), hw.out.2⟩
def chain (s : Pt) : Pt → List Pt → Int
  | _, [] => 0
  | p, q :: r => cntP p q s + chain s q r
theorem fold_chain (s : Pt) : ∀ (l : List Pt) (p : Pt) (t : Int), (l.foldl (wstep s) (p, t)).2 = t + chain s p l
  | [], _, _ => by simp [chain]
  | q :: r, p, t => by
    rw [List.foldl_cons]
    show (r.foldl (wstep s) (q, t + cntP p q s)).2 = _
    rw [fold_chain s r q]
    simp only [chain]; omega
theorem chain_append (s : Pt) : ∀ (l m : List Pt) (p : Pt), chain s p (l ++ m) = chain s p l + chain s (l.getLastD p) m
  | [], m, p => by simp [chain]
  | q :: r, m, p => by
    rw [List.cons_append]
    simp only [chain]
    rw [chain_append s r m q, show (q :: r).getLastD p = r.getLastD q by cases r <;> simp [List.getLastD]]
    omega
theorem rsum_chain (s a : Pt) (r : List Pt) : ∀ k : Nat, k ≤ r.length → rsum (a :: r) s k = chain s a (r.take k)
  | 0, _ => by simp [rsum, chain]
  | k + 1, h => by
    have hk : k < r.length := by omega
    unfold rsum
    rw [rsum_chain s a r k (by omega), List.take_add_one, chain_append, List.getElem?_eq_getElem hk]
    congr 1
    have e1 : nxt (a :: r) k = r[k] := by
      unfold nxt
      rw [if_pos (by simp; omega), List.getD_eq_getElem?_getD, List.getElem?_cons_succ, List.getElem?_eq_getElem hk]; rfl
    have e2 : (a :: r).getD k (0, 0) = (r.take k).getLastD a := by
      cases k with
      | zero => simp
      | succ j =>
        rw [List.getD_eq_getElem?_getD, List.getElem?_cons_succ, List.getLastD_eq_getLast?, List.getLast?_eq_getElem?, List.length_take, List.getElem?_take]
        rw [if_pos (by omega), show min (j + 1) r.length - 1 = j by omega, List.getElem?_eq_getElem (by omega)]; rfl
    rw [e1, e2]
    simp [chain]
theorem winds_eq (l : List Pt) (s : Pt) : windsI l s = rsum l s l.length := by
  cases l with
  | nil => rfl
  | cons a r =>
    unfold windsI
    rw [show (a :: r).getLast? = some (r.getLastD a) by rw [List.getLast?_cons, List.getLastD_eq_getLast?]]
    simp only
    rw [fold_chain]
    simp only [List.length_cons, chain]
    unfold rsum
    rw [rsum_chain s a r r.length (Nat.le_refl _), List.take_length]
    have e1 : nxt (a :: r) r.length = a := by unfold nxt; rw [if_neg (by simp)]; rfl
    have e2 : (a :: r).getD r.length (0, 0) = r.getLastD a := by
      cases r with
      | nil => rfl
      | cons b q => rw [List.getD_eq_getElem?_getD, List.length_cons, List.getElem?_cons_succ, List.getLastD_eq_getLast?, List.getLast?_eq_getElem?, List.length_cons, Nat.add_sub_cancel, List.getElem?_eq_getElem (by simp)]; rfl
    rw [e1, e2]; omega
set_option maxHeartbeats 400000 in
set_option maxRecDepth 100000 in
theorem refWinds_empty (v : Value) (hv : v = .slice none 0 0 ∨ ∃ a c, v = .slice (some a) 0 c) (sx sy : Int) (w : World) : Calls Try.prog 36 #[v, .agg #[.int .i64 sx, .int .i64 sy]] w fun e w' => e = .returned (.int .i64 0) ∧ Below w.heap.size w w' := by
  rcases hv with rfl | ⟨a, c, rfl⟩
  · go_enter Try.func36, Try.ntmps36
    go_wp2_with fail
    go_loopw [5, 6] (fun t i wr => i = .int .i64 0 ∧ t = .int .i64 0 ∧ Hid (Below w.heap.size w wr)) (fun _ _ _ => 0)
    case atStart => exact ⟨rfl, rfl, (Below.refl _ _).alloc (Nat.le_refl _) _⟩
    case round =>
      obtain ⟨rfl, rfl, hw⟩ := hrel
      go_wp2_with fail
      go_ret
      exact ⟨rfl, hw.out⟩
  · go_enter Try.func36, Try.ntmps36
    go_wp2_with fail
    go_loopw [5, 6] (fun t i wr => i = .int .i64 0 ∧ t = .int .i64 0 ∧ Hid (Below w.heap.size w wr)) (fun _ _ _ => 0)
    case atStart => exact ⟨rfl, rfl, (Below.refl _ _).alloc (Nat.le_refl _) _⟩
    case round =>
      obtain ⟨rfl, rfl, hw⟩ := hrel
      go_wp2_with fail
      go_ret
      exact ⟨rfl, hw.out⟩
theorem refWinds_c (s : Value) (l : List Pt) (x y : Int) (w : World) (hl : l.length ≤ 1000) (h : Row w s l) (hr : l.all roomP = true) (hs : roomP (x, y) = true) :
    Calls Try.prog 36 #[s, .agg #[.int .i64 x, .int .i64 y]] w fun e w' => e = .returned (.int .i64 (windsI l (x, y))) ∧ Below w.heap.size w w' := by
  rw [winds_eq]
  rcases h with ⟨rfl, rfl⟩ | ⟨a, c, rfl, rfl⟩ | ⟨b, o, c, rfl, hb, hp⟩
  · exact refWinds_empty _ (.inl rfl) x y w
  · exact refWinds_empty _ (.inr ⟨a, c, rfl⟩) x y w
  · cases l with
    | nil => exact refWinds_empty _ (.inr ⟨⟨b, o, none⟩, c, rfl⟩) x y w
    | cons a r => exact refWinds_some w b o c (a :: r) x y hl (by simp) hb hp hr hs
end Go.Proofs.Ytopngjpgikpmaaa
