/- The law CurveNear. -/
import Derived.Test.YthlealndopppaaaNA
import Derived.Test.YthlealndopppaaaNn
import Derived.Test.YthlealndopppaaaZ
import Derived.Test.YthlealndopppaaaF
namespace Go.Proofs.Ythlealndopppaaa
open Go.RowKit
set_option maxHeartbeats 2000000 in
set_option maxRecDepth 100000 in
theorem near_no (w : World) (v : Value) (d : Int) (r : Bool) (hr : r = false ∨ d < 0 ∨ 6 < d)
    (HR : Hid (Calls Try.prog 13 #[v] w fun e w' => e = .returned (.bool r) ∧ Below w.heap.size w w')) :
    Calls Try.prog 5 #[v, .int .i64 d] w fun e w' => e = .returned (.bool true) ∧ Below w.heap.size w w' := by
  have HAW := Lib.hid awake_c
  cases r
  · clear hr
    go_enter Try.func5, Try.ntmps5
    go_wp2_with fail
    refine HR.out.mono ?_
    rintro e w2 ⟨rfl, hb⟩
    have B2 := Lib.hid hb
    clear hb
    go_wp2_with fail
    refine (HAW.out _).mono ?_
    rintro e w3 ⟨rfl, hb⟩
    have B3 : Hid (Below w.heap.size w w3) := below_next B2.out hb
    clear hb
    go_wp2_with fail
    go_ret
    exact ⟨rfl, B3.out⟩
  · by_cases h0 : d < 0
    · have d0 : decide (d < 0) = true := decide_eq_true h0
      clear hr
      go_enter Try.func5, Try.ntmps5
      go_wp2_with fail
      refine HR.out.mono ?_
      rintro e w2 ⟨rfl, hb⟩
      have B2 := Lib.hid hb
      clear hb
      go_wp2_with fail
      refine (HAW.out _).mono ?_
      rintro e w3 ⟨rfl, hb⟩
      have B3 : Hid (Below w.heap.size w w3) := below_next B2.out hb
      clear hb
      go_wp2_with fail
      go_ret
      exact ⟨rfl, B3.out⟩
    · have d0 : decide (d < 0) = false := decide_eq_false h0
      have d6 : decide (d > 6) = true := decide_eq_true (by simp at hr; omega)
      clear hr
      go_enter Try.func5, Try.ntmps5
      go_wp2_with fail
      refine HR.out.mono ?_
      rintro e w2 ⟨rfl, hb⟩
      have B2 := Lib.hid hb
      clear hb
      go_wp2_with fail
      refine (HAW.out _).mono ?_
      rintro e w3 ⟨rfl, hb⟩
      have B3 : Hid (Below w.heap.size w w3) := below_next B2.out hb
      clear hb
      go_wp2_with fail
      go_ret
      exact ⟨rfl, B3.out⟩
/-- What is said of each point. -/
def NearOk (D : Nat) (sc lim : Int) (l FL : List Pt) : Prop := ∀ k p, FL[k]? = some p → ∃ X Y : Int,
  (∀ u w', Row w' u l → Calls Try.prog 19 #[u, .int .i64 ((k + 1 : Nat) : Int), .int .i64 (D : Int)] w' fun e w'' => e = .returned (.tuple #[.int .i64 X, .int .i64 Y]) ∧ Below w'.heap.size w' w'') ∧
  (0 ≤ X - p.1 * sc ∧ X - p.1 * sc ≤ lim) ∧ (0 ≤ Y - p.2 * sc ∧ Y - p.2 * sc ≤ lim) ∧ (-2305843009213693952 ≤ p.1 * sc ∧ p.1 * sc ≤ 2305843009213693952) ∧ -2305843009213693952 ≤ p.2 * sc ∧ p.2 * sc ≤ 2305843009213693952
set_option maxHeartbeats 4000000 in
set_option maxRecDepth 100000 in
theorem near_walk (w : World) (b o N c D m E M : Nat) (sc lim d2 : Int) (l FL : List Pt) (hD : D ≤ 6) (hM : M = 2 ^ D) (hE : E ≤ 18) (hsc : sc = 2 ^ E) (hm : wrap64 ((N : Int) - 1) = (m : Int)) (hDm : wrap64 ((D : Int) * (m : Int)) = (E : Int))
    (hlim0 : 0 ≤ lim ∧ lim ≤ 1099511627776) (hd2 : wrap64 (2 * (D : Int)) = d2) (hlim : wrap64 (d2 * sc) = lim)
    (HL : Hid (FL.length = M ∧ 0 < M ∧ M ≤ 64 ∧ l.length ≤ 1000 ∧ NearOk D sc lim l FL)) (HROW : Hid (Row w (.slice (some ⟨b, o, none⟩) N c) l))
    (HR : Hid (∀ w', Row w' (.slice (some ⟨b, o, none⟩) N c) l → Calls Try.prog 13 #[.slice (some ⟨b, o, none⟩) N c] w' fun e w'' => e = .returned (.bool true) ∧ Below w'.heap.size w' w''))
    (HF : Hid (∀ w', Row w' (.slice (some ⟨b, o, none⟩) N c) l → Calls Try.prog 17 #[.slice (some ⟨b, o, none⟩) N c, .int .i64 (D : Int)] w' fun e w'' => ∃ u, e = .returned (.tuple #[u, .int .i64 0]) ∧ Own w'' w'.heap.size 34 u FL ∧ Below w'.heap.size w' w''))
    (HREF : Hid (∀ w', Row w' (.slice (some ⟨b, o, none⟩) N c) l → Calls Try.prog 10 #[.slice (some ⟨b, o, none⟩) N c] w' fun e w'' => ∃ u, e = .returned u ∧ Own w'' w'.heap.size 36 u l ∧ Below w'.heap.size w' w'')) :
    Calls Try.prog 5 #[.slice (some ⟨b, o, none⟩) N c, .int .i64 (D : Int)] w fun e w' => e = .returned (.bool true) ∧ Below w.heap.size w w' := by
  have HAW := Lib.hid awake_c
  have d0 : decide ((D : Int) < 0) = false := decide_eq_false (by omega)
  have d6 : decide ((D : Int) > 6) = false := decide_eq_false (by omega)
  have ew : Hid (wrap64 ((2 : Int) ^ D) = (M : Int)) := by
    have h64 := pow_small hD
    unfold Hid
    have e : ((2 : Int) ^ D) = (M : Int) := by rw [hM]; try simp
    rw [e]; exact wrapR _ (by omega) (by omega)
  have es : Hid (wrap64 ((2 : Int) ^ E) = sc) := by
    unfold Hid
    rw [← hsc]
    have h1 : (2 : Nat) ^ E ≤ 2 ^ 18 := Nat.pow_le_pow_right (by decide) hE
    have h2 : sc = ((2 ^ E : Nat) : Int) := by rw [hsc]; simp
    have h3 : (2 : Nat) ^ 18 = 262144 := by decide
    obtain ⟨S, hS⟩ : ∃ S, (2 : Nat) ^ E = S := ⟨_, rfl⟩
    rw [hS] at h1 h2
    exact wrapR _ (by omega) (by omega)
  have HD := Lib.hid hD; have HE := Lib.hid hE
  have Hm := Lib.hid hm; have HDm := Lib.hid hDm; have HL0 := Lib.hid hlim0; have Hd2 := Lib.hid hd2; have Hlim := Lib.hid hlim
  clear hM hsc hD hE hm hDm hlim0 hd2 hlim
  go_enter Try.func5, Try.ntmps5
  go_wp2_with fail
  refine (HR.out _ HROW.out).mono ?_
  rintro e w1 ⟨rfl, hb⟩
  have S1 : Hid (Below w.heap.size w w1 ∧ Row w1 (.slice (some ⟨b, o, none⟩) N c) l) := ⟨hb, HROW.out.on hb⟩
  clear hb
  go_wp2_with fail
  refine (HF.out _ S1.out.2).mono ?_
  rintro e w2 ⟨u, rfl, hou, hb⟩
  obtain ⟨fb, fo, fc, rfl⟩ : ∃ b o c, u = .slice (some ⟨b, o, none⟩) M c := by
    obtain ⟨_, c, e⟩ := hou.row.shape
    subst e
    obtain ⟨b, o, e, _⟩ := hou.row.addr (k := 0) (by rw [HL.out.1]; exact HL.out.2.1)
    exact ⟨b, o, c, by rw [e, HL.out.1]⟩
  have S2 : Hid (Below w.heap.size w w2 ∧ Row w2 (.slice (some ⟨b, o, none⟩) N c) l ∧ Row w2 (.slice (some ⟨fb, fo, none⟩) M fc) FL) := ⟨below_next S1.out.1 hb, S1.out.2.on hb, hou.row⟩
  clear hou hb
  have hD6 := HD.out
  have ew1 := ew.out
  have eMM : ((M : Int) == (M : Int)) = true := by simp
  have hm1 := Hm.out
  have hm2 := HDm.out
  have hE1 := HE.out
  have es1 := es.out
  go_wp2_with fail
  rw [es.out]
  clear hD6 ew1 eMM hm1 hm2 hE1 es1
  go_loopw [49] (fun i wr => ∃ k : Nat, k ≤ M ∧ i = .int .i64 k ∧ Hid (Below w2.heap.size w2 wr)) (fun i _ => M - (intOf i).toNat)
  case atStart => exact ⟨0, by omega, rfl, Below.refl _ _⟩
  case round =>
    obtain ⟨k, hk, rfl, hw⟩ := hrel
    by_cases hlt : k < M
    · have hd : decide ((k : Int) < (M : Int)) = true := decide_eq_true (by omega)
      obtain ⟨p, hp⟩ : ∃ p, FL[k]? = some p := ⟨_, List.getElem?_eq_getElem (by rw [HL.out.1]; exact hlt)⟩
      obtain ⟨X, Y, hAt, ⟨hx0, hx1⟩, ⟨hy0, hy1⟩, hbx, hby⟩ := HL.out.2.2.2.2 k p hp
      have hpa : PtsAt wr fb fo FL := (S2.out.2.2.on hw.out).ptsA (fun e => by rw [e] at hp; simp at hp)
      obtain ⟨c0, c1⟩ := hpa k p hp
      obtain ⟨k1, hk1⟩ : ∃ k1, k + 1 = k1 := ⟨_, rfl⟩
      have hk1M : Hid (k1 ≤ M ∧ k + 1 = k1) := Lib.hid ⟨by omega, hk1⟩
      have hM64 := HL.out.2.2.1
      have hl0 := HL0.out
      obtain ⟨qx, hqx⟩ : ∃ z, p.1 * sc = z := ⟨_, rfl⟩
      obtain ⟨qy, hqy⟩ : ∃ z, p.2 * sc = z := ⟨_, rfl⟩
      rw [hqx] at hx0 hx1 hbx
      rw [hqy] at hy0 hy1 hby
      obtain ⟨dx, hdx⟩ : ∃ z, X - qx = z := ⟨_, rfl⟩
      obtain ⟨dy, hdy⟩ : ∃ z, Y - qy = z := ⟨_, rfl⟩
      rw [hdx] at hx0 hx1
      rw [hdy] at hy0 hy1
      have EX1 : Hid (IntKind.i64.wrap (p.1 * sc) = qx) := by unfold Hid; rw [wrap_is, hqx, wrapR _ (by omega) (by omega)]
      have EY1 : Hid (IntKind.i64.wrap (p.2 * sc) = qy) := by unfold Hid; rw [wrap_is, hqy, wrapR _ (by omega) (by omega)]
      have EX2 : Hid (IntKind.i64.wrap (X - qx) = dx) := by unfold Hid; rw [wrap_is, hdx, wrapR _ (by omega) (by omega)]
      have EY2 : Hid (IntKind.i64.wrap (Y - qy) = dy) := by unfold Hid; rw [wrap_is, hdy, wrapR _ (by omega) (by omega)]
      have a1 : decide (dx < 0) = false := decide_eq_false (by omega)
      have a2 : decide (dy < 0) = false := decide_eq_false (by omega)
      have a3 : decide (dx > lim) = false := decide_eq_false (by omega)
      have a4 : decide (dy > lim) = false := decide_eq_false (by omega)
      have HAt : Hid (∀ u w', Row w' u l → Calls Try.prog 19 #[u, .int .i64 (k1 : Int), .int .i64 (D : Int)] w' fun e w'' => e = .returned (.tuple #[.int .i64 X, .int .i64 Y]) ∧ Below w'.heap.size w' w'') := by
        rw [← hk1]; exact hAt
      have ek : wrap64 ((k : Int) + 1) = (k1 : Int) := by rw [wrapR _ (by omega) (by omega)]; omega
      have ek' : (k : Int) + 1 = (k1 : Int) := by omega
      have hBk : Hid (Below w2.heap.size w2 (wr.alloc (.cells (two p) 34)) ∧ Blk (wr.alloc (.cells (two p) 34)) wr.heap.size 34 (two p)) := ⟨hw.out.alloc hw.out.size _, Blk.new _ _ _⟩
      obtain ⟨gp, hgp⟩ : ∃ g, wr.heap.size = g := ⟨_, rfl⟩
      have Hgp := Lib.hid hgp
      rw [hgp] at hBk
      clear hp hAt hx0 hx1 hy0 hy1 hbx hby hpa hqx hqy hdx hdy hk1 hl0
      go_wp2_with fail
      refine (HREF.out _ (S2.out.2.1.on hBk.out.1)).mono ?_
      rintro e w4 ⟨rr, rfl, hor, hb⟩
      have S4 : Hid (Below w2.heap.size w2 w4 ∧ Blk w4 gp 34 (two p) ∧ Row w4 rr l) := ⟨below_next hBk.out.1 hb, hBk.out.2.grow hb, hor.row⟩
      clear hor hb
      go_wp2_with fail
      refine (HAt.out _ _ S4.out.2.2).mono ?_
      rintro e w5 ⟨rfl, hb⟩
      have S5 : Hid (Below w2.heap.size w2 w5 ∧ Blk w5 gp 34 (two p)) := ⟨below_next S4.out.1 hb, S4.out.2.1.grow hb⟩
      clear hb
      go_wp2_with fail
      have HQ : Hid (∀ w', Out w5 w' → w'.cell? ⟨gp, 0, none⟩ = some (.int .i64 p.1) ∧ w'.cell? ⟨gp, 1, none⟩ = some (.int .i64 p.2)) := fun w' hw' => by
        have kq := S5.out.2.grow hw'
        exact ⟨kq.cell 0, kq.cell 1⟩
      refine wp_region_quiet (C := Out w5) (by kernel_rfl) (by kernel_rfl) ⟨rfl, rfl, rfl, Nat.le_refl _, fun _ _ => rfl⟩ ?_
      refine BigFrame.wpQuiet_want rfl (fun K hK => ?_)
      refine quiet_val (.int .i64 X) (fun w' hw' => by go_simp) (hK _ ?_)
      clear hK K
      simp only [Act.put, List.setIfInBounds_toArray, List.set_cons_zero, List.set_cons_succ]
      refine BigFrame.wpQuiet_want rfl (fun K hK => ?_)
      refine quiet_val (.pointer (some ⟨gp, 0, none⟩)) (fun w' hw' => by go_simp) (hK _ ?_)
      clear hK K
      simp only [Act.put, List.setIfInBounds_toArray, List.set_cons_zero, List.set_cons_succ]
      refine BigFrame.wpQuiet_want rfl (fun K hK => ?_)
      refine quiet_val (.int .i64 p.1) (fun w' hw' => by obtain ⟨q0, q1⟩ := HQ.out w' hw'; go_simp) (hK _ ?_)
      clear hK K
      simp only [Act.put, List.setIfInBounds_toArray, List.set_cons_zero, List.set_cons_succ]
      refine BigFrame.wpQuiet_want rfl (fun K hK => ?_)
      refine quiet_val (.int .i64 sc) (fun w' hw' => by go_simp) (hK _ ?_)
      clear hK K
      simp only [Act.put, List.setIfInBounds_toArray, List.set_cons_zero, List.set_cons_succ]
      refine BigFrame.wpQuiet_want rfl (fun K hK => ?_)
      refine quiet_val (.int .i64 qx) (fun w' hw' => by have e := EX1.out; go_simp) (hK _ ?_)
      clear hK K
      simp only [Act.put, List.setIfInBounds_toArray, List.set_cons_zero, List.set_cons_succ]
      refine BigFrame.wpQuiet_want rfl (fun K hK => ?_)
      refine quiet_val (.int .i64 dx) (fun w' hw' => by have e := EX2.out; go_simp) (hK _ ?_)
      clear hK K
      simp only [Act.put, List.setIfInBounds_toArray, List.set_cons_zero, List.set_cons_succ]
      refine BigFrame.wpQuiet_want rfl (fun K hK => ?_)
      refine quiet_val (.int .i64 Y) (fun w' hw' => by go_simp) (hK _ ?_)
      clear hK K
      simp only [Act.put, List.setIfInBounds_toArray, List.set_cons_zero, List.set_cons_succ]
      refine BigFrame.wpQuiet_want rfl (fun K hK => ?_)
      refine quiet_val (.pointer (some ⟨gp, 1, none⟩)) (fun w' hw' => by go_simp) (hK _ ?_)
      clear hK K
      simp only [Act.put, List.setIfInBounds_toArray, List.set_cons_zero, List.set_cons_succ]
      refine BigFrame.wpQuiet_want rfl (fun K hK => ?_)
      refine quiet_val (.int .i64 p.2) (fun w' hw' => by obtain ⟨q0, q1⟩ := HQ.out w' hw'; go_simp) (hK _ ?_)
      clear hK K
      simp only [Act.put, List.setIfInBounds_toArray, List.set_cons_zero, List.set_cons_succ]
      refine BigFrame.wpQuiet_want rfl (fun K hK => ?_)
      refine quiet_val (.int .i64 sc) (fun w' hw' => by go_simp) (hK _ ?_)
      clear hK K
      simp only [Act.put, List.setIfInBounds_toArray, List.set_cons_zero, List.set_cons_succ]
      refine BigFrame.wpQuiet_want rfl (fun K hK => ?_)
      refine quiet_val (.int .i64 qy) (fun w' hw' => by have e := EY1.out; go_simp) (hK _ ?_)
      clear hK K
      simp only [Act.put, List.setIfInBounds_toArray, List.set_cons_zero, List.set_cons_succ]
      refine BigFrame.wpQuiet_want rfl (fun K hK => ?_)
      refine quiet_val (.int .i64 dy) (fun w' hw' => by have e := EY2.out; go_simp) (hK _ ?_)
      clear hK K
      simp only [Act.put, List.setIfInBounds_toArray, List.set_cons_zero, List.set_cons_succ]
      refine BigFrame.wpQuiet_want rfl (fun K hK => ?_)
      refine quiet_val (.int .i64 dx) (fun w' hw' => by go_simp) (hK _ ?_)
      clear hK K
      simp only [Act.put, List.setIfInBounds_toArray, List.set_cons_zero, List.set_cons_succ]
      refine BigFrame.wpQuiet_want rfl (fun K hK => ?_)
      refine quiet_val (.int .i64 dy) (fun w' hw' => by go_simp) (hK _ ?_)
      clear hK K
      simp only [Act.put, List.setIfInBounds_toArray, List.set_cons_zero, List.set_cons_succ]
      refine wpQuiet_nil ?_
      intro w6 hb
      have S6 : Hid (Below w2.heap.size w2 w6) := below_next S5.out.1 hb
      clear hb HQ
      have e1 := Hd2.out
      have e2 := Hlim.out
      go_wp2_with fail
      have hq := hk1M.out
      exact ⟨⟨k1, hq.1, by go_num, S6.out⟩, by simp [intOf]; omega⟩
    · have hd : decide ((k : Int) < (M : Int)) = false := decide_eq_false (by omega)
      go_wp2_with fail
      refine (HAW.out _).mono ?_
      rintro e w3 ⟨rfl, hb⟩
      have B3 : Hid (Below w.heap.size w w3) := below_next (below_next S2.out.1 hw.out) hb
      clear hb
      go_wp2_with fail
      go_ret
      exact ⟨rfl, B3.out⟩
theorem flatI_room : ∀ (d : Nat) {l : List Pt}, curveB l = true → ∀ a ∈ flatI d l, roomP a = true
  | 0, l, h, a, ha => by
    obtain ⟨p, h1, h2⟩ := curve_last h
    rw [flatI, h2] at ha
    obtain rfl : a = p := by simpa using ha
    unfold curveB at h
    rw [Bool.and_eq_true] at h
    exact List.all_eq_true.1 h.2 a (List.mem_of_getLast? h1)
  | d + 1, l, h, a, ha => by
    rw [flatI, List.mem_append] at ha
    rcases ha with ha | ha
    · exact flatI_room d (firstI_curve h).1 a ha
    · exact flatI_room d (secondI_curve h).1 a ha
theorem at_c5 (l : List Pt) (hc : curveB l = true) (D i : Nat) (hD : D ≤ 6) (hi : i ≤ 2 ^ D) (u : Value) (w : World) (row : Row w u l) :
    Calls Try.prog 19 #[u, .int .i64 (i : Int), .int .i64 (D : Int)] w fun e w' => e = .returned (.tuple #[.int .i64 (dotF (wI (((2 ^ D : Nat) : Int) - i) i (l.length - 1)) (fun t => (l.getD t (0, 0)).1) l.length), .int .i64 (dotF (wI (((2 ^ D : Nat) : Int) - i) i (l.length - 1)) (fun t => (l.getD t (0, 0)).2) l.length)]) ∧ Below w.heap.size w w' := by
  have hl3 : 3 ≤ l.length ∧ l.length ≤ 4 := by rcases curve_cases hc with ⟨p, q, r, rfl, _⟩ | ⟨p, q, r, s, rfl, _⟩ <;> simp
  have h64 := pow_small hD
  obtain ⟨_, c, e⟩ := row.shape
  subst e
  obtain ⟨b, o, rfl, _⟩ := row.addr (k := 0) (by omega)
  have hg : (0 : Int) ≤ ((2 ^ D : Nat) : Int) - i ∧ ((2 ^ D : Nat) : Int) - i ≤ 64 := by omega
  have hii : (0 : Int) ≤ i ∧ (i : Int) ≤ 64 := by omega
  have hwl := wI_length (((2 ^ D : Nat) : Int) - i) i (l.length - 1)
  refine at_walk b o l.length c D i l (wI (((2 ^ D : Nat) : Int) - i) i (l.length - 1)) w (by omega) (by omega) (Lib.hid ⟨rfl, by rw [hwl]; omega, getD_bound (by omega) (wI_bound _ _ hg hii _ (by omega)), fun p hp => ?_⟩) (Lib.hid row) (Lib.hid (weights_walk l.length D (2 ^ D) i _ w (by omega) (by omega) hD rfl hg hii rfl))
  unfold curveB at hc
  rw [Bool.and_eq_true] at hc
  exact List.all_eq_true.1 hc.2 p hp
theorem dot_two (g i a b c : Int) (f : Nat → Int) (h0 : f 0 = a) (h1 : f 1 = b) (h2 : f 2 = c) : dotF (wI g i 2) f 3 = at2 a b c (g + i) i := by
  have e : g + i - i = g := by omega
  simp [dotF, wI_two, at2, e, h0, h1, h2]
theorem dot_three (g i a b c d : Int) (f : Nat → Int) (h0 : f 0 = a) (h1 : f 1 = b) (h2 : f 2 = c) (h3 : f 3 = d) : dotF (wI g i 3) f 4 = at3 a b c d (g + i) i := by
  have e : g + i - i = g := by omega
  simp [dotF, wI_three, at3, e, h0, h1, h2, h3]
theorem scale_two {D : Nat} (hD : D ≤ 6) : (2 : Int) ^ (D * 2) = 2 ^ D * 2 ^ D ∧ (1 : Int) ≤ 2 ^ (D * 2) ∧ (2 : Int) ^ (D * 2) ≤ 262144 := by
  have : D = 0 ∨ D = 1 ∨ D = 2 ∨ D = 3 ∨ D = 4 ∨ D = 5 ∨ D = 6 := by omega
  rcases this with rfl | rfl | rfl | rfl | rfl | rfl | rfl <;> decide
theorem scale_three {D : Nat} (hD : D ≤ 6) : (2 : Int) ^ (D * 3) = 2 ^ D * 2 ^ D * 2 ^ D ∧ (1 : Int) ≤ 2 ^ (D * 3) ∧ (2 : Int) ^ (D * 3) ≤ 262144 := by
  have : D = 0 ∨ D = 1 ∨ D = 2 ∨ D = 3 ∨ D = 4 ∨ D = 5 ∨ D = 6 := by omega
  rcases this with rfl | rfl | rfl | rfl | rfl | rfl | rfl <;> decide
theorem near_ok {D : Nat} (hD : D ≤ 6) {l : List Pt} (hc : curveB l = true) : NearOk D (2 ^ (D * (l.length - 1))) (2 * D * 2 ^ (D * (l.length - 1))) l (flatI D l) := by
  intro k p hp
  have hk : k < 2 ^ D := by
    have := (List.getElem?_eq_some_iff.1 hp).1
    rwa [flatI_length] at this
  have hroom := roomP_iff.1 (flatI_room D hc p (List.mem_of_getElem? hp))
  have hnat : ((2 ^ D : Nat) : Int) = (2 : Int) ^ D := by simp
  have hg : ((2 ^ D : Nat) : Int) - ((k + 1 : Nat) : Int) + ((k + 1 : Nat) : Int) = 2 ^ D := by rw [hnat]; omega
  have hk1 : ((k + 1 : Nat) : Int) = (k : Int) + 1 := by omega
  refine ⟨_, _, fun u w' hr => at_c5 l hc D (k + 1) hD (by omega) u w' hr, ?_⟩
  rcases curve_cases hc with ⟨a, b, c, rfl, _⟩ | ⟨a, b, c, d, rfl, _⟩
  · obtain ⟨e1, e2, e3⟩ := scale_two hD
    simp only [List.length_cons, List.length_nil, Nat.zero_add, Nat.reduceAdd, Nat.add_one_sub_one]
    rw [dot_two _ _ a.1 b.1 c.1 _ rfl rfl rfl, dot_two _ _ a.2 b.2 c.2 _ rfl rfl rfl, hg, hk1]
    obtain ⟨⟨x1, x2⟩, y1, y2⟩ := near2 D a b c k p hp
    rw [← e1] at x1 x2 y1 y2
    have b1 := prod_box (a := 2 ^ (D * 2)) (A := 262144) ⟨by omega, e3⟩ hroom.1 (by omega)
    have b2 := prod_box (a := 2 ^ (D * 2)) (A := 262144) ⟨by omega, e3⟩ hroom.2 (by omega)
    rw [Int.mul_comm (2 ^ (D * 2)) p.1] at b1
    rw [Int.mul_comm (2 ^ (D * 2)) p.2] at b2
    exact ⟨⟨x1, x2⟩, ⟨y1, y2⟩, ⟨by omega, by omega⟩, by omega, by omega⟩
  · obtain ⟨e1, e2, e3⟩ := scale_three hD
    simp only [List.length_cons, List.length_nil, Nat.zero_add, Nat.reduceAdd, Nat.add_one_sub_one]
    rw [dot_three _ _ a.1 b.1 c.1 d.1 _ rfl rfl rfl rfl, dot_three _ _ a.2 b.2 c.2 d.2 _ rfl rfl rfl rfl, hg, hk1]
    obtain ⟨⟨x1, x2⟩, y1, y2⟩ := near3 D a b c d k p hp
    rw [← e1] at x1 x2 y1 y2
    have b1 := prod_box (a := 2 ^ (D * 3)) (A := 262144) ⟨by omega, e3⟩ hroom.1 (by omega)
    have b2 := prod_box (a := 2 ^ (D * 3)) (A := 262144) ⟨by omega, e3⟩ hroom.2 (by omega)
    rw [Int.mul_comm (2 ^ (D * 3)) p.1] at b1
    rw [Int.mul_comm (2 ^ (D * 3)) p.2] at b2
    exact ⟨⟨x1, x2⟩, ⟨y1, y2⟩, ⟨by omega, by omega⟩, by omega, by omega⟩
theorem lim_ok {D m : Nat} (hD : D ≤ 6) (hm : m = 2 ∨ m = 3) : (0 : Int) ≤ 2 * D * 2 ^ (D * m) ∧ (2 : Int) * D * 2 ^ (D * m) ≤ 1099511627776 := by
  have : D = 0 ∨ D = 1 ∨ D = 2 ∨ D = 3 ∨ D = 4 ∨ D = 5 ∨ D = 6 := by omega
  rcases this with rfl | rfl | rfl | rfl | rfl | rfl | rfl <;> rcases hm with rfl | rfl <;> decide
theorem near_law (w : World) (v : Value) (l : List Pt) (row : Row w v l) (hlen : l.length ≤ 9223372036854775807) (d : Int) : Calls Try.prog 5 #[v, .int .i64 d] w fun e w' => e = .returned (.bool true) ∧ Below w.heap.size w w' := by
  by_cases hgood : curveB l = true ∧ 0 ≤ d ∧ d ≤ 6
  · obtain ⟨hc, h0, h6⟩ := hgood
    obtain ⟨D, rfl⟩ := Int.eq_ofNat_of_zero_le h0
    have hl3 : l.length = 3 ∨ l.length = 4 := by rcases curve_cases hc with ⟨p, q, r, rfl, _⟩ | ⟨p, q, r, s, rfl, _⟩ <;> simp
    have hD : D ≤ 6 := by omega
    have h64 := pow_small hD
    have hpos : 0 < 2 ^ D := Nat.pos_of_ne_zero (by simp)
    have hfl := flatI_length D l
    obtain ⟨_, c, e⟩ := row.shape
    subst e
    obtain ⟨b, o, rfl, _⟩ := row.addr (k := 0) (by omega)
    have hok := near_ok hD hc
    have hlim := lim_ok (m := l.length - 1) hD (by omega)
    have hE : D * (l.length - 1) ≤ 18 := by
      have := Nat.mul_le_mul hD (show l.length - 1 ≤ 3 by omega)
      omega
    have hDm : ((D : Int) * ((l.length - 1 : Nat) : Int)) = ((D * (l.length - 1) : Nat) : Int) := by simp
    obtain ⟨E, hEE⟩ : ∃ E, D * (l.length - 1) = E := ⟨_, rfl⟩
    rw [hEE] at hok hlim hE hDm
    exact near_walk w b o l.length c D (l.length - 1) E (2 ^ D) (2 ^ E) (2 * D * 2 ^ E) (2 * D) l (flatI D l) hD rfl hE rfl (by rw [wrapR _ (by omega) (by omega)]; omega) (by rw [hDm, wrapR _ (by omega) (by omega)]) hlim (wrapR _ (by omega) (by omega)) (wrapR _ (by omega) (by omega))
      (Lib.hid ⟨hfl, hpos, h64, by omega, hok⟩) (Lib.hid row) (Lib.hid fun w' hr => by have := right_c _ l w' hlen hr; rwa [hc] at this) (Lib.hid fun w' hr => flat_c _ l D w' hr hc hD) (Lib.hid fun w' hr => ref_c w' _ l (by omega) hr)
  · have hbad : curveB l = false ∨ d < 0 ∨ 6 < d := by
      cases hc : curveB l with
      | false => exact .inl rfl
      | true => right; rw [hc] at hgood; simp at hgood; omega
    exact near_no w v d (curveB l) hbad (Lib.hid (right_c v l w hlen row))
end Go.Proofs.Ythlealndopppaaa
