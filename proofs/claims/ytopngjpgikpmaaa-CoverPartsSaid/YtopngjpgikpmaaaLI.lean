/- The walk of the statement CoverInside. -/
import Derived.Test.YtopngjpgikpmaaaCl
import Derived.Test.YtopngjpgikpmaaaCm
import Derived.Test.YtopngjpgikpmaaaCn
namespace Go.Proofs.Ytopngjpgikpmaaa
open Go.RowKit
/-- The same points elsewhere. -/
theorem same_pts {S S' : List (Value × List Pt)} (h : S'.map Prod.snd = S.map Prod.snd) (p : List Pt → Prop) (hp : ∀ x ∈ S, p x.2) : S'.length = S.length ∧ ∀ x ∈ S', p x.2 := by
  constructor
  · have := congrArg List.length h
    simpa using this
  · intro x hx
    have h1 : x.2 ∈ S.map Prod.snd := by rw [← h]; exact List.mem_map_of_mem hx
    obtain ⟨y, hy, e⟩ := List.mem_map.1 h1
    rw [← e]
    exact hp y hy
theorem allR_of {S : List (Value × List Pt)} (h : allR (S.map Prod.snd) = true) : ∀ x ∈ S, x.2.all roomP = true := fun x hx => by
  unfold allR at h
  exact List.all_eq_true.1 h _ (List.mem_map_of_mem hx)
theorem empty_box : winB ⟨0, 0, 0, 0⟩ = false := by decide
def RefsP (P : List (List Pt)) (w : World) (e : Ending) (w' : World) : Prop := ∃ u S', e = .returned u ∧ PolyR w' u S' ∧ S'.map Prod.snd = P ∧ Below w.heap.size w w'
theorem refs_p (s : Value) (S : List (Value × List Pt)) (w : World) (row : PolyR w s S) (hS : S.length ≤ 1000) (hSl : ∀ x ∈ S, x.2.length ≤ 1000) : Calls Try.prog 11 #[s] w fun e w' => RefsP (S.map Prod.snd) w e w' :=
  (refs8_c s S w row hS hSl).mono fun _ _ ⟨u, S', h1, h2, h3, h4⟩ => ⟨u, S', h1, h2.rows, h3, h4⟩
def SmallP (S : List (Value × List Pt)) (b : Bx) (w : World) (e : Ending) (w' : World) : Prop := ∃ r, e = .returned (.bool r) ∧ (r = true → Small S b) ∧ Below w.heap.size w w'
set_option maxHeartbeats 8000000 in
set_option maxRecDepth 100000 in
theorem coverInside_law (s : Value) (S : List (Value × List Pt)) (rule x y : Int) (w : World) (row : PolyR w s S) :
    Calls Try.prog 4 #[s, .int .i64 rule, .agg #[.int .i64 x, .int .i64 y]] w fun e w' => e = .returned (.bool true) ∧ Below w.heap.size w w' := by
  have HSM : Hid (∀ W, Below w.heap.size w W → Calls Try.prog 9 #[s, .agg #[.int .i64 0, .int .i64 0, .int .i64 0, .int .i64 0]] W fun e w' => SmallP S ⟨0, 0, 0, 0⟩ W e w') := fun W hb => small_c s S 0 0 0 0 W (row.on hb)
  have HRF : Hid (Small S ⟨0, 0, 0, 0⟩ → ∀ W, Below w.heap.size w W → Calls Try.prog 11 #[s] W fun e w' => RefsP (S.map Prod.snd) W e w') := fun hs W hb => refs_p s S W (row.on hb) (by have := hs.1; omega) (fun x hx => by have := hs.2.1 x hx; omega)
  have HAW := Lib.hid awake_c
  have HIN := Lib.hid (fun x w => refIn_c x w)
  have HROW := Lib.hid row
  obtain ⟨ao, c, rfl⟩ := row.shape
  obtain ⟨n, hn⟩ : ∃ n, S.length = n := ⟨_, rfl⟩
  have HN := Lib.hid hn
  rw [hn] at HSM HRF HROW ⊢
  clear row hn
  go_enter Try.func4, Try.ntmps4
  go_wp2_with fail
  obtain ⟨w1, hw1⟩ : ∃ X, w.alloc (.cells #[.int .i64 x, .int .i64 y] 39) = X := ⟨_, rfl⟩
  have S1 : Hid (Below w.heap.size w w1 ∧ Blk w1 w.heap.size 39 (two (x, y))) := by rw [← hw1]; exact ⟨(Below.refl _ _).alloc (Nat.le_refl _) _, Blk.new _ _ _⟩
  rw [hw1]
  clear hw1
  refine (HSM.out _ S1.out.1).mono ?_
  rintro e w2 ⟨r, rfl, hr, hb⟩
  have S2 : Hid (Below w.heap.size w w2 ∧ Blk w2 w.heap.size 39 (two (x, y))) := ⟨S1.out.1.trans (hb.mono S1.out.1.size), S1.out.2.grow hb⟩
  clear hb S1
  cases r
  · go_wp2_with fail
    refine (HAW.out _).mono ?_
    rintro e w3 ⟨rfl, hb⟩
    have B3 : Hid (Below w.heap.size w w3) := S2.out.1.trans (hb.mono S2.out.1.size)
    clear hb
    go_wp2_with fail
    go_ret
    exact ⟨rfl, B3.out⟩
  have hsm := hr rfl
  have HS := Lib.hid hsm
  clear hr hsm
  go_wp2_with fail
  refine (HRF.out HS.out _ S2.out.1).mono ?_
  rintro e w3 ⟨u, S', rfl, hp, he, hb⟩
  have S3 : Hid (Below w.heap.size w w3 ∧ Blk w3 w.heap.size 39 (two (x, y)) ∧ PolyR w3 u S' ∧ S'.map Prod.snd = S.map Prod.snd) := ⟨S2.out.1.trans (hb.mono S2.out.1.size), S2.out.2.grow hb, hp, he⟩
  clear hb S2 hp he
  go_wp2_with fail
  have HRA : Hid (Calls Try.prog 14 #[u] w3 fun e w' => e = .returned (.bool (allR (S.map Prod.snd))) ∧ Below w3.heap.size w3 w') := by
    have h1 := same_pts S3.out.2.2.2 (fun l => l.length ≤ 20) HS.out.2.1
    have := refAll_c u S' w3 S3.out.2.2.1 (by have := HS.out.1; omega) (fun x hx => by have := h1.2 x hx; omega)
    rwa [S3.out.2.2.2] at this
  obtain ⟨ra, hra⟩ : ∃ r, allR (S.map Prod.snd) = r := ⟨_, rfl⟩
  rw [hra] at HRA
  have HRAE := Lib.hid hra
  clear hra
  refine (HRA.out).mono ?_
  rintro e w4 ⟨rfl, hb⟩
  have S4 : Hid (Below w.heap.size w w4 ∧ Blk w4 w.heap.size 39 (two (x, y))) := ⟨S3.out.1.trans (hb.mono S3.out.1.size), S3.out.2.1.grow hb⟩
  clear hb HRA
  have p0 : w4.cell? ⟨w.heap.size, 0, none⟩ = some (.int .i64 x) := S4.out.2.cell 0
  have p1 : w4.cell? ⟨w.heap.size, 1, none⟩ = some (.int .i64 y) := S4.out.2.cell 1
  cases ra
  · go_wp2_with fail
    refine (HAW.out _).mono ?_
    rintro e w5 ⟨rfl, hb⟩
    have B5 : Hid (Below w.heap.size w w5) := S4.out.1.trans (hb.mono S4.out.1.size)
    clear hb
    go_wp2_with fail
    go_ret
    exact ⟨rfl, B5.out⟩
  obtain ⟨rx, hrx⟩ : ∃ r, room x = r := ⟨_, rfl⟩
  have HRX := Lib.hid hrx
  clear hrx
  go_wp2_with fail
  refine (HIN.out _ _).mono ?_
  rw [HRX.out]
  rintro e w' ⟨rfl, rfl⟩
  cases rx
  · go_wp2_with fail
    refine (HAW.out _).mono ?_
    rintro e w5 ⟨rfl, hb⟩
    have B5 : Hid (Below w.heap.size w w5) := S4.out.1.trans (hb.mono S4.out.1.size)
    clear hb
    go_wp2_with fail
    go_ret
    exact ⟨rfl, B5.out⟩
  obtain ⟨rY, hry⟩ : ∃ r, room y = r := ⟨_, rfl⟩
  have HRY := Lib.hid hry
  clear hry
  go_wp2_with fail
  refine (HIN.out _ _).mono ?_
  rw [HRY.out]
  rintro e w' ⟨rfl, rfl⟩
  cases rY
  · go_wp2_with fail
    refine (HAW.out _).mono ?_
    rintro e w5 ⟨rfl, hb⟩
    have B5 : Hid (Below w.heap.size w w5) := S4.out.1.trans (hb.mono S4.out.1.size)
    clear hb
    go_wp2_with fail
    go_ret
    exact ⟨rfl, B5.out⟩
  have hroom : roomP (x, y) = true := by unfold roomP; rw [HRX.out, HRY.out]; rfl
  have HI1 : Hid (∀ W, Below w4.heap.size w4 W → Calls Try.prog 18 #[.slice ao n c, .int .i64 rule, .agg #[.int .i64 x, .int .i64 y]] W fun e w' => e = .returned (.bool (insideI (S.map Prod.snd) rule (x, y))) ∧ Below W.heap.size W w') := fun W hb =>
    insideC_c _ S rule x y W (HROW.out.on (S4.out.1.trans (hb.mono S4.out.1.size))) (by have := HS.out.1; omega) (fun x hx => by have := HS.out.2.1 x hx; omega) (allR_of HRAE.out) hroom
  have HI2 : Hid (∀ W, Below w4.heap.size w4 W → Calls Try.prog 11 #[.slice ao n c] W fun e w' => RefsP (S.map Prod.snd) W e w') := fun W hb => HRF.out HS.out W (S4.out.1.trans (hb.mono S4.out.1.size))
  have HI3 : Hid (∀ W u S', PolyR W u S' → S'.map Prod.snd = S.map Prod.snd → Calls Try.prog 19 #[u, .int .i64 rule, .agg #[.int .i64 x, .int .i64 y]] W fun e w' => e = .returned (.bool (insideI (S.map Prod.snd) rule (x, y))) ∧ Below W.heap.size W w') := fun W u S' h1 h2 => by
    have h3 := same_pts h2 (fun l => l.length ≤ 20) HS.out.2.1
    have := refInside_c u S' rule x y W h1 (by have := HS.out.1; omega) (fun x hx => by have := h3.2 x hx; omega) (allR_of (by rw [h2]; exact HRAE.out)) hroom
    rwa [h2] at this
  obtain ⟨bi, hbi⟩ : ∃ b, insideI (S.map Prod.snd) rule (x, y) = b := ⟨_, rfl⟩
  rw [hbi] at HI1 HI3
  clear hbi hroom p0 p1
  go_wp2_with fail
  refine wp_region_put3 (by kernel_rfl) (by kernel_rfl) (by kernel_rfl) (fun b' vs w' => (b' 0 = true → vs 0 = .slice ao n c) ∧ (b' 1 = true → vs 1 = .int .i64 rule) ∧ (b' 2 = true → vs 2 = .agg #[.int .i64 x, .int .i64 y]) ∧ (b' 3 = true → vs 3 = .bool bi) ∧ (b' 4 = true → vs 4 = .slice ao n c) ∧ (b' 6 = true → vs 6 = .int .i64 rule) ∧ (b' 7 = true → vs 7 = .pointer (some ⟨w.heap.size, 0, none⟩)) ∧ (b' 8 = true → vs 8 = .int .i64 x) ∧ (b' 9 = true → vs 9 = .pointer (some ⟨w.heap.size, 1, none⟩)) ∧ (b' 10 = true → vs 10 = .int .i64 y) ∧ (b' 11 = true → vs 11 = .agg #[.int .i64 x, .int .i64 y]) ∧ (b' 12 = true → vs 12 = .bool bi) ∧ (b' 13 = true → vs 13 = .bool true) ∧ (b' 14 = true → vs 14 = .bool true) ∧ (b' 15 = true → vs 15 = .bool true) ∧ (b' 16 = true → vs 16 = .bool true) ∧ (b' 17 = true → vs 17 = .bool true) ∧ (b' 5 = true → Hid (∃ S', PolyR w' (vs 5) S' ∧ S'.map Prod.snd = S.map Prod.snd)) ∧ (Hid (Below w4.heap.size w4 w' ∧ w4.heap.size ≤ w'.heap.size))) ?_ ?_ ?_
  · intro vs
    exact ⟨fun h => Bool.noConfusion h, fun h => Bool.noConfusion h, fun h => Bool.noConfusion h, fun h => Bool.noConfusion h, fun h => Bool.noConfusion h, fun h => Bool.noConfusion h, fun h => Bool.noConfusion h, fun h => Bool.noConfusion h, fun h => Bool.noConfusion h, fun h => Bool.noConfusion h, fun h => Bool.noConfusion h, fun h => Bool.noConfusion h, fun h => Bool.noConfusion h, fun h => Bool.noConfusion h, fun h => Bool.noConfusion h, fun h => Bool.noConfusion h, fun h => Bool.noConfusion h, fun h => Bool.noConfusion h, Lib.hid ⟨⟨rfl, rfl, rfl, Nat.le_refl _, fun _ _ => rfl⟩, Nat.le_refl _⟩⟩
  · rintro b' vs w' i op hi hun hall ⟨h0, h1, h2, h3, h4, h6, h7, h8, h9, h10, h11, h12, h13, h14, h15, h16, h17, y5, hB⟩
    have hil : i < 18 := (List.getElem?_eq_some_iff.1 hi).1
    rcases i with _ | _ | _ | _ | _ | _ | _ | _ | _ | _ | _ | _ | _ | _ | _ | _ | _ | _ | i
    · obtain rfl := Option.some.inj hi
      clear hi hil
      refine StepOk.plain rfl (fun K hK => ?_)
      have HKK := Lib.hid hK; clear hK
      simp only [putAll, Act.put, List.setIfInBounds_toArray, List.set_cons_zero, List.set_cons_succ]
      go_simp
      exact HKK.out _ _ ⟨_, by simp only [putAll, Act.put, List.setIfInBounds_toArray, List.set_cons_zero, List.set_cons_succ] <;> rfl, fun _ => rfl, h1, h2, h3, h4, h6, h7, h8, h9, h10, h11, h12, h13, h14, h15, h16, h17, y5, hB⟩
    · obtain rfl := Option.some.inj hi
      clear hi hil
      refine StepOk.plain rfl (fun K hK => ?_)
      have HKK := Lib.hid hK; clear hK
      simp only [putAll, Act.put, List.setIfInBounds_toArray, List.set_cons_zero, List.set_cons_succ]
      go_simp
      exact HKK.out _ _ ⟨_, by simp only [putAll, Act.put, List.setIfInBounds_toArray, List.set_cons_zero, List.set_cons_succ] <;> rfl, h0, fun _ => rfl, h2, h3, h4, h6, h7, h8, h9, h10, h11, h12, h13, h14, h15, h16, h17, y5, hB⟩
    · obtain rfl := Option.some.inj hi
      clear hi hil
      have k := (S4.out.2.grow hB.out.1)
      have x0 : w'.cell? ⟨w.heap.size, 0, none⟩ = some (.int .i64 x) := k.cell 0
      have x1 : w'.cell? ⟨w.heap.size, 1, none⟩ = some (.int .i64 y) := k.cell 1
      clear k
      refine StepOk.plain rfl (fun K hK => ?_)
      have HKK := Lib.hid hK; clear hK
      simp only [putAll, Act.put, List.setIfInBounds_toArray, List.set_cons_zero, List.set_cons_succ]
      go_simp
      exact HKK.out _ _ ⟨_, by simp only [putAll, Act.put, List.setIfInBounds_toArray, List.set_cons_zero, List.set_cons_succ] <;> rfl, h0, h1, fun _ => rfl, h3, h4, h6, h7, h8, h9, h10, h11, h12, h13, h14, h15, h16, h17, y5, hB⟩
    · obtain rfl := Option.some.inj hi
      clear hi hil
      have d0 := h0 (hall ⟨0, .data⟩ (by simp) rfl)
      have d1 := h1 (hall ⟨1, .data⟩ (by simp) rfl)
      have d2 := h2 (hall ⟨2, .data⟩ (by simp) rfl)
      refine StepOk.plain rfl (fun K hK => ?_)
      have HKK := Lib.hid hK; clear hK
      simp only [putAll, Act.put, List.setIfInBounds_toArray, List.set_cons_zero, List.set_cons_succ]
      go_simp
      refine (HI1.out w' hB.out.1).mono ?_
      rintro e w2 ⟨rfl, hb2⟩
      exact HKK.out _ _ ⟨_, by simp only [putAll, Act.put, List.setIfInBounds_toArray, List.set_cons_zero, List.set_cons_succ, d0, d1, d2] <;> rfl, h0, h1, h2, fun _ => rfl, h4, h6, h7, h8, h9, h10, h11, h12, h13, h14, h15, h16, h17, fun h => Lib.hid (let ⟨S2, h1, h2⟩ := (y5 h).out; ⟨S2, h1.on hb2, h2⟩), Lib.hid ⟨(hB).out.1.trans (hb2.mono (hB).out.2), Nat.le_trans (hB).out.2 hb2.size⟩⟩
    · obtain rfl := Option.some.inj hi
      clear hi hil
      refine StepOk.plain rfl (fun K hK => ?_)
      have HKK := Lib.hid hK; clear hK
      simp only [putAll, Act.put, List.setIfInBounds_toArray, List.set_cons_zero, List.set_cons_succ]
      go_simp
      exact HKK.out _ _ ⟨_, by simp only [putAll, Act.put, List.setIfInBounds_toArray, List.set_cons_zero, List.set_cons_succ] <;> rfl, h0, h1, h2, h3, fun _ => rfl, h6, h7, h8, h9, h10, h11, h12, h13, h14, h15, h16, h17, y5, hB⟩
    · obtain rfl := Option.some.inj hi
      clear hi hil
      have d4 := h4 (hall ⟨4, .data⟩ (by simp) rfl)
      refine StepOk.plain rfl (fun K hK => ?_)
      have HKK := Lib.hid hK; clear hK
      simp only [putAll, Act.put, List.setIfInBounds_toArray, List.set_cons_zero, List.set_cons_succ]
      go_simp
      refine (HI2.out w' hB.out.1).mono ?_
      rintro e w2 ⟨u2, S2, rfl, hp2, he2, hb2⟩
      exact HKK.out _ _ ⟨_, by simp only [putAll, Act.put, List.setIfInBounds_toArray, List.set_cons_zero, List.set_cons_succ, d4] <;> rfl, h0, h1, h2, h3, h4, h6, h7, h8, h9, h10, h11, h12, h13, h14, h15, h16, h17, fun _ => Lib.hid (⟨S2, hp2, he2⟩), Lib.hid ⟨(hB).out.1.trans (hb2.mono (hB).out.2), Nat.le_trans (hB).out.2 hb2.size⟩⟩
    · obtain rfl := Option.some.inj hi
      clear hi hil
      refine StepOk.plain rfl (fun K hK => ?_)
      have HKK := Lib.hid hK; clear hK
      simp only [putAll, Act.put, List.setIfInBounds_toArray, List.set_cons_zero, List.set_cons_succ]
      go_simp
      exact HKK.out _ _ ⟨_, by simp only [putAll, Act.put, List.setIfInBounds_toArray, List.set_cons_zero, List.set_cons_succ] <;> rfl, h0, h1, h2, h3, h4, fun _ => rfl, h7, h8, h9, h10, h11, h12, h13, h14, h15, h16, h17, y5, hB⟩
    · obtain rfl := Option.some.inj hi
      clear hi hil
      refine StepOk.plain rfl (fun K hK => ?_)
      have HKK := Lib.hid hK; clear hK
      simp only [putAll, Act.put, List.setIfInBounds_toArray, List.set_cons_zero, List.set_cons_succ]
      go_simp
      exact HKK.out _ _ ⟨_, by simp only [putAll, Act.put, List.setIfInBounds_toArray, List.set_cons_zero, List.set_cons_succ] <;> rfl, h0, h1, h2, h3, h4, h6, fun _ => rfl, h8, h9, h10, h11, h12, h13, h14, h15, h16, h17, y5, hB⟩
    · obtain rfl := Option.some.inj hi
      clear hi hil
      have d7 := h7 (hall ⟨7, .data⟩ (by simp) rfl)
      have k := (S4.out.2.grow hB.out.1)
      have x0 : w'.cell? ⟨w.heap.size, 0, none⟩ = some (.int .i64 x) := k.cell 0
      clear k
      refine StepOk.plain rfl (fun K hK => ?_)
      have HKK := Lib.hid hK; clear hK
      simp only [putAll, Act.put, List.setIfInBounds_toArray, List.set_cons_zero, List.set_cons_succ]
      go_simp
      exact HKK.out _ _ ⟨_, by simp only [putAll, Act.put, List.setIfInBounds_toArray, List.set_cons_zero, List.set_cons_succ, d7] <;> rfl, h0, h1, h2, h3, h4, h6, h7, fun _ => rfl, h9, h10, h11, h12, h13, h14, h15, h16, h17, y5, hB⟩
    · obtain rfl := Option.some.inj hi
      clear hi hil
      refine StepOk.plain rfl (fun K hK => ?_)
      have HKK := Lib.hid hK; clear hK
      simp only [putAll, Act.put, List.setIfInBounds_toArray, List.set_cons_zero, List.set_cons_succ]
      go_simp
      exact HKK.out _ _ ⟨_, by simp only [putAll, Act.put, List.setIfInBounds_toArray, List.set_cons_zero, List.set_cons_succ] <;> rfl, h0, h1, h2, h3, h4, h6, h7, h8, fun _ => rfl, h10, h11, h12, h13, h14, h15, h16, h17, y5, hB⟩
    · obtain rfl := Option.some.inj hi
      clear hi hil
      have d9 := h9 (hall ⟨9, .data⟩ (by simp) rfl)
      have k := (S4.out.2.grow hB.out.1)
      have x0 : w'.cell? ⟨w.heap.size, 1, none⟩ = some (.int .i64 y) := k.cell 1
      clear k
      refine StepOk.plain rfl (fun K hK => ?_)
      have HKK := Lib.hid hK; clear hK
      simp only [putAll, Act.put, List.setIfInBounds_toArray, List.set_cons_zero, List.set_cons_succ]
      go_simp
      exact HKK.out _ _ ⟨_, by simp only [putAll, Act.put, List.setIfInBounds_toArray, List.set_cons_zero, List.set_cons_succ, d9] <;> rfl, h0, h1, h2, h3, h4, h6, h7, h8, h9, fun _ => rfl, h11, h12, h13, h14, h15, h16, h17, y5, hB⟩
    · obtain rfl := Option.some.inj hi
      clear hi hil
      have d8 := h8 (hall ⟨8, .data⟩ (by simp) rfl)
      have d10 := h10 (hall ⟨10, .data⟩ (by simp) rfl)
      refine StepOk.plain rfl (fun K hK => ?_)
      have HKK := Lib.hid hK; clear hK
      simp only [putAll, Act.put, List.setIfInBounds_toArray, List.set_cons_zero, List.set_cons_succ]
      go_simp
      exact HKK.out _ _ ⟨_, by simp only [putAll, Act.put, List.setIfInBounds_toArray, List.set_cons_zero, List.set_cons_succ, d8, d10] <;> rfl, h0, h1, h2, h3, h4, h6, h7, h8, h9, h10, fun _ => rfl, h12, h13, h14, h15, h16, h17, y5, hB⟩
    · obtain rfl := Option.some.inj hi
      clear hi hil
      have o5 := y5 (hall ⟨5, .data⟩ (by simp) rfl)
      have d6 := h6 (hall ⟨6, .data⟩ (by simp) rfl)
      have d11 := h11 (hall ⟨11, .data⟩ (by simp) rfl)
      obtain ⟨S2, hp2, he2⟩ := o5.out
      refine StepOk.plain rfl (fun K hK => ?_)
      have HKK := Lib.hid hK; clear hK
      simp only [putAll, Act.put, List.setIfInBounds_toArray, List.set_cons_zero, List.set_cons_succ]
      go_simp
      refine (HI3.out w' (vs 5) S2 hp2 he2).mono ?_
      rintro e w2 ⟨rfl, hb2⟩
      exact HKK.out _ _ ⟨_, by simp only [putAll, Act.put, List.setIfInBounds_toArray, List.set_cons_zero, List.set_cons_succ, d6, d11] <;> rfl, h0, h1, h2, h3, h4, h6, h7, h8, h9, h10, h11, fun _ => rfl, h13, h14, h15, h16, h17, fun h => Lib.hid (let ⟨S2, h1, h2⟩ := (y5 h).out; ⟨S2, h1.on hb2, h2⟩), Lib.hid ⟨(hB).out.1.trans (hb2.mono (hB).out.2), Nat.le_trans (hB).out.2 hb2.size⟩⟩
    · obtain rfl := Option.some.inj hi
      clear hi hil
      have d3 := h3 (hall ⟨3, .data⟩ (by simp) rfl)
      have d12 := h12 (hall ⟨12, .data⟩ (by simp) rfl)
      refine StepOk.plain rfl (fun K hK => ?_)
      have HKK := Lib.hid hK; clear hK
      simp only [putAll, Act.put, List.setIfInBounds_toArray, List.set_cons_zero, List.set_cons_succ]
      go_simp
      exact HKK.out _ _ ⟨_, by simp only [putAll, Act.put, List.setIfInBounds_toArray, List.set_cons_zero, List.set_cons_succ, d3, d12] <;> rfl, h0, h1, h2, h3, h4, h6, h7, h8, h9, h10, h11, h12, fun _ => rfl, h14, h15, h16, h17, y5, hB⟩
    · obtain rfl := Option.some.inj hi
      clear hi hil
      have d13 := h13 (hall ⟨13, .data⟩ (by simp) rfl)
      refine StepOk.plain rfl (fun K hK => ?_)
      have HKK := Lib.hid hK; clear hK
      simp only [putAll, Act.put, List.setIfInBounds_toArray, List.set_cons_zero, List.set_cons_succ]
      go_simp
      exact HKK.out _ _ ⟨_, by simp only [putAll, Act.put, List.setIfInBounds_toArray, List.set_cons_zero, List.set_cons_succ, d13] <;> rfl, h0, h1, h2, h3, h4, h6, h7, h8, h9, h10, h11, h12, h13, fun _ => rfl, h15, h16, h17, y5, hB⟩
    · obtain rfl := Option.some.inj hi
      clear hi hil
      have d14 := h14 (hall ⟨14, .guard⟩ (by simp) rfl)
      refine StepOk.on 14 true rfl rfl d14 (fun K hK => ?_)
      have HKK := Lib.hid hK; clear hK
      simp only [putAll, Act.put, List.setIfInBounds_toArray, List.set_cons_zero, List.set_cons_succ]
      go_simp
      refine (HAW.out w').mono ?_
      rintro e w2 ⟨rfl, hb2⟩
      exact HKK.out _ _ ⟨_, by simp only [putAll, Act.put, List.setIfInBounds_toArray, List.set_cons_zero, List.set_cons_succ, d14] <;> rfl, h0, h1, h2, h3, h4, h6, h7, h8, h9, h10, h11, h12, h13, h14, fun _ => rfl, h16, h17, fun h => Lib.hid (let ⟨S2, h1, h2⟩ := (y5 h).out; ⟨S2, h1.on hb2, h2⟩), Lib.hid ⟨(hB).out.1.trans (hb2.mono (hB).out.2), Nat.le_trans (hB).out.2 hb2.size⟩⟩
    · obtain rfl := Option.some.inj hi
      clear hi hil
      have d14 := h14 (hall ⟨14, .data⟩ (by simp) rfl)
      have d15 := h15 (hall ⟨15, .data⟩ (by simp) rfl)
      refine StepOk.plain rfl (fun K hK => ?_)
      have HKK := Lib.hid hK; clear hK
      simp only [putAll, Act.put, List.setIfInBounds_toArray, List.set_cons_zero, List.set_cons_succ]
      go_simp
      exact HKK.out _ _ ⟨_, by simp only [putAll, Act.put, List.setIfInBounds_toArray, List.set_cons_zero, List.set_cons_succ, d14, d15] <;> rfl, h0, h1, h2, h3, h4, h6, h7, h8, h9, h10, h11, h12, h13, h14, h15, fun _ => rfl, h17, y5, hB⟩
    · obtain rfl := Option.some.inj hi
      clear hi hil
      have d16 := h16 (hall ⟨16, .data⟩ (by simp) rfl)
      refine StepOk.plain rfl (fun K hK => ?_)
      have HKK := Lib.hid hK; clear hK
      simp only [putAll, Act.put, List.setIfInBounds_toArray, List.set_cons_zero, List.set_cons_succ]
      go_simp
      exact HKK.out _ _ ⟨_, by simp only [putAll, Act.put, List.setIfInBounds_toArray, List.set_cons_zero, List.set_cons_succ, d16] <;> rfl, h0, h1, h2, h3, h4, h6, h7, h8, h9, h10, h11, h12, h13, h14, h15, h16, fun _ => rfl, y5, hB⟩
    · omega
  · rintro b' vs w2 hall ⟨h0, h1, h2, h3, h4, h6, h7, h8, h9, h10, h11, h12, h13, h14, h15, h16, h17, y5, hB⟩
    have d0 := h0 (hall 0 (by simp))
    have d1 := h1 (hall 1 (by simp))
    have d2 := h2 (hall 2 (by simp))
    have d3 := h3 (hall 3 (by simp))
    have d4 := h4 (hall 4 (by simp))
    have d6 := h6 (hall 6 (by simp))
    have d7 := h7 (hall 7 (by simp))
    have d8 := h8 (hall 8 (by simp))
    have d9 := h9 (hall 9 (by simp))
    have d10 := h10 (hall 10 (by simp))
    have d11 := h11 (hall 11 (by simp))
    have d12 := h12 (hall 12 (by simp))
    have d13 := h13 (hall 13 (by simp))
    have d14 := h14 (hall 14 (by simp))
    have d15 := h15 (hall 15 (by simp))
    have d16 := h16 (hall 16 (by simp))
    have d17 := h17 (hall 17 (by simp))
    have o5 := y5 (hall 5 (by simp))
    have BB := hB
    simp only [putAll, Act.put, List.setIfInBounds_toArray, List.set_cons_zero, List.set_cons_succ, d0, d1, d2, d3, d4, d6, d7, d8, d9, d10, d11, d12, d13, d14, d15, d16, d17]
    clear hall h0 d0 h1 d1 h2 d2 h3 d3 h4 d4 h6 d6 h7 d7 h8 d8 h9 d9 h10 d10 h11 d11 h12 d12 h13 d13 h14 d14 h15 d15 h16 d16 h17 d17 y5 hB
    have B5 : Hid (Below w.heap.size w w2) := S4.out.1.trans (BB.out.1.mono S4.out.1.size)
    clear BB o5
    generalize vs 5 = va at *
    go_wp2_with fail
    go_ret
    exact ⟨rfl, B5.out⟩
end Go.Proofs.Ytopngjpgikpmaaa
