/- Layer 7: discs. -/
import Derived.Test.YtdidbejinfkhbaaDoorSi
namespace Go.Proofs.YtdidbejinfkhbaaDoor
open Go.RowKit
def discQ (h : Int) (k : Nat) : Pt := (qI (cosI k * h) 65536, qI (cosI (k + 12) * h) 65536)
def discP (c : Pt) (h : Int) (k : Nat) : Pt := addP c (discQ h k)
def discI (c : Pt) (h : Int) : List Pt := (List.range 16).map (discP c h)
theorem discI_take (c : Pt) (h : Int) (k : Nat) (hk : k < 16) : (discI c h).take (k + 1) = (discI c h).take k ++ [discP c h k] := by
  have e : (discI c h)[k]? = some (discP c h k) := by
    unfold discI
    rw [List.getElem?_map, List.getElem?_range hk]; rfl
  rw [List.take_add_one, e]; rfl
theorem disc_len (c : Pt) (h : Int) : (discI c h).length = 16 := by simp [discI]
theorem cos_bound (k : Nat) : -65536 ≤ cosI k ∧ cosI k ≤ 65536 := by
  unfold cosI
  have h := Nat.mod_lt k (show 0 < 16 by decide)
  generalize k % 16 = j at h
  revert j
  decide
theorem disc_bound {h : Int} (hh : 1 ≤ h ∧ h ≤ 32768) (k : Nat) : (-h ≤ (discQ h k).1 ∧ (discQ h k).1 ≤ h) ∧ -h ≤ (discQ h k).2 ∧ (discQ h k).2 ≤ h :=
  ⟨qI_le (by decide) (cos_bound k).1 (cos_bound k).2 (by omega), qI_le (by decide) (cos_bound (k + 12)).1 (cos_bound (k + 12)).2 (by omega)⟩
def discOut (c : Pt) (h : Int) : Int × List Pt := if penB h && roomP c then roomOut (discI c h) else (30, [])
theorem cosQ {h : Int} (hh : 1 ≤ h ∧ h ≤ 32768) (k : Nat) : -2147483648 ≤ cosI k * h ∧ cosI k * h ≤ 2147483648 :=
  mul_abs (cosI k) h 65536 32768 (cos_bound k) ⟨by omega, hh.2⟩
set_option maxHeartbeats 4000000 in
set_option maxRecDepth 100000 in
theorem disc_walk (c : Pt) (h : Int) (w : World) (HRD : Hid (Rd w)) (HH : Hid (1 ≤ h ∧ h ≤ 32768)) (HC : Hid (mid62 c))
    (HPEN : Hid (∀ w, Calls Tryd.prog 25 #[.int .i64 h] w fun e w' => e = .returned (.bool true) ∧ w = w'))
    (HIA : Hid (∀ w, Calls Tryd.prog 26 #[.agg #[.int .i64 c.1, .int .i64 c.2]] w fun e w' => e = .returned (.bool true) ∧ Below w.heap.size w w')) :
    Calls Tryd.prog 8 #[.agg #[.int .i64 c.1, .int .i64 c.2], .int .i64 h] w (ToldP w (roomOut (discI c h))) := by
  obtain ⟨i0, hi, hz0, hz1, hz2⟩ := info_parts infoP
  have Hi := Lib.hid hi; have Hz0 := Lib.hid hz0; have Hz1 := Lib.hid hz1; have Hz2 := Lib.hid hz2
  clear hi hz0 hz1 hz2
  go_enter Tryd.func8, Tryd.ntmps8
  go_wp2_with fail
  refine (HPEN.out _).mono ?_
  rintro e w' ⟨rfl, rfl⟩
  go_wp2_with fail
  refine (HIA.out _).mono ?_
  rintro e w1 ⟨rfl, hb⟩
  have S1 : Hid (Below w.heap.size w w1 ∧ Rd w1 ∧ Blk w1 w.heap.size 23 (two c) ∧ w.heap.size + 1 ≤ w1.heap.size) := by
    have h0 := ((Below.refl w.heap.size w).alloc (Nat.le_refl _) (.cells #[.int .i64 c.1, .int .i64 c.2] 23)).trans (hb.mono (by simp))
    exact ⟨h0, HRD.out.on h0, (Blk.new w 23 (two c)).grow hb, by have := hb.size; simp at this; omega⟩
  clear hb
  go_wp2_with (at_make; refine wpList_make_own _ rfl _ _ 24 rfl (w.heap.size + 1) 23 i0 (.agg (two (0, 0))) 2 Tryd.underlying24 Hi.out Hz0.out Hz1.out .i64 .i64 16 16 rfl rfl rfl ?b2 ?b3 ?b4 ?_)
  case b2 => rw [Hz2.out]; omega
  case b3 => unfold maxLen; omega
  case b4 => exact S1.out.2.2.2
  intro w3 hown hgr
  have S3 : Hid (Below w.heap.size w w3 ∧ Rd w3 ∧ Blk w3 w.heap.size 23 (two c) ∧ w.heap.size + 1 ≤ w3.heap.size ∧ Own w3 (w.heap.size + 1) 23 (.slice (some ⟨w1.heap.size, 0, none⟩) 0 16) ((discI c h).take 0)) := by
    have h0 : Below w1.heap.size w1 w3 := ⟨hgr.os, hgr.tape, hgr.output, hgr.size, fun k hk => hgr.block k hk (by simp)⟩
    exact ⟨S1.out.1.trans (h0.mono (by have := S1.out.2.2.2; omega)), S1.out.2.1.on h0, S1.out.2.2.1.grow h0, Nat.le_trans S1.out.2.2.2 h0.size, hown⟩
  clear hgr hown S1
  go_wp2_with fail
  go_loopw [6, 17] (fun x i wr => ∃ k : Nat, k ≤ 16 ∧ i = .int .i64 k ∧ Hid (Below w.heap.size w wr ∧ Rd wr ∧ Blk wr w.heap.size 23 (two c) ∧ w.heap.size + 1 ≤ wr.heap.size ∧ Own wr (w.heap.size + 1) 23 x ((discI c h).take k))) (fun _ i _ => 16 - (intOf i).toNat)
  case atStart => exact ⟨0, by omega, rfl, S3.out⟩
  case round =>
    obtain ⟨k, hk, rfl, hw⟩ := hrel
    by_cases hlt : k < 16
    · have hd : decide ((k : Int) < 16) = true := by simp; omega
      have HK16 := Lib.hid hlt
      have hb1 := cosQ HH.out k
      have hb2 := cosQ HH.out (k + 12)
      have HE1 : Hid (IntKind.i64.wrap (cosI k * h) = cosI k * h) := (wrap_is _).trans (wrapR _ (by omega) (by omega))
      have HE2 : Hid (IntKind.i64.wrap (cosI (k + 12) * h) = cosI (k + 12) * h) := (wrap_is _).trans (wrapR _ (by omega) (by omega))
      have HQ1 : Hid (∀ w, Calls Tryd.prog 28 #[.int .i64 (cosI k * h), .int .i64 65536] w fun e w' => e = .returned (.int .i64 (discQ h k).1) ∧ Below w.heap.size w w') := Lib.hid fun w => quotient_c _ _ (by omega) (by omega) (by decide) (by decide) w
      have HQ2 : Hid (∀ w, Calls Tryd.prog 28 #[.int .i64 (cosI (k + 12) * h), .int .i64 65536] w fun e w' => e = .returned (.int .i64 (discQ h k).2) ∧ Below w.heap.size w w') := Lib.hid fun w => quotient_c _ _ (by omega) (by omega) (by decide) (by decide) w
      have HP := Lib.hid (plus_c c (discQ h k) HC.out (by have := disc_bound HH.out k; have := HH.out; unfold mid62; omega))
      rw [show addP c (discQ h k) = discP c h k from rfl] at HP
      clear hb1 hb2 hk hlt
      go_wp2_with fail
      refine wp_region_put2 (by kernel_rfl) (by kernel_rfl) (by kernel_rfl) (fun b' vs w' => (b' 0 = true → vs 0 = u6) ∧ (b' 1 = true → vs 1 = .agg #[.int .i64 c.1, .int .i64 c.2]) ∧ (b' 2 = true → vs 2 = .int .i64 (k : Int)) ∧ (b' 3 = true → vs 3 = .int .i64 (cosI k)) ∧ (b' 4 = true → vs 4 = .int .i64 h) ∧ (b' 5 = true → vs 5 = .int .i64 (cosI k * h)) ∧ (b' 6 = true → vs 6 = .int .i64 (discQ h k).1) ∧ (b' 7 = true → vs 7 = .int .i64 (k : Int)) ∧ (b' 8 = true → vs 8 = .int .i64 (cosI (k + 12))) ∧ (b' 9 = true → vs 9 = .int .i64 h) ∧ (b' 10 = true → vs 10 = .int .i64 (cosI (k + 12) * h)) ∧ (b' 11 = true → vs 11 = .int .i64 (discQ h k).2) ∧ (b' 12 = true → vs 12 = .agg #[.int .i64 (discQ h k).1, .int .i64 (discQ h k).2]) ∧ (b' 13 = true → vs 13 = .agg #[.int .i64 (discP c h k).1, .int .i64 (discP c h k).2]) ∧ (b' 14 = true → b' 15 = false → Hid (Own w' w.heap.size 23 (vs 14) [discP c h k])) ∧ (b' 15 = false → Hid (Below w.heap.size w w' ∧ w.heap.size ≤ w'.heap.size)) ∧ (b' 15 = false → Hid (Rd w' ∧ Blk w' w.heap.size 23 (two c) ∧ w.heap.size + 1 ≤ w'.heap.size ∧ Own w' (w.heap.size + 1) 23 u6 ((discI c h).take k))) ∧ (b' 15 = true → Hid (Below w.heap.size w w' ∧ Rd w' ∧ Blk w' w.heap.size 23 (two c) ∧ w.heap.size + 1 ≤ w'.heap.size ∧ Own w' (w.heap.size + 1) 23 (vs 15) ((discI c h).take (k + 1)))) ∧ (b' 14 = true → b' 13 = true) ∧ (b' 13 = true → b' 1 = true) ∧ (b' 13 = true → b' 12 = true) ∧ (b' 12 = true → b' 6 = true) ∧ (b' 6 = true → b' 5 = true) ∧ (b' 5 = true → b' 3 = true) ∧ (b' 12 = true → b' 11 = true) ∧ (b' 11 = true → b' 10 = true) ∧ (b' 10 = true → b' 8 = true) ∧ (b' 15 = true → b' 0 = true) ∧ (b' 15 = true → b' 1 = true) ∧ (b' 15 = true → b' 3 = true) ∧ (b' 15 = true → b' 6 = true) ∧ (b' 15 = true → b' 8 = true) ∧ (b' 15 = true → b' 11 = true) ∧ (b' 15 = true → b' 13 = true) ∧ (b' 15 = true → b' 14 = true) ∧ (b' 16 = true → b' 15 = true ∧ vs 16 = vs 15) ∧ (b' 16 = false → vs 16 = u6) ∧ (b' 16 = true → b' 0 = true)) ?_ ?_ ?_
      · intro vs hvs
        exact ⟨fun h => Bool.noConfusion h, fun h => Bool.noConfusion h, fun h => Bool.noConfusion h, fun h => Bool.noConfusion h, fun h => Bool.noConfusion h, fun h => Bool.noConfusion h, fun h => Bool.noConfusion h, fun h => Bool.noConfusion h, fun h => Bool.noConfusion h, fun h => Bool.noConfusion h, fun h => Bool.noConfusion h, fun h => Bool.noConfusion h, fun h => Bool.noConfusion h, fun h => Bool.noConfusion h, fun h => Bool.noConfusion h, fun _ => Lib.hid ⟨below_drewN hw.out.1 1, by have := hw.out.1.size; exact this⟩, fun _ => Lib.hid ⟨hw.out.2.1.on ⟨rfl, rfl, rfl, Nat.le_refl _, fun _ _ => rfl⟩, hw.out.2.2.1.grow ⟨rfl, rfl, rfl, Nat.le_refl _, fun _ _ => rfl⟩, hw.out.2.2.2.1, hw.out.2.2.2.2.grow ⟨rfl, rfl, rfl, Nat.le_refl _, fun _ _ => rfl⟩⟩, fun h => Bool.noConfusion h, fun h => Bool.noConfusion h, fun h => Bool.noConfusion h, fun h => Bool.noConfusion h, fun h => Bool.noConfusion h, fun h => Bool.noConfusion h, fun h => Bool.noConfusion h, fun h => Bool.noConfusion h, fun h => Bool.noConfusion h, fun h => Bool.noConfusion h, fun h => Bool.noConfusion h, fun h => Bool.noConfusion h, fun h => Bool.noConfusion h, fun h => Bool.noConfusion h, fun h => Bool.noConfusion h, fun h => Bool.noConfusion h, fun h => Bool.noConfusion h, fun h => Bool.noConfusion h, fun h => Bool.noConfusion h, fun _ => hvs 16 _ _ rfl rfl, fun h => Bool.noConfusion h⟩
      · rintro b' vs w' i op hi hun hall ⟨h0, h1, h2, h3, h4, h5, h6, h7, h8, h9, h10, h11, h12, h13, y14, hB, hF, hG, hE14_13, hE13_1, hE13_12, hE12_6, hE6_5, hE5_3, hE12_11, hE11_10, hE10_8, hW0, hW1, hW3, hW6, hW8, hW11, hW13, hW14, hA, hR, hZ⟩
        have hil : i < 17 := (List.getElem?_eq_some_iff.1 hi).1
        rcases i with _ | _ | _ | _ | _ | _ | _ | _ | _ | _ | _ | _ | _ | _ | _ | _ | _ | i
        · obtain rfl := Option.some.inj hi
          clear hi hil
          have hz : b' 16 = false := by
            cases hzz : b' 16 with
            | false => rfl
            | true => exact absurd (hZ hzz) (by rw [hun]; decide)
          have hx := hR hz
          refine wpOp_step rfl (fun K hK => ?_)
          have HKK := Lib.hid hK; clear hK
          simp only [putAll, Act.put, List.setIfInBounds_toArray, List.set_cons_zero, List.set_cons_succ]
          go_simp
          exact HKK.out _ _ ⟨_, by simp only [putAll, Act.put, List.setIfInBounds_toArray, List.set_cons_zero, List.set_cons_succ, hx] <;> rfl, fun _ => rfl, h1, h2, h3, h4, h5, h6, h7, h8, h9, h10, h11, h12, h13, y14, hB, hF, hG, hE14_13, hE13_1, hE13_12, hE12_6, hE6_5, hE5_3, hE12_11, hE11_10, hE10_8, fun _ => rfl, hW1, hW3, hW6, hW8, hW11, hW13, hW14, hA, hR, fun _ => rfl⟩
        · obtain rfl := Option.some.inj hi
          clear hi hil
          have hap : b' 15 = false := by
            cases hz : b' 15 with
            | false => rfl
            | true => exact absurd (hW1 hz) (by rw [hun]; decide)
          have kk := (hF hap).out.2.1
          have x0 := kk.p0
          have x1 := kk.p1
          clear kk
          refine wpOp_step rfl (fun K hK => ?_)
          have HKK := Lib.hid hK; clear hK
          simp only [putAll, Act.put, List.setIfInBounds_toArray, List.set_cons_zero, List.set_cons_succ]
          go_simp
          exact HKK.out _ _ ⟨_, by simp only [putAll, Act.put, List.setIfInBounds_toArray, List.set_cons_zero, List.set_cons_succ] <;> rfl, h0, fun _ => rfl, h2, h3, h4, h5, h6, h7, h8, h9, h10, h11, h12, h13, y14, hB, hF, hG, hE14_13, fun _ => rfl, hE13_12, hE12_6, hE6_5, hE5_3, hE12_11, hE11_10, hE10_8, hW0, fun _ => rfl, hW3, hW6, hW8, hW11, hW13, hW14, hA, hR, hZ⟩
        · obtain rfl := Option.some.inj hi
          clear hi hil
          refine wpOp_step rfl (fun K hK => ?_)
          have HKK := Lib.hid hK; clear hK
          simp only [putAll, Act.put, List.setIfInBounds_toArray, List.set_cons_zero, List.set_cons_succ]
          go_simp
          exact HKK.out _ _ ⟨_, by simp only [putAll, Act.put, List.setIfInBounds_toArray, List.set_cons_zero, List.set_cons_succ] <;> rfl, h0, h1, fun _ => rfl, h3, h4, h5, h6, h7, h8, h9, h10, h11, h12, h13, y14, hB, hF, hG, hE14_13, hE13_1, hE13_12, hE12_6, hE6_5, hE5_3, hE12_11, hE11_10, hE10_8, hW0, hW1, hW3, hW6, hW8, hW11, hW13, hW14, hA, hR, hZ⟩
        · obtain rfl := Option.some.inj hi
          clear hi hil
          have hap : b' 15 = false := by
            cases hz : b' 15 with
            | false => rfl
            | true => exact absurd (hW3 hz) (by rw [hun]; decide)
          have d2 := h2 (hall ⟨2, .data⟩ (by simp) rfl)
          refine wpOp_step rfl (fun K hK => ?_)
          have HKK := Lib.hid hK; clear hK
          simp only [putAll, Act.put, List.setIfInBounds_toArray, List.set_cons_zero, List.set_cons_succ]
          go_simp
          refine (cosine_c k HK16.out w' (hF hap).out.1).mono ?_
          rintro e w2 ⟨rfl, rfl⟩
          exact HKK.out _ _ ⟨_, by simp only [putAll, Act.put, List.setIfInBounds_toArray, List.set_cons_zero, List.set_cons_succ, d2] <;> rfl, h0, h1, h2, fun _ => rfl, h4, h5, h6, h7, h8, h9, h10, h11, h12, h13, y14, hB, hF, hG, hE14_13, hE13_1, hE13_12, hE12_6, hE6_5, fun _ => rfl, hE12_11, hE11_10, hE10_8, hW0, hW1, fun _ => rfl, hW6, hW8, hW11, hW13, hW14, hA, hR, hZ⟩
        · obtain rfl := Option.some.inj hi
          clear hi hil
          refine wpOp_step rfl (fun K hK => ?_)
          have HKK := Lib.hid hK; clear hK
          simp only [putAll, Act.put, List.setIfInBounds_toArray, List.set_cons_zero, List.set_cons_succ]
          go_simp
          exact HKK.out _ _ ⟨_, by simp only [putAll, Act.put, List.setIfInBounds_toArray, List.set_cons_zero, List.set_cons_succ] <;> rfl, h0, h1, h2, h3, fun _ => rfl, h5, h6, h7, h8, h9, h10, h11, h12, h13, y14, hB, hF, hG, hE14_13, hE13_1, hE13_12, hE12_6, hE6_5, hE5_3, hE12_11, hE11_10, hE10_8, hW0, hW1, hW3, hW6, hW8, hW11, hW13, hW14, hA, hR, hZ⟩
        · obtain rfl := Option.some.inj hi
          clear hi hil
          have d3 := h3 (hall ⟨3, .data⟩ (by simp) rfl)
          have d4 := h4 (hall ⟨4, .data⟩ (by simp) rfl)
          refine wpOp_step rfl (fun K hK => ?_)
          have HKK := Lib.hid hK; clear hK
          simp only [putAll, Act.put, List.setIfInBounds_toArray, List.set_cons_zero, List.set_cons_succ]
          go_simp
          exact HKK.out _ _ ⟨_, by simp only [putAll, Act.put, List.setIfInBounds_toArray, List.set_cons_zero, List.set_cons_succ, d3, d4, HE1.out] <;> rfl, h0, h1, h2, h3, h4, fun _ => rfl, h6, h7, h8, h9, h10, h11, h12, h13, y14, hB, hF, hG, hE14_13, hE13_1, hE13_12, hE12_6, fun _ => rfl, fun _ => hall ⟨3, .data⟩ (by simp) rfl, hE12_11, hE11_10, hE10_8, hW0, hW1, hW3, hW6, hW8, hW11, hW13, hW14, hA, hR, hZ⟩
        · obtain rfl := Option.some.inj hi
          clear hi hil
          have hap : b' 15 = false := by
            cases hz : b' 15 with
            | false => rfl
            | true => exact absurd (hW6 hz) (by rw [hun]; decide)
          have d5 := h5 (hall ⟨5, .data⟩ (by simp) rfl)
          refine wpOp_step rfl (fun K hK => ?_)
          have HKK := Lib.hid hK; clear hK
          simp only [putAll, Act.put, List.setIfInBounds_toArray, List.set_cons_zero, List.set_cons_succ]
          go_simp
          refine (HQ1.out _).mono ?_
          rintro e w2 ⟨rfl, hb2⟩
          exact HKK.out _ _ ⟨_, by simp only [putAll, Act.put, List.setIfInBounds_toArray, List.set_cons_zero, List.set_cons_succ, d5] <;> rfl, h0, h1, h2, h3, h4, h5, fun _ => rfl, h7, h8, h9, h10, h11, h12, h13, fun h ha => Lib.hid (Own.grow (y14 h ha).out hb2), fun ha => Lib.hid ⟨(hB ha).out.1.trans (hb2.mono (hB ha).out.2), Nat.le_trans (hB ha).out.2 hb2.size⟩, fun ha => Lib.hid (⟨(hF ha).out.1.on hb2, (hF ha).out.2.1.grow hb2, Nat.le_trans (hF ha).out.2.2.1 hb2.size, (hF ha).out.2.2.2.grow hb2⟩), fun h => absurd (show b' 15 = true from h) (by rw [hap]; decide), hE14_13, hE13_1, hE13_12, fun _ => rfl, fun _ => hall ⟨5, .data⟩ (by simp) rfl, hE5_3, hE12_11, hE11_10, hE10_8, hW0, hW1, hW3, fun _ => rfl, hW8, hW11, hW13, hW14, hA, hR, hZ⟩
        · obtain rfl := Option.some.inj hi
          clear hi hil
          refine wpOp_step rfl (fun K hK => ?_)
          have HKK := Lib.hid hK; clear hK
          simp only [putAll, Act.put, List.setIfInBounds_toArray, List.set_cons_zero, List.set_cons_succ]
          go_simp
          exact HKK.out _ _ ⟨_, by simp only [putAll, Act.put, List.setIfInBounds_toArray, List.set_cons_zero, List.set_cons_succ] <;> rfl, h0, h1, h2, h3, h4, h5, h6, fun _ => rfl, h8, h9, h10, h11, h12, h13, y14, hB, hF, hG, hE14_13, hE13_1, hE13_12, hE12_6, hE6_5, hE5_3, hE12_11, hE11_10, hE10_8, hW0, hW1, hW3, hW6, hW8, hW11, hW13, hW14, hA, hR, hZ⟩
        · obtain rfl := Option.some.inj hi
          clear hi hil
          have hap : b' 15 = false := by
            cases hz : b' 15 with
            | false => rfl
            | true => exact absurd (hW8 hz) (by rw [hun]; decide)
          have d7 := h7 (hall ⟨7, .data⟩ (by simp) rfl)
          refine wpOp_step rfl (fun K hK => ?_)
          have HKK := Lib.hid hK; clear hK
          simp only [putAll, Act.put, List.setIfInBounds_toArray, List.set_cons_zero, List.set_cons_succ]
          go_simp
          refine (sine_c k HK16.out w' (hF hap).out.1).mono ?_
          rintro e w2 ⟨rfl, rfl⟩
          exact HKK.out _ _ ⟨_, by simp only [putAll, Act.put, List.setIfInBounds_toArray, List.set_cons_zero, List.set_cons_succ, d7] <;> rfl, h0, h1, h2, h3, h4, h5, h6, h7, fun _ => rfl, h9, h10, h11, h12, h13, y14, hB, hF, hG, hE14_13, hE13_1, hE13_12, hE12_6, hE6_5, hE5_3, hE12_11, hE11_10, fun _ => rfl, hW0, hW1, hW3, hW6, fun _ => rfl, hW11, hW13, hW14, hA, hR, hZ⟩
        · obtain rfl := Option.some.inj hi
          clear hi hil
          refine wpOp_step rfl (fun K hK => ?_)
          have HKK := Lib.hid hK; clear hK
          simp only [putAll, Act.put, List.setIfInBounds_toArray, List.set_cons_zero, List.set_cons_succ]
          go_simp
          exact HKK.out _ _ ⟨_, by simp only [putAll, Act.put, List.setIfInBounds_toArray, List.set_cons_zero, List.set_cons_succ] <;> rfl, h0, h1, h2, h3, h4, h5, h6, h7, h8, fun _ => rfl, h10, h11, h12, h13, y14, hB, hF, hG, hE14_13, hE13_1, hE13_12, hE12_6, hE6_5, hE5_3, hE12_11, hE11_10, hE10_8, hW0, hW1, hW3, hW6, hW8, hW11, hW13, hW14, hA, hR, hZ⟩
        · obtain rfl := Option.some.inj hi
          clear hi hil
          have d8 := h8 (hall ⟨8, .data⟩ (by simp) rfl)
          have d9 := h9 (hall ⟨9, .data⟩ (by simp) rfl)
          refine wpOp_step rfl (fun K hK => ?_)
          have HKK := Lib.hid hK; clear hK
          simp only [putAll, Act.put, List.setIfInBounds_toArray, List.set_cons_zero, List.set_cons_succ]
          go_simp
          exact HKK.out _ _ ⟨_, by simp only [putAll, Act.put, List.setIfInBounds_toArray, List.set_cons_zero, List.set_cons_succ, d8, d9, HE2.out] <;> rfl, h0, h1, h2, h3, h4, h5, h6, h7, h8, h9, fun _ => rfl, h11, h12, h13, y14, hB, hF, hG, hE14_13, hE13_1, hE13_12, hE12_6, hE6_5, hE5_3, hE12_11, fun _ => rfl, fun _ => hall ⟨8, .data⟩ (by simp) rfl, hW0, hW1, hW3, hW6, hW8, hW11, hW13, hW14, hA, hR, hZ⟩
        · obtain rfl := Option.some.inj hi
          clear hi hil
          have hap : b' 15 = false := by
            cases hz : b' 15 with
            | false => rfl
            | true => exact absurd (hW11 hz) (by rw [hun]; decide)
          have d10 := h10 (hall ⟨10, .data⟩ (by simp) rfl)
          refine wpOp_step rfl (fun K hK => ?_)
          have HKK := Lib.hid hK; clear hK
          simp only [putAll, Act.put, List.setIfInBounds_toArray, List.set_cons_zero, List.set_cons_succ]
          go_simp
          refine (HQ2.out _).mono ?_
          rintro e w2 ⟨rfl, hb2⟩
          exact HKK.out _ _ ⟨_, by simp only [putAll, Act.put, List.setIfInBounds_toArray, List.set_cons_zero, List.set_cons_succ, d10] <;> rfl, h0, h1, h2, h3, h4, h5, h6, h7, h8, h9, h10, fun _ => rfl, h12, h13, fun h ha => Lib.hid (Own.grow (y14 h ha).out hb2), fun ha => Lib.hid ⟨(hB ha).out.1.trans (hb2.mono (hB ha).out.2), Nat.le_trans (hB ha).out.2 hb2.size⟩, fun ha => Lib.hid (⟨(hF ha).out.1.on hb2, (hF ha).out.2.1.grow hb2, Nat.le_trans (hF ha).out.2.2.1 hb2.size, (hF ha).out.2.2.2.grow hb2⟩), fun h => absurd (show b' 15 = true from h) (by rw [hap]; decide), hE14_13, hE13_1, hE13_12, hE12_6, hE6_5, hE5_3, fun _ => rfl, fun _ => hall ⟨10, .data⟩ (by simp) rfl, hE10_8, hW0, hW1, hW3, hW6, hW8, fun _ => rfl, hW13, hW14, hA, hR, hZ⟩
        · obtain rfl := Option.some.inj hi
          clear hi hil
          have d6 := h6 (hall ⟨6, .data⟩ (by simp) rfl)
          have d11 := h11 (hall ⟨11, .data⟩ (by simp) rfl)
          refine wpOp_step rfl (fun K hK => ?_)
          have HKK := Lib.hid hK; clear hK
          simp only [putAll, Act.put, List.setIfInBounds_toArray, List.set_cons_zero, List.set_cons_succ]
          go_simp
          exact HKK.out _ _ ⟨_, by simp only [putAll, Act.put, List.setIfInBounds_toArray, List.set_cons_zero, List.set_cons_succ, d6, d11] <;> rfl, h0, h1, h2, h3, h4, h5, h6, h7, h8, h9, h10, h11, fun _ => rfl, h13, y14, hB, hF, hG, hE14_13, hE13_1, fun _ => rfl, fun _ => hall ⟨6, .data⟩ (by simp) rfl, hE6_5, hE5_3, fun _ => hall ⟨11, .data⟩ (by simp) rfl, hE11_10, hE10_8, hW0, hW1, hW3, hW6, hW8, hW11, hW13, hW14, hA, hR, hZ⟩
        · obtain rfl := Option.some.inj hi
          clear hi hil
          have hap : b' 15 = false := by
            cases hz : b' 15 with
            | false => rfl
            | true => exact absurd (hW13 hz) (by rw [hun]; decide)
          have d1 := h1 (hall ⟨1, .data⟩ (by simp) rfl)
          have d12 := h12 (hall ⟨12, .data⟩ (by simp) rfl)
          refine wpOp_step rfl (fun K hK => ?_)
          have HKK := Lib.hid hK; clear hK
          simp only [putAll, Act.put, List.setIfInBounds_toArray, List.set_cons_zero, List.set_cons_succ]
          go_simp
          refine (HP.out _).mono ?_
          rintro e w2 ⟨rfl, hb2⟩
          exact HKK.out _ _ ⟨_, by simp only [putAll, Act.put, List.setIfInBounds_toArray, List.set_cons_zero, List.set_cons_succ, d1, d12] <;> rfl, h0, h1, h2, h3, h4, h5, h6, h7, h8, h9, h10, h11, h12, fun _ => rfl, fun h ha => Lib.hid (Own.grow (y14 h ha).out hb2), fun ha => Lib.hid ⟨(hB ha).out.1.trans (hb2.mono (hB ha).out.2), Nat.le_trans (hB ha).out.2 hb2.size⟩, fun ha => Lib.hid (⟨(hF ha).out.1.on hb2, (hF ha).out.2.1.grow hb2, Nat.le_trans (hF ha).out.2.2.1 hb2.size, (hF ha).out.2.2.2.grow hb2⟩), fun h => absurd (show b' 15 = true from h) (by rw [hap]; decide), fun _ => rfl, fun _ => hall ⟨1, .data⟩ (by simp) rfl, fun _ => hall ⟨12, .data⟩ (by simp) rfl, hE12_6, hE6_5, hE5_3, hE12_11, hE11_10, hE10_8, hW0, hW1, hW3, hW6, hW8, hW11, fun _ => rfl, hW14, hA, hR, hZ⟩
        · obtain rfl := Option.some.inj hi
          clear hi hil
          have hap : b' 15 = false := by
            cases hz : b' 15 with
            | false => rfl
            | true => exact absurd (hW14 hz) (by rw [hun]; decide)
          have d13 := h13 (hall ⟨13, .data⟩ (by simp) rfl)
          refine wpOp_step rfl (fun K hK => ?_)
          have HKK := Lib.hid hK; clear hK
          simp only [putAll, Act.put, List.setIfInBounds_toArray, List.set_cons_zero, List.set_cons_succ]
          go_simp
          have hb2 : Below w'.heap.size w' (w'.alloc (.cells (flat [discP c h k]) 23)) := (Below.refl _ _).alloc (Nat.le_refl _) _
          exact HKK.out _ _ ⟨_, by simp only [putAll, Act.put, List.setIfInBounds_toArray, List.set_cons_zero, List.set_cons_succ, d13] <;> rfl, h0, h1, h2, h3, h4, h5, h6, h7, h8, h9, h10, h11, h12, h13, fun _ _ => Lib.hid (Own.made w' (hB hap).out.2 23 [discP c h k] _ 1 rfl rfl (by decide)), fun ha => Lib.hid ⟨(hB ha).out.1.trans (hb2.mono (hB ha).out.2), Nat.le_trans (hB ha).out.2 hb2.size⟩, fun ha => Lib.hid (⟨(hF ha).out.1.on hb2, (hF ha).out.2.1.grow hb2, Nat.le_trans (hF ha).out.2.2.1 hb2.size, (hF ha).out.2.2.2.grow hb2⟩), fun h => absurd (show b' 15 = true from h) (by rw [hap]; decide), fun _ => hall ⟨13, .data⟩ (by simp) rfl, hE13_1, hE13_12, hE12_6, hE6_5, hE5_3, hE12_11, hE11_10, hE10_8, hW0, hW1, hW3, hW6, hW8, hW11, hW13, fun _ => rfl, hA, hR, hZ⟩
        · obtain rfl := Option.some.inj hi
          clear hi hil
          have hap : b' 15 = false := hun
          have d0 := h0 (hall ⟨0, .data⟩ (by simp) rfl)
          have o14 := y14 (hall ⟨14, .data⟩ (by simp) rfl) hap
          refine wpOp_step rfl (fun K hK => ?_)
          have HKK := Lib.hid hK; clear hK
          simp only [putAll, Act.put, List.setIfInBounds_toArray, List.set_cons_zero, List.set_cons_succ]
          refine (if_pos rfl).mpr (wp_append_pts _ _ 24 23 rfl Tryd.underlying24 infoP (w.heap.size + 1) _ _ d0 ((hF hap).out.2.2.2) _ _ rfl (o14.out.row) (by have := disc_len c h; simp; omega) ((hF hap).out.2.2.1) ?_)
          intro v' w2 ho2 hg2 hm2
          exact HKK.out _ _ ⟨_, by simp only [putAll, Act.put, List.setIfInBounds_toArray, List.set_cons_zero, List.set_cons_succ, d0] <;> rfl, h0, h1, h2, h3, h4, h5, h6, h7, h8, h9, h10, h11, h12, h13, fun _ h => Bool.noConfusion h, fun h => Bool.noConfusion h, fun h => Bool.noConfusion h, fun _ => Lib.hid (⟨own_below (hF hap).out.2.2.2 hg2 (hB hap).out.1 (by omega) (hB hap).out.2, HRD.out.on (own_below (hF hap).out.2.2.2 hg2 (hB hap).out.1 (by omega) (hB hap).out.2), own_blk (hF hap).out.2.2.2 hg2 (hF hap).out.2.1 (by omega), Nat.le_trans (hF hap).out.2.2.1 hg2.size, by rw [discI_take c h k HK16.out]; exact ho2⟩), hE14_13, hE13_1, hE13_12, hE12_6, hE6_5, hE5_3, hE12_11, hE11_10, hE10_8, fun _ => hall ⟨0, .data⟩ (by simp) rfl, fun _ => hE13_1 (hE14_13 (hall ⟨14, .data⟩ (by simp) rfl)), fun _ => hE5_3 (hE6_5 (hE12_6 (hE13_12 (hE14_13 (hall ⟨14, .data⟩ (by simp) rfl))))), fun _ => hE12_6 (hE13_12 (hE14_13 (hall ⟨14, .data⟩ (by simp) rfl))), fun _ => hE10_8 (hE11_10 (hE12_11 (hE13_12 (hE14_13 (hall ⟨14, .data⟩ (by simp) rfl))))), fun _ => hE12_11 (hE13_12 (hE14_13 (hall ⟨14, .data⟩ (by simp) rfl))), fun _ => hE14_13 (hall ⟨14, .data⟩ (by simp) rfl), fun _ => hall ⟨14, .data⟩ (by simp) rfl, fun hq => absurd (hA hq).1 (by rw [hun]; decide), hR, hZ⟩
        · obtain rfl := Option.some.inj hi
          clear hi hil
          have gB := hG (hall ⟨15, .data⟩ (by simp) rfl)
          refine wpOp_step rfl (fun K hK => ?_)
          have HKK := Lib.hid hK; clear hK
          simp only [putAll, Act.put, List.setIfInBounds_toArray, List.set_cons_zero, List.set_cons_succ]
          go_simp
          exact HKK.out _ _ ⟨_, by simp only [putAll, Act.put, List.setIfInBounds_toArray, List.set_cons_zero, List.set_cons_succ] <;> rfl, h0, h1, h2, h3, h4, h5, h6, h7, h8, h9, h10, h11, h12, h13, y14, hB, hF, hG, hE14_13, hE13_1, hE13_12, hE12_6, hE6_5, hE5_3, hE12_11, hE11_10, hE10_8, hW0, hW1, hW3, hW6, hW8, hW11, hW13, hW14, fun _ => ⟨hall ⟨15, .data⟩ (by simp) rfl, rfl⟩, fun h => Bool.noConfusion h, fun _ => hW0 (hall ⟨15, .data⟩ (by simp) rfl)⟩
        · omega
      · rintro b' vs w2 hall ⟨h0, h1, h2, h3, h4, h5, h6, h7, h8, h9, h10, h11, h12, h13, y14, hB, hF, hG, hE14_13, hE13_1, hE13_12, hE12_6, hE6_5, hE5_3, hE12_11, hE11_10, hE10_8, hW0, hW1, hW3, hW6, hW8, hW11, hW13, hW14, hA, hR, hZ⟩
        have d0 := h0 (hall 0 (by simp))
        have d1 := h1 (hall 1 (by simp))
        have d2 := h2 (hall 2 (by simp))
        have d3 := h3 (hall 3 (by simp))
        have d4 := h4 (hall 4 (by simp))
        have d5 := h5 (hall 5 (by simp))
        have d6 := h6 (hall 6 (by simp))
        have d7 := h7 (hall 7 (by simp))
        have d8 := h8 (hall 8 (by simp))
        have d9 := h9 (hall 9 (by simp))
        have d10 := h10 (hall 10 (by simp))
        have d11 := h11 (hall 11 (by simp))
        have d12 := h12 (hall 12 (by simp))
        have d13 := h13 (hall 13 (by simp))
        have GG := hG (hall 15 (by simp))
        have dA := (hA (hall 16 (by simp))).2
        simp only [putAll, Act.put, List.setIfInBounds_toArray, List.set_cons_zero, List.set_cons_succ, d0, d1, d2, d3, d4, d5, d6, d7, d8, d9, d10, d11, d12, d13, dA]
        clear hall h0 d0 h1 d1 h2 d2 h3 d3 h4 d4 h5 d5 h6 d6 h7 d7 h8 d8 h9 d9 h10 d10 h11 d11 h12 d12 h13 d13 y14 hB hF hG hE14_13 hE13_1 hE13_12 hE12_6 hE6_5 hE5_3 hE12_11 hE11_10 hE10_8 hW0 hW1 hW3 hW6 hW8 hW11 hW13 hW14 hA dA hR hZ
        generalize vs 15 = va at *
        have hk16 := HK16.out
        go_wp2_with fail
        exact ⟨⟨k + 1, by omega, by go_num, GG.out⟩, by simp [intOf]; omega⟩
    · have hd : decide ((k : Int) < 16) = false := by simp; omega
      have hk16 : Hid (k = 16) := by unfold Hid; omega
      have HRM := Lib.hid (fun w (ho : Own w _ _ _ _) (hn : _ ≤ w.heap.size) => inRoom_own (w := w) (n := w.heap.size + 1) (T := 23) (s := u6) (l := discI c h) ho (by have := disc_len c h; omega) hn)
      go_wp2_with fail
      have hfull : (discI c h).take k = discI c h := by rw [hk16.out]; exact List.take_of_length_le (by have := disc_len c h; omega)
      rw [hfull] at hw
      refine (inRoom_own hw.out.2.2.2.2 (by have := disc_len c h; omega) hw.out.2.2.2.1).mono ?_
      rintro e w4 ⟨u, rfl, ho, hb⟩
      have S4 : Hid (Below w.heap.size w w4 ∧ Own w4 (w.heap.size + 1) 23 u (roomOut (discI c h)).2) := ⟨hw.out.1.trans (hb.mono (by have := hw.out.2.2.2.1; omega)), ho⟩
      clear hb ho
      go_wp2_with fail
      go_ret2
      exact ⟨_, rfl, S4.out.2.base (by omega), S4.out.1⟩
theorem disc_pen (c : Pt) (h : Int) (w : World)
    (HPEN : Hid (∀ w, Calls Tryd.prog 25 #[.int .i64 h] w fun e w' => e = .returned (.bool false) ∧ w = w')) :
    Calls Tryd.prog 8 #[.agg #[.int .i64 c.1, .int .i64 c.2], .int .i64 h] w (ToldP w (30, [])) := by
  go_enter Tryd.func8, Tryd.ntmps8
  go_wp2_with fail
  refine (HPEN.out _).mono ?_
  rintro e w' ⟨rfl, rfl⟩
  go_wp2_with fail
  go_ret2
  exact ⟨_, rfl, Own.nil _ _ _, by go_grown⟩
theorem disc_a (c : Pt) (h : Int) (w : World)
    (HPEN : Hid (∀ w, Calls Tryd.prog 25 #[.int .i64 h] w fun e w' => e = .returned (.bool true) ∧ w = w'))
    (HIA : Hid (∀ w, Calls Tryd.prog 26 #[.agg #[.int .i64 c.1, .int .i64 c.2]] w fun e w' => e = .returned (.bool false) ∧ Below w.heap.size w w')) :
    Calls Tryd.prog 8 #[.agg #[.int .i64 c.1, .int .i64 c.2], .int .i64 h] w (ToldP w (30, [])) := by
  go_enter Tryd.func8, Tryd.ntmps8
  go_wp2_with fail
  refine (HPEN.out _).mono ?_
  rintro e w' ⟨rfl, rfl⟩
  go_wp2_with fail
  refine (HIA.out _).mono ?_
  rintro e w1 ⟨rfl, hb⟩
  have B1 : Hid (Below w.heap.size w w1) := ((Below.refl _ _).alloc (Nat.le_refl _) _).trans (hb.mono (by simp))
  clear hb
  go_wp2_with fail
  go_ret2
  exact ⟨_, rfl, Own.nil _ _ _, B1.out⟩
theorem disc_c (c : Pt) (h : Int) (w : World) (hr : Rd w) : Calls Tryd.prog 8 #[.agg #[.int .i64 c.1, .int .i64 c.2], .int .i64 h] w (ToldP w (discOut c h)) := by
  have HPEN := Lib.hid (pen_c h)
  have HIA := Lib.hid (ptIn_c c.1 c.2)
  rw [show (room c.1 && room c.2) = roomP c from rfl] at HIA
  unfold discOut
  cases hp : penB h
  · rw [hp] at HPEN
    exact disc_pen c h w HPEN
  rw [hp] at HPEN
  cases ha : roomP c
  · rw [ha] at HIA
    exact disc_a c h w HPEN HIA
  rw [ha] at HIA
  exact disc_walk c h w hr (penB_iff.1 hp) (mid_of_room ha) HPEN HIA
end Go.Proofs.YtdidbejinfkhbaaDoor
