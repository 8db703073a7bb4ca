/- Layer 11: the law ImageBytes, over bytes whose length is within their room. -/
import Derived.Test.YtoppmlfibllhlaaKb
import Derived.BigQuiet
namespace Go.Proofs.Ytoppmlfibllhlaa
open Go.RowKit
def BytesOkC : Prop := ∀ (W H : Int) (s : Value) (l : List Col) (w : World), RowK .u8 w s l → (∀ c ∈ l, OkC c) → l.length ≤ 400 → Calls Try.prog 25 #[.agg #[.int .i64 W, .int .i64 H, s]] w fun e w' =>
  ∃ v, e = .returned (.tuple #[v, .int .i64 (errIm (rightIm W H l))]) ∧ RowB w' v (if rightIm W H l then bytesI W H l else []) ∧ Hid (CapS v) ∧ Below w.heap.size w w'
def ParseOkC : Prop := ∀ (s : Value) (E : List Int) (w : World), RowB w s E → Hid (CapS s) → OkB E → E.length ≤ 2100 → Calls Try.prog 27 #[s] w fun e w' =>
  (∃ W H l, IsIm W H l E ∧ ToldIm w W H l 0 e w') ∨ ((¬ ∃ W H l, IsIm W H l E) ∧ ToldIm w 0 0 [] 20 e w')
set_option maxHeartbeats 4000000 in
set_option maxRecDepth 100000 in
theorem imageBytes_yR (AW : AwakeOk) (BY : BytesOkC) (PA : ParseOkC) (EQ : EqualOk) (W H : Int) (s : Value) (l : List Col) (w : World) (row : RowK .u8 w s l) (hok : ∀ c ∈ l, OkC c) (h : l.length ≤ 400) (hr : rightIm W H l = true) : Calls Try.prog 6 #[.agg #[.int .i64 W, .int .i64 H, s]] w fun e w' => e = .returned (.bool true) ∧ Below w.heap.size w w' := by
  have HAW := Lib.hid AW
  have HBY : Hid (∀ A, Below w.heap.size w A → Calls Try.prog 25 #[.agg #[.int .i64 W, .int .i64 H, s]] A fun e w' => ∃ v, e = .returned (.tuple #[v, .int .i64 0]) ∧ RowB w' v (bytesI W H l) ∧ Hid (CapS v) ∧ Below A.heap.size A w') := fun A hA => by
    have h2 := BY W H s l A (row.on hA) hok h
    rw [hr] at h2
    exact h2
  have HRF : Hid (∀ A, Below w.heap.size w A → Calls Try.prog 11 #[.agg #[.int .i64 W, .int .i64 H, s]] A fun e w' => ∃ u, e = .returned (.agg #[.int .i64 W, .int .i64 H, u]) ∧ OwnK .i64 w' A.heap.size 43 u l ∧ Below A.heap.size A w') := fun A hA => lawRef_c W H _ l A (row.on hA) hok (by omega)
  have HRT : Hid (∀ A u, RowK .i64 A u l → Calls Try.prog 13 #[.agg #[.int .i64 W, .int .i64 H, u]] A fun e w' => e = .returned (.bool true) ∧ Below A.heap.size A w') := fun A u hu => by
    have h2 := ref11Right_c W H u l A hu
    rw [hr] at h2
    exact h2
  obtain ⟨q1, q2, q3, q4', q5, _⟩ := rightIm_iff.1 hr
  have HBR : Hid (∀ A u, RowK .i64 A u l → Calls Try.prog 26 #[.agg #[.int .i64 W, .int .i64 H, u]] A fun e w' => ∃ v, e = .returned v ∧ OwnB w' A.heap.size v (bytesI W H l) ∧ Below A.heap.size A w') := fun A u hu => ref11Bytes_c W H u l A hu hok ⟨q1, q2⟩ ⟨q3, q4'⟩ (by omega) (by have := bytesI_len W H l; omega)
  have HOE : Hid (OkB (bytesI W H l)) := bytesI_ok ⟨q1, q2⟩ ⟨q3, q4'⟩ hok
  have HPA : Hid (∀ A v, RowB A v (bytesI W H l) → Hid (CapS v) → Calls Try.prog 27 #[v] A fun e w' => ∃ l2, rightIm W H l2 = true ∧ (∀ c ∈ l2, OkC c) ∧ l2.length = l.length ∧ l.map q4 = l2.map q4 ∧ ToldIm A W H l2 0 e w') := fun A v hv hcs => by
    refine (PA v _ A hv hcs HOE.out (by have := bytesI_len W H l; omega)).mono ?_
    rintro e w' (⟨W2, H2, l2, ⟨h1, h2, h3⟩, ht⟩ | ⟨hno, _⟩)
    · obtain ⟨e1, e2, e3⟩ := bytesI_inj h3
      subst e1 e2
      exact ⟨l2, h1, h2, by have := congrArg List.length e3; simpa using this, e3.symm, ht⟩
    · exact absurd ⟨W, H, l, hr, hok, rfl⟩ hno
  have HEQ : Hid (∀ A v l2, Below w.heap.size w A → RowK .u8 A v l2 → rightIm W H l2 = true → (∀ c ∈ l2, OkC c) → l2.length = l.length → l.map q4 = l2.map q4 → Calls Try.prog 28 #[.agg #[.int .i64 W, .int .i64 H, v], .agg #[.int .i64 W, .int .i64 H, s]] A fun e w' => e = .returned (.bool true) ∧ Below A.heap.size A w') := fun A v l2 hA hv h1 h2 h3 h4 => by
    have h5 := EQ W H W H v s l2 l A hv (row.on hA) h2 hok (by omega) (by omega) h1 hr
    rw [show sameIm W H l2 W H l = true by unfold sameIm; simp [h4]] at h5
    exact h5
  generalize bytesI W H l = E at *
  obtain ⟨ao, cp, rfl⟩ := row.shape
  obtain ⟨n, hn⟩ : ∃ n, l.length = n := ⟨_, rfl⟩
  have HSM := Lib.hid (small_c W H ao n cp)
  rw [decide_eq_true (by omega)] at HSM
  have HN := Lib.hid hn
  rw [hn] at HBY HRF HPA HEQ ⊢
  clear row hok h hr hn q1 q2 q3 q4' q5
  go_enter Try.func6, Try.ntmps6
  go_wp2_with fail
  refine (HSM.out _).mono ?_
  rintro e w1 ⟨rfl, hb⟩
  have HK : Hid (∀ A, Below w1.heap.size w1 A → Below w.heap.size w A ∧ Blk A w.heap.size 24 #[.int .i64 W, .int .i64 H, .slice ao n cp]) := fun A hA => by
    have h1 : Below w.heap.size w w1 := ((Below.refl _ _).alloc (Nat.le_refl _) _).trans (hb.mono (by simp))
    exact ⟨h1.trans (hA.mono h1.size), ((Blk.new _ _ _).grow hb).grow hA⟩
  clear hb
  have p0 := (HK.out w1 (Below.refl _ _)).2.cell 0
  have p1 := (HK.out w1 (Below.refl _ _)).2.cell 1
  have p2 := (HK.out w1 (Below.refl _ _)).2.cell 2
  simp only [List.getElem?_toArray, List.getElem?_cons_zero, List.getElem?_cons_succ] at p0 p1 p2
  go_wp2_with fail
  refine (HBY.out _ (HK.out _ (Below.refl _ _)).1).mono ?_
  rintro e w2 ⟨v, rfl, hv, HCP, hb⟩
  have B2 := Lib.hid hb
  obtain ⟨va, vc, e0⟩ := hv.shape
  obtain ⟨ne, hne⟩ : ∃ m, E.length = m := ⟨_, rfl⟩
  rw [hne] at e0
  subst e0
  have HV := Lib.hid hv
  clear hv hne
  clear hb p0 p1 p2
  have p0 := (HK.out w2 B2.out).2.cell 0
  have p1 := (HK.out w2 B2.out).2.cell 1
  have p2 := (HK.out w2 B2.out).2.cell 2
  simp only [List.getElem?_toArray, List.getElem?_cons_zero, List.getElem?_cons_succ] at p0 p1 p2
  go_wp2_with fail
  refine (HRF.out _ (HK.out w2 B2.out).1).mono ?_
  rintro e w3 ⟨u, rfl, hu, hb⟩
  have B3 : Hid (Below w1.heap.size w1 w3) := B2.out.trans (hb.mono B2.out.size)
  have HU := Lib.hid hu.row
  have HB23 := Lib.hid hb
  clear hb hu p0 p1 p2
  go_wp2_with fail
  refine (HRT.out _ _ HU.out).mono ?_
  rintro e w4 ⟨rfl, hb⟩
  have B4 : Hid (Below w1.heap.size w1 w4) := B3.out.trans (hb.mono B3.out.size)
  have HB24 : Hid (Below w2.heap.size w2 w4) := HB23.out.trans (hb.mono HB23.out.size)
  clear hb HU
  have HK4 : Hid (∀ A, Below w4.heap.size w4 A → Below w.heap.size w A ∧ RowB A (.slice va ne vc) E ∧ Blk A w.heap.size 24 #[.int .i64 W, .int .i64 H, .slice ao n cp]) := fun A hA => by
    have h1 := HK.out A (B4.out.trans (hA.mono B4.out.size))
    exact ⟨h1.1, (HV.out.on (HB24.out)).on hA, h1.2⟩
  clear HV B2 B3 B4 HK
  go_upto_region 6 with fail
  refine wp_region_put3 (by kernel_rfl) (by kernel_rfl) (by kernel_rfl) (fun b' vs w' => (b' 0 = true → vs 0 = .int .i64 0) ∧ (b' 1 = true → vs 1 = .bool false) ∧ (b' 2 = true → vs 2 = .bool false) ∧ (b' 3 = true → vs 3 = .slice va ne vc) ∧ (b' 4 = true → vs 4 = .string (strI E)) ∧ (b' 5 = true → vs 5 = .agg #[.int .i64 W, .int .i64 H, .slice ao n cp]) ∧ (b' 8 = true → vs 8 = .string (strI E)) ∧ (b' 9 = true → vs 9 = .bool false) ∧ (b' 10 = true → vs 10 = .bool false) ∧ (b' 6 = true → Hid (∃ u, (vs 6) = .agg #[.int .i64 W, .int .i64 H, u] ∧ RowK .i64 w' u l)) ∧ (b' 7 = true → Hid (RowB w' (vs 7) E)) ∧ (Hid (Below w4.heap.size w4 w' ∧ w4.heap.size ≤ w'.heap.size))) ?_ ?_ ?_
  · intro vs
    exact ⟨fun h => Bool.noConfusion h, fun h => Bool.noConfusion h, fun h => Bool.noConfusion h, fun h => Bool.noConfusion h, fun h => Bool.noConfusion h, fun h => Bool.noConfusion h, fun h => Bool.noConfusion h, fun h => Bool.noConfusion h, fun h => Bool.noConfusion h, fun h => Bool.noConfusion h, fun h => Bool.noConfusion h, Lib.hid ⟨below_drewN (Below.refl _ _) 1, Nat.le_refl _⟩⟩
  · rintro b' vs w' i op hi hun hall ⟨h0, h1, h2, h3, h4, h5, h8, h9, h10, y6, y7, hB⟩
    have hil : i < 11 := (List.getElem?_eq_some_iff.1 hi).1
    rcases i with _ | _ | _ | _ | _ | _ | _ | _ | _ | _ | _ | i
    · obtain rfl := Option.some.inj hi
      clear hi hil
      refine StepOk.plain rfl (fun K hK => ?_)
      have HKK := Lib.hid hK; clear hK
      simp only [putAll, Act.put, List.setIfInBounds_toArray, List.set_cons_zero, List.set_cons_succ]
      go_simp
      exact HKK.out _ _ ⟨_, by simp only [putAll, Act.put, List.setIfInBounds_toArray, List.set_cons_zero, List.set_cons_succ] <;> rfl, fun _ => rfl, h1, h2, h3, h4, h5, h8, h9, h10, y6, y7, hB⟩
    · obtain rfl := Option.some.inj hi
      clear hi hil
      have d0 := h0 (hall ⟨0, .data⟩ (by simp) rfl)
      refine StepOk.plain rfl (fun K hK => ?_)
      have HKK := Lib.hid hK; clear hK
      simp only [putAll, Act.put, List.setIfInBounds_toArray, List.set_cons_zero, List.set_cons_succ]
      go_simp
      exact HKK.out _ _ ⟨_, by simp only [putAll, Act.put, List.setIfInBounds_toArray, List.set_cons_zero, List.set_cons_succ, d0] <;> rfl, h0, fun _ => rfl, h2, h3, h4, h5, h8, h9, h10, y6, y7, hB⟩
    · obtain rfl := Option.some.inj hi
      clear hi hil
      have d1 := h1 (hall ⟨1, .data⟩ (by simp) rfl)
      refine StepOk.plain rfl (fun K hK => ?_)
      have HKK := Lib.hid hK; clear hK
      simp only [putAll, Act.put, List.setIfInBounds_toArray, List.set_cons_zero, List.set_cons_succ]
      go_simp
      exact HKK.out _ _ ⟨_, by simp only [putAll, Act.put, List.setIfInBounds_toArray, List.set_cons_zero, List.set_cons_succ, d1] <;> rfl, h0, h1, fun _ => rfl, h3, h4, h5, h8, h9, h10, y6, y7, hB⟩
    · obtain rfl := Option.some.inj hi
      clear hi hil
      have d2 := h2 (hall ⟨2, .guard⟩ (by simp) rfl)
      refine StepOk.on 2 false rfl rfl d2 (fun K hK => ?_)
      have HKK := Lib.hid hK; clear hK
      simp only [putAll, Act.put, List.setIfInBounds_toArray, List.set_cons_zero, List.set_cons_succ]
      go_simp
      exact HKK.out _ _ ⟨_, by simp only [putAll, Act.put, List.setIfInBounds_toArray, List.set_cons_zero, List.set_cons_succ, d2] <;> rfl, h0, h1, h2, fun _ => rfl, h4, h5, h8, h9, h10, y6, y7, hB⟩
    · obtain rfl := Option.some.inj hi
      clear hi hil
      have d3 := h3 (hall ⟨3, .data⟩ (by simp) rfl)
      have d2 := h2 (hall ⟨2, .guard⟩ (by simp) rfl)
      have cv := conv_b (HK4.out w' hB.out.1).2.1 HOE.out
      refine StepOk.on 2 false rfl rfl d2 (fun K hK => ?_)
      have HKK := Lib.hid hK; clear hK
      simp only [putAll, Act.put, List.setIfInBounds_toArray, List.set_cons_zero, List.set_cons_succ]
      go_simp
      exact HKK.out _ _ ⟨_, by simp only [putAll, Act.put, List.setIfInBounds_toArray, List.set_cons_zero, List.set_cons_succ, d3, d2] <;> rfl, h0, h1, h2, h3, fun _ => rfl, h5, h8, h9, h10, y6, y7, hB⟩
    · obtain rfl := Option.some.inj hi
      clear hi hil
      have d2 := h2 (hall ⟨2, .guard⟩ (by simp) rfl)
      have p0 := (HK4.out w' hB.out.1).2.2.cell 0
      have p1 := (HK4.out w' hB.out.1).2.2.cell 1
      have p2 := (HK4.out w' hB.out.1).2.2.cell 2
      simp only [List.getElem?_toArray, List.getElem?_cons_zero, List.getElem?_cons_succ] at p0 p1 p2
      refine StepOk.on 2 false rfl rfl d2 (fun K hK => ?_)
      have HKK := Lib.hid hK; clear hK
      simp only [putAll, Act.put, List.setIfInBounds_toArray, List.set_cons_zero, List.set_cons_succ]
      go_simp
      exact HKK.out _ _ ⟨_, by simp only [putAll, Act.put, List.setIfInBounds_toArray, List.set_cons_zero, List.set_cons_succ, d2] <;> rfl, h0, h1, h2, h3, h4, fun _ => rfl, h8, h9, h10, y6, y7, hB⟩
    · obtain rfl := Option.some.inj hi
      clear hi hil
      have d5 := h5 (hall ⟨5, .data⟩ (by simp) rfl)
      have d2 := h2 (hall ⟨2, .guard⟩ (by simp) rfl)
      refine StepOk.on 2 false rfl rfl d2 (fun K hK => ?_)
      have HKK := Lib.hid hK; clear hK
      simp only [putAll, Act.put, List.setIfInBounds_toArray, List.set_cons_zero, List.set_cons_succ]
      go_simp
      refine (HRF.out w' (HK4.out w' hB.out.1).1).mono ?_
      rintro e w2 ⟨u2, rfl, ho2, hb2⟩
      exact HKK.out _ _ ⟨_, by simp only [putAll, Act.put, List.setIfInBounds_toArray, List.set_cons_zero, List.set_cons_succ, d5, d2] <;> rfl, h0, h1, h2, h3, h4, h5, h8, h9, h10, fun _ => Lib.hid (⟨_, rfl, ho2.row⟩), fun h => Lib.hid ((y7 h).out.on hb2), Lib.hid ⟨(hB).out.1.trans (hb2.mono (hB).out.2), Nat.le_trans (hB).out.2 hb2.size⟩⟩
    · obtain rfl := Option.some.inj hi
      clear hi hil
      have o6 := y6 (hall ⟨6, .data⟩ (by simp) rfl)
      have d2 := h2 (hall ⟨2, .guard⟩ (by simp) rfl)
      obtain ⟨u1, e1, hr1⟩ := o6.out
      refine StepOk.on 2 false rfl rfl d2 (fun K hK => ?_)
      have HKK := Lib.hid hK; clear hK
      simp only [putAll, Act.put, List.setIfInBounds_toArray, List.set_cons_zero, List.set_cons_succ]
      go_simp
      refine (HBR.out w' _ hr1).mono ?_
      rintro e w2 ⟨u2, rfl, ho2, hb2⟩
      exact HKK.out _ _ ⟨_, by simp only [putAll, Act.put, List.setIfInBounds_toArray, List.set_cons_zero, List.set_cons_succ, d2, e1] <;> rfl, h0, h1, h2, h3, h4, h5, h8, h9, h10, fun h => Lib.hid (let ⟨u1, h1, h2⟩ := (y6 h).out; ⟨u1, h1, h2.on hb2⟩), fun _ => Lib.hid (ho2.row), Lib.hid ⟨(hB).out.1.trans (hb2.mono (hB).out.2), Nat.le_trans (hB).out.2 hb2.size⟩⟩
    · obtain rfl := Option.some.inj hi
      clear hi hil
      have o7 := y7 (hall ⟨7, .data⟩ (by simp) rfl)
      have d2 := h2 (hall ⟨2, .guard⟩ (by simp) rfl)
      have cv := conv_b o7.out HOE.out
      refine StepOk.on 2 false rfl rfl d2 (fun K hK => ?_)
      have HKK := Lib.hid hK; clear hK
      simp only [putAll, Act.put, List.setIfInBounds_toArray, List.set_cons_zero, List.set_cons_succ]
      go_simp
      exact HKK.out _ _ ⟨_, by simp only [putAll, Act.put, List.setIfInBounds_toArray, List.set_cons_zero, List.set_cons_succ, d2] <;> rfl, h0, h1, h2, h3, h4, h5, fun _ => rfl, h9, h10, y6, y7, hB⟩
    · obtain rfl := Option.some.inj hi
      clear hi hil
      have d4 := h4 (hall ⟨4, .data⟩ (by simp) rfl)
      have d8 := h8 (hall ⟨8, .data⟩ (by simp) rfl)
      have d2 := h2 (hall ⟨2, .guard⟩ (by simp) rfl)
      refine StepOk.on 2 false rfl rfl d2 (fun K hK => ?_)
      have HKK := Lib.hid hK; clear hK
      simp only [putAll, Act.put, List.setIfInBounds_toArray, List.set_cons_zero, List.set_cons_succ]
      go_simp
      exact HKK.out _ _ ⟨_, by simp only [putAll, Act.put, List.setIfInBounds_toArray, List.set_cons_zero, List.set_cons_succ, d4, d8, d2] <;> rfl, h0, h1, h2, h3, h4, h5, h8, fun _ => rfl, h10, y6, y7, hB⟩
    · obtain rfl := Option.some.inj hi
      clear hi hil
      have d2 := h2 (hall ⟨2, .data⟩ (by simp) rfl)
      have d9 := h9 (hall ⟨9, .data⟩ (by simp) rfl)
      refine StepOk.plain rfl (fun K hK => ?_)
      have HKK := Lib.hid hK; clear hK
      simp only [putAll, Act.put, List.setIfInBounds_toArray, List.set_cons_zero, List.set_cons_succ]
      go_simp
      exact HKK.out _ _ ⟨_, by simp only [putAll, Act.put, List.setIfInBounds_toArray, List.set_cons_zero, List.set_cons_succ, d2, d9] <;> rfl, h0, h1, h2, h3, h4, h5, h8, h9, fun _ => rfl, y6, y7, hB⟩
    · omega
  · rintro b' vs wz hall ⟨h0, h1, h2, h3, h4, h5, h8, h9, h10, y6, y7, hB⟩
    have d0 := h0 (hall 0 (by simp))
    have d1 := h1 (hall 1 (by simp))
    have d2 := h2 (hall 2 (by simp))
    have d3 := h3 (hall 3 (by simp))
    have d4 := h4 (hall 4 (by simp))
    have d5 := h5 (hall 5 (by simp))
    have d8 := h8 (hall 8 (by simp))
    have d9 := h9 (hall 9 (by simp))
    have d10 := h10 (hall 10 (by simp))
    have o6 := y6 (hall 6 (by simp))
    have o7 := y7 (hall 7 (by simp))
    have BB := hB
    simp only [putAll, Act.put, List.setIfInBounds_toArray, List.set_cons_zero, List.set_cons_succ, d0, d1, d2, d3, d4, d5, d8, d9, d10]
    clear hall h0 d0 h1 d1 h2 d2 h3 d3 h4 d4 h5 d5 h8 d8 h9 d9 h10 d10 y6 y7 hB
    have HK5 : Hid (∀ A, Below wz.heap.size wz A → Below w.heap.size w A ∧ RowB A (.slice va ne vc) E ∧ Blk A w.heap.size 24 #[.int .i64 W, .int .i64 H, .slice ao n cp]) := fun A hA => HK4.out A (BB.out.1.trans (hA.mono BB.out.1.size))
    clear BB HK4
    go_wp2_with fail
    refine (HPA.out _ _ (HK5.out wz (Below.refl _ _)).2.1 HCP).mono ?_
    rintro e w6 ⟨l2, h1, h2, h3, h4, x, rfl, hx, hb⟩
    have HK6 : Hid (∀ A, Below w6.heap.size w6 A → Below w.heap.size w A ∧ Blk A w.heap.size 24 #[.int .i64 W, .int .i64 H, .slice ao n cp]) := fun A hA => by
      have h := HK5.out A (hb.trans (hA.mono hb.size))
      exact ⟨h.1, h.2.2⟩
    have HQ : Hid (∀ A, Below w6.heap.size w6 A → Calls Try.prog 28 #[.agg #[.int .i64 W, .int .i64 H, x], .agg #[.int .i64 W, .int .i64 H, .slice ao n cp]] A fun e w' => e = .returned (.bool true) ∧ Below A.heap.size A w') := fun A hA => HEQ.out A x l2 (HK6.out A hA).1 (hx.on hA) h1 h2 h3 h4
    obtain ⟨xa, xc, rfl⟩ := hx.shape
    rw [h3] at HQ ⊢
    clear hb hx h1 h2 h3 h4 HK5 HPA HEQ
    go_upto_region 9 with fail
    obtain ⟨w7, hw⟩ : ∃ WW, w6.alloc (.cells #[.int .i64 W, .int .i64 H, .slice xa n xc] 24) = WW := ⟨_, rfl⟩
    have HK7 : Hid (∀ A, Below w7.heap.size w7 A → Below w6.heap.size w6 A ∧ Below w.heap.size w A ∧ Blk A w.heap.size 24 #[.int .i64 W, .int .i64 H, .slice ao n cp] ∧ Blk A w6.heap.size 24 #[.int .i64 W, .int .i64 H, .slice xa n xc]) := fun A hA => by
      rw [← hw] at hA
      have h1 : Below w6.heap.size w6 A := ((Below.refl _ _).alloc (Nat.le_refl _) _).trans (hA.mono (by simp))
      exact ⟨h1, (HK6.out A h1).1, (HK6.out A h1).2, (Blk.new _ _ _).grow hA⟩
    rw [hw]
    clear hw HK6
    generalize w6.heap.size = g6 at *
    have p0 := (HK7.out w7 (Below.refl _ _)).2.2.1.cell 0
    have p1 := (HK7.out w7 (Below.refl _ _)).2.2.1.cell 1
    have p2 := (HK7.out w7 (Below.refl _ _)).2.2.1.cell 2
    have r0 := (HK7.out w7 (Below.refl _ _)).2.2.2.cell 0
    have r1 := (HK7.out w7 (Below.refl _ _)).2.2.2.cell 1
    have r2 := (HK7.out w7 (Below.refl _ _)).2.2.2.cell 2
    simp only [List.getElem?_toArray, List.getElem?_cons_zero, List.getElem?_cons_succ] at p0 p1 p2 r0 r1 r2
    go_wp2_with fail
    refine (HQ.out w7 (HK7.out w7 (Below.refl _ _)).1).mono ?_
    rintro e w8 ⟨rfl, hb⟩
    have B8 := Lib.hid hb
    clear hb p0 p1 p2 r0 r1 r2
    go_wp2_with fail
    refine (HAW.out _).mono ?_
    rintro e w9 ⟨rfl, hb⟩
    have B9 : Hid (Below w.heap.size w w9) := (HK7.out w9 (B8.out.trans (hb.mono B8.out.size))).2.1
    clear hb
    go_wp2_with fail
    go_ret
    exact ⟨rfl, B9.out⟩
theorem imageBytes_lawR (AW : AwakeOk) (BY : BytesOkC) (PA : ParseOkC) (EQ : EqualOk) (W H : Int) (s : Value) (l : List Col) (w : World) (row : RowK .u8 w s l) (hok : ∀ c ∈ l, OkC c) : Calls Try.prog 6 #[.agg #[.int .i64 W, .int .i64 H, s]] w fun e w' => e = .returned (.bool true) ∧ Below w.heap.size w w' := by
  by_cases h : 400 < l.length
  · exact imageBytes_big AW W H s l w row h
  · cases hr : rightIm W H l with
    | false => exact imageBytes_n AW (fun W H s l w r o h => (BY W H s l w r o h).mono fun _ _ ⟨v, h1, h2, _, h4⟩ => ⟨v, h1, h2, h4⟩) W H s l w row hok (by omega) hr
    | true => exact imageBytes_yR AW BY PA EQ W H s l w row hok (by omega) hr
end Go.Proofs.Ytoppmlfibllhlaa

