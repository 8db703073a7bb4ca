/- Layer 9: alike. -/
import Derived.Test.YtclkkdhfdoidfaaDq
namespace Go.Proofs.Ytclkkdhfdoidfaa
open Go.RowKit
set_option maxHeartbeats 1000000 in
set_option maxRecDepth 100000 in
theorem alike_empty (ao bo : Option Addr) (c d : Nat) (w : World) : Calls Try.prog 28 #[.slice ao 0 c, .slice bo 0 d] w fun e w' => e = .returned (.bool true) ∧ Below w.heap.size w w' := by
  go_enter Try.func28, Try.ntmps28
  go_wp2_with fail
  go_loopw [13] (fun i wr => i = .int .i64 0 ∧ Hid (wr = w)) (fun _ _ => 0)
  case atStart => exact ⟨rfl, rfl⟩
  case round =>
    obtain ⟨rfl, hw⟩ := hrel
    go_wp2_with fail
    go_ret
    exact ⟨rfl, by rw [hw.out]; exact Below.refl _ _⟩
set_option maxHeartbeats 4000000 in
set_option maxRecDepth 100000 in
theorem alike_c (a b : Value) (S T : List Sb) (w : World) (ha : SubsR w a S) (hb : SubsR w b T) (hm : S.map Sb.plain = T.map Sb.plain) (hl : ∀ x ∈ S.map Sb.plain, x.1.length ≤ 1000) (hn : S.length ≤ 4096) :
    Calls Try.prog 28 #[a, b] w fun e w' => e = .returned (.bool true) ∧ Below w.heap.size w w' := by
  have hlen : T.length = S.length := by have := congrArg List.length hm; simpa using this.symm
  obtain ⟨a0, ca, rfl⟩ := subs_shape ha.row
  obtain ⟨b0, cb, rfl⟩ := subs_shape hb.row
  by_cases h0 : S.length = 0
  · rw [hlen, h0]; exact alike_empty a0 b0 ca cb w
  obtain ⟨n, hnn⟩ : ∃ n, S.length = n := ⟨_, rfl⟩
  obtain ⟨x0, hx0⟩ : ∃ x, S[0]? = some x := ⟨_, List.getElem?_eq_getElem (by omega)⟩
  obtain ⟨y0, hy0⟩ : ∃ x, T[0]? = some x := ⟨_, List.getElem?_eq_getElem (by omega)⟩
  obtain ⟨ga, _, e1, hga, _⟩ := ha.at hx0
  obtain ⟨gb, _, e2, hgb, _⟩ := hb.at hy0
  obtain rfl : a0 = some ⟨ga, 0, none⟩ := by injection e1
  obtain rfl : b0 = some ⟨gb, 0, none⟩ := by injection e2
  have HK : Hid (∀ k, k < n → ∃ xv yv l, (∀ A, Below w.heap.size w A → A.cell? ⟨ga, k * 2, none⟩ = some xv ∧ A.cell? ⟨gb, k * 2, none⟩ = some yv) ∧ Row w xv l ∧ Row w yv l ∧ l.length ≤ 1000) := fun k hk => by
    obtain ⟨x, hx⟩ : ∃ x, S[k]? = some x := ⟨_, List.getElem?_eq_getElem (by omega)⟩
    obtain ⟨y, hy⟩ : ∃ x, T[k]? = some x := ⟨_, List.getElem?_eq_getElem (by omega)⟩
    have hp : x.plain = y.plain := by
      have h := congrArg (fun l => l[k]?) hm
      simp only [List.getElem?_map, hx, hy] at h
      simpa using h
    have hL : x.L = y.L := congrArg Prod.fst hp
    obtain ⟨g1, c1, e1, _, k1, _⟩ := ha.at hx
    obtain ⟨g2, c2, e2, _, k2, _⟩ := hb.at hy
    obtain rfl : ga = g1 := by injection e1 with e1 _ _; injection e1 with e1; injection e1
    obtain rfl : gb = g2 := by injection e2 with e2 _ _; injection e2 with e2; injection e2
    refine ⟨x.v, y.v, x.L, fun A hA => ⟨(cell_below hA hga).trans k1, (cell_below hA hgb).trans k2⟩, ha.pts (List.mem_of_getElem? hx), ?_, hl _ (List.mem_map.2 ⟨x, List.mem_of_getElem? hx, rfl⟩)⟩
    rw [hL]
    exact hb.pts (List.mem_of_getElem? hy)
  rw [hlen, hnn]
  rw [hnn] at hn h0
  clear ha hb hm hl hlen hnn hx0 hy0 e1 e2 hga hgb
  have en : ((n : Int) == (n : Int)) = true := by simp
  go_enter Try.func28, Try.ntmps28
  go_wp2_with fail
  go_loopw [13] (fun i wr => ∃ k : Nat, k ≤ n ∧ i = .int .i64 k ∧ Hid (Below w.heap.size w wr ∧ w.heap.size ≤ wr.heap.size)) (fun i _ => n - (intOf i).toNat)
  case atStart => exact ⟨0, by omega, rfl, Below.refl _ _, Nat.le_refl _⟩
  case round =>
    obtain ⟨k, hk, rfl, hw⟩ := hrel
    by_cases hlt : k < n
    · have hd : decide ((k : Int) < (n : Int)) = true := by simp; omega
      obtain ⟨xv, yv, l, hc, hx, hy, hl⟩ := HK.out k hlt
      have HCE := Lib.hid hc
      have HRF : Hid (∀ A, Below w.heap.size w A → Calls Try.prog 20 #[yv] A fun e w' => ∃ u, e = .returned u ∧ Own w' A.heap.size 39 u l ∧ Below A.heap.size A w') := fun A hA => refs_c A yv l hl (hy.on hA)
      have HSM : Hid (∀ A u, Below w.heap.size w A → Row A u l → Calls Try.prog 24 #[xv, u] A fun e w' => e = .returned (.bool true) ∧ Below A.heap.size A w') := fun A u hA hu => same_c xv u l A hl (hx.on hA) hu
      clear hc hx hy hl
      go_wp2_with fail
      refine wp_region_put (by kernel_rfl) (by kernel_rfl) (by kernel_rfl) (fun b' vs w' => (b' 0 = true → vs 0 = .slice (some ⟨ga, 0, none⟩) n ca) ∧ (b' 1 = true → vs 1 = .int .i64 (k : Int)) ∧ (b' 2 = true → vs 2 = .pointer (some ⟨ga, k * 2, none⟩)) ∧ (b' 3 = true → vs 3 = .pointer (some ⟨ga, k * 2, none⟩)) ∧ (b' 4 = true → vs 4 = xv) ∧ (b' 5 = true → vs 5 = .slice (some ⟨gb, 0, none⟩) n cb) ∧ (b' 6 = true → vs 6 = .int .i64 (k : Int)) ∧ (b' 7 = true → vs 7 = .pointer (some ⟨gb, k * 2, none⟩)) ∧ (b' 8 = true → vs 8 = .pointer (some ⟨gb, k * 2, none⟩)) ∧ (b' 9 = true → vs 9 = yv) ∧ (b' 11 = true → vs 11 = .bool true) ∧ (b' 12 = true → vs 12 = .bool false) ∧ (b' 10 = true → Hid (Own w' 0 39 (vs 10) l)) ∧ (Hid (Below w.heap.size w w' ∧ w.heap.size ≤ w'.heap.size))) ?_ ?_ ?_
      · intro vs
        exact ⟨fun h => Bool.noConfusion h, fun h => Bool.noConfusion h, fun h => Bool.noConfusion h, fun h => Bool.noConfusion h, fun h => Bool.noConfusion h, fun h => Bool.noConfusion h, fun h => Bool.noConfusion h, fun h => Bool.noConfusion h, fun h => Bool.noConfusion h, fun h => Bool.noConfusion h, fun h => Bool.noConfusion h, fun h => Bool.noConfusion h, fun h => Bool.noConfusion h, Lib.hid ⟨hw.out.1.trans (below_drewN (Below.refl _ _) 1), by have := hw.out.2; exact this⟩⟩
      · rintro b' vs w' i op hi hun hall ⟨h0, h1, h2, h3, h4, h5, h6, h7, h8, h9, h11, h12, y10, hB⟩
        have hil : i < 13 := (List.getElem?_eq_some_iff.1 hi).1
        rcases i with _ | _ | _ | _ | _ | _ | _ | _ | _ | _ | _ | _ | _ | i
        · obtain rfl := Option.some.inj hi
          clear hi hil
          refine wpOp_step rfl (fun K hK => ?_)
          have HKK := Lib.hid hK; clear hK
          simp only [putAll, Act.put, List.setIfInBounds_toArray, List.set_cons_zero, List.set_cons_succ]
          go_simp
          exact HKK.out _ _ ⟨_, by simp only [putAll, Act.put, List.setIfInBounds_toArray, List.set_cons_zero, List.set_cons_succ] <;> rfl, fun _ => rfl, h1, h2, h3, h4, h5, h6, h7, h8, h9, h11, h12, y10, hB⟩
        · obtain rfl := Option.some.inj hi
          clear hi hil
          refine wpOp_step rfl (fun K hK => ?_)
          have HKK := Lib.hid hK; clear hK
          simp only [putAll, Act.put, List.setIfInBounds_toArray, List.set_cons_zero, List.set_cons_succ]
          go_simp
          exact HKK.out _ _ ⟨_, by simp only [putAll, Act.put, List.setIfInBounds_toArray, List.set_cons_zero, List.set_cons_succ] <;> rfl, h0, fun _ => rfl, h2, h3, h4, h5, h6, h7, h8, h9, h11, h12, y10, hB⟩
        · obtain rfl := Option.some.inj hi
          clear hi hil
          have d0 := h0 (hall ⟨0, .data⟩ (by simp) rfl)
          have d1 := h1 (hall ⟨1, .data⟩ (by simp) rfl)
          refine wpOp_step rfl (fun K hK => ?_)
          have HKK := Lib.hid hK; clear hK
          simp only [putAll, Act.put, List.setIfInBounds_toArray, List.set_cons_zero, List.set_cons_succ]
          go_simp
          exact HKK.out _ _ ⟨_, by simp only [putAll, Act.put, List.setIfInBounds_toArray, List.set_cons_zero, List.set_cons_succ, d0, d1] <;> rfl, h0, h1, fun _ => rfl, h3, h4, h5, h6, h7, h8, h9, h11, h12, y10, hB⟩
        · obtain rfl := Option.some.inj hi
          clear hi hil
          have d2 := h2 (hall ⟨2, .data⟩ (by simp) rfl)
          refine wpOp_step rfl (fun K hK => ?_)
          have HKK := Lib.hid hK; clear hK
          simp only [putAll, Act.put, List.setIfInBounds_toArray, List.set_cons_zero, List.set_cons_succ]
          go_simp
          exact HKK.out _ _ ⟨_, by simp only [putAll, Act.put, List.setIfInBounds_toArray, List.set_cons_zero, List.set_cons_succ, d2] <;> rfl, h0, h1, h2, fun _ => rfl, h4, h5, h6, h7, h8, h9, h11, h12, y10, hB⟩
        · obtain rfl := Option.some.inj hi
          clear hi hil
          have d3 := h3 (hall ⟨3, .data⟩ (by simp) rfl)
          have c0 := (HCE.out w' hB.out.1).1
          refine wpOp_step rfl (fun K hK => ?_)
          have HKK := Lib.hid hK; clear hK
          simp only [putAll, Act.put, List.setIfInBounds_toArray, List.set_cons_zero, List.set_cons_succ]
          go_simp
          exact HKK.out _ _ ⟨_, by simp only [putAll, Act.put, List.setIfInBounds_toArray, List.set_cons_zero, List.set_cons_succ, d3] <;> rfl, h0, h1, h2, h3, fun _ => rfl, h5, h6, h7, h8, h9, h11, h12, y10, hB⟩
        · obtain rfl := Option.some.inj hi
          clear hi hil
          refine wpOp_step rfl (fun K hK => ?_)
          have HKK := Lib.hid hK; clear hK
          simp only [putAll, Act.put, List.setIfInBounds_toArray, List.set_cons_zero, List.set_cons_succ]
          go_simp
          exact HKK.out _ _ ⟨_, by simp only [putAll, Act.put, List.setIfInBounds_toArray, List.set_cons_zero, List.set_cons_succ] <;> rfl, h0, h1, h2, h3, h4, fun _ => rfl, h6, h7, h8, h9, h11, h12, y10, hB⟩
        · obtain rfl := Option.some.inj hi
          clear hi hil
          refine wpOp_step rfl (fun K hK => ?_)
          have HKK := Lib.hid hK; clear hK
          simp only [putAll, Act.put, List.setIfInBounds_toArray, List.set_cons_zero, List.set_cons_succ]
          go_simp
          exact HKK.out _ _ ⟨_, by simp only [putAll, Act.put, List.setIfInBounds_toArray, List.set_cons_zero, List.set_cons_succ] <;> rfl, h0, h1, h2, h3, h4, h5, fun _ => rfl, h7, h8, h9, h11, h12, y10, hB⟩
        · obtain rfl := Option.some.inj hi
          clear hi hil
          have d5 := h5 (hall ⟨5, .data⟩ (by simp) rfl)
          have d6 := h6 (hall ⟨6, .data⟩ (by simp) rfl)
          refine wpOp_step rfl (fun K hK => ?_)
          have HKK := Lib.hid hK; clear hK
          simp only [putAll, Act.put, List.setIfInBounds_toArray, List.set_cons_zero, List.set_cons_succ]
          go_simp
          exact HKK.out _ _ ⟨_, by simp only [putAll, Act.put, List.setIfInBounds_toArray, List.set_cons_zero, List.set_cons_succ, d5, d6] <;> rfl, h0, h1, h2, h3, h4, h5, h6, fun _ => rfl, h8, h9, h11, h12, y10, hB⟩
        · obtain rfl := Option.some.inj hi
          clear hi hil
          have d7 := h7 (hall ⟨7, .data⟩ (by simp) rfl)
          refine wpOp_step rfl (fun K hK => ?_)
          have HKK := Lib.hid hK; clear hK
          simp only [putAll, Act.put, List.setIfInBounds_toArray, List.set_cons_zero, List.set_cons_succ]
          go_simp
          exact HKK.out _ _ ⟨_, by simp only [putAll, Act.put, List.setIfInBounds_toArray, List.set_cons_zero, List.set_cons_succ, d7] <;> rfl, h0, h1, h2, h3, h4, h5, h6, h7, fun _ => rfl, h9, h11, h12, y10, hB⟩
        · obtain rfl := Option.some.inj hi
          clear hi hil
          have d8 := h8 (hall ⟨8, .data⟩ (by simp) rfl)
          have c0 := (HCE.out w' hB.out.1).2
          refine wpOp_step rfl (fun K hK => ?_)
          have HKK := Lib.hid hK; clear hK
          simp only [putAll, Act.put, List.setIfInBounds_toArray, List.set_cons_zero, List.set_cons_succ]
          go_simp
          exact HKK.out _ _ ⟨_, by simp only [putAll, Act.put, List.setIfInBounds_toArray, List.set_cons_zero, List.set_cons_succ, d8] <;> rfl, h0, h1, h2, h3, h4, h5, h6, h7, h8, fun _ => rfl, h11, h12, y10, hB⟩
        · obtain rfl := Option.some.inj hi
          clear hi hil
          have d9 := h9 (hall ⟨9, .data⟩ (by simp) rfl)
          refine wpOp_step rfl (fun K hK => ?_)
          have HKK := Lib.hid hK; clear hK
          simp only [putAll, Act.put, List.setIfInBounds_toArray, List.set_cons_zero, List.set_cons_succ]
          go_simp
          refine (HRF.out w' hB.out.1).mono ?_
          rintro e w2 ⟨u, rfl, ho2, hb2⟩
          exact HKK.out _ _ ⟨_, by simp only [putAll, Act.put, List.setIfInBounds_toArray, List.set_cons_zero, List.set_cons_succ, d9] <;> rfl, h0, h1, h2, h3, h4, h5, h6, h7, h8, h9, h11, h12, fun _ => Lib.hid (ho2.base (Nat.zero_le _)), Lib.hid ⟨(hB).out.1.trans (hb2.mono (hB).out.2), Nat.le_trans (hB).out.2 hb2.size⟩⟩
        · obtain rfl := Option.some.inj hi
          clear hi hil
          have d4 := h4 (hall ⟨4, .data⟩ (by simp) rfl)
          have o10 := y10 (hall ⟨10, .data⟩ (by simp) rfl)
          refine wpOp_step rfl (fun K hK => ?_)
          have HKK := Lib.hid hK; clear hK
          simp only [putAll, Act.put, List.setIfInBounds_toArray, List.set_cons_zero, List.set_cons_succ]
          go_simp
          refine (HSM.out w' _ hB.out.1 o10.out.row).mono ?_
          rintro e w2 ⟨rfl, hb2⟩
          exact HKK.out _ _ ⟨_, by simp only [putAll, Act.put, List.setIfInBounds_toArray, List.set_cons_zero, List.set_cons_succ, d4] <;> rfl, h0, h1, h2, h3, h4, h5, h6, h7, h8, h9, fun _ => rfl, h12, fun h => Lib.hid (Own.grow (y10 h).out hb2), Lib.hid ⟨(hB).out.1.trans (hb2.mono (hB).out.2), Nat.le_trans (hB).out.2 hb2.size⟩⟩
        · obtain rfl := Option.some.inj hi
          clear hi hil
          have d11 := h11 (hall ⟨11, .data⟩ (by simp) rfl)
          refine wpOp_step rfl (fun K hK => ?_)
          have HKK := Lib.hid hK; clear hK
          simp only [putAll, Act.put, List.setIfInBounds_toArray, List.set_cons_zero, List.set_cons_succ]
          go_simp
          exact HKK.out _ _ ⟨_, by simp only [putAll, Act.put, List.setIfInBounds_toArray, List.set_cons_zero, List.set_cons_succ, d11] <;> rfl, h0, h1, h2, h3, h4, h5, h6, h7, h8, h9, h11, fun _ => rfl, y10, hB⟩
        · omega
      · rintro b' vs w2 hall ⟨h0, h1, h2, h3, h4, h5, h6, h7, h8, h9, h11, h12, y10, hB⟩
        have d0 := h0 (hall 0 (by simp))
        have d1 := h1 (hall 1 (by simp))
        have d2 := h2 (hall 2 (by simp))
        have d3 := h3 (hall 3 (by simp))
        have d4 := h4 (hall 4 (by simp))
        have d5 := h5 (hall 5 (by simp))
        have d6 := h6 (hall 6 (by simp))
        have d7 := h7 (hall 7 (by simp))
        have d8 := h8 (hall 8 (by simp))
        have d9 := h9 (hall 9 (by simp))
        have d11 := h11 (hall 11 (by simp))
        have d12 := h12 (hall 12 (by simp))
        have o10 := y10 (hall 10 (by simp))
        have BB := hB
        simp only [putAll, Act.put, List.setIfInBounds_toArray, List.set_cons_zero, List.set_cons_succ, d0, d1, d2, d3, d4, d5, d6, d7, d8, d9, d11, d12]
        clear hall h0 d0 h1 d1 h2 d2 h3 d3 h4 d4 h5 d5 h6 d6 h7 d7 h8 d8 h9 d9 h11 d11 h12 d12 y10 hB
        have BF := BB.out.1
        clear BB
        go_wp2_with fail
        exact ⟨⟨k + 1, by omega, by go_num, BF, BF.size⟩, by simp [intOf]; omega⟩
    · have hd : decide ((k : Int) < (n : Int)) = false := by simp; omega
      go_wp2_with fail
      go_ret
      exact ⟨rfl, hw.out.1⟩
end Go.Proofs.Ytclkkdhfdoidfaa
