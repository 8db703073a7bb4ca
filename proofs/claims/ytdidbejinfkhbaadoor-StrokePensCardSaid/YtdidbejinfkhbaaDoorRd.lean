/- Layer 7: the document's Stroke, of an open subpath. -/
import Derived.Test.YtdidbejinfkhbaaDoorRc
namespace Go.Proofs.YtdidbejinfkhbaaDoor
open Go.RowKit
set_option maxHeartbeats 40000000 in
set_option maxRecDepth 100000 in
theorem ropen_0 (ao : Option Addr) (n cc : Nat) (h : Int) (w : World) (c : List Pt) (m : Nat) (HM : Hid (c.length = m)) (hm2 : 2 ≤ m) (hm3 : m ≤ 40) (nl : Bool)
    (HPL : Hid (Calls Tryd.prog 42 #[.slice ao n cc, .bool false] w fun e w' => ∃ v, e = .returned v ∧ Own w' w.heap.size 32 v c ∧ Below w.heap.size w w'))
    (HLONG : Hid (∀ k, k < m - 1 → ∀ w, Calls Tryd.prog 43 #[.agg #[.int .i64 (c.getD k (0, 0)).1, .int .i64 (c.getD k (0, 0)).2], .agg #[.int .i64 (c.getD ((k + 1) % c.length) (0, 0)).1, .int .i64 (c.getD ((k + 1) % c.length) (0, 0)).2]] w fun e w' => e = .returned (.bool (!lenB (subP (c.getD ((k + 1) % c.length) (0, 0)) (c.getD k (0, 0))))) ∧ Below w.heap.size w w'))
    (HBAR : Hid (∀ k, k < m - 1 → lenB (subP (c.getD ((k + 1) % c.length) (0, 0)) (c.getD k (0, 0))) = true → ∀ w, Calls Tryd.prog 44 #[.agg #[.int .i64 (c.getD k (0, 0)).1, .int .i64 (c.getD k (0, 0)).2], .agg #[.int .i64 (c.getD ((k + 1) % c.length) (0, 0)).1, .int .i64 (c.getD ((k + 1) % c.length) (0, 0)).2], .int .i64 h] w fun e w' => ∃ v, e = .returned v ∧ Own w' w.heap.size 32 v (barI (c.getD k (0, 0)) (c.getD ((k + 1) % c.length) (0, 0)) h) ∧ Below w.heap.size w w'))
    (HDISC : Hid (∀ k, k < m → ∀ w, Calls Tryd.prog 11 #[.agg #[.int .i64 (c.getD k (0, 0)).1, .int .i64 (c.getD k (0, 0)).2], .int .i64 h] w fun e w' => ∃ v, e = .returned v ∧ Own w' w.heap.size 32 v (discI (c.getD k (0, 0)) h) ∧ Below w.heap.size w w'))
    (HNL : Hid (∀ k, k < m - 1 → lenB (subP (c.getD ((k + 1) % c.length) (0, 0)) (c.getD k (0, 0))) = false → nl = false))
    (HNL2 : Hid ((∀ k, k < m - 1 → lenB (subP (c.getD ((k + 1) % c.length) (0, 0)) (c.getD k (0, 0))) = true) → nl = true)) 
    (HSH : Hid (∀ L ∈ (barsR c h (m - 1) ++ discsO c h m), L.length ≤ 100000)) (HINN : Hid (∀ s L w', Row w' s L → L.length ≤ 100000 → Calls Tryd.prog 13 #[s] w' fun e w'' => e = .returned (.bool (L.all roomP)) ∧ Below w'.heap.size w' w'')) :
    Calls Tryd.prog 18 #[.slice ao n cc, .bool false, .int .i64 h, .int .i64 0] w (RPost w (nl && roomL (barsR c h (m - 1) ++ discsO c h m)) (barsR c h (m - 1) ++ discsO c h m)) := by
  go_enter Tryd.func18, Tryd.ntmps18
  go_wp2_with fail
  refine HPL.out.mono ?_
  rintro e w1 ⟨v1, rfl, ho1, hb1⟩
  obtain ⟨b, cp, rfl⟩ : ∃ b cp, v1 = .slice (some ⟨b, 0, none⟩) m cp := by
    rcases own_some ho1 with ⟨_, e⟩ | ⟨g, cp, e⟩
    · have := HM.out; rw [e] at this; simp at this; omega
    · rw [HM.out] at e; exact ⟨g, cp, e⟩
  have M1 : Hid (RefM w w1 b m cp c (.slice none 0 0) []) := ⟨hb1, ho1, [], Polys.nil _ _ _ _, rfl⟩
  clear ho1 hb1
  have hn1 : ((m : Int) == 1) = false := by simp; omega
  have hn2 : decide ((m : Int) = 1) = false := by simp; omega
  have hn3 : decide (m = 1) = false := by simp; omega
  have hn4 : decide ((m : Int) > 1) = true := by simp; omega
  have hn5 : decide (1 < (m : Int)) = true := by simp; omega
  have hn6 : decide (1 < m) = true := by simp; omega
  go_wp2_with fail
  go_loopw [10, 13] (fun s10 s13 wr => ∃ k : Nat, k ≤ m - 1 ∧ s13 = .int .i64 k ∧ Hid (RefM w wr b m cp c s10 (barsR c h k) ∧ ∀ j, j < k → lenB (subP (c.getD ((j + 1) % c.length) (0, 0)) (c.getD j (0, 0))) = true)) (fun _ s13 _ => m - (intOf s13).toNat)
  case atStart => exact ⟨0, by omega, rfl, M1.out, fun j hj => by omega⟩
  case round =>
    obtain ⟨k, hk, rfl, hw⟩ := hrel
    have hlt : k < m := by omega
    by_cases hlk : k < m - 1
    · have e1 : ((k : Int) == (m : Int) - 1) = false := by simp; omega
      have e2 : decide ((k : Int) = (m : Int) - 1) = false := by simp; omega
      have hd : decide ((k : Int) < (m : Int)) = true := by simp; omega
      have hd2 : decide (k < m) = true := by simp; omega
      obtain ⟨p, hp⟩ : ∃ p, c[k]? = some p := ⟨_, List.getElem?_eq_getElem (by rw [HM.out]; exact hlt)⟩
      obtain ⟨nx, hnx⟩ : ∃ nx, (k + 1) % m = nx := ⟨_, rfl⟩
      have hnxm : nx < m := by rw [← hnx]; exact Nat.mod_lt _ (by omega)
      obtain ⟨q, hq⟩ : ∃ q, c[nx]? = some q := ⟨_, List.getElem?_eq_getElem (by rw [HM.out]; exact hnxm)⟩
      have HP := Lib.hid hp
      have ep : c.getD k (0, 0) = p := by rw [List.getD_eq_getElem?_getD, hp]; rfl
      have eq' : c.getD ((k + 1) % c.length) (0, 0) = q := by rw [HM.out, hnx, List.getD_eq_getElem?_getD, hq]; rfl
      have HLGk := Lib.hid (HLONG.out k hlk)
      have HBARk := Lib.hid (HBAR.out k hlk)
      have HNLk := Lib.hid (HNL.out k hlk)
      have HEX : Hid (barsR c h (k + 1) = barsR c h k ++ [barI p q h]) := by unfold Hid; rw [barsR, ep, eq']
      rw [ep, eq'] at HLGk HBARk HNLk
      have HKK2 : Hid (lenB (subP q p) = true → ∀ j, j < k + 1 → lenB (subP (c.getD ((j + 1) % c.length) (0, 0)) (c.getD j (0, 0))) = true) := fun hl j hj => by
        by_cases e : j = k
        · subst e; rw [ep, eq']; exact hl
        · exact hw.out.2 j (by omega)
      have M2 := Lib.hid hw.out.1
      obtain ⟨ua, uc, hu⟩ := M2.out.shape
      obtain ⟨un, hun⟩ : ∃ un, (barsR c h k).length = un := ⟨_, rfl⟩
      rw [hun] at hu
      subst hu
      have HLL : Hid ((barsR c h k).length + [((.int .i64 0 : Value), barI p q h)].length ≤ 100000) := by unfold Hid; rw [barsR_len]; simp; omega
      generalize barsR c h k = L at M2 HEX HLL hun
      obtain ⟨c0, c1⟩ := M2.out.row.pts HM.out hq
      have hmk : (m : Int) ≠ 0 := by omega
      have htm : ((k : Int) + 1).tmod (m : Int) = (nx : Int) := by
        rw [Int.tmod_eq_emod_of_nonneg (by omega), ← hnx]
        rfl
      have HNX := Lib.hid hnx
      clear hp hq ep eq' hw hun hnx
      obtain ⟨w3, rfl⟩ : ∃ x, x = wr := ⟨_, rfl⟩
      go_wp2_with fail
      obtain ⟨g14, hg14⟩ : ∃ g, w3.heap.size = g := ⟨_, rfl⟩
      obtain ⟨w4, hw4⟩ : ∃ W, w3.alloc (.cells #[.int .i64 q.1, .int .i64 q.2] 32) = W := ⟨_, rfl⟩
      have F4 : Hid (RefM w w4 b m cp c (.slice ua un uc) L ∧ Blk w4 g14 32 (two q)) := by
        rw [← hw4]
        exact ⟨M2.out.grow ((Below.refl _ _).alloc (Nat.le_refl _) _), Blk.newAt _ _ _ hg14⟩
      rw [hw4, hg14]
      clear hw4 hg14 c0 c1 htm hmk
      obtain ⟨lq, hlq⟩ : ∃ lq, lenB (subP q p) = lq := ⟨_, rfl⟩
      rw [hlq] at HLGk HBARk HNLk HKK2
      obtain ⟨lg, hlg⟩ : ∃ lg, (!lq) = lg := ⟨_, rfl⟩
      have HLG := HLGk
      rw [hlg] at HLG
      have HLGE := Lib.hid hlg
      clear hlq hlg
      refine wp_region_put (by kernel_rfl) (by kernel_rfl) (by kernel_rfl) (fun b' vs w' => (b' 0 = true → vs 0 = .slice (some ⟨b, 0, none⟩) m cp) ∧ (b' 1 = true → vs 1 = .int .i64 (k : Int)) ∧ (b' 2 = true → vs 2 = .pointer (some ⟨b, k * 2, none⟩)) ∧ (b' 3 = true → vs 3 = .agg #[.int .i64 p.1, .int .i64 p.2]) ∧ (b' 4 = true → vs 4 = .agg #[.int .i64 q.1, .int .i64 q.2]) ∧ (b' 5 = true → vs 5 = .bool lg) ∧ (Hid (Below w4.heap.size w4 w' ∧ w4.heap.size ≤ w'.heap.size)) ∧ (Hid (RefM w w' b m cp c (.slice ua un uc) L ∧ Blk w' g14 32 (two q)))) ?_ ?_ ?_
      · intro vs
        exact ⟨fun h => Bool.noConfusion h, fun h => Bool.noConfusion h, fun h => Bool.noConfusion h, fun h => Bool.noConfusion h, fun h => Bool.noConfusion h, fun h => Bool.noConfusion h, Lib.hid ⟨below_drewN (Below.refl _ _) 1, Nat.le_refl _⟩, Lib.hid ⟨F4.out.1.grow ⟨rfl, rfl, rfl, Nat.le_refl _, fun _ _ => rfl⟩, F4.out.2.grow ⟨rfl, rfl, rfl, Nat.le_refl _, fun _ _ => rfl⟩⟩⟩
      · rintro b' vs w' i op hi hun hall ⟨h0, h1, h2, h3, h4, h5, hB, hF⟩
        have hil : i < 6 := (List.getElem?_eq_some_iff.1 hi).1
        rcases i with _ | _ | _ | _ | _ | _ | i
        · obtain rfl := Option.some.inj hi
          clear hi hil
          refine wpOp_step rfl (fun K hK => ?_)
          have HKK := Lib.hid hK; clear hK
          simp only [putAll, Act.put, List.setIfInBounds_toArray, List.set_cons_zero, List.set_cons_succ]
          go_simp
          exact HKK.out _ _ ⟨_, by simp only [putAll, Act.put, List.setIfInBounds_toArray, List.set_cons_zero, List.set_cons_succ] <;> rfl, fun _ => rfl, h1, h2, h3, h4, h5, hB, hF⟩
        · obtain rfl := Option.some.inj hi
          clear hi hil
          refine wpOp_step rfl (fun K hK => ?_)
          have HKK := Lib.hid hK; clear hK
          simp only [putAll, Act.put, List.setIfInBounds_toArray, List.set_cons_zero, List.set_cons_succ]
          go_simp
          exact HKK.out _ _ ⟨_, by simp only [putAll, Act.put, List.setIfInBounds_toArray, List.set_cons_zero, List.set_cons_succ] <;> rfl, h0, fun _ => rfl, h2, h3, h4, h5, hB, hF⟩
        · obtain rfl := Option.some.inj hi
          clear hi hil
          have d0 := h0 (hall ⟨0, .data⟩ (by simp) rfl)
          have d1 := h1 (hall ⟨1, .data⟩ (by simp) rfl)
          have hkm1 : k < m := hlt
          refine wpOp_step rfl (fun K hK => ?_)
          have HKK := Lib.hid hK; clear hK
          simp only [putAll, Act.put, List.setIfInBounds_toArray, List.set_cons_zero, List.set_cons_succ]
          go_simp
          exact HKK.out _ _ ⟨_, by simp only [putAll, Act.put, List.setIfInBounds_toArray, List.set_cons_zero, List.set_cons_succ, d0, d1] <;> rfl, h0, h1, fun _ => rfl, h3, h4, h5, hB, hF⟩
        · obtain rfl := Option.some.inj hi
          clear hi hil
          have d2 := h2 (hall ⟨2, .data⟩ (by simp) rfl)
          obtain ⟨x0, x1⟩ := hF.out.1.row.pts HM.out HP.out
          refine wpOp_step rfl (fun K hK => ?_)
          have HKK := Lib.hid hK; clear hK
          simp only [putAll, Act.put, List.setIfInBounds_toArray, List.set_cons_zero, List.set_cons_succ]
          go_simp
          exact HKK.out _ _ ⟨_, by simp only [putAll, Act.put, List.setIfInBounds_toArray, List.set_cons_zero, List.set_cons_succ, d2] <;> rfl, h0, h1, h2, fun _ => rfl, h4, h5, hB, hF⟩
        · obtain rfl := Option.some.inj hi
          clear hi hil
          have kq := hF.out.2
          have x0 := kq.p0
          have x1 := kq.p1
          clear kq
          refine wpOp_step rfl (fun K hK => ?_)
          have HKK := Lib.hid hK; clear hK
          simp only [putAll, Act.put, List.setIfInBounds_toArray, List.set_cons_zero, List.set_cons_succ]
          go_simp
          exact HKK.out _ _ ⟨_, by simp only [putAll, Act.put, List.setIfInBounds_toArray, List.set_cons_zero, List.set_cons_succ] <;> rfl, h0, h1, h2, h3, fun _ => rfl, h5, hB, hF⟩
        · obtain rfl := Option.some.inj hi
          clear hi hil
          have d3 := h3 (hall ⟨3, .data⟩ (by simp) rfl)
          have d4 := h4 (hall ⟨4, .data⟩ (by simp) rfl)
          refine wpOp_step rfl (fun K hK => ?_)
          have HKK := Lib.hid hK; clear hK
          simp only [putAll, Act.put, List.setIfInBounds_toArray, List.set_cons_zero, List.set_cons_succ]
          go_simp
          refine (HLG.out w').mono ?_
          rintro e w2 ⟨rfl, hb2⟩
          exact HKK.out _ _ ⟨_, by simp only [putAll, Act.put, List.setIfInBounds_toArray, List.set_cons_zero, List.set_cons_succ, d3, d4] <;> rfl, h0, h1, h2, h3, h4, fun _ => rfl, Lib.hid ⟨(hB).out.1.trans (hb2.mono (hB).out.2), Nat.le_trans (hB).out.2 hb2.size⟩, Lib.hid (⟨(hF).out.1.grow hb2, (hF).out.2.grow hb2⟩)⟩
        · omega
      · rintro b' vs w2 hall ⟨h0, h1, h2, h3, h4, h5, hB, hF⟩
        have d0 := h0 (hall 0 (by simp))
        have d1 := h1 (hall 1 (by simp))
        have d2 := h2 (hall 2 (by simp))
        have d3 := h3 (hall 3 (by simp))
        have d4 := h4 (hall 4 (by simp))
        have d5 := h5 (hall 5 (by simp))
        have BB := hB
        have FF := hF
        simp only [putAll, Act.put, List.setIfInBounds_toArray, List.set_cons_zero, List.set_cons_succ, d0, d1, d2, d3, d4, d5]
        clear hall h0 d0 h1 d1 h2 d2 h3 d3 h4 d4 h5 d5 hB hF
        have M5 := Lib.hid FF.out
        obtain ⟨w5, rfl⟩ : ∃ x, x = w2 := ⟨_, rfl⟩
        clear FF BB
        cases lg
        · have hlt1 : lq = true := by have := HLGE.out; cases lq <;> simp_all
          have HRB := Lib.hid (HBARk.out hlt1)
          have HKK3 := Lib.hid (HKK2.out hlt1)
          have F5 := M5
          have HW5 : Hid (w.heap.size ≤ w5.heap.size) := F5.out.1.below.size
          clear hlt1
          go_wp2_with fail
          refine wp_region_put2 (by kernel_rfl) (by kernel_rfl) (by kernel_rfl) (fun b' vs w' => (b' 0 = true → vs 0 = .slice ua un uc) ∧ (b' 1 = true → vs 1 = .slice (some ⟨b, 0, none⟩) m cp) ∧ (b' 2 = true → vs 2 = .int .i64 (k : Int)) ∧ (b' 3 = true → vs 3 = .pointer (some ⟨b, k * 2, none⟩)) ∧ (b' 4 = true → vs 4 = .agg #[.int .i64 p.1, .int .i64 p.2]) ∧ (b' 5 = true → vs 5 = .agg #[.int .i64 q.1, .int .i64 q.2]) ∧ (b' 6 = true → vs 6 = .int .i64 h) ∧ (b' 7 = true → b' 9 = false → Hid (Own w' w.heap.size 32 (vs 7) (barI p q h))) ∧ (b' 8 = true → b' 9 = false → Hid (∃ gl x0, (vs 8) = .slice (some ⟨gl, 0, none⟩) 1 1 ∧ Blk w' gl 30 #[x0] ∧ Own w' w.heap.size 32 x0 (barI p q h))) ∧ (b' 9 = false → Hid (Below w5.heap.size w5 w' ∧ w5.heap.size ≤ w'.heap.size)) ∧ (b' 9 = false → Hid (RefM w w' b m cp c (.slice ua un uc) L ∧ Blk w' g14 32 (two q))) ∧ (b' 9 = true → Hid (RefM w w' b m cp c (vs 9) (L ++ [barI p q h]))) ∧ (b' 8 = true → b' 7 = true) ∧ (b' 7 = true → b' 4 = true) ∧ (b' 7 = true → b' 5 = true) ∧ (b' 9 = true → b' 0 = true) ∧ (b' 9 = true → b' 4 = true) ∧ (b' 9 = true → b' 5 = true) ∧ (b' 9 = true → b' 7 = true) ∧ (b' 9 = true → b' 8 = true) ∧ (b' 10 = true → b' 9 = true ∧ vs 10 = vs 9) ∧ (b' 10 = false → vs 10 = .slice ua un uc) ∧ (b' 10 = true → b' 0 = true)) ?_ ?_ ?_
          · intro vs hvs
            exact ⟨fun h => Bool.noConfusion h, fun h => Bool.noConfusion h, fun h => Bool.noConfusion h, fun h => Bool.noConfusion h, fun h => Bool.noConfusion h, fun h => Bool.noConfusion h, fun h => Bool.noConfusion h, fun h => Bool.noConfusion h, fun h => Bool.noConfusion h, fun _ => Lib.hid ⟨below_drewN (Below.refl _ _) 1, Nat.le_refl _⟩, fun _ => Lib.hid ⟨F5.out.1.grow ⟨rfl, rfl, rfl, Nat.le_refl _, fun _ _ => rfl⟩, F5.out.2.grow ⟨rfl, rfl, rfl, Nat.le_refl _, fun _ _ => rfl⟩⟩, fun h => Bool.noConfusion h, fun h => Bool.noConfusion h, fun h => Bool.noConfusion h, fun h => Bool.noConfusion h, fun h => Bool.noConfusion h, fun h => Bool.noConfusion h, fun h => Bool.noConfusion h, fun h => Bool.noConfusion h, fun h => Bool.noConfusion h, fun h => Bool.noConfusion h, fun _ => hvs 10 _ _ rfl rfl, fun h => Bool.noConfusion h⟩
          · rintro b' vs w' i op hi hun hall ⟨h0, h1, h2, h3, h4, h5, h6, y7, y8, hB, hF, hG, hE8_7, hE7_4, hE7_5, hW0, hW4, hW5, hW7, hW8, hA, hR, hZ⟩
            have hil : i < 11 := (List.getElem?_eq_some_iff.1 hi).1
            rcases i with _ | _ | _ | _ | _ | _ | _ | _ | _ | _ | _ | i
            · obtain rfl := Option.some.inj hi
              clear hi hil
              have hz : b' 10 = false := by
                cases hzz : b' 10 with
                | false => rfl
                | true => exact absurd (hZ hzz) (by rw [hun]; decide)
              have hx := hR hz
              refine wpOp_step rfl (fun K hK => ?_)
              have HKK := Lib.hid hK; clear hK
              simp only [putAll, Act.put, List.setIfInBounds_toArray, List.set_cons_zero, List.set_cons_succ]
              go_simp
              exact HKK.out _ _ ⟨_, by simp only [putAll, Act.put, List.setIfInBounds_toArray, List.set_cons_zero, List.set_cons_succ, hx] <;> rfl, fun _ => rfl, h1, h2, h3, h4, h5, h6, y7, y8, hB, hF, hG, hE8_7, hE7_4, hE7_5, fun _ => rfl, hW4, hW5, hW7, hW8, hA, hR, fun _ => rfl⟩
            · obtain rfl := Option.some.inj hi
              clear hi hil
              refine wpOp_step rfl (fun K hK => ?_)
              have HKK := Lib.hid hK; clear hK
              simp only [putAll, Act.put, List.setIfInBounds_toArray, List.set_cons_zero, List.set_cons_succ]
              go_simp
              exact HKK.out _ _ ⟨_, by simp only [putAll, Act.put, List.setIfInBounds_toArray, List.set_cons_zero, List.set_cons_succ] <;> rfl, h0, fun _ => rfl, h2, h3, h4, h5, h6, y7, y8, hB, hF, hG, hE8_7, hE7_4, hE7_5, hW0, hW4, hW5, hW7, hW8, hA, hR, hZ⟩
            · obtain rfl := Option.some.inj hi
              clear hi hil
              refine wpOp_step rfl (fun K hK => ?_)
              have HKK := Lib.hid hK; clear hK
              simp only [putAll, Act.put, List.setIfInBounds_toArray, List.set_cons_zero, List.set_cons_succ]
              go_simp
              exact HKK.out _ _ ⟨_, by simp only [putAll, Act.put, List.setIfInBounds_toArray, List.set_cons_zero, List.set_cons_succ] <;> rfl, h0, h1, fun _ => rfl, h3, h4, h5, h6, y7, y8, hB, hF, hG, hE8_7, hE7_4, hE7_5, hW0, hW4, hW5, hW7, hW8, hA, hR, hZ⟩
            · obtain rfl := Option.some.inj hi
              clear hi hil
              have d1 := h1 (hall ⟨1, .data⟩ (by simp) rfl)
              have d2 := h2 (hall ⟨2, .data⟩ (by simp) rfl)
              have hkm1 : k < m := hlt
              refine wpOp_step rfl (fun K hK => ?_)
              have HKK := Lib.hid hK; clear hK
              simp only [putAll, Act.put, List.setIfInBounds_toArray, List.set_cons_zero, List.set_cons_succ]
              go_simp
              exact HKK.out _ _ ⟨_, by simp only [putAll, Act.put, List.setIfInBounds_toArray, List.set_cons_zero, List.set_cons_succ, d1, d2] <;> rfl, h0, h1, h2, fun _ => rfl, h4, h5, h6, y7, y8, hB, hF, hG, hE8_7, hE7_4, hE7_5, hW0, hW4, hW5, hW7, hW8, hA, hR, hZ⟩
            · obtain rfl := Option.some.inj hi
              clear hi hil
              have hap : b' 9 = false := by
                cases hz : b' 9 with
                | false => rfl
                | true => exact absurd (hW4 hz) (by rw [hun]; decide)
              have d3 := h3 (hall ⟨3, .data⟩ (by simp) rfl)
              obtain ⟨x0, x1⟩ := (hF hap).out.1.row.pts HM.out HP.out
              refine wpOp_step rfl (fun K hK => ?_)
              have HKK := Lib.hid hK; clear hK
              simp only [putAll, Act.put, List.setIfInBounds_toArray, List.set_cons_zero, List.set_cons_succ]
              go_simp
              exact HKK.out _ _ ⟨_, by simp only [putAll, Act.put, List.setIfInBounds_toArray, List.set_cons_zero, List.set_cons_succ, d3] <;> rfl, h0, h1, h2, h3, fun _ => rfl, h5, h6, y7, y8, hB, hF, hG, hE8_7, fun _ => rfl, hE7_5, hW0, fun _ => rfl, hW5, hW7, hW8, hA, hR, hZ⟩
            · obtain rfl := Option.some.inj hi
              clear hi hil
              have hap : b' 9 = false := by
                cases hz : b' 9 with
                | false => rfl
                | true => exact absurd (hW5 hz) (by rw [hun]; decide)
              have kq := (hF hap).out.2
              have x0 := kq.p0
              have x1 := kq.p1
              clear kq
              refine wpOp_step rfl (fun K hK => ?_)
              have HKK := Lib.hid hK; clear hK
              simp only [putAll, Act.put, List.setIfInBounds_toArray, List.set_cons_zero, List.set_cons_succ]
              go_simp
              exact HKK.out _ _ ⟨_, by simp only [putAll, Act.put, List.setIfInBounds_toArray, List.set_cons_zero, List.set_cons_succ] <;> rfl, h0, h1, h2, h3, h4, fun _ => rfl, h6, y7, y8, hB, hF, hG, hE8_7, hE7_4, fun _ => rfl, hW0, hW4, fun _ => rfl, hW7, hW8, hA, hR, hZ⟩
            · obtain rfl := Option.some.inj hi
              clear hi hil
              refine wpOp_step rfl (fun K hK => ?_)
              have HKK := Lib.hid hK; clear hK
              simp only [putAll, Act.put, List.setIfInBounds_toArray, List.set_cons_zero, List.set_cons_succ]
              go_simp
              exact HKK.out _ _ ⟨_, by simp only [putAll, Act.put, List.setIfInBounds_toArray, List.set_cons_zero, List.set_cons_succ] <;> rfl, h0, h1, h2, h3, h4, h5, fun _ => rfl, y7, y8, hB, hF, hG, hE8_7, hE7_4, hE7_5, hW0, hW4, hW5, hW7, hW8, hA, hR, hZ⟩
            · obtain rfl := Option.some.inj hi
              clear hi hil
              have hap : b' 9 = false := by
                cases hz : b' 9 with
                | false => rfl
                | true => exact absurd (hW7 hz) (by rw [hun]; decide)
              have d4 := h4 (hall ⟨4, .data⟩ (by simp) rfl)
              have d5 := h5 (hall ⟨5, .data⟩ (by simp) rfl)
              have d6 := h6 (hall ⟨6, .data⟩ (by simp) rfl)
              refine wpOp_step rfl (fun K hK => ?_)
              have HKK := Lib.hid hK; clear hK
              simp only [putAll, Act.put, List.setIfInBounds_toArray, List.set_cons_zero, List.set_cons_succ]
              go_simp
              refine (HRB.out w').mono ?_
              rintro e w2 ⟨v2, rfl, ho2, hb2⟩
              exact HKK.out _ _ ⟨_, by simp only [putAll, Act.put, List.setIfInBounds_toArray, List.set_cons_zero, List.set_cons_succ, d4, d5, d6] <;> rfl, h0, h1, h2, h3, h4, h5, h6, fun _ _ => Lib.hid (ho2.base (Nat.le_trans HW5.out (hB hap).out.2)), fun h ha => Lib.hid (grow_lit1 (y8 h ha).out hb2), fun ha => Lib.hid ⟨(hB ha).out.1.trans (hb2.mono (hB ha).out.2), Nat.le_trans (hB ha).out.2 hb2.size⟩, fun ha => Lib.hid (⟨(hF ha).out.1.grow hb2, (hF ha).out.2.grow hb2⟩), fun h => absurd (show b' 9 = true from h) (by rw [hap]; decide), fun _ => rfl, fun _ => hall ⟨4, .data⟩ (by simp) rfl, fun _ => hall ⟨5, .data⟩ (by simp) rfl, hW0, hW4, hW5, fun _ => rfl, hW8, hA, hR, hZ⟩
            · obtain rfl := Option.some.inj hi
              clear hi hil
              have hap : b' 9 = false := by
                cases hz : b' 9 with
                | false => rfl
                | true => exact absurd (hW8 hz) (by rw [hun]; decide)
              have o7 := y7 (hall ⟨7, .data⟩ (by simp) rfl) hap
              obtain ⟨sa0, sn0, sc0, es0⟩ := own_shape' o7.out
              have ow0 := Lib.hid (es0 ▸ o7.out)
              refine wpOp_step rfl (fun K hK => ?_)
              have HKK := Lib.hid hK; clear hK
              simp only [putAll, Act.put, List.setIfInBounds_toArray, List.set_cons_zero, List.set_cons_succ]
              go_simp
              have hb2 : Below w'.heap.size w' (w'.alloc (.cells #[.slice sa0 sn0 sc0] 30)) := (Below.refl _ _).alloc (Nat.le_refl _) _
              exact HKK.out _ _ ⟨_, by simp only [putAll, Act.put, List.setIfInBounds_toArray, List.set_cons_zero, List.set_cons_succ, es0] <;> rfl, h0, h1, h2, h3, h4, h5, h6, fun h ha => Lib.hid (Own.grow (y7 h ha).out hb2), fun _ _ => Lib.hid (⟨_, _, rfl, Blk.new _ _ _, ow0.out.grow ((Below.refl _ _).alloc (Nat.le_refl _) _)⟩), fun ha => Lib.hid ⟨(hB ha).out.1.trans (hb2.mono (hB ha).out.2), Nat.le_trans (hB ha).out.2 hb2.size⟩, fun ha => Lib.hid (⟨(hF ha).out.1.grow hb2, (hF ha).out.2.grow hb2⟩), fun h => absurd (show b' 9 = true from h) (by rw [hap]; decide), fun _ => hall ⟨7, .data⟩ (by simp) rfl, hE7_4, hE7_5, hW0, hW4, hW5, hW7, fun _ => rfl, hA, hR, hZ⟩
            · obtain rfl := Option.some.inj hi
              clear hi hil
              have hap : b' 9 = false := hun
              have d0 := h0 (hall ⟨0, .data⟩ (by simp) rfl)
              have o8 := y8 (hall ⟨8, .data⟩ (by simp) rfl) hap
              obtain ⟨gl, xl0, eg, hbl, hol7⟩ := o8.out
              refine wpOp_step rfl (fun K hK => ?_)
              have HKK := Lib.hid hK; clear hK
              simp only [putAll, Act.put, List.setIfInBounds_toArray, List.set_cons_zero, List.set_cons_succ]
              refine (if_pos rfl).mpr (wp_append_refs _ _ rfl b m cp c _ _ d0 (hF hap).out.1 [(xl0, barI p q h)] (fun x hx => by obtain rfl := List.mem_singleton.1 hx; exact hol7) gl 1 rfl eg hbl (HLL.out) ?_)
              intro v' w2 hm2
              exact HKK.out _ _ ⟨_, by simp only [putAll, Act.put, List.setIfInBounds_toArray, List.set_cons_zero, List.set_cons_succ, d0] <;> rfl, h0, h1, h2, h3, h4, h5, h6, fun _ h => Bool.noConfusion h, fun _ h => Bool.noConfusion h, fun h => Bool.noConfusion h, fun h => Bool.noConfusion h, fun _ => Lib.hid (hm2), hE8_7, hE7_4, hE7_5, fun _ => hall ⟨0, .data⟩ (by simp) rfl, fun _ => hE7_4 (hE8_7 (hall ⟨8, .data⟩ (by simp) rfl)), fun _ => hE7_5 (hE8_7 (hall ⟨8, .data⟩ (by simp) rfl)), fun _ => hE8_7 (hall ⟨8, .data⟩ (by simp) rfl), fun _ => hall ⟨8, .data⟩ (by simp) rfl, fun hq => absurd (hA hq).1 (by rw [hun]; decide), hR, hZ⟩
            · obtain rfl := Option.some.inj hi
              clear hi hil
              have gB := hG (hall ⟨9, .data⟩ (by simp) rfl)
              refine wpOp_step rfl (fun K hK => ?_)
              have HKK := Lib.hid hK; clear hK
              simp only [putAll, Act.put, List.setIfInBounds_toArray, List.set_cons_zero, List.set_cons_succ]
              go_simp
              exact HKK.out _ _ ⟨_, by simp only [putAll, Act.put, List.setIfInBounds_toArray, List.set_cons_zero, List.set_cons_succ] <;> rfl, h0, h1, h2, h3, h4, h5, h6, y7, y8, hB, hF, hG, hE8_7, hE7_4, hE7_5, hW0, hW4, hW5, hW7, hW8, fun _ => ⟨hall ⟨9, .data⟩ (by simp) rfl, rfl⟩, fun h => Bool.noConfusion h, fun _ => hW0 (hall ⟨9, .data⟩ (by simp) rfl)⟩
            · omega
          · rintro b' vs w2 hall ⟨h0, h1, h2, h3, h4, h5, h6, y7, y8, hB, hF, hG, hE8_7, hE7_4, hE7_5, hW0, hW4, hW5, hW7, hW8, hA, hR, hZ⟩
            have d0 := h0 (hall 0 (by simp))
            have d1 := h1 (hall 1 (by simp))
            have d2 := h2 (hall 2 (by simp))
            have d3 := h3 (hall 3 (by simp))
            have d4 := h4 (hall 4 (by simp))
            have d5 := h5 (hall 5 (by simp))
            have d6 := h6 (hall 6 (by simp))
            have GG := hG (hall 9 (by simp))
            have dA := (hA (hall 10 (by simp))).2
            simp only [putAll, Act.put, List.setIfInBounds_toArray, List.set_cons_zero, List.set_cons_succ, d0, d1, d2, d3, d4, d5, d6, dA]
            clear hall h0 d0 h1 d1 h2 d2 h3 d3 h4 d4 h5 d5 h6 d6 y7 y8 hB hF hG hE8_7 hE7_4 hE7_5 hW0 hW4 hW5 hW7 hW8 hA dA hR hZ
            generalize vs 9 = va at *
            have M6 := Lib.hid GG.out
            obtain ⟨w6, rfl⟩ : ∃ x, x = w2 := ⟨_, rfl⟩
            rw [← HEX.out] at M6
            obtain ⟨xa, xc, hxa⟩ := M6.out.shape
            go_wp2_with fail
            exact ⟨⟨k + 1, by omega, by go_num, M6.out, HKK3.out⟩, by simp [intOf]; omega⟩
        · have hlf : lq = false := by have := HLGE.out; cases lq <;> simp_all
          have HNF : Hid (nl = false) := HNLk.out hlf
          go_wp2_with fail
          go_ret2
          exact ⟨_, by rw [HNF.out]; rfl, fun h => (by rw [HNF.out] at h; cases h), M5.out.1.below⟩
    · have hd : decide ((k : Int) < (m : Int)) = true := by simp; omega
      have hd2 : decide (k < m) = true := by simp; omega
      have HNLT : Hid (nl = true) := HNL2.out (fun j hj => hw.out.2 j (by omega))
      have M2 : Hid (RefM w wr b m cp c u10 (barsR c h (m - 1) ++ discsO c h 0)) := by
        have := hw.out.1
        rw [show k = m - 1 by omega] at this
        unfold Hid; rw [discsO, List.append_nil]; exact this
      have e1 : ((k : Int) == (m : Int) - 1) = true := by simp; omega
      have e2 : decide ((k : Int) = (m : Int) - 1) = true := by simp; omega
      clear hw hlk hk
      obtain ⟨wy, rfl⟩ : ∃ x, x = wr := ⟨_, rfl⟩
      go_wp2_with fail
      go_loopw [10, 15] (fun s10 s15 wr => ∃ k : Nat, k ≤ m ∧ s15 = .int .i64 k ∧ Hid (RefM w wr b m cp c s10 (barsR c h (m - 1) ++ discsO c h k))) (fun _ s15 _ => m - (intOf s15).toNat)
      case atStart => exact ⟨0, by omega, rfl, M2.out⟩
      case round =>
        clear hlt hd hd2 M2 e1 e2
        obtain ⟨k, hk, rfl, hw⟩ := hrel
        by_cases hlt : k < m
        · by_cases hmid : 0 < k ∧ k < m - 1
          · have g1 : decide ((k : Int) > 0) = true := by simp; omega
            have g2 : decide (0 < k) = true := by simp; omega
            have g3 : decide ((k : Int) < (m : Int) - 1) = true := by simp; omega
            have hd : decide ((k : Int) < (m : Int)) = true := by simp; omega
            have hd2 : decide (k < m) = true := by simp; omega
            obtain ⟨p, hp⟩ : ∃ p, c[k]? = some p := ⟨_, List.getElem?_eq_getElem (by rw [HM.out]; exact hlt)⟩
            have ep : c.getD k (0, 0) = p := by rw [List.getD_eq_getElem?_getD, hp]; rfl
            have M2 := Lib.hid hw.out
            obtain ⟨ua, uc, hu⟩ := M2.out.shape
            obtain ⟨un, hun⟩ : ∃ un, (barsR c h (m - 1) ++ discsO c h k).length = un := ⟨_, rfl⟩
            rw [hun] at hu
            subst hu
            have HLL : Hid ((barsR c h (m - 1) ++ discsO c h k).length + [((.int .i64 0 : Value), discI p h)].length ≤ 100000) := by unfold Hid; rw [List.length_append, barsR_len]; have := discsO_len c h k; simp; omega
            obtain ⟨c0, c1⟩ := M2.out.row.pts HM.out hp
            have HEX : Hid (barsR c h (m - 1) ++ discsO c h (k + 1) = barsR c h (m - 1) ++ discsO c h k ++ [discI p h]) := by unfold Hid; rw [discsO, if_pos (by rw [HM.out]; exact hmid), ep, List.append_assoc]
            generalize barsR c h (m - 1) ++ discsO c h k = L at M2 HEX HLL hun
            clear hp hw hun hmid
            have HDk := Lib.hid (HDISC.out k hlt)
            rw [ep] at HDk
            clear ep
            go_wp2_with fail
            refine (HDk.out _).mono ?_
            rintro e w4 ⟨v4, rfl, ho4, hb4⟩
            obtain ⟨sa, sn, sc, rfl⟩ := own_shape' ho4
            have AX : Hid (Below w4.heap.size w4 (w4.alloc (.cells #[.slice sa sn sc] 30))) := (Below.refl _ _).alloc (Nat.le_refl _) _
            have M5 := Lib.hid ((M2.out.grow hb4).grow AX.out)
            have HNW : Hid (∀ x ∈ [((.slice sa sn sc : Value), discI p h)], Own (w4.alloc (.cells #[.slice sa sn sc] 30)) w.heap.size 32 x.1 x.2) := fun x hx => by
              obtain rfl := List.mem_singleton.1 hx
              exact (ho4.base M2.out.below.size).grow AX.out
            have HBL : Hid (Blk (w4.alloc (.cells #[.slice sa sn sc] 30)) w4.heap.size 30 ([((.slice sa sn sc : Value), discI p h)].map Prod.fst).toArray) := Blk.new _ _ _
            clear ho4 hb4 c0 c1
            go_wp2_with (at_builtin; refine wpList_append_refs rfl _ _ rfl b m cp c _ _ rfl M5.out [(.slice sa sn sc, discI p h)] HNW.out w4.heap.size 1 rfl rfl HBL.out HLL.out ?_)
            intro v' w6 hm6
            have M6 : Hid (RefM w w6 b m cp c v' (L ++ [discI p h])) := hm6
            rw [← HEX.out] at M6
            obtain ⟨xa, xc, hxa⟩ := M6.out.shape
            subst hxa
            clear hm6
            go_wp2_with fail
            exact ⟨⟨k + 1, by omega, by go_num, M6.out⟩, by simp [intOf]; omega⟩
          · have hd : decide ((k : Int) < (m : Int)) = true := by simp; omega
            have hd2 : decide (k < m) = true := by simp; omega
            have HEX : Hid (RefM w wr b m cp c u10 (barsR c h (m - 1) ++ discsO c h (k + 1))) := by unfold Hid; rw [discsO, if_neg (by rw [HM.out]; exact hmid), List.append_nil]; exact hw.out
            clear hw
            by_cases hk0 : k = 0
            · have g1 : decide ((k : Int) > 0) = false := by simp; omega
              have g2 : decide (0 < k) = false := by simp; omega
              clear hk0 hmid
              go_wp2_with fail
              exact ⟨⟨k + 1, by omega, by go_num, HEX.out⟩, by simp [intOf]; omega⟩
            · have g1 : decide ((k : Int) > 0) = true := by simp; omega
              have g2 : decide (0 < k) = true := by simp; omega
              have g3 : decide ((k : Int) < (m : Int) - 1) = false := by simp; omega
              clear hk0 hmid
              go_wp2_with fail
              exact ⟨⟨k + 1, by omega, by go_num, HEX.out⟩, by simp [intOf]; omega⟩
        · have hd : decide ((k : Int) < (m : Int)) = false := by simp; omega
          have hd2 : decide (k < m) = false := by simp; omega
          have M6 : Hid (RefM w wr b m cp c u10 (barsR c h (m - 1) ++ discsO c h m)) := by
            have := hw.out
            rw [show k = m by omega] at this
            exact this
          clear hw
          have M7 := M6
          clear M6 hk
          obtain ⟨ua, uc, hu⟩ := M7.out.shape
          obtain ⟨un, hun⟩ : ∃ un, (barsR c h (m - 1) ++ discsO c h m).length = un := ⟨_, rfl⟩
          rw [hun] at hu
          subst hu
          have HUN := Lib.hid hun
          have hun2 : un ≤ 1000 := by rw [← hun]; simp only [List.length_append, barsR_len]; have := discsO_len c h m; omega
          clear hun
          obtain ⟨S, hS, hSL⟩ := M7.out.polys
          have PS := Lib.hid hS
          have ES := Lib.hid hSL
          have HSN : Hid (S.length = un) := by unfold Hid; rw [← HUN.out, ← hSL, List.length_map]
          clear hS hSL
          obtain ⟨wz, rfl⟩ : ∃ x, x = wr := ⟨_, rfl⟩
          go_wp2_with fail
          go_loopw [16] (fun s16 wr => ∃ k : Nat, k ≤ un ∧ s16 = .int .i64 k ∧ Hid (Below wz.heap.size wz wr ∧ ∀ j L, j < k → (barsR c h (m - 1) ++ discsO c h m)[j]? = some L → L.all roomP = true)) (fun s16 _ => un - (intOf s16).toNat)
          case atStart => exact ⟨0, by omega, rfl, Below.refl _ _, fun j L hj => by omega⟩
          case round =>
            obtain ⟨k, hk, rfl, hv⟩ := hrel
            by_cases hltk : k < un
            · have hdk : decide ((k : Int) < (un : Int)) = true := by simp; omega
              obtain ⟨⟨vk, Lk⟩, hx⟩ : ∃ x, S[k]? = some x := ⟨_, List.getElem?_eq_getElem (by rw [HSN.out]; exact hltk)⟩
              have PR := Lib.hid (PS.out.grow hv.out.1)
              have OK := Lib.hid (PR.out.own _ (List.mem_of_getElem? hx))
              have HXL : Hid ((barsR c h (m - 1) ++ discsO c h m)[k]? = some Lk) := by unfold Hid; rw [← ES.out, List.getElem?_map, hx]; rfl
              obtain ⟨g4, rfl, hg4, c0⟩ := polys_cell PR.out HSN.out hx
              simp only at OK c0
              obtain ⟨ak, nk, ck, rfl⟩ := own_shape' OK.out
              have hnk := own_lim OK.out
              have HIN := Lib.hid (HINN.out (.slice ak nk ck) Lk wr OK.out.row (HSH.out Lk (List.mem_of_getElem? HXL.out)))
              obtain ⟨rb, hrb⟩ : ∃ rb, Lk.all roomP = rb := ⟨_, rfl⟩
              rw [hrb] at HIN
              have HRB := Lib.hid hrb
              clear hx hrb hnk
              go_wp2_with fail
              refine HIN.out.mono ?_
              rintro e w8 ⟨rfl, hb8⟩
              have B8 : Hid (Below wz.heap.size wz w8) := below_next hv.out.1 hb8
              clear hb8 c0
              cases rb
              · have HNF : Hid (roomL (barsR c h (m - 1) ++ discsO c h m) = false) := by
                  unfold Hid roomL
                  rw [List.all_eq_false]
                  exact ⟨Lk, List.mem_of_getElem? HXL.out, by rw [HRB.out]; decide⟩
                go_wp2_with fail
                go_ret2
                exact ⟨_, by rw [HNF.out, Bool.and_false]; rfl, fun h => (by rw [HNF.out, Bool.and_false] at h; cases h), below_next M7.out.below B8.out⟩
              · have HNX2 : Hid (∀ j L, j < k + 1 → (barsR c h (m - 1) ++ discsO c h m)[j]? = some L → L.all roomP = true) := fun j L hj hL => by
                  by_cases e : j = k
                  · subst e; rw [HXL.out] at hL; obtain rfl := Option.some.inj hL; exact HRB.out
                  · exact hv.out.2 j L (by omega) hL
                go_wp2_with fail
                exact ⟨⟨k + 1, by omega, by go_num, B8.out, HNX2.out⟩, by simp [intOf]; omega⟩
            · have hdk : decide ((k : Int) < (un : Int)) = false := by simp; omega
              have HRT : Hid (roomL (barsR c h (m - 1) ++ discsO c h m) = true) := by
                unfold Hid roomL
                rw [List.all_eq_true]
                intro L hL
                obtain ⟨j, hj⟩ := List.getElem?_of_mem hL
                have hlt : j < (barsR c h (m - 1) ++ discsO c h m).length := (List.getElem?_eq_some_iff.1 hj).1
                exact hv.out.2 j L (by have := HUN.out; omega) hj
              have PR := Lib.hid (PS.out.grow hv.out.1)
              go_wp2_with fail
              go_ret2
              exact ⟨_, by rw [HNLT.out, HRT.out]; rfl, fun _ => ⟨S, PR.out, ES.out⟩, below_next M7.out.below hv.out.1⟩
set_option maxHeartbeats 40000000 in
set_option maxRecDepth 100000 in
theorem ropen_1 (ao : Option Addr) (n cc : Nat) (h : Int) (w : World) (c : List Pt) (m : Nat) (HM : Hid (c.length = m)) (hm2 : 2 ≤ m) (hm3 : m ≤ 40) (nl : Bool)
    (HPL : Hid (Calls Tryd.prog 42 #[.slice ao n cc, .bool false] w fun e w' => ∃ v, e = .returned v ∧ Own w' w.heap.size 32 v c ∧ Below w.heap.size w w'))
    (HLONG : Hid (∀ k, k < m - 1 → ∀ w, Calls Tryd.prog 43 #[.agg #[.int .i64 (c.getD k (0, 0)).1, .int .i64 (c.getD k (0, 0)).2], .agg #[.int .i64 (c.getD ((k + 1) % c.length) (0, 0)).1, .int .i64 (c.getD ((k + 1) % c.length) (0, 0)).2]] w fun e w' => e = .returned (.bool (!lenB (subP (c.getD ((k + 1) % c.length) (0, 0)) (c.getD k (0, 0))))) ∧ Below w.heap.size w w'))
    (HBAR : Hid (∀ k, k < m - 1 → lenB (subP (c.getD ((k + 1) % c.length) (0, 0)) (c.getD k (0, 0))) = true → ∀ w, Calls Tryd.prog 44 #[.agg #[.int .i64 (c.getD k (0, 0)).1, .int .i64 (c.getD k (0, 0)).2], .agg #[.int .i64 (c.getD ((k + 1) % c.length) (0, 0)).1, .int .i64 (c.getD ((k + 1) % c.length) (0, 0)).2], .int .i64 h] w fun e w' => ∃ v, e = .returned v ∧ Own w' w.heap.size 32 v (barI (c.getD k (0, 0)) (c.getD ((k + 1) % c.length) (0, 0)) h) ∧ Below w.heap.size w w'))
    (HDISC : Hid (∀ k, k < m → ∀ w, Calls Tryd.prog 11 #[.agg #[.int .i64 (c.getD k (0, 0)).1, .int .i64 (c.getD k (0, 0)).2], .int .i64 h] w fun e w' => ∃ v, e = .returned v ∧ Own w' w.heap.size 32 v (discI (c.getD k (0, 0)) h) ∧ Below w.heap.size w w'))
    (HNL : Hid (∀ k, k < m - 1 → lenB (subP (c.getD ((k + 1) % c.length) (0, 0)) (c.getD k (0, 0))) = false → nl = false))
    (HNL2 : Hid ((∀ k, k < m - 1 → lenB (subP (c.getD ((k + 1) % c.length) (0, 0)) (c.getD k (0, 0))) = true) → nl = true)) (p0 pl : Pt) (mp : Nat) (HP0 : Hid (c[0]? = some p0)) (HPZ : Hid (c[mp]? = some pl)) (HW1 : Hid (wrap64 ((m : Int) - 1) = (mp : Int))) (HW1b : Hid (IntKind.i64.wrap ((m : Int) - 1) = (mp : Int))) (HMP : Hid (mp < m)) (HM0 : Hid (0 < m ∧ 1 < m ∧ (0 : Int) < (m : Int) ∧ (1 : Int) < (m : Int))) (HD0 : Hid (∀ w, Calls Tryd.prog 11 #[.agg #[.int .i64 p0.1, .int .i64 p0.2], .int .i64 h] w fun e w' => ∃ v, e = .returned v ∧ Own w' w.heap.size 32 v (discI p0 h) ∧ Below w.heap.size w w')) (HDL : Hid (∀ w, Calls Tryd.prog 11 #[.agg #[.int .i64 pl.1, .int .i64 pl.2], .int .i64 h] w fun e w' => ∃ v, e = .returned v ∧ Own w' w.heap.size 32 v (discI pl h) ∧ Below w.heap.size w w'))
    (HSH : Hid (∀ L ∈ (barsR c h (m - 1) ++ discsO c h m ++ [discI p0 h, discI pl h]), L.length ≤ 100000)) (HINN : Hid (∀ s L w', Row w' s L → L.length ≤ 100000 → Calls Tryd.prog 13 #[s] w' fun e w'' => e = .returned (.bool (L.all roomP)) ∧ Below w'.heap.size w' w'')) :
    Calls Tryd.prog 18 #[.slice ao n cc, .bool false, .int .i64 h, .int .i64 1] w (RPost w (nl && roomL (barsR c h (m - 1) ++ discsO c h m ++ [discI p0 h, discI pl h])) (barsR c h (m - 1) ++ discsO c h m ++ [discI p0 h, discI pl h])) := by
  go_enter Tryd.func18, Tryd.ntmps18
  go_wp2_with fail
  refine HPL.out.mono ?_
  rintro e w1 ⟨v1, rfl, ho1, hb1⟩
  obtain ⟨b, cp, rfl⟩ : ∃ b cp, v1 = .slice (some ⟨b, 0, none⟩) m cp := by
    rcases own_some ho1 with ⟨_, e⟩ | ⟨g, cp, e⟩
    · have := HM.out; rw [e] at this; simp at this; omega
    · rw [HM.out] at e; exact ⟨g, cp, e⟩
  have M1 : Hid (RefM w w1 b m cp c (.slice none 0 0) []) := ⟨hb1, ho1, [], Polys.nil _ _ _ _, rfl⟩
  clear ho1 hb1
  have hn1 : ((m : Int) == 1) = false := by simp; omega
  have hn2 : decide ((m : Int) = 1) = false := by simp; omega
  have hn3 : decide (m = 1) = false := by simp; omega
  have hn4 : decide ((m : Int) > 1) = true := by simp; omega
  have hn5 : decide (1 < (m : Int)) = true := by simp; omega
  have hn6 : decide (1 < m) = true := by simp; omega
  go_wp2_with fail
  go_loopw [10, 13] (fun s10 s13 wr => ∃ k : Nat, k ≤ m - 1 ∧ s13 = .int .i64 k ∧ Hid (RefM w wr b m cp c s10 (barsR c h k) ∧ ∀ j, j < k → lenB (subP (c.getD ((j + 1) % c.length) (0, 0)) (c.getD j (0, 0))) = true)) (fun _ s13 _ => m - (intOf s13).toNat)
  case atStart => exact ⟨0, by omega, rfl, M1.out, fun j hj => by omega⟩
  case round =>
    obtain ⟨k, hk, rfl, hw⟩ := hrel
    have hlt : k < m := by omega
    by_cases hlk : k < m - 1
    · have e1 : ((k : Int) == (m : Int) - 1) = false := by simp; omega
      have e2 : decide ((k : Int) = (m : Int) - 1) = false := by simp; omega
      have hd : decide ((k : Int) < (m : Int)) = true := by simp; omega
      have hd2 : decide (k < m) = true := by simp; omega
      obtain ⟨p, hp⟩ : ∃ p, c[k]? = some p := ⟨_, List.getElem?_eq_getElem (by rw [HM.out]; exact hlt)⟩
      obtain ⟨nx, hnx⟩ : ∃ nx, (k + 1) % m = nx := ⟨_, rfl⟩
      have hnxm : nx < m := by rw [← hnx]; exact Nat.mod_lt _ (by omega)
      obtain ⟨q, hq⟩ : ∃ q, c[nx]? = some q := ⟨_, List.getElem?_eq_getElem (by rw [HM.out]; exact hnxm)⟩
      have HP := Lib.hid hp
      have ep : c.getD k (0, 0) = p := by rw [List.getD_eq_getElem?_getD, hp]; rfl
      have eq' : c.getD ((k + 1) % c.length) (0, 0) = q := by rw [HM.out, hnx, List.getD_eq_getElem?_getD, hq]; rfl
      have HLGk := Lib.hid (HLONG.out k hlk)
      have HBARk := Lib.hid (HBAR.out k hlk)
      have HNLk := Lib.hid (HNL.out k hlk)
      have HEX : Hid (barsR c h (k + 1) = barsR c h k ++ [barI p q h]) := by unfold Hid; rw [barsR, ep, eq']
      rw [ep, eq'] at HLGk HBARk HNLk
      have HKK2 : Hid (lenB (subP q p) = true → ∀ j, j < k + 1 → lenB (subP (c.getD ((j + 1) % c.length) (0, 0)) (c.getD j (0, 0))) = true) := fun hl j hj => by
        by_cases e : j = k
        · subst e; rw [ep, eq']; exact hl
        · exact hw.out.2 j (by omega)
      have M2 := Lib.hid hw.out.1
      obtain ⟨ua, uc, hu⟩ := M2.out.shape
      obtain ⟨un, hun⟩ : ∃ un, (barsR c h k).length = un := ⟨_, rfl⟩
      rw [hun] at hu
      subst hu
      have HLL : Hid ((barsR c h k).length + [((.int .i64 0 : Value), barI p q h)].length ≤ 100000) := by unfold Hid; rw [barsR_len]; simp; omega
      generalize barsR c h k = L at M2 HEX HLL hun
      obtain ⟨c0, c1⟩ := M2.out.row.pts HM.out hq
      have hmk : (m : Int) ≠ 0 := by omega
      have htm : ((k : Int) + 1).tmod (m : Int) = (nx : Int) := by
        rw [Int.tmod_eq_emod_of_nonneg (by omega), ← hnx]
        rfl
      have HNX := Lib.hid hnx
      clear hp hq ep eq' hw hun hnx
      obtain ⟨w3, rfl⟩ : ∃ x, x = wr := ⟨_, rfl⟩
      go_wp2_with fail
      obtain ⟨g14, hg14⟩ : ∃ g, w3.heap.size = g := ⟨_, rfl⟩
      obtain ⟨w4, hw4⟩ : ∃ W, w3.alloc (.cells #[.int .i64 q.1, .int .i64 q.2] 32) = W := ⟨_, rfl⟩
      have F4 : Hid (RefM w w4 b m cp c (.slice ua un uc) L ∧ Blk w4 g14 32 (two q)) := by
        rw [← hw4]
        exact ⟨M2.out.grow ((Below.refl _ _).alloc (Nat.le_refl _) _), Blk.newAt _ _ _ hg14⟩
      rw [hw4, hg14]
      clear hw4 hg14 c0 c1 htm hmk
      obtain ⟨lq, hlq⟩ : ∃ lq, lenB (subP q p) = lq := ⟨_, rfl⟩
      rw [hlq] at HLGk HBARk HNLk HKK2
      obtain ⟨lg, hlg⟩ : ∃ lg, (!lq) = lg := ⟨_, rfl⟩
      have HLG := HLGk
      rw [hlg] at HLG
      have HLGE := Lib.hid hlg
      clear hlq hlg
      refine wp_region_put (by kernel_rfl) (by kernel_rfl) (by kernel_rfl) (fun b' vs w' => (b' 0 = true → vs 0 = .slice (some ⟨b, 0, none⟩) m cp) ∧ (b' 1 = true → vs 1 = .int .i64 (k : Int)) ∧ (b' 2 = true → vs 2 = .pointer (some ⟨b, k * 2, none⟩)) ∧ (b' 3 = true → vs 3 = .agg #[.int .i64 p.1, .int .i64 p.2]) ∧ (b' 4 = true → vs 4 = .agg #[.int .i64 q.1, .int .i64 q.2]) ∧ (b' 5 = true → vs 5 = .bool lg) ∧ (Hid (Below w4.heap.size w4 w' ∧ w4.heap.size ≤ w'.heap.size)) ∧ (Hid (RefM w w' b m cp c (.slice ua un uc) L ∧ Blk w' g14 32 (two q)))) ?_ ?_ ?_
      · intro vs
        exact ⟨fun h => Bool.noConfusion h, fun h => Bool.noConfusion h, fun h => Bool.noConfusion h, fun h => Bool.noConfusion h, fun h => Bool.noConfusion h, fun h => Bool.noConfusion h, Lib.hid ⟨below_drewN (Below.refl _ _) 1, Nat.le_refl _⟩, Lib.hid ⟨F4.out.1.grow ⟨rfl, rfl, rfl, Nat.le_refl _, fun _ _ => rfl⟩, F4.out.2.grow ⟨rfl, rfl, rfl, Nat.le_refl _, fun _ _ => rfl⟩⟩⟩
      · rintro b' vs w' i op hi hun hall ⟨h0, h1, h2, h3, h4, h5, hB, hF⟩
        have hil : i < 6 := (List.getElem?_eq_some_iff.1 hi).1
        rcases i with _ | _ | _ | _ | _ | _ | i
        · obtain rfl := Option.some.inj hi
          clear hi hil
          refine wpOp_step rfl (fun K hK => ?_)
          have HKK := Lib.hid hK; clear hK
          simp only [putAll, Act.put, List.setIfInBounds_toArray, List.set_cons_zero, List.set_cons_succ]
          go_simp
          exact HKK.out _ _ ⟨_, by simp only [putAll, Act.put, List.setIfInBounds_toArray, List.set_cons_zero, List.set_cons_succ] <;> rfl, fun _ => rfl, h1, h2, h3, h4, h5, hB, hF⟩
        · obtain rfl := Option.some.inj hi
          clear hi hil
          refine wpOp_step rfl (fun K hK => ?_)
          have HKK := Lib.hid hK; clear hK
          simp only [putAll, Act.put, List.setIfInBounds_toArray, List.set_cons_zero, List.set_cons_succ]
          go_simp
          exact HKK.out _ _ ⟨_, by simp only [putAll, Act.put, List.setIfInBounds_toArray, List.set_cons_zero, List.set_cons_succ] <;> rfl, h0, fun _ => rfl, h2, h3, h4, h5, hB, hF⟩
        · obtain rfl := Option.some.inj hi
          clear hi hil
          have d0 := h0 (hall ⟨0, .data⟩ (by simp) rfl)
          have d1 := h1 (hall ⟨1, .data⟩ (by simp) rfl)
          have hkm1 : k < m := hlt
          refine wpOp_step rfl (fun K hK => ?_)
          have HKK := Lib.hid hK; clear hK
          simp only [putAll, Act.put, List.setIfInBounds_toArray, List.set_cons_zero, List.set_cons_succ]
          go_simp
          exact HKK.out _ _ ⟨_, by simp only [putAll, Act.put, List.setIfInBounds_toArray, List.set_cons_zero, List.set_cons_succ, d0, d1] <;> rfl, h0, h1, fun _ => rfl, h3, h4, h5, hB, hF⟩
        · obtain rfl := Option.some.inj hi
          clear hi hil
          have d2 := h2 (hall ⟨2, .data⟩ (by simp) rfl)
          obtain ⟨x0, x1⟩ := hF.out.1.row.pts HM.out HP.out
          refine wpOp_step rfl (fun K hK => ?_)
          have HKK := Lib.hid hK; clear hK
          simp only [putAll, Act.put, List.setIfInBounds_toArray, List.set_cons_zero, List.set_cons_succ]
          go_simp
          exact HKK.out _ _ ⟨_, by simp only [putAll, Act.put, List.setIfInBounds_toArray, List.set_cons_zero, List.set_cons_succ, d2] <;> rfl, h0, h1, h2, fun _ => rfl, h4, h5, hB, hF⟩
        · obtain rfl := Option.some.inj hi
          clear hi hil
          have kq := hF.out.2
          have x0 := kq.p0
          have x1 := kq.p1
          clear kq
          refine wpOp_step rfl (fun K hK => ?_)
          have HKK := Lib.hid hK; clear hK
          simp only [putAll, Act.put, List.setIfInBounds_toArray, List.set_cons_zero, List.set_cons_succ]
          go_simp
          exact HKK.out _ _ ⟨_, by simp only [putAll, Act.put, List.setIfInBounds_toArray, List.set_cons_zero, List.set_cons_succ] <;> rfl, h0, h1, h2, h3, fun _ => rfl, h5, hB, hF⟩
        · obtain rfl := Option.some.inj hi
          clear hi hil
          have d3 := h3 (hall ⟨3, .data⟩ (by simp) rfl)
          have d4 := h4 (hall ⟨4, .data⟩ (by simp) rfl)
          refine wpOp_step rfl (fun K hK => ?_)
          have HKK := Lib.hid hK; clear hK
          simp only [putAll, Act.put, List.setIfInBounds_toArray, List.set_cons_zero, List.set_cons_succ]
          go_simp
          refine (HLG.out w').mono ?_
          rintro e w2 ⟨rfl, hb2⟩
          exact HKK.out _ _ ⟨_, by simp only [putAll, Act.put, List.setIfInBounds_toArray, List.set_cons_zero, List.set_cons_succ, d3, d4] <;> rfl, h0, h1, h2, h3, h4, fun _ => rfl, Lib.hid ⟨(hB).out.1.trans (hb2.mono (hB).out.2), Nat.le_trans (hB).out.2 hb2.size⟩, Lib.hid (⟨(hF).out.1.grow hb2, (hF).out.2.grow hb2⟩)⟩
        · omega
      · rintro b' vs w2 hall ⟨h0, h1, h2, h3, h4, h5, hB, hF⟩
        have d0 := h0 (hall 0 (by simp))
        have d1 := h1 (hall 1 (by simp))
        have d2 := h2 (hall 2 (by simp))
        have d3 := h3 (hall 3 (by simp))
        have d4 := h4 (hall 4 (by simp))
        have d5 := h5 (hall 5 (by simp))
        have BB := hB
        have FF := hF
        simp only [putAll, Act.put, List.setIfInBounds_toArray, List.set_cons_zero, List.set_cons_succ, d0, d1, d2, d3, d4, d5]
        clear hall h0 d0 h1 d1 h2 d2 h3 d3 h4 d4 h5 d5 hB hF
        have M5 := Lib.hid FF.out
        obtain ⟨w5, rfl⟩ : ∃ x, x = w2 := ⟨_, rfl⟩
        clear FF BB
        cases lg
        · have hlt1 : lq = true := by have := HLGE.out; cases lq <;> simp_all
          have HRB := Lib.hid (HBARk.out hlt1)
          have HKK3 := Lib.hid (HKK2.out hlt1)
          have F5 := M5
          have HW5 : Hid (w.heap.size ≤ w5.heap.size) := F5.out.1.below.size
          clear hlt1
          go_wp2_with fail
          refine wp_region_put2 (by kernel_rfl) (by kernel_rfl) (by kernel_rfl) (fun b' vs w' => (b' 0 = true → vs 0 = .slice ua un uc) ∧ (b' 1 = true → vs 1 = .slice (some ⟨b, 0, none⟩) m cp) ∧ (b' 2 = true → vs 2 = .int .i64 (k : Int)) ∧ (b' 3 = true → vs 3 = .pointer (some ⟨b, k * 2, none⟩)) ∧ (b' 4 = true → vs 4 = .agg #[.int .i64 p.1, .int .i64 p.2]) ∧ (b' 5 = true → vs 5 = .agg #[.int .i64 q.1, .int .i64 q.2]) ∧ (b' 6 = true → vs 6 = .int .i64 h) ∧ (b' 7 = true → b' 9 = false → Hid (Own w' w.heap.size 32 (vs 7) (barI p q h))) ∧ (b' 8 = true → b' 9 = false → Hid (∃ gl x0, (vs 8) = .slice (some ⟨gl, 0, none⟩) 1 1 ∧ Blk w' gl 30 #[x0] ∧ Own w' w.heap.size 32 x0 (barI p q h))) ∧ (b' 9 = false → Hid (Below w5.heap.size w5 w' ∧ w5.heap.size ≤ w'.heap.size)) ∧ (b' 9 = false → Hid (RefM w w' b m cp c (.slice ua un uc) L ∧ Blk w' g14 32 (two q))) ∧ (b' 9 = true → Hid (RefM w w' b m cp c (vs 9) (L ++ [barI p q h]))) ∧ (b' 8 = true → b' 7 = true) ∧ (b' 7 = true → b' 4 = true) ∧ (b' 7 = true → b' 5 = true) ∧ (b' 9 = true → b' 0 = true) ∧ (b' 9 = true → b' 4 = true) ∧ (b' 9 = true → b' 5 = true) ∧ (b' 9 = true → b' 7 = true) ∧ (b' 9 = true → b' 8 = true) ∧ (b' 10 = true → b' 9 = true ∧ vs 10 = vs 9) ∧ (b' 10 = false → vs 10 = .slice ua un uc) ∧ (b' 10 = true → b' 0 = true)) ?_ ?_ ?_
          · intro vs hvs
            exact ⟨fun h => Bool.noConfusion h, fun h => Bool.noConfusion h, fun h => Bool.noConfusion h, fun h => Bool.noConfusion h, fun h => Bool.noConfusion h, fun h => Bool.noConfusion h, fun h => Bool.noConfusion h, fun h => Bool.noConfusion h, fun h => Bool.noConfusion h, fun _ => Lib.hid ⟨below_drewN (Below.refl _ _) 1, Nat.le_refl _⟩, fun _ => Lib.hid ⟨F5.out.1.grow ⟨rfl, rfl, rfl, Nat.le_refl _, fun _ _ => rfl⟩, F5.out.2.grow ⟨rfl, rfl, rfl, Nat.le_refl _, fun _ _ => rfl⟩⟩, fun h => Bool.noConfusion h, fun h => Bool.noConfusion h, fun h => Bool.noConfusion h, fun h => Bool.noConfusion h, fun h => Bool.noConfusion h, fun h => Bool.noConfusion h, fun h => Bool.noConfusion h, fun h => Bool.noConfusion h, fun h => Bool.noConfusion h, fun h => Bool.noConfusion h, fun _ => hvs 10 _ _ rfl rfl, fun h => Bool.noConfusion h⟩
          · rintro b' vs w' i op hi hun hall ⟨h0, h1, h2, h3, h4, h5, h6, y7, y8, hB, hF, hG, hE8_7, hE7_4, hE7_5, hW0, hW4, hW5, hW7, hW8, hA, hR, hZ⟩
            have hil : i < 11 := (List.getElem?_eq_some_iff.1 hi).1
            rcases i with _ | _ | _ | _ | _ | _ | _ | _ | _ | _ | _ | i
            · obtain rfl := Option.some.inj hi
              clear hi hil
              have hz : b' 10 = false := by
                cases hzz : b' 10 with
                | false => rfl
                | true => exact absurd (hZ hzz) (by rw [hun]; decide)
              have hx := hR hz
              refine wpOp_step rfl (fun K hK => ?_)
              have HKK := Lib.hid hK; clear hK
              simp only [putAll, Act.put, List.setIfInBounds_toArray, List.set_cons_zero, List.set_cons_succ]
              go_simp
              exact HKK.out _ _ ⟨_, by simp only [putAll, Act.put, List.setIfInBounds_toArray, List.set_cons_zero, List.set_cons_succ, hx] <;> rfl, fun _ => rfl, h1, h2, h3, h4, h5, h6, y7, y8, hB, hF, hG, hE8_7, hE7_4, hE7_5, fun _ => rfl, hW4, hW5, hW7, hW8, hA, hR, fun _ => rfl⟩
            · obtain rfl := Option.some.inj hi
              clear hi hil
              refine wpOp_step rfl (fun K hK => ?_)
              have HKK := Lib.hid hK; clear hK
              simp only [putAll, Act.put, List.setIfInBounds_toArray, List.set_cons_zero, List.set_cons_succ]
              go_simp
              exact HKK.out _ _ ⟨_, by simp only [putAll, Act.put, List.setIfInBounds_toArray, List.set_cons_zero, List.set_cons_succ] <;> rfl, h0, fun _ => rfl, h2, h3, h4, h5, h6, y7, y8, hB, hF, hG, hE8_7, hE7_4, hE7_5, hW0, hW4, hW5, hW7, hW8, hA, hR, hZ⟩
            · obtain rfl := Option.some.inj hi
              clear hi hil
              refine wpOp_step rfl (fun K hK => ?_)
              have HKK := Lib.hid hK; clear hK
              simp only [putAll, Act.put, List.setIfInBounds_toArray, List.set_cons_zero, List.set_cons_succ]
              go_simp
              exact HKK.out _ _ ⟨_, by simp only [putAll, Act.put, List.setIfInBounds_toArray, List.set_cons_zero, List.set_cons_succ] <;> rfl, h0, h1, fun _ => rfl, h3, h4, h5, h6, y7, y8, hB, hF, hG, hE8_7, hE7_4, hE7_5, hW0, hW4, hW5, hW7, hW8, hA, hR, hZ⟩
            · obtain rfl := Option.some.inj hi
              clear hi hil
              have d1 := h1 (hall ⟨1, .data⟩ (by simp) rfl)
              have d2 := h2 (hall ⟨2, .data⟩ (by simp) rfl)
              have hkm1 : k < m := hlt
              refine wpOp_step rfl (fun K hK => ?_)
              have HKK := Lib.hid hK; clear hK
              simp only [putAll, Act.put, List.setIfInBounds_toArray, List.set_cons_zero, List.set_cons_succ]
              go_simp
              exact HKK.out _ _ ⟨_, by simp only [putAll, Act.put, List.setIfInBounds_toArray, List.set_cons_zero, List.set_cons_succ, d1, d2] <;> rfl, h0, h1, h2, fun _ => rfl, h4, h5, h6, y7, y8, hB, hF, hG, hE8_7, hE7_4, hE7_5, hW0, hW4, hW5, hW7, hW8, hA, hR, hZ⟩
            · obtain rfl := Option.some.inj hi
              clear hi hil
              have hap : b' 9 = false := by
                cases hz : b' 9 with
                | false => rfl
                | true => exact absurd (hW4 hz) (by rw [hun]; decide)
              have d3 := h3 (hall ⟨3, .data⟩ (by simp) rfl)
              obtain ⟨x0, x1⟩ := (hF hap).out.1.row.pts HM.out HP.out
              refine wpOp_step rfl (fun K hK => ?_)
              have HKK := Lib.hid hK; clear hK
              simp only [putAll, Act.put, List.setIfInBounds_toArray, List.set_cons_zero, List.set_cons_succ]
              go_simp
              exact HKK.out _ _ ⟨_, by simp only [putAll, Act.put, List.setIfInBounds_toArray, List.set_cons_zero, List.set_cons_succ, d3] <;> rfl, h0, h1, h2, h3, fun _ => rfl, h5, h6, y7, y8, hB, hF, hG, hE8_7, fun _ => rfl, hE7_5, hW0, fun _ => rfl, hW5, hW7, hW8, hA, hR, hZ⟩
            · obtain rfl := Option.some.inj hi
              clear hi hil
              have hap : b' 9 = false := by
                cases hz : b' 9 with
                | false => rfl
                | true => exact absurd (hW5 hz) (by rw [hun]; decide)
              have kq := (hF hap).out.2
              have x0 := kq.p0
              have x1 := kq.p1
              clear kq
              refine wpOp_step rfl (fun K hK => ?_)
              have HKK := Lib.hid hK; clear hK
              simp only [putAll, Act.put, List.setIfInBounds_toArray, List.set_cons_zero, List.set_cons_succ]
              go_simp
              exact HKK.out _ _ ⟨_, by simp only [putAll, Act.put, List.setIfInBounds_toArray, List.set_cons_zero, List.set_cons_succ] <;> rfl, h0, h1, h2, h3, h4, fun _ => rfl, h6, y7, y8, hB, hF, hG, hE8_7, hE7_4, fun _ => rfl, hW0, hW4, fun _ => rfl, hW7, hW8, hA, hR, hZ⟩
            · obtain rfl := Option.some.inj hi
              clear hi hil
              refine wpOp_step rfl (fun K hK => ?_)
              have HKK := Lib.hid hK; clear hK
              simp only [putAll, Act.put, List.setIfInBounds_toArray, List.set_cons_zero, List.set_cons_succ]
              go_simp
              exact HKK.out _ _ ⟨_, by simp only [putAll, Act.put, List.setIfInBounds_toArray, List.set_cons_zero, List.set_cons_succ] <;> rfl, h0, h1, h2, h3, h4, h5, fun _ => rfl, y7, y8, hB, hF, hG, hE8_7, hE7_4, hE7_5, hW0, hW4, hW5, hW7, hW8, hA, hR, hZ⟩
            · obtain rfl := Option.some.inj hi
              clear hi hil
              have hap : b' 9 = false := by
                cases hz : b' 9 with
                | false => rfl
                | true => exact absurd (hW7 hz) (by rw [hun]; decide)
              have d4 := h4 (hall ⟨4, .data⟩ (by simp) rfl)
              have d5 := h5 (hall ⟨5, .data⟩ (by simp) rfl)
              have d6 := h6 (hall ⟨6, .data⟩ (by simp) rfl)
              refine wpOp_step rfl (fun K hK => ?_)
              have HKK := Lib.hid hK; clear hK
              simp only [putAll, Act.put, List.setIfInBounds_toArray, List.set_cons_zero, List.set_cons_succ]
              go_simp
              refine (HRB.out w').mono ?_
              rintro e w2 ⟨v2, rfl, ho2, hb2⟩
              exact HKK.out _ _ ⟨_, by simp only [putAll, Act.put, List.setIfInBounds_toArray, List.set_cons_zero, List.set_cons_succ, d4, d5, d6] <;> rfl, h0, h1, h2, h3, h4, h5, h6, fun _ _ => Lib.hid (ho2.base (Nat.le_trans HW5.out (hB hap).out.2)), fun h ha => Lib.hid (grow_lit1 (y8 h ha).out hb2), fun ha => Lib.hid ⟨(hB ha).out.1.trans (hb2.mono (hB ha).out.2), Nat.le_trans (hB ha).out.2 hb2.size⟩, fun ha => Lib.hid (⟨(hF ha).out.1.grow hb2, (hF ha).out.2.grow hb2⟩), fun h => absurd (show b' 9 = true from h) (by rw [hap]; decide), fun _ => rfl, fun _ => hall ⟨4, .data⟩ (by simp) rfl, fun _ => hall ⟨5, .data⟩ (by simp) rfl, hW0, hW4, hW5, fun _ => rfl, hW8, hA, hR, hZ⟩
            · obtain rfl := Option.some.inj hi
              clear hi hil
              have hap : b' 9 = false := by
                cases hz : b' 9 with
                | false => rfl
                | true => exact absurd (hW8 hz) (by rw [hun]; decide)
              have o7 := y7 (hall ⟨7, .data⟩ (by simp) rfl) hap
              obtain ⟨sa0, sn0, sc0, es0⟩ := own_shape' o7.out
              have ow0 := Lib.hid (es0 ▸ o7.out)
              refine wpOp_step rfl (fun K hK => ?_)
              have HKK := Lib.hid hK; clear hK
              simp only [putAll, Act.put, List.setIfInBounds_toArray, List.set_cons_zero, List.set_cons_succ]
              go_simp
              have hb2 : Below w'.heap.size w' (w'.alloc (.cells #[.slice sa0 sn0 sc0] 30)) := (Below.refl _ _).alloc (Nat.le_refl _) _
              exact HKK.out _ _ ⟨_, by simp only [putAll, Act.put, List.setIfInBounds_toArray, List.set_cons_zero, List.set_cons_succ, es0] <;> rfl, h0, h1, h2, h3, h4, h5, h6, fun h ha => Lib.hid (Own.grow (y7 h ha).out hb2), fun _ _ => Lib.hid (⟨_, _, rfl, Blk.new _ _ _, ow0.out.grow ((Below.refl _ _).alloc (Nat.le_refl _) _)⟩), fun ha => Lib.hid ⟨(hB ha).out.1.trans (hb2.mono (hB ha).out.2), Nat.le_trans (hB ha).out.2 hb2.size⟩, fun ha => Lib.hid (⟨(hF ha).out.1.grow hb2, (hF ha).out.2.grow hb2⟩), fun h => absurd (show b' 9 = true from h) (by rw [hap]; decide), fun _ => hall ⟨7, .data⟩ (by simp) rfl, hE7_4, hE7_5, hW0, hW4, hW5, hW7, fun _ => rfl, hA, hR, hZ⟩
            · obtain rfl := Option.some.inj hi
              clear hi hil
              have hap : b' 9 = false := hun
              have d0 := h0 (hall ⟨0, .data⟩ (by simp) rfl)
              have o8 := y8 (hall ⟨8, .data⟩ (by simp) rfl) hap
              obtain ⟨gl, xl0, eg, hbl, hol7⟩ := o8.out
              refine wpOp_step rfl (fun K hK => ?_)
              have HKK := Lib.hid hK; clear hK
              simp only [putAll, Act.put, List.setIfInBounds_toArray, List.set_cons_zero, List.set_cons_succ]
              refine (if_pos rfl).mpr (wp_append_refs _ _ rfl b m cp c _ _ d0 (hF hap).out.1 [(xl0, barI p q h)] (fun x hx => by obtain rfl := List.mem_singleton.1 hx; exact hol7) gl 1 rfl eg hbl (HLL.out) ?_)
              intro v' w2 hm2
              exact HKK.out _ _ ⟨_, by simp only [putAll, Act.put, List.setIfInBounds_toArray, List.set_cons_zero, List.set_cons_succ, d0] <;> rfl, h0, h1, h2, h3, h4, h5, h6, fun _ h => Bool.noConfusion h, fun _ h => Bool.noConfusion h, fun h => Bool.noConfusion h, fun h => Bool.noConfusion h, fun _ => Lib.hid (hm2), hE8_7, hE7_4, hE7_5, fun _ => hall ⟨0, .data⟩ (by simp) rfl, fun _ => hE7_4 (hE8_7 (hall ⟨8, .data⟩ (by simp) rfl)), fun _ => hE7_5 (hE8_7 (hall ⟨8, .data⟩ (by simp) rfl)), fun _ => hE8_7 (hall ⟨8, .data⟩ (by simp) rfl), fun _ => hall ⟨8, .data⟩ (by simp) rfl, fun hq => absurd (hA hq).1 (by rw [hun]; decide), hR, hZ⟩
            · obtain rfl := Option.some.inj hi
              clear hi hil
              have gB := hG (hall ⟨9, .data⟩ (by simp) rfl)
              refine wpOp_step rfl (fun K hK => ?_)
              have HKK := Lib.hid hK; clear hK
              simp only [putAll, Act.put, List.setIfInBounds_toArray, List.set_cons_zero, List.set_cons_succ]
              go_simp
              exact HKK.out _ _ ⟨_, by simp only [putAll, Act.put, List.setIfInBounds_toArray, List.set_cons_zero, List.set_cons_succ] <;> rfl, h0, h1, h2, h3, h4, h5, h6, y7, y8, hB, hF, hG, hE8_7, hE7_4, hE7_5, hW0, hW4, hW5, hW7, hW8, fun _ => ⟨hall ⟨9, .data⟩ (by simp) rfl, rfl⟩, fun h => Bool.noConfusion h, fun _ => hW0 (hall ⟨9, .data⟩ (by simp) rfl)⟩
            · omega
          · rintro b' vs w2 hall ⟨h0, h1, h2, h3, h4, h5, h6, y7, y8, hB, hF, hG, hE8_7, hE7_4, hE7_5, hW0, hW4, hW5, hW7, hW8, hA, hR, hZ⟩
            have d0 := h0 (hall 0 (by simp))
            have d1 := h1 (hall 1 (by simp))
            have d2 := h2 (hall 2 (by simp))
            have d3 := h3 (hall 3 (by simp))
            have d4 := h4 (hall 4 (by simp))
            have d5 := h5 (hall 5 (by simp))
            have d6 := h6 (hall 6 (by simp))
            have GG := hG (hall 9 (by simp))
            have dA := (hA (hall 10 (by simp))).2
            simp only [putAll, Act.put, List.setIfInBounds_toArray, List.set_cons_zero, List.set_cons_succ, d0, d1, d2, d3, d4, d5, d6, dA]
            clear hall h0 d0 h1 d1 h2 d2 h3 d3 h4 d4 h5 d5 h6 d6 y7 y8 hB hF hG hE8_7 hE7_4 hE7_5 hW0 hW4 hW5 hW7 hW8 hA dA hR hZ
            generalize vs 9 = va at *
            have M6 := Lib.hid GG.out
            obtain ⟨w6, rfl⟩ : ∃ x, x = w2 := ⟨_, rfl⟩
            rw [← HEX.out] at M6
            obtain ⟨xa, xc, hxa⟩ := M6.out.shape
            go_wp2_with fail
            exact ⟨⟨k + 1, by omega, by go_num, M6.out, HKK3.out⟩, by simp [intOf]; omega⟩
        · have hlf : lq = false := by have := HLGE.out; cases lq <;> simp_all
          have HNF : Hid (nl = false) := HNLk.out hlf
          go_wp2_with fail
          go_ret2
          exact ⟨_, by rw [HNF.out]; rfl, fun h => (by rw [HNF.out] at h; cases h), M5.out.1.below⟩
    · have hd : decide ((k : Int) < (m : Int)) = true := by simp; omega
      have hd2 : decide (k < m) = true := by simp; omega
      have HNLT : Hid (nl = true) := HNL2.out (fun j hj => hw.out.2 j (by omega))
      have M2 : Hid (RefM w wr b m cp c u10 (barsR c h (m - 1) ++ discsO c h 0)) := by
        have := hw.out.1
        rw [show k = m - 1 by omega] at this
        unfold Hid; rw [discsO, List.append_nil]; exact this
      have e1 : ((k : Int) == (m : Int) - 1) = true := by simp; omega
      have e2 : decide ((k : Int) = (m : Int) - 1) = true := by simp; omega
      clear hw hlk hk
      obtain ⟨wy, rfl⟩ : ∃ x, x = wr := ⟨_, rfl⟩
      go_wp2_with fail
      go_loopw [10, 15] (fun s10 s15 wr => ∃ k : Nat, k ≤ m ∧ s15 = .int .i64 k ∧ Hid (RefM w wr b m cp c s10 (barsR c h (m - 1) ++ discsO c h k))) (fun _ s15 _ => m - (intOf s15).toNat)
      case atStart => exact ⟨0, by omega, rfl, M2.out⟩
      case round =>
        clear hlt hd hd2 M2 e1 e2
        obtain ⟨k, hk, rfl, hw⟩ := hrel
        by_cases hlt : k < m
        · by_cases hmid : 0 < k ∧ k < m - 1
          · have g1 : decide ((k : Int) > 0) = true := by simp; omega
            have g2 : decide (0 < k) = true := by simp; omega
            have g3 : decide ((k : Int) < (m : Int) - 1) = true := by simp; omega
            have hd : decide ((k : Int) < (m : Int)) = true := by simp; omega
            have hd2 : decide (k < m) = true := by simp; omega
            obtain ⟨p, hp⟩ : ∃ p, c[k]? = some p := ⟨_, List.getElem?_eq_getElem (by rw [HM.out]; exact hlt)⟩
            have ep : c.getD k (0, 0) = p := by rw [List.getD_eq_getElem?_getD, hp]; rfl
            have M2 := Lib.hid hw.out
            obtain ⟨ua, uc, hu⟩ := M2.out.shape
            obtain ⟨un, hun⟩ : ∃ un, (barsR c h (m - 1) ++ discsO c h k).length = un := ⟨_, rfl⟩
            rw [hun] at hu
            subst hu
            have HLL : Hid ((barsR c h (m - 1) ++ discsO c h k).length + [((.int .i64 0 : Value), discI p h)].length ≤ 100000) := by unfold Hid; rw [List.length_append, barsR_len]; have := discsO_len c h k; simp; omega
            obtain ⟨c0, c1⟩ := M2.out.row.pts HM.out hp
            have HEX : Hid (barsR c h (m - 1) ++ discsO c h (k + 1) = barsR c h (m - 1) ++ discsO c h k ++ [discI p h]) := by unfold Hid; rw [discsO, if_pos (by rw [HM.out]; exact hmid), ep, List.append_assoc]
            generalize barsR c h (m - 1) ++ discsO c h k = L at M2 HEX HLL hun
            clear hp hw hun hmid
            have HDk := Lib.hid (HDISC.out k hlt)
            rw [ep] at HDk
            clear ep
            go_wp2_with fail
            refine (HDk.out _).mono ?_
            rintro e w4 ⟨v4, rfl, ho4, hb4⟩
            obtain ⟨sa, sn, sc, rfl⟩ := own_shape' ho4
            have AX : Hid (Below w4.heap.size w4 (w4.alloc (.cells #[.slice sa sn sc] 30))) := (Below.refl _ _).alloc (Nat.le_refl _) _
            have M5 := Lib.hid ((M2.out.grow hb4).grow AX.out)
            have HNW : Hid (∀ x ∈ [((.slice sa sn sc : Value), discI p h)], Own (w4.alloc (.cells #[.slice sa sn sc] 30)) w.heap.size 32 x.1 x.2) := fun x hx => by
              obtain rfl := List.mem_singleton.1 hx
              exact (ho4.base M2.out.below.size).grow AX.out
            have HBL : Hid (Blk (w4.alloc (.cells #[.slice sa sn sc] 30)) w4.heap.size 30 ([((.slice sa sn sc : Value), discI p h)].map Prod.fst).toArray) := Blk.new _ _ _
            clear ho4 hb4 c0 c1
            go_wp2_with (at_builtin; refine wpList_append_refs rfl _ _ rfl b m cp c _ _ rfl M5.out [(.slice sa sn sc, discI p h)] HNW.out w4.heap.size 1 rfl rfl HBL.out HLL.out ?_)
            intro v' w6 hm6
            have M6 : Hid (RefM w w6 b m cp c v' (L ++ [discI p h])) := hm6
            rw [← HEX.out] at M6
            obtain ⟨xa, xc, hxa⟩ := M6.out.shape
            subst hxa
            clear hm6
            go_wp2_with fail
            exact ⟨⟨k + 1, by omega, by go_num, M6.out⟩, by simp [intOf]; omega⟩
          · have hd : decide ((k : Int) < (m : Int)) = true := by simp; omega
            have hd2 : decide (k < m) = true := by simp; omega
            have HEX : Hid (RefM w wr b m cp c u10 (barsR c h (m - 1) ++ discsO c h (k + 1))) := by unfold Hid; rw [discsO, if_neg (by rw [HM.out]; exact hmid), List.append_nil]; exact hw.out
            clear hw
            by_cases hk0 : k = 0
            · have g1 : decide ((k : Int) > 0) = false := by simp; omega
              have g2 : decide (0 < k) = false := by simp; omega
              clear hk0 hmid
              go_wp2_with fail
              exact ⟨⟨k + 1, by omega, by go_num, HEX.out⟩, by simp [intOf]; omega⟩
            · have g1 : decide ((k : Int) > 0) = true := by simp; omega
              have g2 : decide (0 < k) = true := by simp; omega
              have g3 : decide ((k : Int) < (m : Int) - 1) = false := by simp; omega
              clear hk0 hmid
              go_wp2_with fail
              exact ⟨⟨k + 1, by omega, by go_num, HEX.out⟩, by simp [intOf]; omega⟩
        · have hd : decide ((k : Int) < (m : Int)) = false := by simp; omega
          have hd2 : decide (k < m) = false := by simp; omega
          have M6 : Hid (RefM w wr b m cp c u10 (barsR c h (m - 1) ++ discsO c h m)) := by
            have := hw.out
            rw [show k = m by omega] at this
            exact this
          clear hw
          have M2 := M6
          obtain ⟨ua, uc, hu⟩ := M2.out.shape
          obtain ⟨un, hun⟩ : ∃ un, (barsR c h (m - 1) ++ discsO c h m).length = un := ⟨_, rfl⟩
          rw [hun] at hu
          subst hu
          have HLL : Hid ((barsR c h (m - 1) ++ discsO c h m).length + [((.int .i64 0 : Value), discI p0 h), (.int .i64 0, discI p0 h)].length ≤ 100000) := by unfold Hid; rw [List.length_append, barsR_len]; have := discsO_len c h m; simp; omega
          have HLE : Hid ((barsR c h (m - 1) ++ discsO c h m).length ≤ 500) := by unfold Hid; rw [List.length_append, barsR_len]; have := discsO_len c h m; omega
          clear hun M6
          obtain ⟨w5, rfl⟩ : ∃ x, x = wr := ⟨_, rfl⟩
          have F5 := M2
          have HW5 : Hid (w.heap.size ≤ w5.heap.size) := F5.out.below.size
          go_wp2_with fail
          clear hk hlt hd hd2 hn1 hn2 hn3 hn4 hn5 hn6
          have HM2 := Lib.hid hm2
          have HM3 := Lib.hid hm3
          clear hm2 hm3
          generalize hLg : barsR c h (m - 1) ++ discsO c h m = LQ at *
          refine wp_region_put2 (by kernel_rfl) (by kernel_rfl) (by kernel_rfl) (fun b' vs w' => (b' 0 = true → vs 0 = .slice ua un uc) ∧ (b' 1 = true → vs 1 = .slice (some ⟨b, 0, none⟩) m cp) ∧ (b' 2 = true → vs 2 = .pointer (some ⟨b, 0, none⟩)) ∧ (b' 3 = true → vs 3 = .agg #[.int .i64 p0.1, .int .i64 p0.2]) ∧ (b' 4 = true → vs 4 = .int .i64 h) ∧ (b' 6 = true → vs 6 = .slice (some ⟨b, 0, none⟩) m cp) ∧ (b' 7 = true → vs 7 = .int .i64 (m : Int)) ∧ (b' 8 = true → vs 8 = .int .i64 (mp : Int)) ∧ (b' 9 = true → vs 9 = .pointer (some ⟨b, mp * 2, none⟩)) ∧ (b' 10 = true → vs 10 = .agg #[.int .i64 pl.1, .int .i64 pl.2]) ∧ (b' 11 = true → vs 11 = .int .i64 h) ∧ (b' 5 = true → b' 14 = false → Hid (Own w' w.heap.size 32 (vs 5) (discI p0 h))) ∧ (b' 12 = true → b' 14 = false → Hid (Own w' w.heap.size 32 (vs 12) (discI pl h))) ∧ (b' 13 = true → b' 14 = false → Hid (∃ gl x0 x1, (vs 13) = .slice (some ⟨gl, 0, none⟩) 2 2 ∧ Blk w' gl 30 #[x0, x1] ∧ Own w' w.heap.size 32 x0 (discI p0 h) ∧ Own w' w.heap.size 32 x1 (discI pl h))) ∧ (b' 14 = false → Hid (Below w5.heap.size w5 w' ∧ w5.heap.size ≤ w'.heap.size)) ∧ (b' 14 = false → Hid (RefM w w' b m cp c (.slice ua un uc) LQ)) ∧ (b' 14 = true → Hid (RefM w w' b m cp c (vs 14) (LQ ++ [discI p0 h, discI pl h]))) ∧ (b' 13 = true → b' 5 = true) ∧ (b' 5 = true → b' 3 = true) ∧ (b' 13 = true → b' 12 = true) ∧ (b' 12 = true → b' 10 = true) ∧ (b' 14 = true → b' 0 = true) ∧ (b' 14 = true → b' 3 = true) ∧ (b' 14 = true → b' 5 = true) ∧ (b' 14 = true → b' 10 = true) ∧ (b' 14 = true → b' 12 = true) ∧ (b' 14 = true → b' 13 = true) ∧ (b' 15 = true → b' 14 = true ∧ vs 15 = vs 14) ∧ (b' 15 = false → vs 15 = .slice ua un uc) ∧ (b' 15 = true → b' 0 = true)) ?_ ?_ ?_
          · intro vs hvs
            exact ⟨fun h => Bool.noConfusion h, fun h => Bool.noConfusion h, fun h => Bool.noConfusion h, fun h => Bool.noConfusion h, fun h => Bool.noConfusion h, fun h => Bool.noConfusion h, fun h => Bool.noConfusion h, fun h => Bool.noConfusion h, fun h => Bool.noConfusion h, fun h => Bool.noConfusion h, fun h => Bool.noConfusion h, fun h => Bool.noConfusion h, fun h => Bool.noConfusion h, fun h => Bool.noConfusion h, fun _ => Lib.hid ⟨below_drewN (Below.refl _ _) 1, Nat.le_refl _⟩, fun _ => Lib.hid (F5.out.grow ⟨rfl, rfl, rfl, Nat.le_refl _, fun _ _ => rfl⟩), fun h => Bool.noConfusion h, fun h => Bool.noConfusion h, fun h => Bool.noConfusion h, fun h => Bool.noConfusion h, fun h => Bool.noConfusion h, fun h => Bool.noConfusion h, fun h => Bool.noConfusion h, fun h => Bool.noConfusion h, fun h => Bool.noConfusion h, fun h => Bool.noConfusion h, fun h => Bool.noConfusion h, fun h => Bool.noConfusion h, fun _ => hvs 15 _ _ rfl rfl, fun h => Bool.noConfusion h⟩
          · rintro b' vs w' i op hi hun hall ⟨h0, h1, h2, h3, h4, h6, h7, h8, h9, h10, h11, y5, y12, y13, hB, hF, hG, hE13_5, hE5_3, hE13_12, hE12_10, hW0, hW3, hW5, hW10, hW12, hW13, hA, hR, hZ⟩
            have hil : i < 16 := (List.getElem?_eq_some_iff.1 hi).1
            rcases i with _ | _ | _ | _ | _ | _ | _ | _ | _ | _ | _ | _ | _ | _ | _ | _ | i
            · obtain rfl := Option.some.inj hi
              clear hi hil
              have hz : b' 15 = false := by
                cases hzz : b' 15 with
                | false => rfl
                | true => exact absurd (hZ hzz) (by rw [hun]; decide)
              have hx := hR hz
              refine wpOp_step rfl (fun K hK => ?_)
              have HKK := Lib.hid hK; clear hK
              simp only [putAll, Act.put, List.setIfInBounds_toArray, List.set_cons_zero, List.set_cons_succ]
              go_simp
              exact HKK.out _ _ ⟨_, by simp only [putAll, Act.put, List.setIfInBounds_toArray, List.set_cons_zero, List.set_cons_succ, hx] <;> rfl, fun _ => rfl, h1, h2, h3, h4, h6, h7, h8, h9, h10, h11, y5, y12, y13, hB, hF, hG, hE13_5, hE5_3, hE13_12, hE12_10, fun _ => rfl, hW3, hW5, hW10, hW12, hW13, hA, hR, fun _ => rfl⟩
            · obtain rfl := Option.some.inj hi
              clear hi hil
              refine wpOp_step rfl (fun K hK => ?_)
              have HKK := Lib.hid hK; clear hK
              simp only [putAll, Act.put, List.setIfInBounds_toArray, List.set_cons_zero, List.set_cons_succ]
              go_simp
              exact HKK.out _ _ ⟨_, by simp only [putAll, Act.put, List.setIfInBounds_toArray, List.set_cons_zero, List.set_cons_succ] <;> rfl, h0, fun _ => rfl, h2, h3, h4, h6, h7, h8, h9, h10, h11, y5, y12, y13, hB, hF, hG, hE13_5, hE5_3, hE13_12, hE12_10, hW0, hW3, hW5, hW10, hW12, hW13, hA, hR, hZ⟩
            · obtain rfl := Option.some.inj hi
              clear hi hil
              have d1 := h1 (hall ⟨1, .data⟩ (by simp) rfl)
              have hb1 := HMP.out
              skip
              have hb3 := HM0.out
              refine wpOp_step rfl (fun K hK => ?_)
              have HKK := Lib.hid hK; clear hK
              simp only [putAll, Act.put, List.setIfInBounds_toArray, List.set_cons_zero, List.set_cons_succ]
              go_simp
              exact HKK.out _ _ ⟨_, by simp only [putAll, Act.put, List.setIfInBounds_toArray, List.set_cons_zero, List.set_cons_succ, d1] <;> rfl, h0, h1, fun _ => rfl, h3, h4, h6, h7, h8, h9, h10, h11, y5, y12, y13, hB, hF, hG, hE13_5, hE5_3, hE13_12, hE12_10, hW0, hW3, hW5, hW10, hW12, hW13, hA, hR, hZ⟩
            · obtain rfl := Option.some.inj hi
              clear hi hil
              have hap : b' 14 = false := by
                cases hz : b' 14 with
                | false => rfl
                | true => exact absurd (hW3 hz) (by rw [hun]; decide)
              have d2 := h2 (hall ⟨2, .data⟩ (by simp) rfl)
              obtain ⟨x0, x1⟩ := (hF hap).out.row.pts HM.out HP0.out
              simp only [Nat.reduceMul, Nat.reduceAdd] at x0 x1
              refine wpOp_step rfl (fun K hK => ?_)
              have HKK := Lib.hid hK; clear hK
              simp only [putAll, Act.put, List.setIfInBounds_toArray, List.set_cons_zero, List.set_cons_succ]
              go_simp
              exact HKK.out _ _ ⟨_, by simp only [putAll, Act.put, List.setIfInBounds_toArray, List.set_cons_zero, List.set_cons_succ, d2] <;> rfl, h0, h1, h2, fun _ => rfl, h4, h6, h7, h8, h9, h10, h11, y5, y12, y13, hB, hF, hG, hE13_5, fun _ => rfl, hE13_12, hE12_10, hW0, fun _ => rfl, hW5, hW10, hW12, hW13, hA, hR, hZ⟩
            · obtain rfl := Option.some.inj hi
              clear hi hil
              refine wpOp_step rfl (fun K hK => ?_)
              have HKK := Lib.hid hK; clear hK
              simp only [putAll, Act.put, List.setIfInBounds_toArray, List.set_cons_zero, List.set_cons_succ]
              go_simp
              exact HKK.out _ _ ⟨_, by simp only [putAll, Act.put, List.setIfInBounds_toArray, List.set_cons_zero, List.set_cons_succ] <;> rfl, h0, h1, h2, h3, fun _ => rfl, h6, h7, h8, h9, h10, h11, y5, y12, y13, hB, hF, hG, hE13_5, hE5_3, hE13_12, hE12_10, hW0, hW3, hW5, hW10, hW12, hW13, hA, hR, hZ⟩
            · obtain rfl := Option.some.inj hi
              clear hi hil
              have hap : b' 14 = false := by
                cases hz : b' 14 with
                | false => rfl
                | true => exact absurd (hW5 hz) (by rw [hun]; decide)
              have d3 := h3 (hall ⟨3, .data⟩ (by simp) rfl)
              have d4 := h4 (hall ⟨4, .data⟩ (by simp) rfl)
              refine wpOp_step rfl (fun K hK => ?_)
              have HKK := Lib.hid hK; clear hK
              simp only [putAll, Act.put, List.setIfInBounds_toArray, List.set_cons_zero, List.set_cons_succ]
              go_simp
              refine (HD0.out w').mono ?_
              rintro e w2 ⟨v2, rfl, ho2, hb2⟩
              exact HKK.out _ _ ⟨_, by simp only [putAll, Act.put, List.setIfInBounds_toArray, List.set_cons_zero, List.set_cons_succ, d3, d4] <;> rfl, h0, h1, h2, h3, h4, h6, h7, h8, h9, h10, h11, fun _ _ => Lib.hid (ho2.base (Nat.le_trans HW5.out (hB hap).out.2)), fun h ha => Lib.hid (Own.grow (y12 h ha).out hb2), fun h ha => Lib.hid (grow_lit2 (y13 h ha).out hb2), fun ha => Lib.hid ⟨(hB ha).out.1.trans (hb2.mono (hB ha).out.2), Nat.le_trans (hB ha).out.2 hb2.size⟩, fun ha => Lib.hid ((hF ha).out.grow hb2), fun h => absurd (show b' 14 = true from h) (by rw [hap]; decide), fun _ => rfl, fun _ => hall ⟨3, .data⟩ (by simp) rfl, hE13_12, hE12_10, hW0, hW3, fun _ => rfl, hW10, hW12, hW13, hA, hR, hZ⟩
            · obtain rfl := Option.some.inj hi
              clear hi hil
              refine wpOp_step rfl (fun K hK => ?_)
              have HKK := Lib.hid hK; clear hK
              simp only [putAll, Act.put, List.setIfInBounds_toArray, List.set_cons_zero, List.set_cons_succ]
              go_simp
              exact HKK.out _ _ ⟨_, by simp only [putAll, Act.put, List.setIfInBounds_toArray, List.set_cons_zero, List.set_cons_succ] <;> rfl, h0, h1, h2, h3, h4, fun _ => rfl, h7, h8, h9, h10, h11, y5, y12, y13, hB, hF, hG, hE13_5, hE5_3, hE13_12, hE12_10, hW0, hW3, hW5, hW10, hW12, hW13, hA, hR, hZ⟩
            · obtain rfl := Option.some.inj hi
              clear hi hil
              refine wpOp_step rfl (fun K hK => ?_)
              have HKK := Lib.hid hK; clear hK
              simp only [putAll, Act.put, List.setIfInBounds_toArray, List.set_cons_zero, List.set_cons_succ]
              go_simp
              exact HKK.out _ _ ⟨_, by simp only [putAll, Act.put, List.setIfInBounds_toArray, List.set_cons_zero, List.set_cons_succ] <;> rfl, h0, h1, h2, h3, h4, h6, fun _ => rfl, h8, h9, h10, h11, y5, y12, y13, hB, hF, hG, hE13_5, hE5_3, hE13_12, hE12_10, hW0, hW3, hW5, hW10, hW12, hW13, hA, hR, hZ⟩
            · obtain rfl := Option.some.inj hi
              clear hi hil
              have d7 := h7 (hall ⟨7, .data⟩ (by simp) rfl)
              have e1 := HW1.out
              have e2 := HW1b.out
              refine wpOp_step rfl (fun K hK => ?_)
              have HKK := Lib.hid hK; clear hK
              simp only [putAll, Act.put, List.setIfInBounds_toArray, List.set_cons_zero, List.set_cons_succ]
              go_simp
              exact HKK.out _ _ ⟨_, by simp only [putAll, Act.put, List.setIfInBounds_toArray, List.set_cons_zero, List.set_cons_succ, d7] <;> rfl, h0, h1, h2, h3, h4, h6, h7, fun _ => rfl, h9, h10, h11, y5, y12, y13, hB, hF, hG, hE13_5, hE5_3, hE13_12, hE12_10, hW0, hW3, hW5, hW10, hW12, hW13, hA, hR, hZ⟩
            · obtain rfl := Option.some.inj hi
              clear hi hil
              have d6 := h6 (hall ⟨6, .data⟩ (by simp) rfl)
              have d8 := h8 (hall ⟨8, .data⟩ (by simp) rfl)
              have hb1 := HMP.out
              skip
              have hb3 := HM0.out
              refine wpOp_step rfl (fun K hK => ?_)
              have HKK := Lib.hid hK; clear hK
              simp only [putAll, Act.put, List.setIfInBounds_toArray, List.set_cons_zero, List.set_cons_succ]
              go_simp
              exact HKK.out _ _ ⟨_, by simp only [putAll, Act.put, List.setIfInBounds_toArray, List.set_cons_zero, List.set_cons_succ, d6, d8] <;> rfl, h0, h1, h2, h3, h4, h6, h7, h8, fun _ => rfl, h10, h11, y5, y12, y13, hB, hF, hG, hE13_5, hE5_3, hE13_12, hE12_10, hW0, hW3, hW5, hW10, hW12, hW13, hA, hR, hZ⟩
            · obtain rfl := Option.some.inj hi
              clear hi hil
              have hap : b' 14 = false := by
                cases hz : b' 14 with
                | false => rfl
                | true => exact absurd (hW10 hz) (by rw [hun]; decide)
              have d9 := h9 (hall ⟨9, .data⟩ (by simp) rfl)
              obtain ⟨x0, x1⟩ := (hF hap).out.row.pts HM.out HPZ.out
              refine wpOp_step rfl (fun K hK => ?_)
              have HKK := Lib.hid hK; clear hK
              simp only [putAll, Act.put, List.setIfInBounds_toArray, List.set_cons_zero, List.set_cons_succ]
              go_simp
              exact HKK.out _ _ ⟨_, by simp only [putAll, Act.put, List.setIfInBounds_toArray, List.set_cons_zero, List.set_cons_succ, d9] <;> rfl, h0, h1, h2, h3, h4, h6, h7, h8, h9, fun _ => rfl, h11, y5, y12, y13, hB, hF, hG, hE13_5, hE5_3, hE13_12, fun _ => rfl, hW0, hW3, hW5, fun _ => rfl, hW12, hW13, hA, hR, hZ⟩
            · obtain rfl := Option.some.inj hi
              clear hi hil
              refine wpOp_step rfl (fun K hK => ?_)
              have HKK := Lib.hid hK; clear hK
              simp only [putAll, Act.put, List.setIfInBounds_toArray, List.set_cons_zero, List.set_cons_succ]
              go_simp
              exact HKK.out _ _ ⟨_, by simp only [putAll, Act.put, List.setIfInBounds_toArray, List.set_cons_zero, List.set_cons_succ] <;> rfl, h0, h1, h2, h3, h4, h6, h7, h8, h9, h10, fun _ => rfl, y5, y12, y13, hB, hF, hG, hE13_5, hE5_3, hE13_12, hE12_10, hW0, hW3, hW5, hW10, hW12, hW13, hA, hR, hZ⟩
            · obtain rfl := Option.some.inj hi
              clear hi hil
              have hap : b' 14 = false := by
                cases hz : b' 14 with
                | false => rfl
                | true => exact absurd (hW12 hz) (by rw [hun]; decide)
              have d10 := h10 (hall ⟨10, .data⟩ (by simp) rfl)
              have d11 := h11 (hall ⟨11, .data⟩ (by simp) rfl)
              refine wpOp_step rfl (fun K hK => ?_)
              have HKK := Lib.hid hK; clear hK
              simp only [putAll, Act.put, List.setIfInBounds_toArray, List.set_cons_zero, List.set_cons_succ]
              go_simp
              refine (HDL.out w').mono ?_
              rintro e w2 ⟨v2, rfl, ho2, hb2⟩
              exact HKK.out _ _ ⟨_, by simp only [putAll, Act.put, List.setIfInBounds_toArray, List.set_cons_zero, List.set_cons_succ, d10, d11] <;> rfl, h0, h1, h2, h3, h4, h6, h7, h8, h9, h10, h11, fun h ha => Lib.hid (Own.grow (y5 h ha).out hb2), fun _ _ => Lib.hid (ho2.base (Nat.le_trans HW5.out (hB hap).out.2)), fun h ha => Lib.hid (grow_lit2 (y13 h ha).out hb2), fun ha => Lib.hid ⟨(hB ha).out.1.trans (hb2.mono (hB ha).out.2), Nat.le_trans (hB ha).out.2 hb2.size⟩, fun ha => Lib.hid ((hF ha).out.grow hb2), fun h => absurd (show b' 14 = true from h) (by rw [hap]; decide), hE13_5, hE5_3, fun _ => rfl, fun _ => hall ⟨10, .data⟩ (by simp) rfl, hW0, hW3, hW5, hW10, fun _ => rfl, hW13, hA, hR, hZ⟩
            · obtain rfl := Option.some.inj hi
              clear hi hil
              have hap : b' 14 = false := by
                cases hz : b' 14 with
                | false => rfl
                | true => exact absurd (hW13 hz) (by rw [hun]; decide)
              have o5 := y5 (hall ⟨5, .data⟩ (by simp) rfl) hap
              obtain ⟨sa0, sn0, sc0, es0⟩ := own_shape' o5.out
              have ow0 := Lib.hid (es0 ▸ o5.out)
              have o12 := y12 (hall ⟨12, .data⟩ (by simp) rfl) hap
              obtain ⟨sa1, sn1, sc1, es1⟩ := own_shape' o12.out
              have ow1 := Lib.hid (es1 ▸ o12.out)
              refine wpOp_step rfl (fun K hK => ?_)
              have HKK := Lib.hid hK; clear hK
              simp only [putAll, Act.put, List.setIfInBounds_toArray, List.set_cons_zero, List.set_cons_succ]
              go_simp
              have hb2 : Below w'.heap.size w' (w'.alloc (.cells #[.slice sa0 sn0 sc0, .slice sa1 sn1 sc1] 30)) := (Below.refl _ _).alloc (Nat.le_refl _) _
              exact HKK.out _ _ ⟨_, by simp only [putAll, Act.put, List.setIfInBounds_toArray, List.set_cons_zero, List.set_cons_succ, es0, es1] <;> rfl, h0, h1, h2, h3, h4, h6, h7, h8, h9, h10, h11, fun h ha => Lib.hid (Own.grow (y5 h ha).out hb2), fun h ha => Lib.hid (Own.grow (y12 h ha).out hb2), fun _ _ => Lib.hid (⟨_, _, _, rfl, Blk.new _ _ _, ow0.out.grow ((Below.refl _ _).alloc (Nat.le_refl _) _), ow1.out.grow ((Below.refl _ _).alloc (Nat.le_refl _) _)⟩), fun ha => Lib.hid ⟨(hB ha).out.1.trans (hb2.mono (hB ha).out.2), Nat.le_trans (hB ha).out.2 hb2.size⟩, fun ha => Lib.hid ((hF ha).out.grow hb2), fun h => absurd (show b' 14 = true from h) (by rw [hap]; decide), fun _ => hall ⟨5, .data⟩ (by simp) rfl, hE5_3, fun _ => hall ⟨12, .data⟩ (by simp) rfl, hE12_10, hW0, hW3, hW5, hW10, hW12, fun _ => rfl, hA, hR, hZ⟩
            · obtain rfl := Option.some.inj hi
              clear hi hil
              have hap : b' 14 = false := hun
              have d0 := h0 (hall ⟨0, .data⟩ (by simp) rfl)
              have o13 := y13 (hall ⟨13, .data⟩ (by simp) rfl) hap
              obtain ⟨gl, xl0, xl1, eg, hbl, hol5, hol12⟩ := o13.out
              refine wpOp_step rfl (fun K hK => ?_)
              have HKK := Lib.hid hK; clear hK
              simp only [putAll, Act.put, List.setIfInBounds_toArray, List.set_cons_zero, List.set_cons_succ]
              refine (if_pos rfl).mpr (wp_append_refs _ _ rfl b m cp c _ _ d0 (hF hap).out [(xl0, discI p0 h), (xl1, discI pl h)] (fun x hx => by rcases List.mem_cons.1 hx with rfl | hx; exact hol5; obtain rfl := List.mem_singleton.1 hx; exact hol12) gl 2 rfl eg hbl (HLL.out) ?_)
              intro v' w2 hm2
              exact HKK.out _ _ ⟨_, by simp only [putAll, Act.put, List.setIfInBounds_toArray, List.set_cons_zero, List.set_cons_succ, d0] <;> rfl, h0, h1, h2, h3, h4, h6, h7, h8, h9, h10, h11, fun _ h => Bool.noConfusion h, fun _ h => Bool.noConfusion h, fun _ h => Bool.noConfusion h, fun h => Bool.noConfusion h, fun h => Bool.noConfusion h, fun _ => Lib.hid (hm2), hE13_5, hE5_3, hE13_12, hE12_10, fun _ => hall ⟨0, .data⟩ (by simp) rfl, fun _ => hE5_3 (hE13_5 (hall ⟨13, .data⟩ (by simp) rfl)), fun _ => hE13_5 (hall ⟨13, .data⟩ (by simp) rfl), fun _ => hE12_10 (hE13_12 (hall ⟨13, .data⟩ (by simp) rfl)), fun _ => hE13_12 (hall ⟨13, .data⟩ (by simp) rfl), fun _ => hall ⟨13, .data⟩ (by simp) rfl, fun hq => absurd (hA hq).1 (by rw [hun]; decide), hR, hZ⟩
            · obtain rfl := Option.some.inj hi
              clear hi hil
              have gB := hG (hall ⟨14, .data⟩ (by simp) rfl)
              refine wpOp_step rfl (fun K hK => ?_)
              have HKK := Lib.hid hK; clear hK
              simp only [putAll, Act.put, List.setIfInBounds_toArray, List.set_cons_zero, List.set_cons_succ]
              go_simp
              exact HKK.out _ _ ⟨_, by simp only [putAll, Act.put, List.setIfInBounds_toArray, List.set_cons_zero, List.set_cons_succ] <;> rfl, h0, h1, h2, h3, h4, h6, h7, h8, h9, h10, h11, y5, y12, y13, hB, hF, hG, hE13_5, hE5_3, hE13_12, hE12_10, hW0, hW3, hW5, hW10, hW12, hW13, fun _ => ⟨hall ⟨14, .data⟩ (by simp) rfl, rfl⟩, fun h => Bool.noConfusion h, fun _ => hW0 (hall ⟨14, .data⟩ (by simp) rfl)⟩
            · omega
          · rintro b' vs w2 hall ⟨h0, h1, h2, h3, h4, h6, h7, h8, h9, h10, h11, y5, y12, y13, hB, hF, hG, hE13_5, hE5_3, hE13_12, hE12_10, hW0, hW3, hW5, hW10, hW12, hW13, hA, hR, hZ⟩
            have d0 := h0 (hall 0 (by simp))
            have d1 := h1 (hall 1 (by simp))
            have d2 := h2 (hall 2 (by simp))
            have d3 := h3 (hall 3 (by simp))
            have d4 := h4 (hall 4 (by simp))
            have d6 := h6 (hall 6 (by simp))
            have d7 := h7 (hall 7 (by simp))
            have d8 := h8 (hall 8 (by simp))
            have d9 := h9 (hall 9 (by simp))
            have d10 := h10 (hall 10 (by simp))
            have d11 := h11 (hall 11 (by simp))
            have GG := hG (hall 14 (by simp))
            have dA := (hA (hall 15 (by simp))).2
            simp only [putAll, Act.put, List.setIfInBounds_toArray, List.set_cons_zero, List.set_cons_succ, d0, d1, d2, d3, d4, d6, d7, d8, d9, d10, d11, dA]
            clear hall h0 d0 h1 d1 h2 d2 h3 d3 h4 d4 h6 d6 h7 d7 h8 d8 h9 d9 h10 d10 h11 d11 y5 y12 y13 hB hF hG hE13_5 hE5_3 hE13_12 hE12_10 hW0 hW3 hW5 hW10 hW12 hW13 hA dA hR hZ
            generalize vs 14 = va at *
            have M7 : Hid (RefM w w2 b m cp c va (LQ ++ [discI p0 h, discI pl h])) := GG.out
            generalize vs 5 = rr5
            generalize vs 12 = rr12
            generalize vs 13 = rr13
            have hm2 := HM2.out
            have hm3 := HM3.out
            obtain ⟨ua, uc, hu⟩ := M7.out.shape
            obtain ⟨un, hun⟩ : ∃ un, (LQ ++ [discI p0 h, discI pl h]).length = un := ⟨_, rfl⟩
            rw [hun] at hu
            subst hu
            have HUN := Lib.hid hun
            have hun2 : un ≤ 1000 := by rw [← hun]; rw [List.length_append]; have := HLE.out; simp only [List.length_cons, List.length_nil]; omega
            clear hun
            obtain ⟨S, hS, hSL⟩ := M7.out.polys
            have PS := Lib.hid hS
            have ES := Lib.hid hSL
            have HSN : Hid (S.length = un) := by unfold Hid; rw [← HUN.out, ← hSL, List.length_map]
            clear hS hSL
            obtain ⟨wz, rfl⟩ : ∃ x, x = w2 := ⟨_, rfl⟩
            go_wp2_with fail
            go_loopw [16] (fun s16 wr => ∃ k : Nat, k ≤ un ∧ s16 = .int .i64 k ∧ Hid (Below wz.heap.size wz wr ∧ ∀ j L, j < k → (LQ ++ [discI p0 h, discI pl h])[j]? = some L → L.all roomP = true)) (fun s16 _ => un - (intOf s16).toNat)
            case atStart => exact ⟨0, by omega, rfl, Below.refl _ _, fun j L hj => by omega⟩
            case round =>
              obtain ⟨k, hk, rfl, hv⟩ := hrel
              by_cases hltk : k < un
              · have hdk : decide ((k : Int) < (un : Int)) = true := by simp; omega
                obtain ⟨⟨vk, Lk⟩, hx⟩ : ∃ x, S[k]? = some x := ⟨_, List.getElem?_eq_getElem (by rw [HSN.out]; exact hltk)⟩
                have PR := Lib.hid (PS.out.grow hv.out.1)
                have OK := Lib.hid (PR.out.own _ (List.mem_of_getElem? hx))
                have HXL : Hid ((LQ ++ [discI p0 h, discI pl h])[k]? = some Lk) := by unfold Hid; rw [← ES.out, List.getElem?_map, hx]; rfl
                obtain ⟨g4, rfl, hg4, c0⟩ := polys_cell PR.out HSN.out hx
                simp only at OK c0
                obtain ⟨ak, nk, ck, rfl⟩ := own_shape' OK.out
                have hnk := own_lim OK.out
                have HIN := Lib.hid (HINN.out (.slice ak nk ck) Lk wr OK.out.row (HSH.out Lk (List.mem_of_getElem? HXL.out)))
                obtain ⟨rb, hrb⟩ : ∃ rb, Lk.all roomP = rb := ⟨_, rfl⟩
                rw [hrb] at HIN
                have HRB := Lib.hid hrb
                clear hx hrb hnk
                go_wp2_with fail
                refine HIN.out.mono ?_
                rintro e w8 ⟨rfl, hb8⟩
                have B8 : Hid (Below wz.heap.size wz w8) := below_next hv.out.1 hb8
                clear hb8 c0
                cases rb
                · have HNF : Hid (roomL (LQ ++ [discI p0 h, discI pl h]) = false) := by
                    unfold Hid roomL
                    rw [List.all_eq_false]
                    exact ⟨Lk, List.mem_of_getElem? HXL.out, by rw [HRB.out]; decide⟩
                  go_wp2_with fail
                  go_ret2
                  exact ⟨_, by rw [HNF.out, Bool.and_false]; rfl, fun h => (by rw [HNF.out, Bool.and_false] at h; cases h), below_next M7.out.below B8.out⟩
                · have HNX2 : Hid (∀ j L, j < k + 1 → (LQ ++ [discI p0 h, discI pl h])[j]? = some L → L.all roomP = true) := fun j L hj hL => by
                    by_cases e : j = k
                    · subst e; rw [HXL.out] at hL; obtain rfl := Option.some.inj hL; exact HRB.out
                    · exact hv.out.2 j L (by omega) hL
                  go_wp2_with fail
                  exact ⟨⟨k + 1, by omega, by go_num, B8.out, HNX2.out⟩, by simp [intOf]; omega⟩
              · have hdk : decide ((k : Int) < (un : Int)) = false := by simp; omega
                have HRT : Hid (roomL (LQ ++ [discI p0 h, discI pl h]) = true) := by
                  unfold Hid roomL
                  rw [List.all_eq_true]
                  intro L hL
                  obtain ⟨j, hj⟩ := List.getElem?_of_mem hL
                  have hlt : j < (LQ ++ [discI p0 h, discI pl h]).length := (List.getElem?_eq_some_iff.1 hj).1
                  exact hv.out.2 j L (by have := HUN.out; omega) hj
                have PR := Lib.hid (PS.out.grow hv.out.1)
                go_wp2_with fail
                go_ret2
                exact ⟨_, by rw [HNLT.out, HRT.out]; rfl, fun _ => ⟨S, PR.out, ES.out⟩, below_next M7.out.below hv.out.1⟩
set_option maxHeartbeats 40000000 in
set_option maxRecDepth 100000 in
theorem ropen_2 (ao : Option Addr) (n cc : Nat) (h : Int) (w : World) (c : List Pt) (m : Nat) (HM : Hid (c.length = m)) (hm2 : 2 ≤ m) (hm3 : m ≤ 40) (nl : Bool)
    (HPL : Hid (Calls Tryd.prog 42 #[.slice ao n cc, .bool false] w fun e w' => ∃ v, e = .returned v ∧ Own w' w.heap.size 32 v c ∧ Below w.heap.size w w'))
    (HLONG : Hid (∀ k, k < m - 1 → ∀ w, Calls Tryd.prog 43 #[.agg #[.int .i64 (c.getD k (0, 0)).1, .int .i64 (c.getD k (0, 0)).2], .agg #[.int .i64 (c.getD ((k + 1) % c.length) (0, 0)).1, .int .i64 (c.getD ((k + 1) % c.length) (0, 0)).2]] w fun e w' => e = .returned (.bool (!lenB (subP (c.getD ((k + 1) % c.length) (0, 0)) (c.getD k (0, 0))))) ∧ Below w.heap.size w w'))
    (HBAR : Hid (∀ k, k < m - 1 → lenB (subP (c.getD ((k + 1) % c.length) (0, 0)) (c.getD k (0, 0))) = true → ∀ w, Calls Tryd.prog 44 #[.agg #[.int .i64 (c.getD k (0, 0)).1, .int .i64 (c.getD k (0, 0)).2], .agg #[.int .i64 (c.getD ((k + 1) % c.length) (0, 0)).1, .int .i64 (c.getD ((k + 1) % c.length) (0, 0)).2], .int .i64 h] w fun e w' => ∃ v, e = .returned v ∧ Own w' w.heap.size 32 v (barI (c.getD k (0, 0)) (c.getD ((k + 1) % c.length) (0, 0)) h) ∧ Below w.heap.size w w'))
    (HDISC : Hid (∀ k, k < m → ∀ w, Calls Tryd.prog 11 #[.agg #[.int .i64 (c.getD k (0, 0)).1, .int .i64 (c.getD k (0, 0)).2], .int .i64 h] w fun e w' => ∃ v, e = .returned v ∧ Own w' w.heap.size 32 v (discI (c.getD k (0, 0)) h) ∧ Below w.heap.size w w'))
    (HNL : Hid (∀ k, k < m - 1 → lenB (subP (c.getD ((k + 1) % c.length) (0, 0)) (c.getD k (0, 0))) = false → nl = false))
    (HNL2 : Hid ((∀ k, k < m - 1 → lenB (subP (c.getD ((k + 1) % c.length) (0, 0)) (c.getD k (0, 0))) = true) → nl = true)) (p0 p1 pk pl : Pt) (mp mq : Nat) (HP0 : Hid (c[0]? = some p0)) (HP1 : Hid (c[1]? = some p1)) (HPK : Hid (c[mq]? = some pk)) (HPZ : Hid (c[mp]? = some pl)) (HW1 : Hid (wrap64 ((m : Int) - 1) = (mp : Int))) (HW1b : Hid (IntKind.i64.wrap ((m : Int) - 1) = (mp : Int))) (HMP : Hid (mp < m)) (HM0 : Hid (0 < m ∧ 1 < m ∧ (0 : Int) < (m : Int) ∧ (1 : Int) < (m : Int))) (HW2 : Hid (wrap64 ((m : Int) - 2) = (mq : Int))) (HW2b : Hid (IntKind.i64.wrap ((m : Int) - 2) = (mq : Int))) (HMQ : Hid (mq < m)) (HFI : Hid (nl = true → ∀ w, Calls Tryd.prog 45 #[.agg #[.int .i64 p0.1, .int .i64 p0.2], .agg #[.int .i64 p1.1, .int .i64 p1.2], .int .i64 h] w fun e w' => ∃ v, e = .returned v ∧ Own w' w.heap.size 32 v (headI p0 p1 h) ∧ Below w.heap.size w w')) (HLA : Hid (nl = true → ∀ w, Calls Tryd.prog 46 #[.agg #[.int .i64 pk.1, .int .i64 pk.2], .agg #[.int .i64 pl.1, .int .i64 pl.2], .int .i64 h] w fun e w' => ∃ v, e = .returned v ∧ Own w' w.heap.size 32 v (tailI pk pl h) ∧ Below w.heap.size w w'))
    (HSH : Hid (∀ L ∈ (barsR c h (m - 1) ++ discsO c h m ++ [headI p0 p1 h, tailI pk pl h]), L.length ≤ 100000)) (HINN : Hid (∀ s L w', Row w' s L → L.length ≤ 100000 → Calls Tryd.prog 13 #[s] w' fun e w'' => e = .returned (.bool (L.all roomP)) ∧ Below w'.heap.size w' w'')) :
    Calls Tryd.prog 18 #[.slice ao n cc, .bool false, .int .i64 h, .int .i64 2] w (RPost w (nl && roomL (barsR c h (m - 1) ++ discsO c h m ++ [headI p0 p1 h, tailI pk pl h])) (barsR c h (m - 1) ++ discsO c h m ++ [headI p0 p1 h, tailI pk pl h])) := by
  go_enter Tryd.func18, Tryd.ntmps18
  go_wp2_with fail
  refine HPL.out.mono ?_
  rintro e w1 ⟨v1, rfl, ho1, hb1⟩
  obtain ⟨b, cp, rfl⟩ : ∃ b cp, v1 = .slice (some ⟨b, 0, none⟩) m cp := by
    rcases own_some ho1 with ⟨_, e⟩ | ⟨g, cp, e⟩
    · have := HM.out; rw [e] at this; simp at this; omega
    · rw [HM.out] at e; exact ⟨g, cp, e⟩
  have M1 : Hid (RefM w w1 b m cp c (.slice none 0 0) []) := ⟨hb1, ho1, [], Polys.nil _ _ _ _, rfl⟩
  clear ho1 hb1
  have hn1 : ((m : Int) == 1) = false := by simp; omega
  have hn2 : decide ((m : Int) = 1) = false := by simp; omega
  have hn3 : decide (m = 1) = false := by simp; omega
  have hn4 : decide ((m : Int) > 1) = true := by simp; omega
  have hn5 : decide (1 < (m : Int)) = true := by simp; omega
  have hn6 : decide (1 < m) = true := by simp; omega
  go_wp2_with fail
  go_loopw [10, 13] (fun s10 s13 wr => ∃ k : Nat, k ≤ m - 1 ∧ s13 = .int .i64 k ∧ Hid (RefM w wr b m cp c s10 (barsR c h k) ∧ ∀ j, j < k → lenB (subP (c.getD ((j + 1) % c.length) (0, 0)) (c.getD j (0, 0))) = true)) (fun _ s13 _ => m - (intOf s13).toNat)
  case atStart => exact ⟨0, by omega, rfl, M1.out, fun j hj => by omega⟩
  case round =>
    obtain ⟨k, hk, rfl, hw⟩ := hrel
    have hlt : k < m := by omega
    by_cases hlk : k < m - 1
    · have e1 : ((k : Int) == (m : Int) - 1) = false := by simp; omega
      have e2 : decide ((k : Int) = (m : Int) - 1) = false := by simp; omega
      have hd : decide ((k : Int) < (m : Int)) = true := by simp; omega
      have hd2 : decide (k < m) = true := by simp; omega
      obtain ⟨p, hp⟩ : ∃ p, c[k]? = some p := ⟨_, List.getElem?_eq_getElem (by rw [HM.out]; exact hlt)⟩
      obtain ⟨nx, hnx⟩ : ∃ nx, (k + 1) % m = nx := ⟨_, rfl⟩
      have hnxm : nx < m := by rw [← hnx]; exact Nat.mod_lt _ (by omega)
      obtain ⟨q, hq⟩ : ∃ q, c[nx]? = some q := ⟨_, List.getElem?_eq_getElem (by rw [HM.out]; exact hnxm)⟩
      have HP := Lib.hid hp
      have ep : c.getD k (0, 0) = p := by rw [List.getD_eq_getElem?_getD, hp]; rfl
      have eq' : c.getD ((k + 1) % c.length) (0, 0) = q := by rw [HM.out, hnx, List.getD_eq_getElem?_getD, hq]; rfl
      have HLGk := Lib.hid (HLONG.out k hlk)
      have HBARk := Lib.hid (HBAR.out k hlk)
      have HNLk := Lib.hid (HNL.out k hlk)
      have HEX : Hid (barsR c h (k + 1) = barsR c h k ++ [barI p q h]) := by unfold Hid; rw [barsR, ep, eq']
      rw [ep, eq'] at HLGk HBARk HNLk
      have HKK2 : Hid (lenB (subP q p) = true → ∀ j, j < k + 1 → lenB (subP (c.getD ((j + 1) % c.length) (0, 0)) (c.getD j (0, 0))) = true) := fun hl j hj => by
        by_cases e : j = k
        · subst e; rw [ep, eq']; exact hl
        · exact hw.out.2 j (by omega)
      have M2 := Lib.hid hw.out.1
      obtain ⟨ua, uc, hu⟩ := M2.out.shape
      obtain ⟨un, hun⟩ : ∃ un, (barsR c h k).length = un := ⟨_, rfl⟩
      rw [hun] at hu
      subst hu
      have HLL : Hid ((barsR c h k).length + [((.int .i64 0 : Value), barI p q h)].length ≤ 100000) := by unfold Hid; rw [barsR_len]; simp; omega
      generalize barsR c h k = L at M2 HEX HLL hun
      obtain ⟨c0, c1⟩ := M2.out.row.pts HM.out hq
      have hmk : (m : Int) ≠ 0 := by omega
      have htm : ((k : Int) + 1).tmod (m : Int) = (nx : Int) := by
        rw [Int.tmod_eq_emod_of_nonneg (by omega), ← hnx]
        rfl
      have HNX := Lib.hid hnx
      clear hp hq ep eq' hw hun hnx
      obtain ⟨w3, rfl⟩ : ∃ x, x = wr := ⟨_, rfl⟩
      go_wp2_with fail
      obtain ⟨g14, hg14⟩ : ∃ g, w3.heap.size = g := ⟨_, rfl⟩
      obtain ⟨w4, hw4⟩ : ∃ W, w3.alloc (.cells #[.int .i64 q.1, .int .i64 q.2] 32) = W := ⟨_, rfl⟩
      have F4 : Hid (RefM w w4 b m cp c (.slice ua un uc) L ∧ Blk w4 g14 32 (two q)) := by
        rw [← hw4]
        exact ⟨M2.out.grow ((Below.refl _ _).alloc (Nat.le_refl _) _), Blk.newAt _ _ _ hg14⟩
      rw [hw4, hg14]
      clear hw4 hg14 c0 c1 htm hmk
      obtain ⟨lq, hlq⟩ : ∃ lq, lenB (subP q p) = lq := ⟨_, rfl⟩
      rw [hlq] at HLGk HBARk HNLk HKK2
      obtain ⟨lg, hlg⟩ : ∃ lg, (!lq) = lg := ⟨_, rfl⟩
      have HLG := HLGk
      rw [hlg] at HLG
      have HLGE := Lib.hid hlg
      clear hlq hlg
      refine wp_region_put (by kernel_rfl) (by kernel_rfl) (by kernel_rfl) (fun b' vs w' => (b' 0 = true → vs 0 = .slice (some ⟨b, 0, none⟩) m cp) ∧ (b' 1 = true → vs 1 = .int .i64 (k : Int)) ∧ (b' 2 = true → vs 2 = .pointer (some ⟨b, k * 2, none⟩)) ∧ (b' 3 = true → vs 3 = .agg #[.int .i64 p.1, .int .i64 p.2]) ∧ (b' 4 = true → vs 4 = .agg #[.int .i64 q.1, .int .i64 q.2]) ∧ (b' 5 = true → vs 5 = .bool lg) ∧ (Hid (Below w4.heap.size w4 w' ∧ w4.heap.size ≤ w'.heap.size)) ∧ (Hid (RefM w w' b m cp c (.slice ua un uc) L ∧ Blk w' g14 32 (two q)))) ?_ ?_ ?_
      · intro vs
        exact ⟨fun h => Bool.noConfusion h, fun h => Bool.noConfusion h, fun h => Bool.noConfusion h, fun h => Bool.noConfusion h, fun h => Bool.noConfusion h, fun h => Bool.noConfusion h, Lib.hid ⟨below_drewN (Below.refl _ _) 1, Nat.le_refl _⟩, Lib.hid ⟨F4.out.1.grow ⟨rfl, rfl, rfl, Nat.le_refl _, fun _ _ => rfl⟩, F4.out.2.grow ⟨rfl, rfl, rfl, Nat.le_refl _, fun _ _ => rfl⟩⟩⟩
      · rintro b' vs w' i op hi hun hall ⟨h0, h1, h2, h3, h4, h5, hB, hF⟩
        have hil : i < 6 := (List.getElem?_eq_some_iff.1 hi).1
        rcases i with _ | _ | _ | _ | _ | _ | i
        · obtain rfl := Option.some.inj hi
          clear hi hil
          refine wpOp_step rfl (fun K hK => ?_)
          have HKK := Lib.hid hK; clear hK
          simp only [putAll, Act.put, List.setIfInBounds_toArray, List.set_cons_zero, List.set_cons_succ]
          go_simp
          exact HKK.out _ _ ⟨_, by simp only [putAll, Act.put, List.setIfInBounds_toArray, List.set_cons_zero, List.set_cons_succ] <;> rfl, fun _ => rfl, h1, h2, h3, h4, h5, hB, hF⟩
        · obtain rfl := Option.some.inj hi
          clear hi hil
          refine wpOp_step rfl (fun K hK => ?_)
          have HKK := Lib.hid hK; clear hK
          simp only [putAll, Act.put, List.setIfInBounds_toArray, List.set_cons_zero, List.set_cons_succ]
          go_simp
          exact HKK.out _ _ ⟨_, by simp only [putAll, Act.put, List.setIfInBounds_toArray, List.set_cons_zero, List.set_cons_succ] <;> rfl, h0, fun _ => rfl, h2, h3, h4, h5, hB, hF⟩
        · obtain rfl := Option.some.inj hi
          clear hi hil
          have d0 := h0 (hall ⟨0, .data⟩ (by simp) rfl)
          have d1 := h1 (hall ⟨1, .data⟩ (by simp) rfl)
          have hkm1 : k < m := hlt
          refine wpOp_step rfl (fun K hK => ?_)
          have HKK := Lib.hid hK; clear hK
          simp only [putAll, Act.put, List.setIfInBounds_toArray, List.set_cons_zero, List.set_cons_succ]
          go_simp
          exact HKK.out _ _ ⟨_, by simp only [putAll, Act.put, List.setIfInBounds_toArray, List.set_cons_zero, List.set_cons_succ, d0, d1] <;> rfl, h0, h1, fun _ => rfl, h3, h4, h5, hB, hF⟩
        · obtain rfl := Option.some.inj hi
          clear hi hil
          have d2 := h2 (hall ⟨2, .data⟩ (by simp) rfl)
          obtain ⟨x0, x1⟩ := hF.out.1.row.pts HM.out HP.out
          refine wpOp_step rfl (fun K hK => ?_)
          have HKK := Lib.hid hK; clear hK
          simp only [putAll, Act.put, List.setIfInBounds_toArray, List.set_cons_zero, List.set_cons_succ]
          go_simp
          exact HKK.out _ _ ⟨_, by simp only [putAll, Act.put, List.setIfInBounds_toArray, List.set_cons_zero, List.set_cons_succ, d2] <;> rfl, h0, h1, h2, fun _ => rfl, h4, h5, hB, hF⟩
        · obtain rfl := Option.some.inj hi
          clear hi hil
          have kq := hF.out.2
          have x0 := kq.p0
          have x1 := kq.p1
          clear kq
          refine wpOp_step rfl (fun K hK => ?_)
          have HKK := Lib.hid hK; clear hK
          simp only [putAll, Act.put, List.setIfInBounds_toArray, List.set_cons_zero, List.set_cons_succ]
          go_simp
          exact HKK.out _ _ ⟨_, by simp only [putAll, Act.put, List.setIfInBounds_toArray, List.set_cons_zero, List.set_cons_succ] <;> rfl, h0, h1, h2, h3, fun _ => rfl, h5, hB, hF⟩
        · obtain rfl := Option.some.inj hi
          clear hi hil
          have d3 := h3 (hall ⟨3, .data⟩ (by simp) rfl)
          have d4 := h4 (hall ⟨4, .data⟩ (by simp) rfl)
          refine wpOp_step rfl (fun K hK => ?_)
          have HKK := Lib.hid hK; clear hK
          simp only [putAll, Act.put, List.setIfInBounds_toArray, List.set_cons_zero, List.set_cons_succ]
          go_simp
          refine (HLG.out w').mono ?_
          rintro e w2 ⟨rfl, hb2⟩
          exact HKK.out _ _ ⟨_, by simp only [putAll, Act.put, List.setIfInBounds_toArray, List.set_cons_zero, List.set_cons_succ, d3, d4] <;> rfl, h0, h1, h2, h3, h4, fun _ => rfl, Lib.hid ⟨(hB).out.1.trans (hb2.mono (hB).out.2), Nat.le_trans (hB).out.2 hb2.size⟩, Lib.hid (⟨(hF).out.1.grow hb2, (hF).out.2.grow hb2⟩)⟩
        · omega
      · rintro b' vs w2 hall ⟨h0, h1, h2, h3, h4, h5, hB, hF⟩
        have d0 := h0 (hall 0 (by simp))
        have d1 := h1 (hall 1 (by simp))
        have d2 := h2 (hall 2 (by simp))
        have d3 := h3 (hall 3 (by simp))
        have d4 := h4 (hall 4 (by simp))
        have d5 := h5 (hall 5 (by simp))
        have BB := hB
        have FF := hF
        simp only [putAll, Act.put, List.setIfInBounds_toArray, List.set_cons_zero, List.set_cons_succ, d0, d1, d2, d3, d4, d5]
        clear hall h0 d0 h1 d1 h2 d2 h3 d3 h4 d4 h5 d5 hB hF
        have M5 := Lib.hid FF.out
        obtain ⟨w5, rfl⟩ : ∃ x, x = w2 := ⟨_, rfl⟩
        clear FF BB
        cases lg
        · have hlt1 : lq = true := by have := HLGE.out; cases lq <;> simp_all
          have HRB := Lib.hid (HBARk.out hlt1)
          have HKK3 := Lib.hid (HKK2.out hlt1)
          have F5 := M5
          have HW5 : Hid (w.heap.size ≤ w5.heap.size) := F5.out.1.below.size
          clear hlt1
          go_wp2_with fail
          refine wp_region_put2 (by kernel_rfl) (by kernel_rfl) (by kernel_rfl) (fun b' vs w' => (b' 0 = true → vs 0 = .slice ua un uc) ∧ (b' 1 = true → vs 1 = .slice (some ⟨b, 0, none⟩) m cp) ∧ (b' 2 = true → vs 2 = .int .i64 (k : Int)) ∧ (b' 3 = true → vs 3 = .pointer (some ⟨b, k * 2, none⟩)) ∧ (b' 4 = true → vs 4 = .agg #[.int .i64 p.1, .int .i64 p.2]) ∧ (b' 5 = true → vs 5 = .agg #[.int .i64 q.1, .int .i64 q.2]) ∧ (b' 6 = true → vs 6 = .int .i64 h) ∧ (b' 7 = true → b' 9 = false → Hid (Own w' w.heap.size 32 (vs 7) (barI p q h))) ∧ (b' 8 = true → b' 9 = false → Hid (∃ gl x0, (vs 8) = .slice (some ⟨gl, 0, none⟩) 1 1 ∧ Blk w' gl 30 #[x0] ∧ Own w' w.heap.size 32 x0 (barI p q h))) ∧ (b' 9 = false → Hid (Below w5.heap.size w5 w' ∧ w5.heap.size ≤ w'.heap.size)) ∧ (b' 9 = false → Hid (RefM w w' b m cp c (.slice ua un uc) L ∧ Blk w' g14 32 (two q))) ∧ (b' 9 = true → Hid (RefM w w' b m cp c (vs 9) (L ++ [barI p q h]))) ∧ (b' 8 = true → b' 7 = true) ∧ (b' 7 = true → b' 4 = true) ∧ (b' 7 = true → b' 5 = true) ∧ (b' 9 = true → b' 0 = true) ∧ (b' 9 = true → b' 4 = true) ∧ (b' 9 = true → b' 5 = true) ∧ (b' 9 = true → b' 7 = true) ∧ (b' 9 = true → b' 8 = true) ∧ (b' 10 = true → b' 9 = true ∧ vs 10 = vs 9) ∧ (b' 10 = false → vs 10 = .slice ua un uc) ∧ (b' 10 = true → b' 0 = true)) ?_ ?_ ?_
          · intro vs hvs
            exact ⟨fun h => Bool.noConfusion h, fun h => Bool.noConfusion h, fun h => Bool.noConfusion h, fun h => Bool.noConfusion h, fun h => Bool.noConfusion h, fun h => Bool.noConfusion h, fun h => Bool.noConfusion h, fun h => Bool.noConfusion h, fun h => Bool.noConfusion h, fun _ => Lib.hid ⟨below_drewN (Below.refl _ _) 1, Nat.le_refl _⟩, fun _ => Lib.hid ⟨F5.out.1.grow ⟨rfl, rfl, rfl, Nat.le_refl _, fun _ _ => rfl⟩, F5.out.2.grow ⟨rfl, rfl, rfl, Nat.le_refl _, fun _ _ => rfl⟩⟩, fun h => Bool.noConfusion h, fun h => Bool.noConfusion h, fun h => Bool.noConfusion h, fun h => Bool.noConfusion h, fun h => Bool.noConfusion h, fun h => Bool.noConfusion h, fun h => Bool.noConfusion h, fun h => Bool.noConfusion h, fun h => Bool.noConfusion h, fun h => Bool.noConfusion h, fun _ => hvs 10 _ _ rfl rfl, fun h => Bool.noConfusion h⟩
          · rintro b' vs w' i op hi hun hall ⟨h0, h1, h2, h3, h4, h5, h6, y7, y8, hB, hF, hG, hE8_7, hE7_4, hE7_5, hW0, hW4, hW5, hW7, hW8, hA, hR, hZ⟩
            have hil : i < 11 := (List.getElem?_eq_some_iff.1 hi).1
            rcases i with _ | _ | _ | _ | _ | _ | _ | _ | _ | _ | _ | i
            · obtain rfl := Option.some.inj hi
              clear hi hil
              have hz : b' 10 = false := by
                cases hzz : b' 10 with
                | false => rfl
                | true => exact absurd (hZ hzz) (by rw [hun]; decide)
              have hx := hR hz
              refine wpOp_step rfl (fun K hK => ?_)
              have HKK := Lib.hid hK; clear hK
              simp only [putAll, Act.put, List.setIfInBounds_toArray, List.set_cons_zero, List.set_cons_succ]
              go_simp
              exact HKK.out _ _ ⟨_, by simp only [putAll, Act.put, List.setIfInBounds_toArray, List.set_cons_zero, List.set_cons_succ, hx] <;> rfl, fun _ => rfl, h1, h2, h3, h4, h5, h6, y7, y8, hB, hF, hG, hE8_7, hE7_4, hE7_5, fun _ => rfl, hW4, hW5, hW7, hW8, hA, hR, fun _ => rfl⟩
            · obtain rfl := Option.some.inj hi
              clear hi hil
              refine wpOp_step rfl (fun K hK => ?_)
              have HKK := Lib.hid hK; clear hK
              simp only [putAll, Act.put, List.setIfInBounds_toArray, List.set_cons_zero, List.set_cons_succ]
              go_simp
              exact HKK.out _ _ ⟨_, by simp only [putAll, Act.put, List.setIfInBounds_toArray, List.set_cons_zero, List.set_cons_succ] <;> rfl, h0, fun _ => rfl, h2, h3, h4, h5, h6, y7, y8, hB, hF, hG, hE8_7, hE7_4, hE7_5, hW0, hW4, hW5, hW7, hW8, hA, hR, hZ⟩
            · obtain rfl := Option.some.inj hi
              clear hi hil
              refine wpOp_step rfl (fun K hK => ?_)
              have HKK := Lib.hid hK; clear hK
              simp only [putAll, Act.put, List.setIfInBounds_toArray, List.set_cons_zero, List.set_cons_succ]
              go_simp
              exact HKK.out _ _ ⟨_, by simp only [putAll, Act.put, List.setIfInBounds_toArray, List.set_cons_zero, List.set_cons_succ] <;> rfl, h0, h1, fun _ => rfl, h3, h4, h5, h6, y7, y8, hB, hF, hG, hE8_7, hE7_4, hE7_5, hW0, hW4, hW5, hW7, hW8, hA, hR, hZ⟩
            · obtain rfl := Option.some.inj hi
              clear hi hil
              have d1 := h1 (hall ⟨1, .data⟩ (by simp) rfl)
              have d2 := h2 (hall ⟨2, .data⟩ (by simp) rfl)
              have hkm1 : k < m := hlt
              refine wpOp_step rfl (fun K hK => ?_)
              have HKK := Lib.hid hK; clear hK
              simp only [putAll, Act.put, List.setIfInBounds_toArray, List.set_cons_zero, List.set_cons_succ]
              go_simp
              exact HKK.out _ _ ⟨_, by simp only [putAll, Act.put, List.setIfInBounds_toArray, List.set_cons_zero, List.set_cons_succ, d1, d2] <;> rfl, h0, h1, h2, fun _ => rfl, h4, h5, h6, y7, y8, hB, hF, hG, hE8_7, hE7_4, hE7_5, hW0, hW4, hW5, hW7, hW8, hA, hR, hZ⟩
            · obtain rfl := Option.some.inj hi
              clear hi hil
              have hap : b' 9 = false := by
                cases hz : b' 9 with
                | false => rfl
                | true => exact absurd (hW4 hz) (by rw [hun]; decide)
              have d3 := h3 (hall ⟨3, .data⟩ (by simp) rfl)
              obtain ⟨x0, x1⟩ := (hF hap).out.1.row.pts HM.out HP.out
              refine wpOp_step rfl (fun K hK => ?_)
              have HKK := Lib.hid hK; clear hK
              simp only [putAll, Act.put, List.setIfInBounds_toArray, List.set_cons_zero, List.set_cons_succ]
              go_simp
              exact HKK.out _ _ ⟨_, by simp only [putAll, Act.put, List.setIfInBounds_toArray, List.set_cons_zero, List.set_cons_succ, d3] <;> rfl, h0, h1, h2, h3, fun _ => rfl, h5, h6, y7, y8, hB, hF, hG, hE8_7, fun _ => rfl, hE7_5, hW0, fun _ => rfl, hW5, hW7, hW8, hA, hR, hZ⟩
            · obtain rfl := Option.some.inj hi
              clear hi hil
              have hap : b' 9 = false := by
                cases hz : b' 9 with
                | false => rfl
                | true => exact absurd (hW5 hz) (by rw [hun]; decide)
              have kq := (hF hap).out.2
              have x0 := kq.p0
              have x1 := kq.p1
              clear kq
              refine wpOp_step rfl (fun K hK => ?_)
              have HKK := Lib.hid hK; clear hK
              simp only [putAll, Act.put, List.setIfInBounds_toArray, List.set_cons_zero, List.set_cons_succ]
              go_simp
              exact HKK.out _ _ ⟨_, by simp only [putAll, Act.put, List.setIfInBounds_toArray, List.set_cons_zero, List.set_cons_succ] <;> rfl, h0, h1, h2, h3, h4, fun _ => rfl, h6, y7, y8, hB, hF, hG, hE8_7, hE7_4, fun _ => rfl, hW0, hW4, fun _ => rfl, hW7, hW8, hA, hR, hZ⟩
            · obtain rfl := Option.some.inj hi
              clear hi hil
              refine wpOp_step rfl (fun K hK => ?_)
              have HKK := Lib.hid hK; clear hK
              simp only [putAll, Act.put, List.setIfInBounds_toArray, List.set_cons_zero, List.set_cons_succ]
              go_simp
              exact HKK.out _ _ ⟨_, by simp only [putAll, Act.put, List.setIfInBounds_toArray, List.set_cons_zero, List.set_cons_succ] <;> rfl, h0, h1, h2, h3, h4, h5, fun _ => rfl, y7, y8, hB, hF, hG, hE8_7, hE7_4, hE7_5, hW0, hW4, hW5, hW7, hW8, hA, hR, hZ⟩
            · obtain rfl := Option.some.inj hi
              clear hi hil
              have hap : b' 9 = false := by
                cases hz : b' 9 with
                | false => rfl
                | true => exact absurd (hW7 hz) (by rw [hun]; decide)
              have d4 := h4 (hall ⟨4, .data⟩ (by simp) rfl)
              have d5 := h5 (hall ⟨5, .data⟩ (by simp) rfl)
              have d6 := h6 (hall ⟨6, .data⟩ (by simp) rfl)
              refine wpOp_step rfl (fun K hK => ?_)
              have HKK := Lib.hid hK; clear hK
              simp only [putAll, Act.put, List.setIfInBounds_toArray, List.set_cons_zero, List.set_cons_succ]
              go_simp
              refine (HRB.out w').mono ?_
              rintro e w2 ⟨v2, rfl, ho2, hb2⟩
              exact HKK.out _ _ ⟨_, by simp only [putAll, Act.put, List.setIfInBounds_toArray, List.set_cons_zero, List.set_cons_succ, d4, d5, d6] <;> rfl, h0, h1, h2, h3, h4, h5, h6, fun _ _ => Lib.hid (ho2.base (Nat.le_trans HW5.out (hB hap).out.2)), fun h ha => Lib.hid (grow_lit1 (y8 h ha).out hb2), fun ha => Lib.hid ⟨(hB ha).out.1.trans (hb2.mono (hB ha).out.2), Nat.le_trans (hB ha).out.2 hb2.size⟩, fun ha => Lib.hid (⟨(hF ha).out.1.grow hb2, (hF ha).out.2.grow hb2⟩), fun h => absurd (show b' 9 = true from h) (by rw [hap]; decide), fun _ => rfl, fun _ => hall ⟨4, .data⟩ (by simp) rfl, fun _ => hall ⟨5, .data⟩ (by simp) rfl, hW0, hW4, hW5, fun _ => rfl, hW8, hA, hR, hZ⟩
            · obtain rfl := Option.some.inj hi
              clear hi hil
              have hap : b' 9 = false := by
                cases hz : b' 9 with
                | false => rfl
                | true => exact absurd (hW8 hz) (by rw [hun]; decide)
              have o7 := y7 (hall ⟨7, .data⟩ (by simp) rfl) hap
              obtain ⟨sa0, sn0, sc0, es0⟩ := own_shape' o7.out
              have ow0 := Lib.hid (es0 ▸ o7.out)
              refine wpOp_step rfl (fun K hK => ?_)
              have HKK := Lib.hid hK; clear hK
              simp only [putAll, Act.put, List.setIfInBounds_toArray, List.set_cons_zero, List.set_cons_succ]
              go_simp
              have hb2 : Below w'.heap.size w' (w'.alloc (.cells #[.slice sa0 sn0 sc0] 30)) := (Below.refl _ _).alloc (Nat.le_refl _) _
              exact HKK.out _ _ ⟨_, by simp only [putAll, Act.put, List.setIfInBounds_toArray, List.set_cons_zero, List.set_cons_succ, es0] <;> rfl, h0, h1, h2, h3, h4, h5, h6, fun h ha => Lib.hid (Own.grow (y7 h ha).out hb2), fun _ _ => Lib.hid (⟨_, _, rfl, Blk.new _ _ _, ow0.out.grow ((Below.refl _ _).alloc (Nat.le_refl _) _)⟩), fun ha => Lib.hid ⟨(hB ha).out.1.trans (hb2.mono (hB ha).out.2), Nat.le_trans (hB ha).out.2 hb2.size⟩, fun ha => Lib.hid (⟨(hF ha).out.1.grow hb2, (hF ha).out.2.grow hb2⟩), fun h => absurd (show b' 9 = true from h) (by rw [hap]; decide), fun _ => hall ⟨7, .data⟩ (by simp) rfl, hE7_4, hE7_5, hW0, hW4, hW5, hW7, fun _ => rfl, hA, hR, hZ⟩
            · obtain rfl := Option.some.inj hi
              clear hi hil
              have hap : b' 9 = false := hun
              have d0 := h0 (hall ⟨0, .data⟩ (by simp) rfl)
              have o8 := y8 (hall ⟨8, .data⟩ (by simp) rfl) hap
              obtain ⟨gl, xl0, eg, hbl, hol7⟩ := o8.out
              refine wpOp_step rfl (fun K hK => ?_)
              have HKK := Lib.hid hK; clear hK
              simp only [putAll, Act.put, List.setIfInBounds_toArray, List.set_cons_zero, List.set_cons_succ]
              refine (if_pos rfl).mpr (wp_append_refs _ _ rfl b m cp c _ _ d0 (hF hap).out.1 [(xl0, barI p q h)] (fun x hx => by obtain rfl := List.mem_singleton.1 hx; exact hol7) gl 1 rfl eg hbl (HLL.out) ?_)
              intro v' w2 hm2
              exact HKK.out _ _ ⟨_, by simp only [putAll, Act.put, List.setIfInBounds_toArray, List.set_cons_zero, List.set_cons_succ, d0] <;> rfl, h0, h1, h2, h3, h4, h5, h6, fun _ h => Bool.noConfusion h, fun _ h => Bool.noConfusion h, fun h => Bool.noConfusion h, fun h => Bool.noConfusion h, fun _ => Lib.hid (hm2), hE8_7, hE7_4, hE7_5, fun _ => hall ⟨0, .data⟩ (by simp) rfl, fun _ => hE7_4 (hE8_7 (hall ⟨8, .data⟩ (by simp) rfl)), fun _ => hE7_5 (hE8_7 (hall ⟨8, .data⟩ (by simp) rfl)), fun _ => hE8_7 (hall ⟨8, .data⟩ (by simp) rfl), fun _ => hall ⟨8, .data⟩ (by simp) rfl, fun hq => absurd (hA hq).1 (by rw [hun]; decide), hR, hZ⟩
            · obtain rfl := Option.some.inj hi
              clear hi hil
              have gB := hG (hall ⟨9, .data⟩ (by simp) rfl)
              refine wpOp_step rfl (fun K hK => ?_)
              have HKK := Lib.hid hK; clear hK
              simp only [putAll, Act.put, List.setIfInBounds_toArray, List.set_cons_zero, List.set_cons_succ]
              go_simp
              exact HKK.out _ _ ⟨_, by simp only [putAll, Act.put, List.setIfInBounds_toArray, List.set_cons_zero, List.set_cons_succ] <;> rfl, h0, h1, h2, h3, h4, h5, h6, y7, y8, hB, hF, hG, hE8_7, hE7_4, hE7_5, hW0, hW4, hW5, hW7, hW8, fun _ => ⟨hall ⟨9, .data⟩ (by simp) rfl, rfl⟩, fun h => Bool.noConfusion h, fun _ => hW0 (hall ⟨9, .data⟩ (by simp) rfl)⟩
            · omega
          · rintro b' vs w2 hall ⟨h0, h1, h2, h3, h4, h5, h6, y7, y8, hB, hF, hG, hE8_7, hE7_4, hE7_5, hW0, hW4, hW5, hW7, hW8, hA, hR, hZ⟩
            have d0 := h0 (hall 0 (by simp))
            have d1 := h1 (hall 1 (by simp))
            have d2 := h2 (hall 2 (by simp))
            have d3 := h3 (hall 3 (by simp))
            have d4 := h4 (hall 4 (by simp))
            have d5 := h5 (hall 5 (by simp))
            have d6 := h6 (hall 6 (by simp))
            have GG := hG (hall 9 (by simp))
            have dA := (hA (hall 10 (by simp))).2
            simp only [putAll, Act.put, List.setIfInBounds_toArray, List.set_cons_zero, List.set_cons_succ, d0, d1, d2, d3, d4, d5, d6, dA]
            clear hall h0 d0 h1 d1 h2 d2 h3 d3 h4 d4 h5 d5 h6 d6 y7 y8 hB hF hG hE8_7 hE7_4 hE7_5 hW0 hW4 hW5 hW7 hW8 hA dA hR hZ
            generalize vs 9 = va at *
            have M6 := Lib.hid GG.out
            obtain ⟨w6, rfl⟩ : ∃ x, x = w2 := ⟨_, rfl⟩
            rw [← HEX.out] at M6
            obtain ⟨xa, xc, hxa⟩ := M6.out.shape
            go_wp2_with fail
            exact ⟨⟨k + 1, by omega, by go_num, M6.out, HKK3.out⟩, by simp [intOf]; omega⟩
        · have hlf : lq = false := by have := HLGE.out; cases lq <;> simp_all
          have HNF : Hid (nl = false) := HNLk.out hlf
          go_wp2_with fail
          go_ret2
          exact ⟨_, by rw [HNF.out]; rfl, fun h => (by rw [HNF.out] at h; cases h), M5.out.1.below⟩
    · have hd : decide ((k : Int) < (m : Int)) = true := by simp; omega
      have hd2 : decide (k < m) = true := by simp; omega
      have HNLT : Hid (nl = true) := HNL2.out (fun j hj => hw.out.2 j (by omega))
      have M2 : Hid (RefM w wr b m cp c u10 (barsR c h (m - 1) ++ discsO c h 0)) := by
        have := hw.out.1
        rw [show k = m - 1 by omega] at this
        unfold Hid; rw [discsO, List.append_nil]; exact this
      have e1 : ((k : Int) == (m : Int) - 1) = true := by simp; omega
      have e2 : decide ((k : Int) = (m : Int) - 1) = true := by simp; omega
      clear hw hlk hk
      obtain ⟨wy, rfl⟩ : ∃ x, x = wr := ⟨_, rfl⟩
      go_wp2_with fail
      go_loopw [10, 15] (fun s10 s15 wr => ∃ k : Nat, k ≤ m ∧ s15 = .int .i64 k ∧ Hid (RefM w wr b m cp c s10 (barsR c h (m - 1) ++ discsO c h k))) (fun _ s15 _ => m - (intOf s15).toNat)
      case atStart => exact ⟨0, by omega, rfl, M2.out⟩
      case round =>
        clear hlt hd hd2 M2 e1 e2
        obtain ⟨k, hk, rfl, hw⟩ := hrel
        by_cases hlt : k < m
        · by_cases hmid : 0 < k ∧ k < m - 1
          · have g1 : decide ((k : Int) > 0) = true := by simp; omega
            have g2 : decide (0 < k) = true := by simp; omega
            have g3 : decide ((k : Int) < (m : Int) - 1) = true := by simp; omega
            have hd : decide ((k : Int) < (m : Int)) = true := by simp; omega
            have hd2 : decide (k < m) = true := by simp; omega
            obtain ⟨p, hp⟩ : ∃ p, c[k]? = some p := ⟨_, List.getElem?_eq_getElem (by rw [HM.out]; exact hlt)⟩
            have ep : c.getD k (0, 0) = p := by rw [List.getD_eq_getElem?_getD, hp]; rfl
            have M2 := Lib.hid hw.out
            obtain ⟨ua, uc, hu⟩ := M2.out.shape
            obtain ⟨un, hun⟩ : ∃ un, (barsR c h (m - 1) ++ discsO c h k).length = un := ⟨_, rfl⟩
            rw [hun] at hu
            subst hu
            have HLL : Hid ((barsR c h (m - 1) ++ discsO c h k).length + [((.int .i64 0 : Value), discI p h)].length ≤ 100000) := by unfold Hid; rw [List.length_append, barsR_len]; have := discsO_len c h k; simp; omega
            obtain ⟨c0, c1⟩ := M2.out.row.pts HM.out hp
            have HEX : Hid (barsR c h (m - 1) ++ discsO c h (k + 1) = barsR c h (m - 1) ++ discsO c h k ++ [discI p h]) := by unfold Hid; rw [discsO, if_pos (by rw [HM.out]; exact hmid), ep, List.append_assoc]
            generalize barsR c h (m - 1) ++ discsO c h k = L at M2 HEX HLL hun
            clear hp hw hun hmid
            have HDk := Lib.hid (HDISC.out k hlt)
            rw [ep] at HDk
            clear ep
            go_wp2_with fail
            refine (HDk.out _).mono ?_
            rintro e w4 ⟨v4, rfl, ho4, hb4⟩
            obtain ⟨sa, sn, sc, rfl⟩ := own_shape' ho4
            have AX : Hid (Below w4.heap.size w4 (w4.alloc (.cells #[.slice sa sn sc] 30))) := (Below.refl _ _).alloc (Nat.le_refl _) _
            have M5 := Lib.hid ((M2.out.grow hb4).grow AX.out)
            have HNW : Hid (∀ x ∈ [((.slice sa sn sc : Value), discI p h)], Own (w4.alloc (.cells #[.slice sa sn sc] 30)) w.heap.size 32 x.1 x.2) := fun x hx => by
              obtain rfl := List.mem_singleton.1 hx
              exact (ho4.base M2.out.below.size).grow AX.out
            have HBL : Hid (Blk (w4.alloc (.cells #[.slice sa sn sc] 30)) w4.heap.size 30 ([((.slice sa sn sc : Value), discI p h)].map Prod.fst).toArray) := Blk.new _ _ _
            clear ho4 hb4 c0 c1
            go_wp2_with (at_builtin; refine wpList_append_refs rfl _ _ rfl b m cp c _ _ rfl M5.out [(.slice sa sn sc, discI p h)] HNW.out w4.heap.size 1 rfl rfl HBL.out HLL.out ?_)
            intro v' w6 hm6
            have M6 : Hid (RefM w w6 b m cp c v' (L ++ [discI p h])) := hm6
            rw [← HEX.out] at M6
            obtain ⟨xa, xc, hxa⟩ := M6.out.shape
            subst hxa
            clear hm6
            go_wp2_with fail
            exact ⟨⟨k + 1, by omega, by go_num, M6.out⟩, by simp [intOf]; omega⟩
          · have hd : decide ((k : Int) < (m : Int)) = true := by simp; omega
            have hd2 : decide (k < m) = true := by simp; omega
            have HEX : Hid (RefM w wr b m cp c u10 (barsR c h (m - 1) ++ discsO c h (k + 1))) := by unfold Hid; rw [discsO, if_neg (by rw [HM.out]; exact hmid), List.append_nil]; exact hw.out
            clear hw
            by_cases hk0 : k = 0
            · have g1 : decide ((k : Int) > 0) = false := by simp; omega
              have g2 : decide (0 < k) = false := by simp; omega
              clear hk0 hmid
              go_wp2_with fail
              exact ⟨⟨k + 1, by omega, by go_num, HEX.out⟩, by simp [intOf]; omega⟩
            · have g1 : decide ((k : Int) > 0) = true := by simp; omega
              have g2 : decide (0 < k) = true := by simp; omega
              have g3 : decide ((k : Int) < (m : Int) - 1) = false := by simp; omega
              clear hk0 hmid
              go_wp2_with fail
              exact ⟨⟨k + 1, by omega, by go_num, HEX.out⟩, by simp [intOf]; omega⟩
        · have hd : decide ((k : Int) < (m : Int)) = false := by simp; omega
          have hd2 : decide (k < m) = false := by simp; omega
          have M6 : Hid (RefM w wr b m cp c u10 (barsR c h (m - 1) ++ discsO c h m)) := by
            have := hw.out
            rw [show k = m by omega] at this
            exact this
          clear hw
          have M2 := M6
          obtain ⟨ua, uc, hu⟩ := M2.out.shape
          obtain ⟨un, hun⟩ : ∃ un, (barsR c h (m - 1) ++ discsO c h m).length = un := ⟨_, rfl⟩
          rw [hun] at hu
          subst hu
          have HLL : Hid ((barsR c h (m - 1) ++ discsO c h m).length + [((.int .i64 0 : Value), discI p0 h), (.int .i64 0, discI p0 h)].length ≤ 100000) := by unfold Hid; rw [List.length_append, barsR_len]; have := discsO_len c h m; simp; omega
          have HLE : Hid ((barsR c h (m - 1) ++ discsO c h m).length ≤ 500) := by unfold Hid; rw [List.length_append, barsR_len]; have := discsO_len c h m; omega
          clear hun M6
          obtain ⟨w5, rfl⟩ : ∃ x, x = wr := ⟨_, rfl⟩
          have F5 := M2
          have HFI := Lib.hid (HFI.out HNLT.out)
          have HLA := Lib.hid (HLA.out HNLT.out)
          have HW5 : Hid (w.heap.size ≤ w5.heap.size) := F5.out.below.size
          go_wp2_with fail
          clear hk hlt hd hd2 hn1 hn2 hn3 hn4 hn5 hn6
          have HM2 := Lib.hid hm2
          have HM3 := Lib.hid hm3
          clear hm2 hm3
          generalize hLg : barsR c h (m - 1) ++ discsO c h m = LQ at *
          refine wp_region_put2 (by kernel_rfl) (by kernel_rfl) (by kernel_rfl) (fun b' vs w' => (b' 0 = true → vs 0 = .slice ua un uc) ∧ (b' 1 = true → vs 1 = .slice (some ⟨b, 0, none⟩) m cp) ∧ (b' 2 = true → vs 2 = .pointer (some ⟨b, 0, none⟩)) ∧ (b' 3 = true → vs 3 = .agg #[.int .i64 p0.1, .int .i64 p0.2]) ∧ (b' 4 = true → vs 4 = .slice (some ⟨b, 0, none⟩) m cp) ∧ (b' 5 = true → vs 5 = .pointer (some ⟨b, 2, none⟩)) ∧ (b' 6 = true → vs 6 = .agg #[.int .i64 p1.1, .int .i64 p1.2]) ∧ (b' 7 = true → vs 7 = .int .i64 h) ∧ (b' 9 = true → vs 9 = .slice (some ⟨b, 0, none⟩) m cp) ∧ (b' 10 = true → vs 10 = .int .i64 (m : Int)) ∧ (b' 11 = true → vs 11 = .int .i64 (mq : Int)) ∧ (b' 12 = true → vs 12 = .pointer (some ⟨b, mq * 2, none⟩)) ∧ (b' 13 = true → vs 13 = .agg #[.int .i64 pk.1, .int .i64 pk.2]) ∧ (b' 14 = true → vs 14 = .slice (some ⟨b, 0, none⟩) m cp) ∧ (b' 15 = true → vs 15 = .int .i64 (m : Int)) ∧ (b' 16 = true → vs 16 = .int .i64 (mp : Int)) ∧ (b' 17 = true → vs 17 = .pointer (some ⟨b, mp * 2, none⟩)) ∧ (b' 18 = true → vs 18 = .agg #[.int .i64 pl.1, .int .i64 pl.2]) ∧ (b' 19 = true → vs 19 = .int .i64 h) ∧ (b' 8 = true → b' 22 = false → Hid (Own w' w.heap.size 32 (vs 8) (headI p0 p1 h))) ∧ (b' 20 = true → b' 22 = false → Hid (Own w' w.heap.size 32 (vs 20) (tailI pk pl h))) ∧ (b' 21 = true → b' 22 = false → Hid (∃ gl x0 x1, (vs 21) = .slice (some ⟨gl, 0, none⟩) 2 2 ∧ Blk w' gl 30 #[x0, x1] ∧ Own w' w.heap.size 32 x0 (headI p0 p1 h) ∧ Own w' w.heap.size 32 x1 (tailI pk pl h))) ∧ (b' 22 = false → Hid (Below w5.heap.size w5 w' ∧ w5.heap.size ≤ w'.heap.size)) ∧ (b' 22 = false → Hid (RefM w w' b m cp c (.slice ua un uc) LQ)) ∧ (b' 22 = true → Hid (RefM w w' b m cp c (vs 22) (LQ ++ [headI p0 p1 h, tailI pk pl h]))) ∧ (b' 21 = true → b' 8 = true) ∧ (b' 8 = true → b' 3 = true) ∧ (b' 8 = true → b' 6 = true) ∧ (b' 21 = true → b' 20 = true) ∧ (b' 20 = true → b' 13 = true) ∧ (b' 20 = true → b' 18 = true) ∧ (b' 22 = true → b' 0 = true) ∧ (b' 22 = true → b' 3 = true) ∧ (b' 22 = true → b' 6 = true) ∧ (b' 22 = true → b' 8 = true) ∧ (b' 22 = true → b' 13 = true) ∧ (b' 22 = true → b' 18 = true) ∧ (b' 22 = true → b' 20 = true) ∧ (b' 22 = true → b' 21 = true) ∧ (b' 23 = true → b' 22 = true ∧ vs 23 = vs 22) ∧ (b' 23 = false → vs 23 = .slice ua un uc) ∧ (b' 23 = true → b' 0 = true)) ?_ ?_ ?_
          · intro vs hvs
            exact ⟨fun h => Bool.noConfusion h, fun h => Bool.noConfusion h, fun h => Bool.noConfusion h, fun h => Bool.noConfusion h, fun h => Bool.noConfusion h, fun h => Bool.noConfusion h, fun h => Bool.noConfusion h, fun h => Bool.noConfusion h, fun h => Bool.noConfusion h, fun h => Bool.noConfusion h, fun h => Bool.noConfusion h, fun h => Bool.noConfusion h, fun h => Bool.noConfusion h, fun h => Bool.noConfusion h, fun h => Bool.noConfusion h, fun h => Bool.noConfusion h, fun h => Bool.noConfusion h, fun h => Bool.noConfusion h, fun h => Bool.noConfusion h, fun h => Bool.noConfusion h, fun h => Bool.noConfusion h, fun h => Bool.noConfusion h, fun _ => Lib.hid ⟨below_drewN (Below.refl _ _) 1, Nat.le_refl _⟩, fun _ => Lib.hid (F5.out.grow ⟨rfl, rfl, rfl, Nat.le_refl _, fun _ _ => rfl⟩), fun h => Bool.noConfusion h, fun h => Bool.noConfusion h, fun h => Bool.noConfusion h, fun h => Bool.noConfusion h, fun h => Bool.noConfusion h, fun h => Bool.noConfusion h, fun h => Bool.noConfusion h, fun h => Bool.noConfusion h, fun h => Bool.noConfusion h, fun h => Bool.noConfusion h, fun h => Bool.noConfusion h, fun h => Bool.noConfusion h, fun h => Bool.noConfusion h, fun h => Bool.noConfusion h, fun h => Bool.noConfusion h, fun h => Bool.noConfusion h, fun _ => hvs 23 _ _ rfl rfl, fun h => Bool.noConfusion h⟩
          · rintro b' vs w' i op hi hun hall ⟨h0, h1, h2, h3, h4, h5, h6, h7, h9, h10, h11, h12, h13, h14, h15, h16, h17, h18, h19, y8, y20, y21, hB, hF, hG, hE21_8, hE8_3, hE8_6, hE21_20, hE20_13, hE20_18, hW0, hW3, hW6, hW8, hW13, hW18, hW20, hW21, hA, hR, hZ⟩
            have hil : i < 24 := (List.getElem?_eq_some_iff.1 hi).1
            rcases i with _ | _ | _ | _ | _ | _ | _ | _ | _ | _ | _ | _ | _ | _ | _ | _ | _ | _ | _ | _ | _ | _ | _ | _ | i
            · obtain rfl := Option.some.inj hi
              clear hi hil
              have hz : b' 23 = false := by
                cases hzz : b' 23 with
                | false => rfl
                | true => exact absurd (hZ hzz) (by rw [hun]; decide)
              have hx := hR hz
              refine wpOp_step rfl (fun K hK => ?_)
              have HKK := Lib.hid hK; clear hK
              simp only [putAll, Act.put, List.setIfInBounds_toArray, List.set_cons_zero, List.set_cons_succ]
              go_simp
              exact HKK.out _ _ ⟨_, by simp only [putAll, Act.put, List.setIfInBounds_toArray, List.set_cons_zero, List.set_cons_succ, hx] <;> rfl, fun _ => rfl, h1, h2, h3, h4, h5, h6, h7, h9, h10, h11, h12, h13, h14, h15, h16, h17, h18, h19, y8, y20, y21, hB, hF, hG, hE21_8, hE8_3, hE8_6, hE21_20, hE20_13, hE20_18, fun _ => rfl, hW3, hW6, hW8, hW13, hW18, hW20, hW21, hA, hR, fun _ => rfl⟩
            · obtain rfl := Option.some.inj hi
              clear hi hil
              refine wpOp_step rfl (fun K hK => ?_)
              have HKK := Lib.hid hK; clear hK
              simp only [putAll, Act.put, List.setIfInBounds_toArray, List.set_cons_zero, List.set_cons_succ]
              go_simp
              exact HKK.out _ _ ⟨_, by simp only [putAll, Act.put, List.setIfInBounds_toArray, List.set_cons_zero, List.set_cons_succ] <;> rfl, h0, fun _ => rfl, h2, h3, h4, h5, h6, h7, h9, h10, h11, h12, h13, h14, h15, h16, h17, h18, h19, y8, y20, y21, hB, hF, hG, hE21_8, hE8_3, hE8_6, hE21_20, hE20_13, hE20_18, hW0, hW3, hW6, hW8, hW13, hW18, hW20, hW21, hA, hR, hZ⟩
            · obtain rfl := Option.some.inj hi
              clear hi hil
              have d1 := h1 (hall ⟨1, .data⟩ (by simp) rfl)
              have hb1 := HMP.out
              have hb2 := HMQ.out
              have hb3 := HM0.out
              refine wpOp_step rfl (fun K hK => ?_)
              have HKK := Lib.hid hK; clear hK
              simp only [putAll, Act.put, List.setIfInBounds_toArray, List.set_cons_zero, List.set_cons_succ]
              go_simp
              exact HKK.out _ _ ⟨_, by simp only [putAll, Act.put, List.setIfInBounds_toArray, List.set_cons_zero, List.set_cons_succ, d1] <;> rfl, h0, h1, fun _ => rfl, h3, h4, h5, h6, h7, h9, h10, h11, h12, h13, h14, h15, h16, h17, h18, h19, y8, y20, y21, hB, hF, hG, hE21_8, hE8_3, hE8_6, hE21_20, hE20_13, hE20_18, hW0, hW3, hW6, hW8, hW13, hW18, hW20, hW21, hA, hR, hZ⟩
            · obtain rfl := Option.some.inj hi
              clear hi hil
              have hap : b' 22 = false := by
                cases hz : b' 22 with
                | false => rfl
                | true => exact absurd (hW3 hz) (by rw [hun]; decide)
              have d2 := h2 (hall ⟨2, .data⟩ (by simp) rfl)
              obtain ⟨x0, x1⟩ := (hF hap).out.row.pts HM.out HP0.out
              simp only [Nat.reduceMul, Nat.reduceAdd] at x0 x1
              refine wpOp_step rfl (fun K hK => ?_)
              have HKK := Lib.hid hK; clear hK
              simp only [putAll, Act.put, List.setIfInBounds_toArray, List.set_cons_zero, List.set_cons_succ]
              go_simp
              exact HKK.out _ _ ⟨_, by simp only [putAll, Act.put, List.setIfInBounds_toArray, List.set_cons_zero, List.set_cons_succ, d2] <;> rfl, h0, h1, h2, fun _ => rfl, h4, h5, h6, h7, h9, h10, h11, h12, h13, h14, h15, h16, h17, h18, h19, y8, y20, y21, hB, hF, hG, hE21_8, fun _ => rfl, hE8_6, hE21_20, hE20_13, hE20_18, hW0, fun _ => rfl, hW6, hW8, hW13, hW18, hW20, hW21, hA, hR, hZ⟩
            · obtain rfl := Option.some.inj hi
              clear hi hil
              refine wpOp_step rfl (fun K hK => ?_)
              have HKK := Lib.hid hK; clear hK
              simp only [putAll, Act.put, List.setIfInBounds_toArray, List.set_cons_zero, List.set_cons_succ]
              go_simp
              exact HKK.out _ _ ⟨_, by simp only [putAll, Act.put, List.setIfInBounds_toArray, List.set_cons_zero, List.set_cons_succ] <;> rfl, h0, h1, h2, h3, fun _ => rfl, h5, h6, h7, h9, h10, h11, h12, h13, h14, h15, h16, h17, h18, h19, y8, y20, y21, hB, hF, hG, hE21_8, hE8_3, hE8_6, hE21_20, hE20_13, hE20_18, hW0, hW3, hW6, hW8, hW13, hW18, hW20, hW21, hA, hR, hZ⟩
            · obtain rfl := Option.some.inj hi
              clear hi hil
              have d4 := h4 (hall ⟨4, .data⟩ (by simp) rfl)
              have hb1 := HMP.out
              have hb2 := HMQ.out
              have hb3 := HM0.out
              refine wpOp_step rfl (fun K hK => ?_)
              have HKK := Lib.hid hK; clear hK
              simp only [putAll, Act.put, List.setIfInBounds_toArray, List.set_cons_zero, List.set_cons_succ]
              go_simp
              exact HKK.out _ _ ⟨_, by simp only [putAll, Act.put, List.setIfInBounds_toArray, List.set_cons_zero, List.set_cons_succ, d4] <;> rfl, h0, h1, h2, h3, h4, fun _ => rfl, h6, h7, h9, h10, h11, h12, h13, h14, h15, h16, h17, h18, h19, y8, y20, y21, hB, hF, hG, hE21_8, hE8_3, hE8_6, hE21_20, hE20_13, hE20_18, hW0, hW3, hW6, hW8, hW13, hW18, hW20, hW21, hA, hR, hZ⟩
            · obtain rfl := Option.some.inj hi
              clear hi hil
              have hap : b' 22 = false := by
                cases hz : b' 22 with
                | false => rfl
                | true => exact absurd (hW6 hz) (by rw [hun]; decide)
              have d5 := h5 (hall ⟨5, .data⟩ (by simp) rfl)
              obtain ⟨x0, x1⟩ := (hF hap).out.row.pts HM.out HP1.out
              simp only [Nat.reduceMul, Nat.reduceAdd] at x0 x1
              refine wpOp_step rfl (fun K hK => ?_)
              have HKK := Lib.hid hK; clear hK
              simp only [putAll, Act.put, List.setIfInBounds_toArray, List.set_cons_zero, List.set_cons_succ]
              go_simp
              exact HKK.out _ _ ⟨_, by simp only [putAll, Act.put, List.setIfInBounds_toArray, List.set_cons_zero, List.set_cons_succ, d5] <;> rfl, h0, h1, h2, h3, h4, h5, fun _ => rfl, h7, h9, h10, h11, h12, h13, h14, h15, h16, h17, h18, h19, y8, y20, y21, hB, hF, hG, hE21_8, hE8_3, fun _ => rfl, hE21_20, hE20_13, hE20_18, hW0, hW3, fun _ => rfl, hW8, hW13, hW18, hW20, hW21, hA, hR, hZ⟩
            · obtain rfl := Option.some.inj hi
              clear hi hil
              refine wpOp_step rfl (fun K hK => ?_)
              have HKK := Lib.hid hK; clear hK
              simp only [putAll, Act.put, List.setIfInBounds_toArray, List.set_cons_zero, List.set_cons_succ]
              go_simp
              exact HKK.out _ _ ⟨_, by simp only [putAll, Act.put, List.setIfInBounds_toArray, List.set_cons_zero, List.set_cons_succ] <;> rfl, h0, h1, h2, h3, h4, h5, h6, fun _ => rfl, h9, h10, h11, h12, h13, h14, h15, h16, h17, h18, h19, y8, y20, y21, hB, hF, hG, hE21_8, hE8_3, hE8_6, hE21_20, hE20_13, hE20_18, hW0, hW3, hW6, hW8, hW13, hW18, hW20, hW21, hA, hR, hZ⟩
            · obtain rfl := Option.some.inj hi
              clear hi hil
              have hap : b' 22 = false := by
                cases hz : b' 22 with
                | false => rfl
                | true => exact absurd (hW8 hz) (by rw [hun]; decide)
              have d3 := h3 (hall ⟨3, .data⟩ (by simp) rfl)
              have d6 := h6 (hall ⟨6, .data⟩ (by simp) rfl)
              have d7 := h7 (hall ⟨7, .data⟩ (by simp) rfl)
              refine wpOp_step rfl (fun K hK => ?_)
              have HKK := Lib.hid hK; clear hK
              simp only [putAll, Act.put, List.setIfInBounds_toArray, List.set_cons_zero, List.set_cons_succ]
              go_simp
              refine (HFI.out w').mono ?_
              rintro e w2 ⟨v2, rfl, ho2, hb2⟩
              exact HKK.out _ _ ⟨_, by simp only [putAll, Act.put, List.setIfInBounds_toArray, List.set_cons_zero, List.set_cons_succ, d3, d6, d7] <;> rfl, h0, h1, h2, h3, h4, h5, h6, h7, h9, h10, h11, h12, h13, h14, h15, h16, h17, h18, h19, fun _ _ => Lib.hid (ho2.base (Nat.le_trans HW5.out (hB hap).out.2)), fun h ha => Lib.hid (Own.grow (y20 h ha).out hb2), fun h ha => Lib.hid (grow_lit2 (y21 h ha).out hb2), fun ha => Lib.hid ⟨(hB ha).out.1.trans (hb2.mono (hB ha).out.2), Nat.le_trans (hB ha).out.2 hb2.size⟩, fun ha => Lib.hid ((hF ha).out.grow hb2), fun h => absurd (show b' 22 = true from h) (by rw [hap]; decide), fun _ => rfl, fun _ => hall ⟨3, .data⟩ (by simp) rfl, fun _ => hall ⟨6, .data⟩ (by simp) rfl, hE21_20, hE20_13, hE20_18, hW0, hW3, hW6, fun _ => rfl, hW13, hW18, hW20, hW21, hA, hR, hZ⟩
            · obtain rfl := Option.some.inj hi
              clear hi hil
              refine wpOp_step rfl (fun K hK => ?_)
              have HKK := Lib.hid hK; clear hK
              simp only [putAll, Act.put, List.setIfInBounds_toArray, List.set_cons_zero, List.set_cons_succ]
              go_simp
              exact HKK.out _ _ ⟨_, by simp only [putAll, Act.put, List.setIfInBounds_toArray, List.set_cons_zero, List.set_cons_succ] <;> rfl, h0, h1, h2, h3, h4, h5, h6, h7, fun _ => rfl, h10, h11, h12, h13, h14, h15, h16, h17, h18, h19, y8, y20, y21, hB, hF, hG, hE21_8, hE8_3, hE8_6, hE21_20, hE20_13, hE20_18, hW0, hW3, hW6, hW8, hW13, hW18, hW20, hW21, hA, hR, hZ⟩
            · obtain rfl := Option.some.inj hi
              clear hi hil
              refine wpOp_step rfl (fun K hK => ?_)
              have HKK := Lib.hid hK; clear hK
              simp only [putAll, Act.put, List.setIfInBounds_toArray, List.set_cons_zero, List.set_cons_succ]
              go_simp
              exact HKK.out _ _ ⟨_, by simp only [putAll, Act.put, List.setIfInBounds_toArray, List.set_cons_zero, List.set_cons_succ] <;> rfl, h0, h1, h2, h3, h4, h5, h6, h7, h9, fun _ => rfl, h11, h12, h13, h14, h15, h16, h17, h18, h19, y8, y20, y21, hB, hF, hG, hE21_8, hE8_3, hE8_6, hE21_20, hE20_13, hE20_18, hW0, hW3, hW6, hW8, hW13, hW18, hW20, hW21, hA, hR, hZ⟩
            · obtain rfl := Option.some.inj hi
              clear hi hil
              have d10 := h10 (hall ⟨10, .data⟩ (by simp) rfl)
              have e1 := HW2.out
              have e2 := HW2b.out
              refine wpOp_step rfl (fun K hK => ?_)
              have HKK := Lib.hid hK; clear hK
              simp only [putAll, Act.put, List.setIfInBounds_toArray, List.set_cons_zero, List.set_cons_succ]
              go_simp
              exact HKK.out _ _ ⟨_, by simp only [putAll, Act.put, List.setIfInBounds_toArray, List.set_cons_zero, List.set_cons_succ, d10] <;> rfl, h0, h1, h2, h3, h4, h5, h6, h7, h9, h10, fun _ => rfl, h12, h13, h14, h15, h16, h17, h18, h19, y8, y20, y21, hB, hF, hG, hE21_8, hE8_3, hE8_6, hE21_20, hE20_13, hE20_18, hW0, hW3, hW6, hW8, hW13, hW18, hW20, hW21, hA, hR, hZ⟩
            · obtain rfl := Option.some.inj hi
              clear hi hil
              have d9 := h9 (hall ⟨9, .data⟩ (by simp) rfl)
              have d11 := h11 (hall ⟨11, .data⟩ (by simp) rfl)
              have hb1 := HMP.out
              have hb2 := HMQ.out
              have hb3 := HM0.out
              refine wpOp_step rfl (fun K hK => ?_)
              have HKK := Lib.hid hK; clear hK
              simp only [putAll, Act.put, List.setIfInBounds_toArray, List.set_cons_zero, List.set_cons_succ]
              go_simp
              exact HKK.out _ _ ⟨_, by simp only [putAll, Act.put, List.setIfInBounds_toArray, List.set_cons_zero, List.set_cons_succ, d9, d11] <;> rfl, h0, h1, h2, h3, h4, h5, h6, h7, h9, h10, h11, fun _ => rfl, h13, h14, h15, h16, h17, h18, h19, y8, y20, y21, hB, hF, hG, hE21_8, hE8_3, hE8_6, hE21_20, hE20_13, hE20_18, hW0, hW3, hW6, hW8, hW13, hW18, hW20, hW21, hA, hR, hZ⟩
            · obtain rfl := Option.some.inj hi
              clear hi hil
              have hap : b' 22 = false := by
                cases hz : b' 22 with
                | false => rfl
                | true => exact absurd (hW13 hz) (by rw [hun]; decide)
              have d12 := h12 (hall ⟨12, .data⟩ (by simp) rfl)
              obtain ⟨x0, x1⟩ := (hF hap).out.row.pts HM.out HPK.out
              refine wpOp_step rfl (fun K hK => ?_)
              have HKK := Lib.hid hK; clear hK
              simp only [putAll, Act.put, List.setIfInBounds_toArray, List.set_cons_zero, List.set_cons_succ]
              go_simp
              exact HKK.out _ _ ⟨_, by simp only [putAll, Act.put, List.setIfInBounds_toArray, List.set_cons_zero, List.set_cons_succ, d12] <;> rfl, h0, h1, h2, h3, h4, h5, h6, h7, h9, h10, h11, h12, fun _ => rfl, h14, h15, h16, h17, h18, h19, y8, y20, y21, hB, hF, hG, hE21_8, hE8_3, hE8_6, hE21_20, fun _ => rfl, hE20_18, hW0, hW3, hW6, hW8, fun _ => rfl, hW18, hW20, hW21, hA, hR, hZ⟩
            · obtain rfl := Option.some.inj hi
              clear hi hil
              refine wpOp_step rfl (fun K hK => ?_)
              have HKK := Lib.hid hK; clear hK
              simp only [putAll, Act.put, List.setIfInBounds_toArray, List.set_cons_zero, List.set_cons_succ]
              go_simp
              exact HKK.out _ _ ⟨_, by simp only [putAll, Act.put, List.setIfInBounds_toArray, List.set_cons_zero, List.set_cons_succ] <;> rfl, h0, h1, h2, h3, h4, h5, h6, h7, h9, h10, h11, h12, h13, fun _ => rfl, h15, h16, h17, h18, h19, y8, y20, y21, hB, hF, hG, hE21_8, hE8_3, hE8_6, hE21_20, hE20_13, hE20_18, hW0, hW3, hW6, hW8, hW13, hW18, hW20, hW21, hA, hR, hZ⟩
            · obtain rfl := Option.some.inj hi
              clear hi hil
              refine wpOp_step rfl (fun K hK => ?_)
              have HKK := Lib.hid hK; clear hK
              simp only [putAll, Act.put, List.setIfInBounds_toArray, List.set_cons_zero, List.set_cons_succ]
              go_simp
              exact HKK.out _ _ ⟨_, by simp only [putAll, Act.put, List.setIfInBounds_toArray, List.set_cons_zero, List.set_cons_succ] <;> rfl, h0, h1, h2, h3, h4, h5, h6, h7, h9, h10, h11, h12, h13, h14, fun _ => rfl, h16, h17, h18, h19, y8, y20, y21, hB, hF, hG, hE21_8, hE8_3, hE8_6, hE21_20, hE20_13, hE20_18, hW0, hW3, hW6, hW8, hW13, hW18, hW20, hW21, hA, hR, hZ⟩
            · obtain rfl := Option.some.inj hi
              clear hi hil
              have d15 := h15 (hall ⟨15, .data⟩ (by simp) rfl)
              have e1 := HW1.out
              have e2 := HW1b.out
              refine wpOp_step rfl (fun K hK => ?_)
              have HKK := Lib.hid hK; clear hK
              simp only [putAll, Act.put, List.setIfInBounds_toArray, List.set_cons_zero, List.set_cons_succ]
              go_simp
              exact HKK.out _ _ ⟨_, by simp only [putAll, Act.put, List.setIfInBounds_toArray, List.set_cons_zero, List.set_cons_succ, d15] <;> rfl, h0, h1, h2, h3, h4, h5, h6, h7, h9, h10, h11, h12, h13, h14, h15, fun _ => rfl, h17, h18, h19, y8, y20, y21, hB, hF, hG, hE21_8, hE8_3, hE8_6, hE21_20, hE20_13, hE20_18, hW0, hW3, hW6, hW8, hW13, hW18, hW20, hW21, hA, hR, hZ⟩
            · obtain rfl := Option.some.inj hi
              clear hi hil
              have d14 := h14 (hall ⟨14, .data⟩ (by simp) rfl)
              have d16 := h16 (hall ⟨16, .data⟩ (by simp) rfl)
              have hb1 := HMP.out
              have hb2 := HMQ.out
              have hb3 := HM0.out
              refine wpOp_step rfl (fun K hK => ?_)
              have HKK := Lib.hid hK; clear hK
              simp only [putAll, Act.put, List.setIfInBounds_toArray, List.set_cons_zero, List.set_cons_succ]
              go_simp
              exact HKK.out _ _ ⟨_, by simp only [putAll, Act.put, List.setIfInBounds_toArray, List.set_cons_zero, List.set_cons_succ, d14, d16] <;> rfl, h0, h1, h2, h3, h4, h5, h6, h7, h9, h10, h11, h12, h13, h14, h15, h16, fun _ => rfl, h18, h19, y8, y20, y21, hB, hF, hG, hE21_8, hE8_3, hE8_6, hE21_20, hE20_13, hE20_18, hW0, hW3, hW6, hW8, hW13, hW18, hW20, hW21, hA, hR, hZ⟩
            · obtain rfl := Option.some.inj hi
              clear hi hil
              have hap : b' 22 = false := by
                cases hz : b' 22 with
                | false => rfl
                | true => exact absurd (hW18 hz) (by rw [hun]; decide)
              have d17 := h17 (hall ⟨17, .data⟩ (by simp) rfl)
              obtain ⟨x0, x1⟩ := (hF hap).out.row.pts HM.out HPZ.out
              refine wpOp_step rfl (fun K hK => ?_)
              have HKK := Lib.hid hK; clear hK
              simp only [putAll, Act.put, List.setIfInBounds_toArray, List.set_cons_zero, List.set_cons_succ]
              go_simp
              exact HKK.out _ _ ⟨_, by simp only [putAll, Act.put, List.setIfInBounds_toArray, List.set_cons_zero, List.set_cons_succ, d17] <;> rfl, h0, h1, h2, h3, h4, h5, h6, h7, h9, h10, h11, h12, h13, h14, h15, h16, h17, fun _ => rfl, h19, y8, y20, y21, hB, hF, hG, hE21_8, hE8_3, hE8_6, hE21_20, hE20_13, fun _ => rfl, hW0, hW3, hW6, hW8, hW13, fun _ => rfl, hW20, hW21, hA, hR, hZ⟩
            · obtain rfl := Option.some.inj hi
              clear hi hil
              refine wpOp_step rfl (fun K hK => ?_)
              have HKK := Lib.hid hK; clear hK
              simp only [putAll, Act.put, List.setIfInBounds_toArray, List.set_cons_zero, List.set_cons_succ]
              go_simp
              exact HKK.out _ _ ⟨_, by simp only [putAll, Act.put, List.setIfInBounds_toArray, List.set_cons_zero, List.set_cons_succ] <;> rfl, h0, h1, h2, h3, h4, h5, h6, h7, h9, h10, h11, h12, h13, h14, h15, h16, h17, h18, fun _ => rfl, y8, y20, y21, hB, hF, hG, hE21_8, hE8_3, hE8_6, hE21_20, hE20_13, hE20_18, hW0, hW3, hW6, hW8, hW13, hW18, hW20, hW21, hA, hR, hZ⟩
            · obtain rfl := Option.some.inj hi
              clear hi hil
              have hap : b' 22 = false := by
                cases hz : b' 22 with
                | false => rfl
                | true => exact absurd (hW20 hz) (by rw [hun]; decide)
              have d13 := h13 (hall ⟨13, .data⟩ (by simp) rfl)
              have d18 := h18 (hall ⟨18, .data⟩ (by simp) rfl)
              have d19 := h19 (hall ⟨19, .data⟩ (by simp) rfl)
              refine wpOp_step rfl (fun K hK => ?_)
              have HKK := Lib.hid hK; clear hK
              simp only [putAll, Act.put, List.setIfInBounds_toArray, List.set_cons_zero, List.set_cons_succ]
              go_simp
              refine (HLA.out w').mono ?_
              rintro e w2 ⟨v2, rfl, ho2, hb2⟩
              exact HKK.out _ _ ⟨_, by simp only [putAll, Act.put, List.setIfInBounds_toArray, List.set_cons_zero, List.set_cons_succ, d13, d18, d19] <;> rfl, h0, h1, h2, h3, h4, h5, h6, h7, h9, h10, h11, h12, h13, h14, h15, h16, h17, h18, h19, fun h ha => Lib.hid (Own.grow (y8 h ha).out hb2), fun _ _ => Lib.hid (ho2.base (Nat.le_trans HW5.out (hB hap).out.2)), fun h ha => Lib.hid (grow_lit2 (y21 h ha).out hb2), fun ha => Lib.hid ⟨(hB ha).out.1.trans (hb2.mono (hB ha).out.2), Nat.le_trans (hB ha).out.2 hb2.size⟩, fun ha => Lib.hid ((hF ha).out.grow hb2), fun h => absurd (show b' 22 = true from h) (by rw [hap]; decide), hE21_8, hE8_3, hE8_6, fun _ => rfl, fun _ => hall ⟨13, .data⟩ (by simp) rfl, fun _ => hall ⟨18, .data⟩ (by simp) rfl, hW0, hW3, hW6, hW8, hW13, hW18, fun _ => rfl, hW21, hA, hR, hZ⟩
            · obtain rfl := Option.some.inj hi
              clear hi hil
              have hap : b' 22 = false := by
                cases hz : b' 22 with
                | false => rfl
                | true => exact absurd (hW21 hz) (by rw [hun]; decide)
              have o8 := y8 (hall ⟨8, .data⟩ (by simp) rfl) hap
              obtain ⟨sa0, sn0, sc0, es0⟩ := own_shape' o8.out
              have ow0 := Lib.hid (es0 ▸ o8.out)
              have o20 := y20 (hall ⟨20, .data⟩ (by simp) rfl) hap
              obtain ⟨sa1, sn1, sc1, es1⟩ := own_shape' o20.out
              have ow1 := Lib.hid (es1 ▸ o20.out)
              refine wpOp_step rfl (fun K hK => ?_)
              have HKK := Lib.hid hK; clear hK
              simp only [putAll, Act.put, List.setIfInBounds_toArray, List.set_cons_zero, List.set_cons_succ]
              go_simp
              have hb2 : Below w'.heap.size w' (w'.alloc (.cells #[.slice sa0 sn0 sc0, .slice sa1 sn1 sc1] 30)) := (Below.refl _ _).alloc (Nat.le_refl _) _
              exact HKK.out _ _ ⟨_, by simp only [putAll, Act.put, List.setIfInBounds_toArray, List.set_cons_zero, List.set_cons_succ, es0, es1] <;> rfl, h0, h1, h2, h3, h4, h5, h6, h7, h9, h10, h11, h12, h13, h14, h15, h16, h17, h18, h19, fun h ha => Lib.hid (Own.grow (y8 h ha).out hb2), fun h ha => Lib.hid (Own.grow (y20 h ha).out hb2), fun _ _ => Lib.hid (⟨_, _, _, rfl, Blk.new _ _ _, ow0.out.grow ((Below.refl _ _).alloc (Nat.le_refl _) _), ow1.out.grow ((Below.refl _ _).alloc (Nat.le_refl _) _)⟩), fun ha => Lib.hid ⟨(hB ha).out.1.trans (hb2.mono (hB ha).out.2), Nat.le_trans (hB ha).out.2 hb2.size⟩, fun ha => Lib.hid ((hF ha).out.grow hb2), fun h => absurd (show b' 22 = true from h) (by rw [hap]; decide), fun _ => hall ⟨8, .data⟩ (by simp) rfl, hE8_3, hE8_6, fun _ => hall ⟨20, .data⟩ (by simp) rfl, hE20_13, hE20_18, hW0, hW3, hW6, hW8, hW13, hW18, hW20, fun _ => rfl, hA, hR, hZ⟩
            · obtain rfl := Option.some.inj hi
              clear hi hil
              have hap : b' 22 = false := hun
              have d0 := h0 (hall ⟨0, .data⟩ (by simp) rfl)
              have o21 := y21 (hall ⟨21, .data⟩ (by simp) rfl) hap
              obtain ⟨gl, xl0, xl1, eg, hbl, hol8, hol20⟩ := o21.out
              refine wpOp_step rfl (fun K hK => ?_)
              have HKK := Lib.hid hK; clear hK
              simp only [putAll, Act.put, List.setIfInBounds_toArray, List.set_cons_zero, List.set_cons_succ]
              refine (if_pos rfl).mpr (wp_append_refs _ _ rfl b m cp c _ _ d0 (hF hap).out [(xl0, headI p0 p1 h), (xl1, tailI pk pl h)] (fun x hx => by rcases List.mem_cons.1 hx with rfl | hx; exact hol8; obtain rfl := List.mem_singleton.1 hx; exact hol20) gl 2 rfl eg hbl (HLL.out) ?_)
              intro v' w2 hm2
              exact HKK.out _ _ ⟨_, by simp only [putAll, Act.put, List.setIfInBounds_toArray, List.set_cons_zero, List.set_cons_succ, d0] <;> rfl, h0, h1, h2, h3, h4, h5, h6, h7, h9, h10, h11, h12, h13, h14, h15, h16, h17, h18, h19, fun _ h => Bool.noConfusion h, fun _ h => Bool.noConfusion h, fun _ h => Bool.noConfusion h, fun h => Bool.noConfusion h, fun h => Bool.noConfusion h, fun _ => Lib.hid (hm2), hE21_8, hE8_3, hE8_6, hE21_20, hE20_13, hE20_18, fun _ => hall ⟨0, .data⟩ (by simp) rfl, fun _ => hE8_3 (hE21_8 (hall ⟨21, .data⟩ (by simp) rfl)), fun _ => hE8_6 (hE21_8 (hall ⟨21, .data⟩ (by simp) rfl)), fun _ => hE21_8 (hall ⟨21, .data⟩ (by simp) rfl), fun _ => hE20_13 (hE21_20 (hall ⟨21, .data⟩ (by simp) rfl)), fun _ => hE20_18 (hE21_20 (hall ⟨21, .data⟩ (by simp) rfl)), fun _ => hE21_20 (hall ⟨21, .data⟩ (by simp) rfl), fun _ => hall ⟨21, .data⟩ (by simp) rfl, fun hq => absurd (hA hq).1 (by rw [hun]; decide), hR, hZ⟩
            · obtain rfl := Option.some.inj hi
              clear hi hil
              have gB := hG (hall ⟨22, .data⟩ (by simp) rfl)
              refine wpOp_step rfl (fun K hK => ?_)
              have HKK := Lib.hid hK; clear hK
              simp only [putAll, Act.put, List.setIfInBounds_toArray, List.set_cons_zero, List.set_cons_succ]
              go_simp
              exact HKK.out _ _ ⟨_, by simp only [putAll, Act.put, List.setIfInBounds_toArray, List.set_cons_zero, List.set_cons_succ] <;> rfl, h0, h1, h2, h3, h4, h5, h6, h7, h9, h10, h11, h12, h13, h14, h15, h16, h17, h18, h19, y8, y20, y21, hB, hF, hG, hE21_8, hE8_3, hE8_6, hE21_20, hE20_13, hE20_18, hW0, hW3, hW6, hW8, hW13, hW18, hW20, hW21, fun _ => ⟨hall ⟨22, .data⟩ (by simp) rfl, rfl⟩, fun h => Bool.noConfusion h, fun _ => hW0 (hall ⟨22, .data⟩ (by simp) rfl)⟩
            · omega
          · rintro b' vs w2 hall ⟨h0, h1, h2, h3, h4, h5, h6, h7, h9, h10, h11, h12, h13, h14, h15, h16, h17, h18, h19, y8, y20, y21, hB, hF, hG, hE21_8, hE8_3, hE8_6, hE21_20, hE20_13, hE20_18, hW0, hW3, hW6, hW8, hW13, hW18, hW20, hW21, hA, hR, hZ⟩
            have d0 := h0 (hall 0 (by simp))
            have d1 := h1 (hall 1 (by simp))
            have d2 := h2 (hall 2 (by simp))
            have d3 := h3 (hall 3 (by simp))
            have d4 := h4 (hall 4 (by simp))
            have d5 := h5 (hall 5 (by simp))
            have d6 := h6 (hall 6 (by simp))
            have d7 := h7 (hall 7 (by simp))
            have d9 := h9 (hall 9 (by simp))
            have d10 := h10 (hall 10 (by simp))
            have d11 := h11 (hall 11 (by simp))
            have d12 := h12 (hall 12 (by simp))
            have d13 := h13 (hall 13 (by simp))
            have d14 := h14 (hall 14 (by simp))
            have d15 := h15 (hall 15 (by simp))
            have d16 := h16 (hall 16 (by simp))
            have d17 := h17 (hall 17 (by simp))
            have d18 := h18 (hall 18 (by simp))
            have d19 := h19 (hall 19 (by simp))
            have GG := hG (hall 22 (by simp))
            have dA := (hA (hall 23 (by simp))).2
            simp only [putAll, Act.put, List.setIfInBounds_toArray, List.set_cons_zero, List.set_cons_succ, d0, d1, d2, d3, d4, d5, d6, d7, d9, d10, d11, d12, d13, d14, d15, d16, d17, d18, d19, dA]
            clear hall h0 d0 h1 d1 h2 d2 h3 d3 h4 d4 h5 d5 h6 d6 h7 d7 h9 d9 h10 d10 h11 d11 h12 d12 h13 d13 h14 d14 h15 d15 h16 d16 h17 d17 h18 d18 h19 d19 y8 y20 y21 hB hF hG hE21_8 hE8_3 hE8_6 hE21_20 hE20_13 hE20_18 hW0 hW3 hW6 hW8 hW13 hW18 hW20 hW21 hA dA hR hZ
            generalize vs 22 = va at *
            have M7 : Hid (RefM w w2 b m cp c va (LQ ++ [headI p0 p1 h, tailI pk pl h])) := GG.out
            generalize vs 8 = rr8
            generalize vs 20 = rr20
            generalize vs 21 = rr21
            have hm2 := HM2.out
            have hm3 := HM3.out
            obtain ⟨ua, uc, hu⟩ := M7.out.shape
            obtain ⟨un, hun⟩ : ∃ un, (LQ ++ [headI p0 p1 h, tailI pk pl h]).length = un := ⟨_, rfl⟩
            rw [hun] at hu
            subst hu
            have HUN := Lib.hid hun
            have hun2 : un ≤ 1000 := by rw [← hun]; rw [List.length_append]; have := HLE.out; simp only [List.length_cons, List.length_nil]; omega
            clear hun
            obtain ⟨S, hS, hSL⟩ := M7.out.polys
            have PS := Lib.hid hS
            have ES := Lib.hid hSL
            have HSN : Hid (S.length = un) := by unfold Hid; rw [← HUN.out, ← hSL, List.length_map]
            clear hS hSL
            obtain ⟨wz, rfl⟩ : ∃ x, x = w2 := ⟨_, rfl⟩
            go_wp2_with fail
            go_loopw [16] (fun s16 wr => ∃ k : Nat, k ≤ un ∧ s16 = .int .i64 k ∧ Hid (Below wz.heap.size wz wr ∧ ∀ j L, j < k → (LQ ++ [headI p0 p1 h, tailI pk pl h])[j]? = some L → L.all roomP = true)) (fun s16 _ => un - (intOf s16).toNat)
            case atStart => exact ⟨0, by omega, rfl, Below.refl _ _, fun j L hj => by omega⟩
            case round =>
              obtain ⟨k, hk, rfl, hv⟩ := hrel
              by_cases hltk : k < un
              · have hdk : decide ((k : Int) < (un : Int)) = true := by simp; omega
                obtain ⟨⟨vk, Lk⟩, hx⟩ : ∃ x, S[k]? = some x := ⟨_, List.getElem?_eq_getElem (by rw [HSN.out]; exact hltk)⟩
                have PR := Lib.hid (PS.out.grow hv.out.1)
                have OK := Lib.hid (PR.out.own _ (List.mem_of_getElem? hx))
                have HXL : Hid ((LQ ++ [headI p0 p1 h, tailI pk pl h])[k]? = some Lk) := by unfold Hid; rw [← ES.out, List.getElem?_map, hx]; rfl
                obtain ⟨g4, rfl, hg4, c0⟩ := polys_cell PR.out HSN.out hx
                simp only at OK c0
                obtain ⟨ak, nk, ck, rfl⟩ := own_shape' OK.out
                have hnk := own_lim OK.out
                have HIN := Lib.hid (HINN.out (.slice ak nk ck) Lk wr OK.out.row (HSH.out Lk (List.mem_of_getElem? HXL.out)))
                obtain ⟨rb, hrb⟩ : ∃ rb, Lk.all roomP = rb := ⟨_, rfl⟩
                rw [hrb] at HIN
                have HRB := Lib.hid hrb
                clear hx hrb hnk
                go_wp2_with fail
                refine HIN.out.mono ?_
                rintro e w8 ⟨rfl, hb8⟩
                have B8 : Hid (Below wz.heap.size wz w8) := below_next hv.out.1 hb8
                clear hb8 c0
                cases rb
                · have HNF : Hid (roomL (LQ ++ [headI p0 p1 h, tailI pk pl h]) = false) := by
                    unfold Hid roomL
                    rw [List.all_eq_false]
                    exact ⟨Lk, List.mem_of_getElem? HXL.out, by rw [HRB.out]; decide⟩
                  go_wp2_with fail
                  go_ret2
                  exact ⟨_, by rw [HNF.out, Bool.and_false]; rfl, fun h => (by rw [HNF.out, Bool.and_false] at h; cases h), below_next M7.out.below B8.out⟩
                · have HNX2 : Hid (∀ j L, j < k + 1 → (LQ ++ [headI p0 p1 h, tailI pk pl h])[j]? = some L → L.all roomP = true) := fun j L hj hL => by
                    by_cases e : j = k
                    · subst e; rw [HXL.out] at hL; obtain rfl := Option.some.inj hL; exact HRB.out
                    · exact hv.out.2 j L (by omega) hL
                  go_wp2_with fail
                  exact ⟨⟨k + 1, by omega, by go_num, B8.out, HNX2.out⟩, by simp [intOf]; omega⟩
              · have hdk : decide ((k : Int) < (un : Int)) = false := by simp; omega
                have HRT : Hid (roomL (LQ ++ [headI p0 p1 h, tailI pk pl h]) = true) := by
                  unfold Hid roomL
                  rw [List.all_eq_true]
                  intro L hL
                  obtain ⟨j, hj⟩ := List.getElem?_of_mem hL
                  have hlt : j < (LQ ++ [headI p0 p1 h, tailI pk pl h]).length := (List.getElem?_eq_some_iff.1 hj).1
                  exact hv.out.2 j L (by have := HUN.out; omega) hj
                have PR := Lib.hid (PS.out.grow hv.out.1)
                go_wp2_with fail
                go_ret2
                exact ⟨_, by rw [HNLT.out, HRT.out]; rfl, fun _ => ⟨S, PR.out, ES.out⟩, below_next M7.out.below hv.out.1⟩
end Go.Proofs.YtdidbejinfkhbaaDoor
