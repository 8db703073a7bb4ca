/- Layer 12: the document's Now. -/
import Derived.Test.YtohmkmekdnfkoaaAb
import Derived.Deep.RegionWith
namespace Go.Proofs.Ytohmkmekdnfkoaa
open Go.RowKit
/-- The writes that wait: each one's sector, its slice, its bytes. -/
abbrev Wr := Int × Value × List Int
def RowW (w : World) (s : Value) (L : List Wr) : Prop :=
  (s = .slice none 0 0 ∧ L = []) ∨ (∃ a c, s = .slice (some a) 0 c ∧ L = []) ∨ ∃ b o c, s = .slice (some ⟨b, o, none⟩) L.length c ∧ b < w.heap.size ∧ ∀ i p, L[i]? = some p → w.cell? ⟨b, o + i * 2, none⟩ = some (.int .i64 p.1) ∧ w.cell? ⟨b, o + i * 2 + 1, none⟩ = some p.2.1
def WaitR (w : World) (s : Value) (L : List Wr) : Prop := RowW w s L ∧ ∀ x ∈ L, RowB w x.2.1 x.2.2
theorem RowW.on {w w' : World} {s : Value} {L : List Wr} (h : RowW w s L) (hb : Below w.heap.size w w') : RowW w' s L := by
  rcases h with h | h | ⟨b, o, c, h1, h2, h3⟩
  · exact .inl h
  · exact .inr (.inl h)
  · refine .inr (.inr ⟨b, o, c, h1, Nat.lt_of_lt_of_le h2 hb.size, fun i p hp => ?_⟩)
    rw [cell_below hb h2, cell_below hb h2]; exact h3 i p hp
theorem WaitR.on {w w' : World} {s : Value} {L : List Wr} (h : WaitR w s L) (hb : Below w.heap.size w w') : WaitR w' s L := ⟨h.1.on hb, fun x hx => (h.2 x hx).on hb⟩
theorem RowW.shape {w : World} {v : Value} {L : List Wr} (h : RowW w v L) : ∃ ao c, v = .slice ao L.length c := by
  rcases h with ⟨rfl, rfl⟩ | ⟨a, c, rfl, rfl⟩ | ⟨b, o, c, rfl, _, _⟩ <;> exact ⟨_, _, rfl⟩
theorem RowW.addr {w : World} {ao : Option Addr} {n c : Nat} {L : List Wr} (h : RowW w (.slice ao n c) L) (h0 : 0 < L.length) : ∃ b o, ao = some ⟨b, o, none⟩ ∧ b < w.heap.size ∧ ∀ i p, L[i]? = some p → w.cell? ⟨b, o + i * 2, none⟩ = some (.int .i64 p.1) ∧ w.cell? ⟨b, o + i * 2 + 1, none⟩ = some p.2.1 := by
  rcases h with ⟨_, rfl⟩ | ⟨_, _, _, rfl⟩ | ⟨b, o, c', e, h1, h2⟩
  · simp at h0
  · simp at h0
  · cases e; exact ⟨b, o, rfl, h1, h2⟩
/-- What is read: the writes that wait, one behind the other, over what is safe. -/
def nowTo (safe : List Int) (size : Int) (L : List Wr) (k : Nat) : List Int := (L.take k).foldl (fun a x => layB a x.2.2 (x.1 * size)) (layB safe [] 0)
def nowB (safe : List Int) (size : Int) (L : List Wr) : List Int := nowTo safe size L L.length
theorem nowTo_succ {safe : List Int} {size : Int} {L : List Wr} {k : Nat} {x : Wr} (h : L[k]? = some x) : nowTo safe size L (k + 1) = layB (nowTo safe size L k) x.2.2 (x.1 * size) := by
  unfold nowTo
  rw [List.take_add_one, h, List.foldl_append]; rfl
theorem nowTo_len (safe : List Int) (size : Int) (L : List Wr) (k : Nat) : (nowTo safe size L k).length = safe.length := by
  unfold nowTo
  generalize L.take k = M
  have : ∀ (M : List Wr) (a : List Int), (M.foldl (fun a x => layB a x.2.2 (x.1 * size)) a).length = a.length := by
    intro M
    induction M with
    | nil => intro a; rfl
    | cons y M ih => intro a; rw [List.foldl_cons, ih, layB_len]
  rw [this, layB_len]
theorem mul_in {a b A B : Int} (h0 : 0 ≤ a) (h1 : a ≤ A) (k0 : 1 ≤ b) (k1 : b ≤ B) : 0 ≤ a * b ∧ a * b ≤ a * B ∧ a * B ≤ A * B ∧ a * b ≤ A * B := by
  have h2 := Int.mul_nonneg h0 (show 0 ≤ b by omega)
  have h3 := Int.mul_le_mul_of_nonneg_left k1 h0
  have h4 := Int.mul_le_mul_of_nonneg_right h1 (show 0 ≤ B by omega)
  exact ⟨h2, h3, h4, by omega⟩
def OkW (L : List Wr) : Prop := L.length ≤ 1000 ∧ ∀ x ∈ L, 0 ≤ x.1 ∧ x.1 ≤ 4096 ∧ x.2.2.length ≤ 1000
set_option maxHeartbeats 4000000 in
set_option maxRecDepth 100000 in
theorem refNow_c (g : Nat) (sv wv : Value) (size left done : Int) (armed down : Bool) (safe : List Int) (L : List Wr) (w : World) (K : Blk w g 31 (cellsD sv size wv left done armed down)) (rowS : RowB w sv safe) (rowW : WaitR w wv L) (hs : safe.length ≤ 70000) (hz : 1 ≤ size ∧ size ≤ 512) (hw : OkW L) :
    Calls Try.prog 16 #[.pointer (some ⟨g, 0, none⟩)] w fun e w' => ∃ v, e = .returned v ∧ OwnB w' w.heap.size v (nowB safe size L) ∧ Below w.heap.size w w' := by
  have HK := Lib.hid K
  have HS : Hid (safe.length ≤ 70000 ∧ 1 ≤ size ∧ size ≤ 512) := ⟨hs, hz.1, hz.2⟩
  have HOW := Lib.hid hw
  have HRW := Lib.hid rowW
  have HFST : Hid (Calls Try.prog 31 #[sv, .int .i64 0, .slice none 0 0] w fun e w' => ∃ v, e = .returned v ∧ OwnB w' w.heap.size v (nowTo safe size L 0) ∧ Below w.heap.size w w') := lay_c sv _ safe [] 0 w rowS (.inl ⟨rfl, rfl⟩) hs (by decide) (by decide)
  obtain ⟨wo, wc, rfl⟩ := rowW.1.shape
  obtain ⟨n, hn⟩ : ∃ n, L.length = n := ⟨_, rfl⟩
  have HN := Lib.hid hn
  have HFULL : Hid (nowB safe size L = nowTo safe size L n) := by unfold nowB; rw [hn]; exact rfl
  rw [HFULL.out]
  rw [hn] at HK HRW
  obtain ⟨d0, d1, d2, d3, d4, d5, d6⟩ := HK.out.d7
  rw [hn] at K
  clear K rowS rowW hs hz hw hn
  go_enter Try.func16, Try.ntmps16
  go_wp2_with fail
  refine (HFST.out).mono ?_
  rintro e w1 ⟨v, rfl, ho, hb⟩
  have H1 : Hid (Below w.heap.size w w1 ∧ OwnB w1 w.heap.size v (nowTo safe size L 0)) := ⟨hb, ho⟩
  clear ho hb d0 d1 d2 d3 d4 d5 d6
  go_wp2_with fail
  go_loopw [3, 4] (fun s3 s4 wr => ∃ k : Nat, k ≤ n ∧ s4 = .int .i64 (k : Int) ∧ Hid (Below w.heap.size w wr ∧ OwnB wr w.heap.size s3 (nowTo safe size L k))) (fun _ s4 _ => n - (intOf s4).toNat)
  case atStart => exact ⟨0, by omega, rfl, H1.out⟩
  case round =>
    obtain ⟨k, hk, rfl, hw⟩ := hrel
    obtain ⟨d0, d1, d2, d3, d4, d5, d6⟩ := (HK.out.grow hw.out.1).d7
    by_cases hlt : k < n
    · have hd : decide ((k : Int) < (n : Int)) = true := by simp; omega
      have hki : (k : Int) < (n : Int) := by omega
      obtain ⟨x, hx⟩ : ∃ x, L[k]? = some x := ⟨_, List.getElem?_eq_getElem (by rw [HN.out]; exact hlt)⟩
      obtain ⟨wb, wof, rfl, hwb, hwc⟩ := RowW.addr HRW.out.1 (by rw [HN.out]; omega)
      obtain ⟨c0, c1⟩ := hwc k x hx
      have m0 : wr.cell? ⟨wb, wof + k * 2, none⟩ = some (.int .i64 x.1) := (cell_below hw.out.1 hwb).trans c0
      have m1 : wr.cell? ⟨wb, wof + k * 2 + 1, none⟩ = some x.2.1 := (cell_below hw.out.1 hwb).trans c1
      have hmem := List.mem_of_getElem? hx
      obtain ⟨x0, x1, x2⟩ := HOW.out.2 x hmem
      have hsz := HS.out
      obtain ⟨y0, y1, y2, y3⟩ := mul_in x0 x1 hsz.2.1 hsz.2.2
      obtain ⟨q, hq⟩ : ∃ q, x.1 * size = q := ⟨_, rfl⟩
      rw [hq] at y0 y3
      have e1 : wrap64 (x.1 * size) = q := by rw [hq]; exact wrapR _ (by omega) (by omega)
      have e2 : IntKind.i64.wrap (x.1 * size) = q := by rw [wrap_is]; exact e1
      have HNX : Hid (nowTo safe size L (k + 1) = layB (nowTo safe size L k) x.2.2 q) := by rw [← hq]; exact nowTo_succ hx
      obtain ⟨xs, xc, hxv⟩ := (HRW.out.2 x hmem).shape
      obtain ⟨av, ac, hav⟩ := OwnB.shape hw.out.2
      have HLAY : Hid (∀ A, Below wr.heap.size wr A → Calls Try.prog 31 #[u3, .int .i64 q, x.2.1] A fun e w' => ∃ v, e = .returned v ∧ OwnB w' A.heap.size v (layB (nowTo safe size L k) x.2.2 q) ∧ Below A.heap.size A w') := fun A hA => lay_c u3 _ _ _ q A ((hw.out.2.grow hA).row) ((HRW.out.2 x hmem).on (hw.out.1.trans (hA.mono hw.out.1.size))) (by rw [nowTo_len]; omega) (by omega) (by omega)
      generalize x.2.1 = xv at *
      generalize x.1 = xi at *
      subst hxv
      have hwl : wb < wr.heap.size := Nat.lt_of_lt_of_le hwb hw.out.1.size
      generalize x.2.2.length = xl at *
      clear hav hx hwb hwc c0 c1 hmem x0 x1 x2 hsz y0 y1 y2 y3 hq
      have HC9 : Hid (∀ A, Below wr.heap.size wr A → Blk A g 31 (cellsD sv size (.slice (some ⟨wb, wof, none⟩) n wc) left done armed down) ∧ A.cell? ⟨wb, wof + k * 2, none⟩ = some (.int .i64 xi) ∧ A.cell? ⟨wb, wof + k * 2 + 1, none⟩ = some (.slice xs xl xc)) := fun A hA => ⟨HK.out.grow (hw.out.1.trans (hA.mono hw.out.1.size)), (cell_below hA hwl).trans m0, (cell_below hA hwl).trans m1⟩
      have E2 := Lib.hid e2
      go_upto_region 5 with fail
      clear m0 m1 d0 d1 d2 d3 d4 d5 d6 e1 e2 hwl
      refine wp_region_put2 (by kernel_rfl) (by kernel_rfl) (by kernel_rfl) (fun b' vs w' => (b' 0 = true → vs 0 = u3) ∧ (b' 1 = true → vs 1 = .pointer (some ⟨g, 0, none⟩)) ∧ (b' 2 = true → vs 2 = .pointer (some ⟨g, 0, none⟩)) ∧ (b' 3 = true → vs 3 = .pointer (some ⟨g, 2, none⟩)) ∧ (b' 4 = true → vs 4 = .slice (some ⟨wb, wof, none⟩) n wc) ∧ (b' 5 = true → vs 5 = .int .i64 (k : Int)) ∧ (b' 6 = true → vs 6 = .pointer (some ⟨wb, wof + k * 2, none⟩)) ∧ (b' 7 = true → vs 7 = .pointer (some ⟨wb, wof + k * 2, none⟩)) ∧ (b' 8 = true → vs 8 = .int .i64 xi) ∧ (b' 9 = true → vs 9 = .pointer (some ⟨g, 0, none⟩)) ∧ (b' 10 = true → vs 10 = .pointer (some ⟨g, 0, none⟩)) ∧ (b' 11 = true → vs 11 = .pointer (some ⟨g, 1, none⟩)) ∧ (b' 12 = true → vs 12 = .int .i64 size) ∧ (b' 13 = true → vs 13 = .int .i64 q) ∧ (b' 14 = true → vs 14 = .pointer (some ⟨g, 0, none⟩)) ∧ (b' 15 = true → vs 15 = .pointer (some ⟨g, 0, none⟩)) ∧ (b' 16 = true → vs 16 = .pointer (some ⟨g, 2, none⟩)) ∧ (b' 17 = true → vs 17 = .slice (some ⟨wb, wof, none⟩) n wc) ∧ (b' 18 = true → vs 18 = .int .i64 (k : Int)) ∧ (b' 19 = true → vs 19 = .pointer (some ⟨wb, wof + k * 2, none⟩)) ∧ (b' 20 = true → vs 20 = .pointer (some ⟨wb, wof + k * 2 + 1, none⟩)) ∧ (b' 21 = true → vs 21 = .slice xs xl xc) ∧ (b' 22 = false → Hid (Below wr.heap.size wr w' ∧ wr.heap.size ≤ w'.heap.size)) ∧ (b' 22 = true → Hid (Below wr.heap.size wr w' ∧ OwnB w' w.heap.size (vs 22) (nowTo safe size L (k + 1)))) ∧ (b' 13 = true → b' 8 = true) ∧ (b' 8 = true → b' 7 = true) ∧ (b' 7 = true → b' 6 = true) ∧ (b' 6 = true → b' 4 = true) ∧ (b' 13 = true → b' 12 = true) ∧ (b' 21 = true → b' 20 = true) ∧ (b' 20 = true → b' 19 = true) ∧ (b' 19 = true → b' 17 = true) ∧ (b' 22 = true → b' 0 = true) ∧ (b' 22 = true → b' 4 = true) ∧ (b' 22 = true → b' 8 = true) ∧ (b' 22 = true → b' 12 = true) ∧ (b' 22 = true → b' 17 = true) ∧ (b' 22 = true → b' 21 = true) ∧ (b' 23 = true → b' 22 = true ∧ vs 23 = vs 22) ∧ (b' 23 = false → vs 23 = u3) ∧ (b' 23 = true → b' 0 = true)) ?_ ?_ ?_
      · intro vs hvs
        exact ⟨fun h => Bool.noConfusion h, fun h => Bool.noConfusion h, fun h => Bool.noConfusion h, fun h => Bool.noConfusion h, fun h => Bool.noConfusion h, fun h => Bool.noConfusion h, fun h => Bool.noConfusion h, fun h => Bool.noConfusion h, fun h => Bool.noConfusion h, fun h => Bool.noConfusion h, fun h => Bool.noConfusion h, fun h => Bool.noConfusion h, fun h => Bool.noConfusion h, fun h => Bool.noConfusion h, fun h => Bool.noConfusion h, fun h => Bool.noConfusion h, fun h => Bool.noConfusion h, fun h => Bool.noConfusion h, fun h => Bool.noConfusion h, fun h => Bool.noConfusion h, fun h => Bool.noConfusion h, fun h => Bool.noConfusion h, fun _ => Lib.hid ⟨below_drewN (Below.refl _ _) 1, Nat.le_refl _⟩, fun h => Bool.noConfusion h, fun h => Bool.noConfusion h, fun h => Bool.noConfusion h, fun h => Bool.noConfusion h, fun h => Bool.noConfusion h, fun h => Bool.noConfusion h, fun h => Bool.noConfusion h, fun h => Bool.noConfusion h, fun h => Bool.noConfusion h, fun h => Bool.noConfusion h, fun h => Bool.noConfusion h, fun h => Bool.noConfusion h, fun h => Bool.noConfusion h, fun h => Bool.noConfusion h, fun h => Bool.noConfusion h, fun h => Bool.noConfusion h, fun _ => hvs 23 _ _ rfl rfl, fun h => Bool.noConfusion h⟩
      · rintro b' vs w' i op hi hun hall ⟨h0, h1, h2, h3, h4, h5, h6, h7, h8, h9, h10, h11, h12, h13, h14, h15, h16, h17, h18, h19, h20, h21, hB, hG, hE13_8, hE8_7, hE7_6, hE6_4, hE13_12, hE21_20, hE20_19, hE19_17, hW0, hW4, hW8, hW12, hW17, hW21, hA, hR, hZ0⟩
        have hil : i < 24 := (List.getElem?_eq_some_iff.1 hi).1
        rcases i with _ | _ | _ | _ | _ | _ | _ | _ | _ | _ | _ | _ | _ | _ | _ | _ | _ | _ | _ | _ | _ | _ | _ | _ | i
        · obtain rfl := Option.some.inj hi
          clear hi hil
          have hz : b' 23 = false := by
            cases hzz : b' 23 with
            | false => rfl
            | true => exact absurd (hZ0 hzz) (by rw [hun]; decide)
          have hx := hR hz
          refine wpOp_step rfl (fun K hK => ?_)
          have HKK := Lib.hid hK; clear hK
          simp only [putAll, Act.put, List.setIfInBounds_toArray, List.set_cons_zero, List.set_cons_succ]
          go_simp
          exact HKK.out _ _ ⟨_, by simp only [putAll, Act.put, List.setIfInBounds_toArray, List.set_cons_zero, List.set_cons_succ, hx] <;> rfl, fun _ => rfl, h1, h2, h3, h4, h5, h6, h7, h8, h9, h10, h11, h12, h13, h14, h15, h16, h17, h18, h19, h20, h21, hB, hG, hE13_8, hE8_7, hE7_6, hE6_4, hE13_12, hE21_20, hE20_19, hE19_17, fun _ => rfl, hW4, hW8, hW12, hW17, hW21, hA, hR, fun _ => rfl⟩
        · obtain rfl := Option.some.inj hi
          clear hi hil
          refine wpOp_step rfl (fun K hK => ?_)
          have HKK := Lib.hid hK; clear hK
          simp only [putAll, Act.put, List.setIfInBounds_toArray, List.set_cons_zero, List.set_cons_succ]
          go_simp
          exact HKK.out _ _ ⟨_, by simp only [putAll, Act.put, List.setIfInBounds_toArray, List.set_cons_zero, List.set_cons_succ] <;> rfl, h0, fun _ => rfl, h2, h3, h4, h5, h6, h7, h8, h9, h10, h11, h12, h13, h14, h15, h16, h17, h18, h19, h20, h21, hB, hG, hE13_8, hE8_7, hE7_6, hE6_4, hE13_12, hE21_20, hE20_19, hE19_17, hW0, hW4, hW8, hW12, hW17, hW21, hA, hR, hZ0⟩
        · obtain rfl := Option.some.inj hi
          clear hi hil
          have d1 := h1 (hall ⟨1, .data⟩ (by simp) rfl)
          refine wpOp_step rfl (fun K hK => ?_)
          have HKK := Lib.hid hK; clear hK
          simp only [putAll, Act.put, List.setIfInBounds_toArray, List.set_cons_zero, List.set_cons_succ]
          go_simp
          exact HKK.out _ _ ⟨_, by simp only [putAll, Act.put, List.setIfInBounds_toArray, List.set_cons_zero, List.set_cons_succ, d1] <;> rfl, h0, h1, fun _ => rfl, h3, h4, h5, h6, h7, h8, h9, h10, h11, h12, h13, h14, h15, h16, h17, h18, h19, h20, h21, hB, hG, hE13_8, hE8_7, hE7_6, hE6_4, hE13_12, hE21_20, hE20_19, hE19_17, hW0, hW4, hW8, hW12, hW17, hW21, hA, hR, hZ0⟩
        · obtain rfl := Option.some.inj hi
          clear hi hil
          have d2 := h2 (hall ⟨2, .data⟩ (by simp) rfl)
          refine wpOp_step rfl (fun K hK => ?_)
          have HKK := Lib.hid hK; clear hK
          simp only [putAll, Act.put, List.setIfInBounds_toArray, List.set_cons_zero, List.set_cons_succ]
          go_simp
          exact HKK.out _ _ ⟨_, by simp only [putAll, Act.put, List.setIfInBounds_toArray, List.set_cons_zero, List.set_cons_succ, d2] <;> rfl, h0, h1, h2, fun _ => rfl, h4, h5, h6, h7, h8, h9, h10, h11, h12, h13, h14, h15, h16, h17, h18, h19, h20, h21, hB, hG, hE13_8, hE8_7, hE7_6, hE6_4, hE13_12, hE21_20, hE20_19, hE19_17, hW0, hW4, hW8, hW12, hW17, hW21, hA, hR, hZ0⟩
        · obtain rfl := Option.some.inj hi
          clear hi hil
          have hap : b' 22 = false := by
            cases hz : b' 22 with
            | false => rfl
            | true => exact absurd (hW4 hz) (by rw [hun]; decide)
          have d3 := h3 (hall ⟨3, .data⟩ (by simp) rfl)
          obtain ⟨k0, k1, k2, k3, k4, k5, k6⟩ := (HC9.out w' (hB hap).out.1).1.d7
          refine wpOp_step rfl (fun K hK => ?_)
          have HKK := Lib.hid hK; clear hK
          simp only [putAll, Act.put, List.setIfInBounds_toArray, List.set_cons_zero, List.set_cons_succ]
          go_simp
          exact HKK.out _ _ ⟨_, by simp only [putAll, Act.put, List.setIfInBounds_toArray, List.set_cons_zero, List.set_cons_succ, d3] <;> rfl, h0, h1, h2, h3, fun _ => rfl, h5, h6, h7, h8, h9, h10, h11, h12, h13, h14, h15, h16, h17, h18, h19, h20, h21, hB, hG, hE13_8, hE8_7, hE7_6, fun _ => rfl, hE13_12, hE21_20, hE20_19, hE19_17, hW0, fun _ => rfl, hW8, hW12, hW17, hW21, hA, hR, hZ0⟩
        · obtain rfl := Option.some.inj hi
          clear hi hil
          refine wpOp_step rfl (fun K hK => ?_)
          have HKK := Lib.hid hK; clear hK
          simp only [putAll, Act.put, List.setIfInBounds_toArray, List.set_cons_zero, List.set_cons_succ]
          go_simp
          exact HKK.out _ _ ⟨_, by simp only [putAll, Act.put, List.setIfInBounds_toArray, List.set_cons_zero, List.set_cons_succ] <;> rfl, h0, h1, h2, h3, h4, fun _ => rfl, h6, h7, h8, h9, h10, h11, h12, h13, h14, h15, h16, h17, h18, h19, h20, h21, hB, hG, hE13_8, hE8_7, hE7_6, hE6_4, hE13_12, hE21_20, hE20_19, hE19_17, hW0, hW4, hW8, hW12, hW17, hW21, hA, hR, hZ0⟩
        · obtain rfl := Option.some.inj hi
          clear hi hil
          have d4 := h4 (hall ⟨4, .data⟩ (by simp) rfl)
          have d5 := h5 (hall ⟨5, .data⟩ (by simp) rfl)
          refine wpOp_step rfl (fun K hK => ?_)
          have HKK := Lib.hid hK; clear hK
          simp only [putAll, Act.put, List.setIfInBounds_toArray, List.set_cons_zero, List.set_cons_succ]
          go_simp
          exact HKK.out _ _ ⟨_, by simp only [putAll, Act.put, List.setIfInBounds_toArray, List.set_cons_zero, List.set_cons_succ, d4, d5] <;> rfl, h0, h1, h2, h3, h4, h5, fun _ => rfl, h7, h8, h9, h10, h11, h12, h13, h14, h15, h16, h17, h18, h19, h20, h21, hB, hG, hE13_8, hE8_7, fun _ => rfl, fun _ => hall ⟨4, .data⟩ (by simp) rfl, hE13_12, hE21_20, hE20_19, hE19_17, hW0, hW4, hW8, hW12, hW17, hW21, hA, hR, hZ0⟩
        · obtain rfl := Option.some.inj hi
          clear hi hil
          have d6 := h6 (hall ⟨6, .data⟩ (by simp) rfl)
          refine wpOp_step rfl (fun K hK => ?_)
          have HKK := Lib.hid hK; clear hK
          simp only [putAll, Act.put, List.setIfInBounds_toArray, List.set_cons_zero, List.set_cons_succ]
          go_simp
          exact HKK.out _ _ ⟨_, by simp only [putAll, Act.put, List.setIfInBounds_toArray, List.set_cons_zero, List.set_cons_succ, d6] <;> rfl, h0, h1, h2, h3, h4, h5, h6, fun _ => rfl, h8, h9, h10, h11, h12, h13, h14, h15, h16, h17, h18, h19, h20, h21, hB, hG, hE13_8, fun _ => rfl, fun _ => hall ⟨6, .data⟩ (by simp) rfl, hE6_4, hE13_12, hE21_20, hE20_19, hE19_17, hW0, hW4, hW8, hW12, hW17, hW21, hA, hR, hZ0⟩
        · obtain rfl := Option.some.inj hi
          clear hi hil
          have hap : b' 22 = false := by
            cases hz : b' 22 with
            | false => rfl
            | true => exact absurd (hW8 hz) (by rw [hun]; decide)
          have d7 := h7 (hall ⟨7, .data⟩ (by simp) rfl)
          have m0 := (HC9.out w' (hB hap).out.1).2.1
          refine wpOp_step rfl (fun K hK => ?_)
          have HKK := Lib.hid hK; clear hK
          simp only [putAll, Act.put, List.setIfInBounds_toArray, List.set_cons_zero, List.set_cons_succ]
          go_simp
          exact HKK.out _ _ ⟨_, by simp only [putAll, Act.put, List.setIfInBounds_toArray, List.set_cons_zero, List.set_cons_succ, d7] <;> rfl, h0, h1, h2, h3, h4, h5, h6, h7, fun _ => rfl, h9, h10, h11, h12, h13, h14, h15, h16, h17, h18, h19, h20, h21, hB, hG, fun _ => rfl, fun _ => hall ⟨7, .data⟩ (by simp) rfl, hE7_6, hE6_4, hE13_12, hE21_20, hE20_19, hE19_17, hW0, hW4, fun _ => rfl, hW12, hW17, hW21, hA, hR, hZ0⟩
        · obtain rfl := Option.some.inj hi
          clear hi hil
          refine wpOp_step rfl (fun K hK => ?_)
          have HKK := Lib.hid hK; clear hK
          simp only [putAll, Act.put, List.setIfInBounds_toArray, List.set_cons_zero, List.set_cons_succ]
          go_simp
          exact HKK.out _ _ ⟨_, by simp only [putAll, Act.put, List.setIfInBounds_toArray, List.set_cons_zero, List.set_cons_succ] <;> rfl, h0, h1, h2, h3, h4, h5, h6, h7, h8, fun _ => rfl, h10, h11, h12, h13, h14, h15, h16, h17, h18, h19, h20, h21, hB, hG, hE13_8, hE8_7, hE7_6, hE6_4, hE13_12, hE21_20, hE20_19, hE19_17, hW0, hW4, hW8, hW12, hW17, hW21, hA, hR, hZ0⟩
        · obtain rfl := Option.some.inj hi
          clear hi hil
          have d9 := h9 (hall ⟨9, .data⟩ (by simp) rfl)
          refine wpOp_step rfl (fun K hK => ?_)
          have HKK := Lib.hid hK; clear hK
          simp only [putAll, Act.put, List.setIfInBounds_toArray, List.set_cons_zero, List.set_cons_succ]
          go_simp
          exact HKK.out _ _ ⟨_, by simp only [putAll, Act.put, List.setIfInBounds_toArray, List.set_cons_zero, List.set_cons_succ, d9] <;> rfl, h0, h1, h2, h3, h4, h5, h6, h7, h8, h9, fun _ => rfl, h11, h12, h13, h14, h15, h16, h17, h18, h19, h20, h21, hB, hG, hE13_8, hE8_7, hE7_6, hE6_4, hE13_12, hE21_20, hE20_19, hE19_17, hW0, hW4, hW8, hW12, hW17, hW21, hA, hR, hZ0⟩
        · obtain rfl := Option.some.inj hi
          clear hi hil
          have d10 := h10 (hall ⟨10, .data⟩ (by simp) rfl)
          refine wpOp_step rfl (fun K hK => ?_)
          have HKK := Lib.hid hK; clear hK
          simp only [putAll, Act.put, List.setIfInBounds_toArray, List.set_cons_zero, List.set_cons_succ]
          go_simp
          exact HKK.out _ _ ⟨_, by simp only [putAll, Act.put, List.setIfInBounds_toArray, List.set_cons_zero, List.set_cons_succ, d10] <;> rfl, h0, h1, h2, h3, h4, h5, h6, h7, h8, h9, h10, fun _ => rfl, h12, h13, h14, h15, h16, h17, h18, h19, h20, h21, hB, hG, hE13_8, hE8_7, hE7_6, hE6_4, hE13_12, hE21_20, hE20_19, hE19_17, hW0, hW4, hW8, hW12, hW17, hW21, hA, hR, hZ0⟩
        · obtain rfl := Option.some.inj hi
          clear hi hil
          have hap : b' 22 = false := by
            cases hz : b' 22 with
            | false => rfl
            | true => exact absurd (hW12 hz) (by rw [hun]; decide)
          have d11 := h11 (hall ⟨11, .data⟩ (by simp) rfl)
          obtain ⟨k0, k1, k2, k3, k4, k5, k6⟩ := (HC9.out w' (hB hap).out.1).1.d7
          refine wpOp_step rfl (fun K hK => ?_)
          have HKK := Lib.hid hK; clear hK
          simp only [putAll, Act.put, List.setIfInBounds_toArray, List.set_cons_zero, List.set_cons_succ]
          go_simp
          exact HKK.out _ _ ⟨_, by simp only [putAll, Act.put, List.setIfInBounds_toArray, List.set_cons_zero, List.set_cons_succ, d11] <;> rfl, h0, h1, h2, h3, h4, h5, h6, h7, h8, h9, h10, h11, fun _ => rfl, h13, h14, h15, h16, h17, h18, h19, h20, h21, hB, hG, hE13_8, hE8_7, hE7_6, hE6_4, fun _ => rfl, hE21_20, hE20_19, hE19_17, hW0, hW4, hW8, fun _ => rfl, hW17, hW21, hA, hR, hZ0⟩
        · obtain rfl := Option.some.inj hi
          clear hi hil
          have d8 := h8 (hall ⟨8, .data⟩ (by simp) rfl)
          have d12 := h12 (hall ⟨12, .data⟩ (by simp) rfl)
          refine wpOp_step rfl (fun K hK => ?_)
          have HKK := Lib.hid hK; clear hK
          simp only [putAll, Act.put, List.setIfInBounds_toArray, List.set_cons_zero, List.set_cons_succ]
          go_simp
          exact HKK.out _ _ ⟨_, by simp only [putAll, Act.put, List.setIfInBounds_toArray, List.set_cons_zero, List.set_cons_succ, d8, d12, E2.out] <;> rfl, h0, h1, h2, h3, h4, h5, h6, h7, h8, h9, h10, h11, h12, fun _ => rfl, h14, h15, h16, h17, h18, h19, h20, h21, hB, hG, fun _ => hall ⟨8, .data⟩ (by simp) rfl, hE8_7, hE7_6, hE6_4, fun _ => hall ⟨12, .data⟩ (by simp) rfl, hE21_20, hE20_19, hE19_17, hW0, hW4, hW8, hW12, hW17, hW21, hA, hR, hZ0⟩
        · obtain rfl := Option.some.inj hi
          clear hi hil
          refine wpOp_step rfl (fun K hK => ?_)
          have HKK := Lib.hid hK; clear hK
          simp only [putAll, Act.put, List.setIfInBounds_toArray, List.set_cons_zero, List.set_cons_succ]
          go_simp
          exact HKK.out _ _ ⟨_, by simp only [putAll, Act.put, List.setIfInBounds_toArray, List.set_cons_zero, List.set_cons_succ] <;> rfl, h0, h1, h2, h3, h4, h5, h6, h7, h8, h9, h10, h11, h12, h13, fun _ => rfl, h15, h16, h17, h18, h19, h20, h21, hB, hG, hE13_8, hE8_7, hE7_6, hE6_4, hE13_12, hE21_20, hE20_19, hE19_17, hW0, hW4, hW8, hW12, hW17, hW21, hA, hR, hZ0⟩
        · obtain rfl := Option.some.inj hi
          clear hi hil
          have d14 := h14 (hall ⟨14, .data⟩ (by simp) rfl)
          refine wpOp_step rfl (fun K hK => ?_)
          have HKK := Lib.hid hK; clear hK
          simp only [putAll, Act.put, List.setIfInBounds_toArray, List.set_cons_zero, List.set_cons_succ]
          go_simp
          exact HKK.out _ _ ⟨_, by simp only [putAll, Act.put, List.setIfInBounds_toArray, List.set_cons_zero, List.set_cons_succ, d14] <;> rfl, h0, h1, h2, h3, h4, h5, h6, h7, h8, h9, h10, h11, h12, h13, h14, fun _ => rfl, h16, h17, h18, h19, h20, h21, hB, hG, hE13_8, hE8_7, hE7_6, hE6_4, hE13_12, hE21_20, hE20_19, hE19_17, hW0, hW4, hW8, hW12, hW17, hW21, hA, hR, hZ0⟩
        · obtain rfl := Option.some.inj hi
          clear hi hil
          have d15 := h15 (hall ⟨15, .data⟩ (by simp) rfl)
          refine wpOp_step rfl (fun K hK => ?_)
          have HKK := Lib.hid hK; clear hK
          simp only [putAll, Act.put, List.setIfInBounds_toArray, List.set_cons_zero, List.set_cons_succ]
          go_simp
          exact HKK.out _ _ ⟨_, by simp only [putAll, Act.put, List.setIfInBounds_toArray, List.set_cons_zero, List.set_cons_succ, d15] <;> rfl, h0, h1, h2, h3, h4, h5, h6, h7, h8, h9, h10, h11, h12, h13, h14, h15, fun _ => rfl, h17, h18, h19, h20, h21, hB, hG, hE13_8, hE8_7, hE7_6, hE6_4, hE13_12, hE21_20, hE20_19, hE19_17, hW0, hW4, hW8, hW12, hW17, hW21, hA, hR, hZ0⟩
        · obtain rfl := Option.some.inj hi
          clear hi hil
          have hap : b' 22 = false := by
            cases hz : b' 22 with
            | false => rfl
            | true => exact absurd (hW17 hz) (by rw [hun]; decide)
          have d16 := h16 (hall ⟨16, .data⟩ (by simp) rfl)
          obtain ⟨k0, k1, k2, k3, k4, k5, k6⟩ := (HC9.out w' (hB hap).out.1).1.d7
          refine wpOp_step rfl (fun K hK => ?_)
          have HKK := Lib.hid hK; clear hK
          simp only [putAll, Act.put, List.setIfInBounds_toArray, List.set_cons_zero, List.set_cons_succ]
          go_simp
          exact HKK.out _ _ ⟨_, by simp only [putAll, Act.put, List.setIfInBounds_toArray, List.set_cons_zero, List.set_cons_succ, d16] <;> rfl, h0, h1, h2, h3, h4, h5, h6, h7, h8, h9, h10, h11, h12, h13, h14, h15, h16, fun _ => rfl, h18, h19, h20, h21, hB, hG, hE13_8, hE8_7, hE7_6, hE6_4, hE13_12, hE21_20, hE20_19, fun _ => rfl, hW0, hW4, hW8, hW12, fun _ => rfl, hW21, hA, hR, hZ0⟩
        · obtain rfl := Option.some.inj hi
          clear hi hil
          refine wpOp_step rfl (fun K hK => ?_)
          have HKK := Lib.hid hK; clear hK
          simp only [putAll, Act.put, List.setIfInBounds_toArray, List.set_cons_zero, List.set_cons_succ]
          go_simp
          exact HKK.out _ _ ⟨_, by simp only [putAll, Act.put, List.setIfInBounds_toArray, List.set_cons_zero, List.set_cons_succ] <;> rfl, h0, h1, h2, h3, h4, h5, h6, h7, h8, h9, h10, h11, h12, h13, h14, h15, h16, h17, fun _ => rfl, h19, h20, h21, hB, hG, hE13_8, hE8_7, hE7_6, hE6_4, hE13_12, hE21_20, hE20_19, hE19_17, hW0, hW4, hW8, hW12, hW17, hW21, hA, hR, hZ0⟩
        · obtain rfl := Option.some.inj hi
          clear hi hil
          have d17 := h17 (hall ⟨17, .data⟩ (by simp) rfl)
          have d18 := h18 (hall ⟨18, .data⟩ (by simp) rfl)
          refine wpOp_step rfl (fun K hK => ?_)
          have HKK := Lib.hid hK; clear hK
          simp only [putAll, Act.put, List.setIfInBounds_toArray, List.set_cons_zero, List.set_cons_succ]
          go_simp
          exact HKK.out _ _ ⟨_, by simp only [putAll, Act.put, List.setIfInBounds_toArray, List.set_cons_zero, List.set_cons_succ, d17, d18] <;> rfl, h0, h1, h2, h3, h4, h5, h6, h7, h8, h9, h10, h11, h12, h13, h14, h15, h16, h17, h18, fun _ => rfl, h20, h21, hB, hG, hE13_8, hE8_7, hE7_6, hE6_4, hE13_12, hE21_20, fun _ => rfl, fun _ => hall ⟨17, .data⟩ (by simp) rfl, hW0, hW4, hW8, hW12, hW17, hW21, hA, hR, hZ0⟩
        · obtain rfl := Option.some.inj hi
          clear hi hil
          have d19 := h19 (hall ⟨19, .data⟩ (by simp) rfl)
          refine wpOp_step rfl (fun K hK => ?_)
          have HKK := Lib.hid hK; clear hK
          simp only [putAll, Act.put, List.setIfInBounds_toArray, List.set_cons_zero, List.set_cons_succ]
          go_simp
          exact HKK.out _ _ ⟨_, by simp only [putAll, Act.put, List.setIfInBounds_toArray, List.set_cons_zero, List.set_cons_succ, d19] <;> rfl, h0, h1, h2, h3, h4, h5, h6, h7, h8, h9, h10, h11, h12, h13, h14, h15, h16, h17, h18, h19, fun _ => rfl, h21, hB, hG, hE13_8, hE8_7, hE7_6, hE6_4, hE13_12, fun _ => rfl, fun _ => hall ⟨19, .data⟩ (by simp) rfl, hE19_17, hW0, hW4, hW8, hW12, hW17, hW21, hA, hR, hZ0⟩
        · obtain rfl := Option.some.inj hi
          clear hi hil
          have hap : b' 22 = false := by
            cases hz : b' 22 with
            | false => rfl
            | true => exact absurd (hW21 hz) (by rw [hun]; decide)
          have d20 := h20 (hall ⟨20, .data⟩ (by simp) rfl)
          have m1 := (HC9.out w' (hB hap).out.1).2.2
          refine wpOp_step rfl (fun K hK => ?_)
          have HKK := Lib.hid hK; clear hK
          simp only [putAll, Act.put, List.setIfInBounds_toArray, List.set_cons_zero, List.set_cons_succ]
          go_simp
          exact HKK.out _ _ ⟨_, by simp only [putAll, Act.put, List.setIfInBounds_toArray, List.set_cons_zero, List.set_cons_succ, d20] <;> rfl, h0, h1, h2, h3, h4, h5, h6, h7, h8, h9, h10, h11, h12, h13, h14, h15, h16, h17, h18, h19, h20, fun _ => rfl, hB, hG, hE13_8, hE8_7, hE7_6, hE6_4, hE13_12, fun _ => hall ⟨20, .data⟩ (by simp) rfl, hE20_19, hE19_17, hW0, hW4, hW8, hW12, hW17, fun _ => rfl, hA, hR, hZ0⟩
        · obtain rfl := Option.some.inj hi
          clear hi hil
          have hap : b' 22 = false := hun
          have d0 := h0 (hall ⟨0, .data⟩ (by simp) rfl)
          have d13 := h13 (hall ⟨13, .data⟩ (by simp) rfl)
          have d21 := h21 (hall ⟨21, .data⟩ (by simp) rfl)
          refine wpOp_step rfl (fun K hK => ?_)
          have HKK := Lib.hid hK; clear hK
          simp only [putAll, Act.put, List.setIfInBounds_toArray, List.set_cons_zero, List.set_cons_succ]
          go_simp
          refine (HLAY.out w' (hB hap).out.1).mono ?_
          rintro e w2 ⟨v2, rfl, ho2, hb2⟩
          exact HKK.out _ _ ⟨_, by simp only [putAll, Act.put, List.setIfInBounds_toArray, List.set_cons_zero, List.set_cons_succ, d0, d13, d21] <;> rfl, h0, h1, h2, h3, h4, h5, h6, h7, h8, h9, h10, h11, h12, h13, h14, h15, h16, h17, h18, h19, h20, h21, fun h => Bool.noConfusion h, fun _ => Lib.hid (⟨(hB hap).out.1.trans (hb2.mono (hB hap).out.2), (by rw [HNX.out]; exact owns_base ho2 (Nat.le_trans hw.out.1.size (hB hap).out.2))⟩), hE13_8, hE8_7, hE7_6, hE6_4, hE13_12, hE21_20, hE20_19, hE19_17, fun _ => hall ⟨0, .data⟩ (by simp) rfl, fun _ => hE6_4 (hE7_6 (hE8_7 (hE13_8 (hall ⟨13, .data⟩ (by simp) rfl)))), fun _ => hE13_8 (hall ⟨13, .data⟩ (by simp) rfl), fun _ => hE13_12 (hall ⟨13, .data⟩ (by simp) rfl), fun _ => hE19_17 (hE20_19 (hE21_20 (hall ⟨21, .data⟩ (by simp) rfl))), fun _ => hall ⟨21, .data⟩ (by simp) rfl, fun hq => absurd (hA hq).1 (by rw [hun]; decide), hR, hZ0⟩
        · obtain rfl := Option.some.inj hi
          clear hi hil
          have gB := hG (hall ⟨22, .data⟩ (by simp) rfl)
          refine wpOp_step rfl (fun K hK => ?_)
          have HKK := Lib.hid hK; clear hK
          simp only [putAll, Act.put, List.setIfInBounds_toArray, List.set_cons_zero, List.set_cons_succ]
          go_simp
          exact HKK.out _ _ ⟨_, by simp only [putAll, Act.put, List.setIfInBounds_toArray, List.set_cons_zero, List.set_cons_succ] <;> rfl, h0, h1, h2, h3, h4, h5, h6, h7, h8, h9, h10, h11, h12, h13, h14, h15, h16, h17, h18, h19, h20, h21, hB, hG, hE13_8, hE8_7, hE7_6, hE6_4, hE13_12, hE21_20, hE20_19, hE19_17, hW0, hW4, hW8, hW12, hW17, hW21, fun _ => ⟨hall ⟨22, .data⟩ (by simp) rfl, rfl⟩, fun h => Bool.noConfusion h, fun _ => hW0 (hall ⟨22, .data⟩ (by simp) rfl)⟩
        · omega
      · rintro b' vs wz hall ⟨h0, h1, h2, h3, h4, h5, h6, h7, h8, h9, h10, h11, h12, h13, h14, h15, h16, h17, h18, h19, h20, h21, hB, hG, hE13_8, hE8_7, hE7_6, hE6_4, hE13_12, hE21_20, hE20_19, hE19_17, hW0, hW4, hW8, hW12, hW17, hW21, hA, hR, hZ0⟩
        have d0 := h0 (hall 0 (by simp))
        have d1 := h1 (hall 1 (by simp))
        have d2 := h2 (hall 2 (by simp))
        have d3 := h3 (hall 3 (by simp))
        have d4 := h4 (hall 4 (by simp))
        have d5 := h5 (hall 5 (by simp))
        have d6 := h6 (hall 6 (by simp))
        have d7 := h7 (hall 7 (by simp))
        have d8 := h8 (hall 8 (by simp))
        have d9 := h9 (hall 9 (by simp))
        have d10 := h10 (hall 10 (by simp))
        have d11 := h11 (hall 11 (by simp))
        have d12 := h12 (hall 12 (by simp))
        have d13 := h13 (hall 13 (by simp))
        have d14 := h14 (hall 14 (by simp))
        have d15 := h15 (hall 15 (by simp))
        have d16 := h16 (hall 16 (by simp))
        have d17 := h17 (hall 17 (by simp))
        have d18 := h18 (hall 18 (by simp))
        have d19 := h19 (hall 19 (by simp))
        have d20 := h20 (hall 20 (by simp))
        have d21 := h21 (hall 21 (by simp))
        have GG := hG (hall 22 (by simp))
        have dA := (hA (hall 23 (by simp))).2
        simp only [putAll, Act.put, List.setIfInBounds_toArray, List.set_cons_zero, List.set_cons_succ, d0, d1, d2, d3, d4, d5, d6, d7, d8, d9, d10, d11, d12, d13, d14, d15, d16, d17, d18, d19, d20, d21, dA]
        clear hall h0 d0 h1 d1 h2 d2 h3 d3 h4 d4 h5 d5 h6 d6 h7 d7 h8 d8 h9 d9 h10 d10 h11 d11 h12 d12 h13 d13 h14 d14 h15 d15 h16 d16 h17 d17 h18 d18 h19 d19 h20 d20 h21 d21 hB hG hE13_8 hE8_7 hE7_6 hE6_4 hE13_12 hE21_20 hE20_19 hE19_17 hW0 hW4 hW8 hW12 hW17 hW21 hA dA hR hZ0
        generalize vs 22 = va at *
        have H2 : Hid (Below w.heap.size w wz ∧ OwnB wz w.heap.size va (nowTo safe size L (k + 1))) := ⟨hw.out.1.trans (GG.out.1.mono hw.out.1.size), GG.out.2⟩
        clear GG HC9 HLAY
        have hn9 := HOW.out.1
        rw [HN.out] at hn9
        go_wp2_with fail
        exact ⟨⟨k + 1, by omega, by go_num, H2.out⟩, by simp [intOf]; omega⟩
    · have hd : decide ((k : Int) < (n : Int)) = false := by simp; omega
      have hkn : k = n := by omega
      rw [hkn] at hw
      clear hkn
      go_wp2_with fail
      go_ret
      exact ⟨_, rfl, hw.out.2, hw.out.1⟩
end Go.Proofs.Ytohmkmekdnfkoaa
