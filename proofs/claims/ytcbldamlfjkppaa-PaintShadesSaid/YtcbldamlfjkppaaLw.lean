/- Layer 10: the law PaintWays. -/
import Derived.Test.YtcbldamlfjkppaaLm
import Derived.BigQuiet
namespace Go.Proofs.Ytcbldamlfjkppaa
open Go.RowKit
def tab (n : Nat) (f : Nat → Value) : Array Value := ((List.range n).map f).toArray
theorem tab_at {n : Nat} (f : Nat → Value) {k : Nat} (h : k < n) : (tab n f)[k]? = some (f k) := by simp [tab, h]
theorem tab_congr {n : Nat} {f g : Nat → Value} (h : ∀ i, i < n → f i = g i) : tab n f = tab n g := by
  unfold tab
  rw [List.map_congr_left fun i hi => h i (List.mem_range.1 hi)]
theorem tab_set {n : Nat} (f : Nat → Value) (k : Nat) (v : Value) : (tab n f).setIfInBounds k v = tab n (fun i => if i = k then v else f i) := by
  apply Array.ext
  · simp [tab]
  · intro i h1 h2
    simp only [tab, List.setIfInBounds_toArray, List.getElem_toArray, List.getElem_set, List.getElem_map, List.getElem_range]
    by_cases e : k = i
    · subst e; simp
    · rw [if_neg e, if_neg (Ne.symm e)]
theorem Blk.tk {w : World} {g n : Nat} {t : TypeId} {f : Nat → Value} (h : Blk w g t (tab n f)) {k : Nat} (hk : k < n) : w.cell? ⟨g, k, none⟩ = some (f k) := (h.cell k).trans (tab_at f hk)
/-- The five blends, as far as k of them. -/
def waysG (c d : Col) (k j : Nat) : Value := if j < k * 4 then .int .u8 (blendC c d ((j / 4 : Nat) : Int) (j % 4)) else .int .u8 0
theorem ways_0 (c d : Col) : tab 20 (waysG c d 0) = tab 20 (fun _ => .int .u8 0) := tab_congr fun i _ => by unfold waysG; rw [if_neg (by omega)]
theorem ways_succ (c d : Col) (k : Nat) : ((((tab 20 (waysG c d k)).setIfInBounds (k * 4) (.int .u8 (blendC c d (k : Int) 0))).setIfInBounds (k * 4 + 1) (.int .u8 (blendC c d (k : Int) 1))).setIfInBounds (k * 4 + 2) (.int .u8 (blendC c d (k : Int) 2))).setIfInBounds (k * 4 + 3) (.int .u8 (blendC c d (k : Int) 3)) = tab 20 (waysG c d (k + 1)) := by
  rw [tab_set, tab_set, tab_set, tab_set]
  refine tab_congr fun i _ => ?_
  unfold waysG
  by_cases e3 : i = k * 4 + 3
  · subst e3; rw [if_pos rfl, if_pos (by omega), show (k * 4 + 3) / 4 = k by omega, show (k * 4 + 3) % 4 = 3 by omega]
  · rw [if_neg e3]
    by_cases e2 : i = k * 4 + 2
    · subst e2; rw [if_pos rfl, if_pos (by omega), show (k * 4 + 2) / 4 = k by omega, show (k * 4 + 2) % 4 = 2 by omega]
    · rw [if_neg e2]
      by_cases e1 : i = k * 4 + 1
      · subst e1; rw [if_pos rfl, if_pos (by omega), show (k * 4 + 1) / 4 = k by omega, show (k * 4 + 1) % 4 = 1 by omega]
      · rw [if_neg e1]
        by_cases e0 : i = k * 4
        · subst e0; rw [if_pos rfl, if_pos (by omega), show (k * 4) / 4 = k by omega, show (k * 4) % 4 = 0 by omega]
        · rw [if_neg e0]
          by_cases h : i < k * 4
          · rw [if_pos h, if_pos (by omega)]
          · rw [if_neg h, if_neg (by omega)]
theorem ways_at (c d : Col) {m i : Nat} (hm : m < 5) (hi : i < 4) : waysG c d 5 (m * 4 + i) = .int .u8 (blendC c d (m : Int) i) := by
  unfold waysG
  rw [if_pos (by omega), show (m * 4 + i) / 4 = m by omega, show (m * 4 + i) % 4 = i by omega]
def full (c : Col) : Col := col4 (c 0) (c 1) (c 2) 255
theorem full_ok {c : Col} (hc : OkC c) : OkC (full c) := col4_ok (hc 0 (by decide)) (hc 1 (by decide)) (hc 2 (by decide)) (by unfold byteI; decide)
theorem full_at (c : Col) {i : Nat} (h : i < 3) : full c i = c i := by
  match i, h with
  | 0, _ => rfl
  | 1, _ => rfl
  | 2, _ => rfl
theorem full_3 (c : Col) : full c 3 = 255 := rfl
theorem full_right {c : Col} (hc : OkC c) : rightC (full c) = true := by
  have h := full_ok hc
  exact rightC_iff.2 ⟨by rw [full_3]; exact (h 0 (by decide)).2, by rw [full_3]; exact (h 1 (by decide)).2, by rw [full_3]; exact (h 2 (by decide)).2⟩
/-- What the five ways make of colours that cover wholly. -/
theorem ways_all {c d : Col} (hc : OkC c) (hd : OkC d) {i : Nat} (h : i < 3) :
    blendC (full c) (full d) 1 i ≤ min (c i) (d i) ∧ max (c i) (d i) ≤ blendC (full c) (full d) 2 i ∧ blendC (full c) (full d) 3 i = min (c i) (d i) ∧ blendC (full c) (full d) 4 i = max (c i) (d i) ∧ blendC (full c) (full d) 0 i = c i := by
  have ho : overC (full c) (full d) 3 = 255 := by rw [over_hides (full_ok hc) (full_3 c) 3 (by decide), full_3]
  have hi := hc i (by omega)
  have ki := hd i (by omega)
  obtain ⟨p0, p1, p2, _⟩ := ofI_in hi.1 hi.2 ki.1 ki.2
  have z : ∀ x, ofI (255 - 255) x = 0 := fun x => by rw [ofI_comm]; exact ofI_0 x
  have u : ∀ x, ofI 255 x = x := fun x => by rw [ofI_comm]; exact ofI_255 x
  rw [blend_lt (by decide) h, blend_lt (by decide) h, blend_lt (by decide) h, blend_lt (by decide) h, blend_0, over_hides (full_ok hc) (full_3 c) i (by omega), ho, full_at c h, full_at d h, full_3, full_3]
  unfold blendN
  simp only [z, u]
  rcases Int.lt_or_le (d i) (c i) with hlt | hlt
  · have e : decide (c i > d i) = true := by simp; omega
    rw [e]
    simp
    omega
  · have e : decide (c i > d i) = false := by simp; omega
    rw [e]
    simp
    omega
set_option maxHeartbeats 4000000 in
set_option maxRecDepth 100000 in
theorem paintWays_law (P : PaintOk) (c d : Col) (hc : OkC c) (hd : OkC d) (w : World) : Calls Try.prog 9 #[.agg #[.int .u8 (c 0), .int .u8 (c 1), .int .u8 (c 2), .int .u8 (c 3)], .agg #[.int .u8 (d 0), .int .u8 (d 1), .int .u8 (d 2), .int .u8 (d 3)]] w fun e w' => e = .returned (.bool true) ∧ Below w.heap.size w w' := by
  have HAW := Lib.hid (law_awake_c P)
  have HBL : Hid (∀ k : Nat, k < 5 → ∀ w, Calls Try.prog 24 #[.agg #[.int .u8 (c 0), .int .u8 (c 1), .int .u8 (c 2), .int .u8 255], .agg #[.int .u8 (d 0), .int .u8 (d 1), .int .u8 (d 2), .int .u8 255], .int .i64 (k : Int)] w fun e w' => e = .returned (.tuple #[.agg #[.int .u8 (blendC (full c) (full d) (k : Int) 0), .int .u8 (blendC (full c) (full d) (k : Int) 1), .int .u8 (blendC (full c) (full d) (k : Int) 2), .int .u8 (blendC (full c) (full d) (k : Int) 3)], .int .i64 0]) ∧ Below w.heap.size w w') := fun k hk w => by
    have h := P.blend (full c) (full d) k w (full_ok hc) (full_ok hd)
    unfold blendP blendE at h
    have hk' : 0 ≤ (k : Int) ∧ (k : Int) ≤ 4 := by omega
    rw [if_pos hk', if_pos hk', full_right hc, full_right hd] at h
    exact h
  have HALL : Hid (∀ i, i < 3 → blendC (full c) (full d) 1 i ≤ min (c i) (d i) ∧ max (c i) (d i) ≤ blendC (full c) (full d) 2 i ∧ blendC (full c) (full d) 3 i = min (c i) (d i) ∧ blendC (full c) (full d) 4 i = max (c i) (d i) ∧ blendC (full c) (full d) 0 i = c i) := fun i hi => ways_all hc hd hi
  clear hc hd
  go_enter Try.func9, Try.ntmps9
  go_wp2_with fail
  obtain ⟨w1, hw1⟩ : ∃ W, ((w.alloc (.cells #[.int .u8 (c 0), .int .u8 (c 1), .int .u8 (c 2), .int .u8 255] 26)).alloc (.cells #[.int .u8 (d 0), .int .u8 (d 1), .int .u8 (d 2), .int .u8 255] 26)).alloc (.cells #[.int .u8 0, .int .u8 0, .int .u8 0, .int .u8 0, .int .u8 0, .int .u8 0, .int .u8 0, .int .u8 0, .int .u8 0, .int .u8 0, .int .u8 0, .int .u8 0, .int .u8 0, .int .u8 0, .int .u8 0, .int .u8 0, .int .u8 0, .int .u8 0, .int .u8 0, .int .u8 0] 52) = W := ⟨_, rfl⟩
  have BW1 : Hid (Below w.heap.size w w1) := by
    rw [← hw1]
    exact (((Below.refl _ _).alloc (Nat.le_refl _) _).alloc (by simp) _).alloc (by simp; omega) _
  have HB1 : Hid (∀ A, Below w1.heap.size w1 A → Blk A w.heap.size 26 (c8 (full c)) ∧ Blk A (w.heap.size + 1) 26 (c8 (full d)) ∧ Blk A (w.heap.size + 1 + 1) 52 (tab 20 (waysG (full c) (full d) 0))) := fun A hA => by
      rw [← hw1] at hA
      rw [ways_0]
      exact ⟨(((Blk.new w 26 (c8 (full c))).alloc _).alloc _).grow hA, ((Blk.newAt _ _ (c8 (full d)) (by simp)).alloc _).grow hA, (Blk.newAt _ _ (tab 20 fun _ => .int .u8 0) (by simp)).grow hA⟩
  rw [hw1]
  clear hw1
  go_loopw [14] (fun s wr => ∃ k : Nat, k ≤ 5 ∧ s = .int .i64 (k : Int) ∧ Hid (∀ A, Below wr.heap.size wr A → Blk A w.heap.size 26 (c8 (full c)) ∧ Blk A (w.heap.size + 1) 26 (c8 (full d)) ∧ Blk A (w.heap.size + 1 + 1) 52 (tab 20 (waysG (full c) (full d) k))) ∧ Hid (Below w.heap.size w wr)) (fun s _ => 5 - (intOf s).toNat)
  case atStart => exact ⟨0, by omega, rfl, HB1, BW1⟩
  case round =>
    obtain ⟨k, hk, rfl, HB20, BW20⟩ := hrel
    obtain ⟨w20, rfl⟩ : ∃ x, x = wr := ⟨_, rfl⟩
    by_cases hlt : k < 5
    · have hd : decide ((k : Int) < 5) = true := by simp; omega
      have hki : (k : Int) < 5 := by omega
      have c0 : w20.cell? ⟨w.heap.size, 0, none⟩ = some (.int .u8 (c 0)) := (HB20.out w20 (Below.refl _ _)).1.cell 0
      have c1 : w20.cell? ⟨w.heap.size, 1, none⟩ = some (.int .u8 (c 1)) := (HB20.out w20 (Below.refl _ _)).1.cell 1
      have c2 : w20.cell? ⟨w.heap.size, 2, none⟩ = some (.int .u8 (c 2)) := (HB20.out w20 (Below.refl _ _)).1.cell 2
      have c3 : w20.cell? ⟨w.heap.size, 3, none⟩ = some (.int .u8 255) := (HB20.out w20 (Below.refl _ _)).1.cell 3
      have d0 : w20.cell? ⟨w.heap.size + 1, 0, none⟩ = some (.int .u8 (d 0)) := (HB20.out w20 (Below.refl _ _)).2.1.cell 0
      have d1 : w20.cell? ⟨w.heap.size + 1, 1, none⟩ = some (.int .u8 (d 1)) := (HB20.out w20 (Below.refl _ _)).2.1.cell 1
      have d2 : w20.cell? ⟨w.heap.size + 1, 2, none⟩ = some (.int .u8 (d 2)) := (HB20.out w20 (Below.refl _ _)).2.1.cell 2
      have d3 : w20.cell? ⟨w.heap.size + 1, 3, none⟩ = some (.int .u8 255) := (HB20.out w20 (Below.refl _ _)).2.1.cell 3
      go_wp2_with fail
      refine (HBL.out k hlt _).mono ?_
      rintro e w21 ⟨rfl, hb⟩
      have HB21 : Hid (∀ A, Below w21.heap.size w21 A → Blk A w.heap.size 26 (c8 (full c)) ∧ Blk A (w.heap.size + 1) 26 (c8 (full d)) ∧ Blk A (w.heap.size + 1 + 1) 52 (tab 20 (waysG (full c) (full d) k))) := fun A hA => HB20.out A (hb.trans (hA.mono hb.size))
      have BW21 : Hid (Below w.heap.size w w21) := BW20.out.trans (hb.mono BW20.out.size)
      clear hb c0 c1 c2 c3 d0 d1 d2 d3
      go_upto_if 25 with fail
      obtain ⟨w22, hw⟩ : ∃ W, w21.alloc (.cells #[.int .u8 (blendC (full c) (full d) (k : Int) 0), .int .u8 (blendC (full c) (full d) (k : Int) 1), .int .u8 (blendC (full c) (full d) (k : Int) 2), .int .u8 (blendC (full c) (full d) (k : Int) 3)] 26) = W := ⟨_, rfl⟩
      have HB22 : Hid (∀ A, Below w22.heap.size w22 A → Blk A w.heap.size 26 (c8 (full c)) ∧ Blk A (w.heap.size + 1) 26 (c8 (full d)) ∧ Blk A (w.heap.size + 1 + 1) 52 (tab 20 (waysG (full c) (full d) k)) ∧ Blk A w21.heap.size 26 (c8 (blendC (full c) (full d) (k : Int)))) := fun A hA => by
              rw [← hw] at hA
              exact ⟨((HB21.out w21 (Below.refl _ _)).1.alloc _).grow hA, ((HB21.out w21 (Below.refl _ _)).2.1.alloc _).grow hA, ((HB21.out w21 (Below.refl _ _)).2.2.alloc _).grow hA, (Blk.new _ _ _).grow hA⟩
      have BW22 : Hid (Below w.heap.size w w22) := by
        rw [← hw]
        exact BW21.out.alloc BW21.out.size _
      rw [hw]
      clear hw
      generalize w21.heap.size = g7 at *
      obtain ⟨x0, x1, x2, x3⟩ := (HB22.out w22 (Below.refl _ _)).2.2.2.c0
      have kt := (HB22.out w22 (Below.refl _ _)).2.2.1
      have t0 := kt.tk (k := k * 4) (by omega)
      have f0 := kt.free (k * 4)
      have t1 := kt.tk (k := k * 4 + 1) (by omega)
      have f1 := kt.free (k * 4 + 1)
      have t2 := kt.tk (k := k * 4 + 2) (by omega)
      have f2 := kt.free (k * 4 + 2)
      have t3 := kt.tk (k := k * 4 + 3) (by omega)
      have f3 := kt.free (k * 4 + 3)
      have lg := kt.lt
      go_wp2_with fail
      have S := HB22.out w22 (Below.refl _ _)
      refine ⟨⟨k + 1, by omega, by go_num, fun A hA => ⟨((((S.1.other _ _ (by simp; omega)).other _ _ (by simp; omega)).other _ _ (by simp; omega)).other _ _ (by simp; omega)).grow hA, ((((S.2.1.other _ _ (by simp)).other _ _ (by simp)).other _ _ (by simp)).other _ _ (by simp)).grow hA, ?_⟩, (((BW22.out.setCell (by simp; omega) _).setCell (by simp; omega) _).setCell (by simp; omega) _).setCell (by simp; omega) _⟩, by simp [intOf]; omega⟩
      rw [← ways_succ]
      exact ((((S.2.2.1.set _ _).set _ _).set _ _).set _ _).grow hA
    · have hd : decide ((k : Int) < 5) = false := by simp; omega
      obtain rfl : k = 5 := by omega
      go_wp2_with fail
      go_loopw [30] (fun s wr => ∃ k : Nat, k ≤ 3 ∧ s = .int .i64 (k : Int) ∧ Hid (∀ A, Below wr.heap.size wr A → Blk A w.heap.size 26 (c8 (full c)) ∧ Blk A (w.heap.size + 1) 26 (c8 (full d)) ∧ Blk A (w.heap.size + 1 + 1) 52 (tab 20 (waysG (full c) (full d) 5))) ∧ Hid (Below w.heap.size w wr)) (fun s _ => 3 - (intOf s).toNat)
      case atStart => exact ⟨0, by omega, rfl, HB20, BW20⟩
      case round =>
        obtain ⟨k, hk, rfl, HB30, BW30⟩ := hrel
        obtain ⟨w30, rfl⟩ : ∃ x, x = wr := ⟨_, rfl⟩
        by_cases hlt : k < 3
        · have hd : decide ((k : Int) < 3) = true := by simp; omega
          have hki : (k : Int) < 4 := by omega
          have hk4 : k < 4 := by omega
          have E := HALL.out k hlt
          obtain ⟨b0, hb0⟩ : ∃ x, blendC (full c) (full d) 0 k = x := ⟨_, rfl⟩
          obtain ⟨b1, hb1⟩ : ∃ x, blendC (full c) (full d) 1 k = x := ⟨_, rfl⟩
          obtain ⟨b2, hb2⟩ : ∃ x, blendC (full c) (full d) 2 k = x := ⟨_, rfl⟩
          obtain ⟨b3, hb3⟩ : ∃ x, blendC (full c) (full d) 3 k = x := ⟨_, rfl⟩
          obtain ⟨b4, hb4⟩ : ∃ x, blendC (full c) (full d) 4 k = x := ⟨_, rfl⟩
          rw [hb0, hb1, hb2, hb3, hb4] at E
          have T0 : Hid (∀ A, Below w30.heap.size w30 A → A.cell? ⟨w.heap.size + 1 + 1, k, none⟩ = some (.int .u8 b0)) := fun A hA => ((HB30.out A hA).2.2.tk (by omega)).trans (by have h := ways_at (full c) (full d) (m := 0) (i := k) (by decide) hk4; rw [Nat.zero_mul, Nat.zero_add] at h; rw [h]; exact congrArg (fun x => some (Value.int .u8 x)) hb0)
          have T1 : Hid (∀ A, Below w30.heap.size w30 A → A.cell? ⟨w.heap.size + 1 + 1, 4 + k, none⟩ = some (.int .u8 b1)) := fun A hA => ((HB30.out A hA).2.2.tk (by omega)).trans (by rw [ways_at (m := 1) _ _ (by decide) hk4]; exact congrArg (fun x => some (Value.int .u8 x)) hb1)
          have T2 : Hid (∀ A, Below w30.heap.size w30 A → A.cell? ⟨w.heap.size + 1 + 1, 8 + k, none⟩ = some (.int .u8 b2)) := fun A hA => ((HB30.out A hA).2.2.tk (by omega)).trans (by rw [ways_at (m := 2) _ _ (by decide) hk4]; exact congrArg (fun x => some (Value.int .u8 x)) hb2)
          have T3 : Hid (∀ A, Below w30.heap.size w30 A → A.cell? ⟨w.heap.size + 1 + 1, 12 + k, none⟩ = some (.int .u8 b3)) := fun A hA => ((HB30.out A hA).2.2.tk (by omega)).trans (by rw [ways_at (m := 3) _ _ (by decide) hk4]; exact congrArg (fun x => some (Value.int .u8 x)) hb3)
          have T4 : Hid (∀ A, Below w30.heap.size w30 A → A.cell? ⟨w.heap.size + 1 + 1, 16 + k, none⟩ = some (.int .u8 b4)) := fun A hA => ((HB30.out A hA).2.2.tk (by omega)).trans (by rw [ways_at (m := 4) _ _ (by decide) hk4]; exact congrArg (fun x => some (Value.int .u8 x)) hb4)
          obtain ⟨lo, hlo⟩ : ∃ x, min (c k) (d k) = x := ⟨_, rfl⟩
          obtain ⟨hi, hhi⟩ : ∃ x, max (c k) (d k) = x := ⟨_, rfl⟩
          rw [hlo, hhi] at E
          have F1 : Hid (decide (b1 > lo) = false) := by unfold Hid; simp; omega
          have F2 : Hid (decide (b2 < hi) = false) := by unfold Hid; simp; omega
          have F3 : Hid ((b3 != lo) = false) := by unfold Hid; simp; omega
          have F4 : Hid ((b4 != hi) = false) := by unfold Hid; simp; omega
          have F0 : Hid ((b0 != c k) = false) := by unfold Hid; simp; omega
          have FL : Hid (min (c k) (d k) = lo) := hlo
          have FH : Hid (max (c k) (d k) = hi) := hhi
          clear E hb0 hb1 hb2 hb3 hb4 hlo hhi
          go_wp2_with fail
          refine wp_region_quiet (C := Out w30) (by kernel_rfl) (by kernel_rfl) ⟨rfl, rfl, rfl, Nat.le_refl _, fun _ _ => rfl⟩ ?_
          refine BigFrame.wpQuiet_want rfl (fun K hK => ?_)
          refine quiet_val (.int .i64 (k : Int)) (fun w' hw' => by go_simp) (hK _ ?_)
          clear hK K
          simp only [Act.put, List.setIfInBounds_toArray, List.set_cons_zero, List.set_cons_succ]
          refine BigFrame.wpQuiet_want rfl (fun K hK => ?_)
          refine quiet_val (.pointer (some ⟨w.heap.size, k, none⟩)) (fun w' hw' => by go_simp) (hK _ ?_)
          clear hK K
          simp only [Act.put, List.setIfInBounds_toArray, List.set_cons_zero, List.set_cons_succ]
          refine BigFrame.wpQuiet_want rfl (fun K hK => ?_)
          refine quiet_val (.int .u8 (c k)) (fun w' hw' => by have ck := ((HB30.out w' hw').1.ck hk4).trans (by rw [full_at _ hlt]); go_simp) (hK _ ?_)
          clear hK K
          simp only [Act.put, List.setIfInBounds_toArray, List.set_cons_zero, List.set_cons_succ]
          refine BigFrame.wpQuiet_want rfl (fun K hK => ?_)
          refine quiet_val (.int .i64 (k : Int)) (fun w' hw' => by go_simp) (hK _ ?_)
          clear hK K
          simp only [Act.put, List.setIfInBounds_toArray, List.set_cons_zero, List.set_cons_succ]
          refine BigFrame.wpQuiet_want rfl (fun K hK => ?_)
          refine quiet_val (.pointer (some ⟨w.heap.size + 1, k, none⟩)) (fun w' hw' => by go_simp) (hK _ ?_)
          clear hK K
          simp only [Act.put, List.setIfInBounds_toArray, List.set_cons_zero, List.set_cons_succ]
          refine BigFrame.wpQuiet_want rfl (fun K hK => ?_)
          refine quiet_val (.int .u8 (d k)) (fun w' hw' => by have ck := ((HB30.out w' hw').2.1.ck hk4).trans (by rw [full_at _ hlt]); go_simp) (hK _ ?_)
          clear hK K
          simp only [Act.put, List.setIfInBounds_toArray, List.set_cons_zero, List.set_cons_succ]
          refine BigFrame.wpQuiet_want rfl (fun K hK => ?_)
          refine quiet_val (.int .u8 lo) (fun w' hw' => by have e := FL.out; go_simp) (hK _ ?_)
          clear hK K
          simp only [Act.put, List.setIfInBounds_toArray, List.set_cons_zero, List.set_cons_succ]
          refine BigFrame.wpQuiet_want rfl (fun K hK => ?_)
          refine quiet_val (.int .i64 (k : Int)) (fun w' hw' => by go_simp) (hK _ ?_)
          clear hK K
          simp only [Act.put, List.setIfInBounds_toArray, List.set_cons_zero, List.set_cons_succ]
          refine BigFrame.wpQuiet_want rfl (fun K hK => ?_)
          refine quiet_val (.pointer (some ⟨w.heap.size, k, none⟩)) (fun w' hw' => by go_simp) (hK _ ?_)
          clear hK K
          simp only [Act.put, List.setIfInBounds_toArray, List.set_cons_zero, List.set_cons_succ]
          refine BigFrame.wpQuiet_want rfl (fun K hK => ?_)
          refine quiet_val (.int .u8 (c k)) (fun w' hw' => by have ck := ((HB30.out w' hw').1.ck hk4).trans (by rw [full_at _ hlt]); go_simp) (hK _ ?_)
          clear hK K
          simp only [Act.put, List.setIfInBounds_toArray, List.set_cons_zero, List.set_cons_succ]
          refine BigFrame.wpQuiet_want rfl (fun K hK => ?_)
          refine quiet_val (.int .i64 (k : Int)) (fun w' hw' => by go_simp) (hK _ ?_)
          clear hK K
          simp only [Act.put, List.setIfInBounds_toArray, List.set_cons_zero, List.set_cons_succ]
          refine BigFrame.wpQuiet_want rfl (fun K hK => ?_)
          refine quiet_val (.pointer (some ⟨w.heap.size + 1, k, none⟩)) (fun w' hw' => by go_simp) (hK _ ?_)
          clear hK K
          simp only [Act.put, List.setIfInBounds_toArray, List.set_cons_zero, List.set_cons_succ]
          refine BigFrame.wpQuiet_want rfl (fun K hK => ?_)
          refine quiet_val (.int .u8 (d k)) (fun w' hw' => by have ck := ((HB30.out w' hw').2.1.ck hk4).trans (by rw [full_at _ hlt]); go_simp) (hK _ ?_)
          clear hK K
          simp only [Act.put, List.setIfInBounds_toArray, List.set_cons_zero, List.set_cons_succ]
          refine BigFrame.wpQuiet_want rfl (fun K hK => ?_)
          refine quiet_val (.int .u8 hi) (fun w' hw' => by have e := FH.out; go_simp) (hK _ ?_)
          clear hK K
          simp only [Act.put, List.setIfInBounds_toArray, List.set_cons_zero, List.set_cons_succ]
          refine BigFrame.wpQuiet_want rfl (fun K hK => ?_)
          refine quiet_val (.int .u8 lo) (fun w' hw' => by go_simp) (hK _ ?_)
          clear hK K
          simp only [Act.put, List.setIfInBounds_toArray, List.set_cons_zero, List.set_cons_succ]
          refine BigFrame.wpQuiet_want rfl (fun K hK => ?_)
          refine quiet_val (.int .u8 hi) (fun w' hw' => by go_simp) (hK _ ?_)
          clear hK K
          simp only [Act.put, List.setIfInBounds_toArray, List.set_cons_zero, List.set_cons_succ]
          refine wpQuiet_nil ?_
          intro w31 hb
          have HBX := Lib.hid hb
          have HB31 : Hid (∀ A, Below w31.heap.size w31 A → Blk A w.heap.size 26 (c8 (full c)) ∧ Blk A (w.heap.size + 1) 26 (c8 (full d)) ∧ Blk A (w.heap.size + 1 + 1) 52 (tab 20 (waysG (full c) (full d) 5))) := fun A hA => HB30.out A (hb.trans (hA.mono hb.size))
          have BW31 : Hid (Below w.heap.size w w31) := BW30.out.trans (hb.mono BW30.out.size)
          clear hb
          have U0 : Hid (∀ A, Below w31.heap.size w31 A → A.cell? ⟨w.heap.size + 1 + 1, k, none⟩ = some (.int .u8 b0)) := fun A hA => T0.out A ((HBX.out).trans (hA.mono (HBX.out).size))
          have U1 : Hid (∀ A, Below w31.heap.size w31 A → A.cell? ⟨w.heap.size + 1 + 1, 4 + k, none⟩ = some (.int .u8 b1)) := fun A hA => T1.out A ((HBX.out).trans (hA.mono (HBX.out).size))
          have U2 : Hid (∀ A, Below w31.heap.size w31 A → A.cell? ⟨w.heap.size + 1 + 1, 8 + k, none⟩ = some (.int .u8 b2)) := fun A hA => T2.out A ((HBX.out).trans (hA.mono (HBX.out).size))
          have U3 : Hid (∀ A, Below w31.heap.size w31 A → A.cell? ⟨w.heap.size + 1 + 1, 12 + k, none⟩ = some (.int .u8 b3)) := fun A hA => T3.out A ((HBX.out).trans (hA.mono (HBX.out).size))
          have U4 : Hid (∀ A, Below w31.heap.size w31 A → A.cell? ⟨w.heap.size + 1 + 1, 16 + k, none⟩ = some (.int .u8 b4)) := fun A hA => T4.out A ((HBX.out).trans (hA.mono (HBX.out).size))
          clear T0 T1 T2 T3 T4 HBX
          go_wp2_with fail
          refine wp_region_quiet (C := Out w31) (by kernel_rfl) (by kernel_rfl) ⟨rfl, rfl, rfl, Nat.le_refl _, fun _ _ => rfl⟩ ?_
          refine BigFrame.wpQuiet_want rfl (fun K hK => ?_)
          refine quiet_val (.int .i64 (k : Int)) (fun w' hw' => by go_simp) (hK _ ?_)
          clear hK K
          simp only [Act.put, List.setIfInBounds_toArray, List.set_cons_zero, List.set_cons_succ]
          refine BigFrame.wpQuiet_want rfl (fun K hK => ?_)
          refine quiet_val (.pointer (some ⟨w.heap.size + 1 + 1, 4, none⟩)) (fun w' hw' => by go_simp) (hK _ ?_)
          clear hK K
          simp only [Act.put, List.setIfInBounds_toArray, List.set_cons_zero, List.set_cons_succ]
          refine BigFrame.wpQuiet_want rfl (fun K hK => ?_)
          refine quiet_val (.pointer (some ⟨w.heap.size + 1 + 1, 4 + k, none⟩)) (fun w' hw' => by go_simp) (hK _ ?_)
          clear hK K
          simp only [Act.put, List.setIfInBounds_toArray, List.set_cons_zero, List.set_cons_succ]
          refine BigFrame.wpQuiet_want rfl (fun K hK => ?_)
          refine quiet_val (.int .u8 b1) (fun w' hw' => by have ck := U1.out w' hw'; go_simp) (hK _ ?_)
          clear hK K
          simp only [Act.put, List.setIfInBounds_toArray, List.set_cons_zero, List.set_cons_succ]
          refine BigFrame.wpQuiet_want rfl (fun K hK => ?_)
          refine quiet_val (.int .u8 lo) (fun w' hw' => by go_simp) (hK _ ?_)
          clear hK K
          simp only [Act.put, List.setIfInBounds_toArray, List.set_cons_zero, List.set_cons_succ]
          refine BigFrame.wpQuiet_want rfl (fun K hK => ?_)
          refine quiet_val (.bool false) (fun w' hw' => by have e := F1.out; go_simp) (hK _ ?_)
          clear hK K
          simp only [Act.put, List.setIfInBounds_toArray, List.set_cons_zero, List.set_cons_succ]
          refine BigFrame.wpQuiet_want rfl (fun K hK => ?_)
          refine quiet_val (.bool false) (fun w' hw' => by go_simp) (hK _ ?_)
          clear hK K
          simp only [Act.put, List.setIfInBounds_toArray, List.set_cons_zero, List.set_cons_succ]
          refine BigFrame.wpQuiet_want rfl (fun K hK => ?_)
          refine quiet_val (.int .i64 (k : Int)) (fun w' hw' => by go_simp) (hK _ ?_)
          clear hK K
          simp only [Act.put, List.setIfInBounds_toArray, List.set_cons_zero, List.set_cons_succ]
          refine BigFrame.wpQuiet_want rfl (fun K hK => ?_)
          refine quiet_val (.pointer (some ⟨w.heap.size + 1 + 1, 8, none⟩)) (fun w' hw' => by go_simp) (hK _ ?_)
          clear hK K
          simp only [Act.put, List.setIfInBounds_toArray, List.set_cons_zero, List.set_cons_succ]
          refine BigFrame.wpQuiet_want rfl (fun K hK => ?_)
          refine quiet_val (.pointer (some ⟨w.heap.size + 1 + 1, 8 + k, none⟩)) (fun w' hw' => by go_simp) (hK _ ?_)
          clear hK K
          simp only [Act.put, List.setIfInBounds_toArray, List.set_cons_zero, List.set_cons_succ]
          refine BigFrame.wpQuiet_want rfl (fun K hK => ?_)
          refine quiet_val (.int .u8 b2) (fun w' hw' => by have ck := U2.out w' hw'; go_simp) (hK _ ?_)
          clear hK K
          simp only [Act.put, List.setIfInBounds_toArray, List.set_cons_zero, List.set_cons_succ]
          refine BigFrame.wpQuiet_want rfl (fun K hK => ?_)
          refine quiet_val (.int .u8 hi) (fun w' hw' => by go_simp) (hK _ ?_)
          clear hK K
          simp only [Act.put, List.setIfInBounds_toArray, List.set_cons_zero, List.set_cons_succ]
          refine BigFrame.wpQuiet_want rfl (fun K hK => ?_)
          refine quiet_val (.bool false) (fun w' hw' => by have e := F2.out; go_simp) (hK _ ?_)
          clear hK K
          simp only [Act.put, List.setIfInBounds_toArray, List.set_cons_zero, List.set_cons_succ]
          refine BigFrame.wpQuiet_want rfl (fun K hK => ?_)
          refine quiet_val (.bool false) (fun w' hw' => by go_simp) (hK _ ?_)
          clear hK K
          simp only [Act.put, List.setIfInBounds_toArray, List.set_cons_zero, List.set_cons_succ]
          refine BigFrame.wpQuiet_want rfl (fun K hK => ?_)
          refine quiet_val (.bool false) (fun w' hw' => by go_simp) (hK _ ?_)
          clear hK K
          simp only [Act.put, List.setIfInBounds_toArray, List.set_cons_zero, List.set_cons_succ]
          refine BigFrame.wpQuiet_want rfl (fun K hK => ?_)
          refine quiet_val (.int .i64 (k : Int)) (fun w' hw' => by go_simp) (hK _ ?_)
          clear hK K
          simp only [Act.put, List.setIfInBounds_toArray, List.set_cons_zero, List.set_cons_succ]
          refine BigFrame.wpQuiet_want rfl (fun K hK => ?_)
          refine quiet_val (.pointer (some ⟨w.heap.size + 1 + 1, 12, none⟩)) (fun w' hw' => by go_simp) (hK _ ?_)
          clear hK K
          simp only [Act.put, List.setIfInBounds_toArray, List.set_cons_zero, List.set_cons_succ]
          refine BigFrame.wpQuiet_want rfl (fun K hK => ?_)
          refine quiet_val (.pointer (some ⟨w.heap.size + 1 + 1, 12 + k, none⟩)) (fun w' hw' => by go_simp) (hK _ ?_)
          clear hK K
          simp only [Act.put, List.setIfInBounds_toArray, List.set_cons_zero, List.set_cons_succ]
          refine BigFrame.wpQuiet_want rfl (fun K hK => ?_)
          refine quiet_val (.int .u8 b3) (fun w' hw' => by have ck := U3.out w' hw'; go_simp) (hK _ ?_)
          clear hK K
          simp only [Act.put, List.setIfInBounds_toArray, List.set_cons_zero, List.set_cons_succ]
          refine BigFrame.wpQuiet_want rfl (fun K hK => ?_)
          refine quiet_val (.int .u8 lo) (fun w' hw' => by go_simp) (hK _ ?_)
          clear hK K
          simp only [Act.put, List.setIfInBounds_toArray, List.set_cons_zero, List.set_cons_succ]
          refine BigFrame.wpQuiet_want rfl (fun K hK => ?_)
          refine quiet_val (.bool false) (fun w' hw' => by have e := F3.out; go_simp) (hK _ ?_)
          clear hK K
          simp only [Act.put, List.setIfInBounds_toArray, List.set_cons_zero, List.set_cons_succ]
          refine BigFrame.wpQuiet_want rfl (fun K hK => ?_)
          refine quiet_val (.bool false) (fun w' hw' => by go_simp) (hK _ ?_)
          clear hK K
          simp only [Act.put, List.setIfInBounds_toArray, List.set_cons_zero, List.set_cons_succ]
          refine BigFrame.wpQuiet_want rfl (fun K hK => ?_)
          refine quiet_val (.bool false) (fun w' hw' => by go_simp) (hK _ ?_)
          clear hK K
          simp only [Act.put, List.setIfInBounds_toArray, List.set_cons_zero, List.set_cons_succ]
          refine BigFrame.wpQuiet_want rfl (fun K hK => ?_)
          refine quiet_val (.int .i64 (k : Int)) (fun w' hw' => by go_simp) (hK _ ?_)
          clear hK K
          simp only [Act.put, List.setIfInBounds_toArray, List.set_cons_zero, List.set_cons_succ]
          refine BigFrame.wpQuiet_want rfl (fun K hK => ?_)
          refine quiet_val (.pointer (some ⟨w.heap.size + 1 + 1, 16, none⟩)) (fun w' hw' => by go_simp) (hK _ ?_)
          clear hK K
          simp only [Act.put, List.setIfInBounds_toArray, List.set_cons_zero, List.set_cons_succ]
          refine BigFrame.wpQuiet_want rfl (fun K hK => ?_)
          refine quiet_val (.pointer (some ⟨w.heap.size + 1 + 1, 16 + k, none⟩)) (fun w' hw' => by go_simp) (hK _ ?_)
          clear hK K
          simp only [Act.put, List.setIfInBounds_toArray, List.set_cons_zero, List.set_cons_succ]
          refine BigFrame.wpQuiet_want rfl (fun K hK => ?_)
          refine quiet_val (.int .u8 b4) (fun w' hw' => by have ck := U4.out w' hw'; go_simp) (hK _ ?_)
          clear hK K
          simp only [Act.put, List.setIfInBounds_toArray, List.set_cons_zero, List.set_cons_succ]
          refine BigFrame.wpQuiet_want rfl (fun K hK => ?_)
          refine quiet_val (.int .u8 hi) (fun w' hw' => by go_simp) (hK _ ?_)
          clear hK K
          simp only [Act.put, List.setIfInBounds_toArray, List.set_cons_zero, List.set_cons_succ]
          refine BigFrame.wpQuiet_want rfl (fun K hK => ?_)
          refine quiet_val (.bool false) (fun w' hw' => by have e := F4.out; go_simp) (hK _ ?_)
          clear hK K
          simp only [Act.put, List.setIfInBounds_toArray, List.set_cons_zero, List.set_cons_succ]
          refine BigFrame.wpQuiet_want rfl (fun K hK => ?_)
          refine quiet_val (.bool false) (fun w' hw' => by go_simp) (hK _ ?_)
          clear hK K
          simp only [Act.put, List.setIfInBounds_toArray, List.set_cons_zero, List.set_cons_succ]
          refine BigFrame.wpQuiet_want rfl (fun K hK => ?_)
          refine quiet_val (.bool false) (fun w' hw' => by go_simp) (hK _ ?_)
          clear hK K
          simp only [Act.put, List.setIfInBounds_toArray, List.set_cons_zero, List.set_cons_succ]
          refine BigFrame.wpQuiet_want rfl (fun K hK => ?_)
          refine quiet_val (.int .i64 (k : Int)) (fun w' hw' => by go_simp) (hK _ ?_)
          clear hK K
          simp only [Act.put, List.setIfInBounds_toArray, List.set_cons_zero, List.set_cons_succ]
          refine BigFrame.wpQuiet_want rfl (fun K hK => ?_)
          refine quiet_val (.pointer (some ⟨w.heap.size + 1 + 1, 0, none⟩)) (fun w' hw' => by go_simp) (hK _ ?_)
          clear hK K
          simp only [Act.put, List.setIfInBounds_toArray, List.set_cons_zero, List.set_cons_succ]
          refine BigFrame.wpQuiet_want rfl (fun K hK => ?_)
          refine quiet_val (.pointer (some ⟨w.heap.size + 1 + 1, k, none⟩)) (fun w' hw' => by go_simp) (hK _ ?_)
          clear hK K
          simp only [Act.put, List.setIfInBounds_toArray, List.set_cons_zero, List.set_cons_succ]
          refine BigFrame.wpQuiet_want rfl (fun K hK => ?_)
          refine quiet_val (.int .u8 b0) (fun w' hw' => by have ck := U0.out w' hw'; go_simp) (hK _ ?_)
          clear hK K
          simp only [Act.put, List.setIfInBounds_toArray, List.set_cons_zero, List.set_cons_succ]
          refine BigFrame.wpQuiet_want rfl (fun K hK => ?_)
          refine quiet_val (.int .i64 (k : Int)) (fun w' hw' => by go_simp) (hK _ ?_)
          clear hK K
          simp only [Act.put, List.setIfInBounds_toArray, List.set_cons_zero, List.set_cons_succ]
          refine BigFrame.wpQuiet_want rfl (fun K hK => ?_)
          refine quiet_val (.pointer (some ⟨w.heap.size, k, none⟩)) (fun w' hw' => by go_simp) (hK _ ?_)
          clear hK K
          simp only [Act.put, List.setIfInBounds_toArray, List.set_cons_zero, List.set_cons_succ]
          refine BigFrame.wpQuiet_want rfl (fun K hK => ?_)
          refine quiet_val (.int .u8 (c k)) (fun w' hw' => by have ck := ((HB31.out w' hw').1.ck hk4).trans (by rw [full_at _ hlt]); go_simp) (hK _ ?_)
          clear hK K
          simp only [Act.put, List.setIfInBounds_toArray, List.set_cons_zero, List.set_cons_succ]
          refine BigFrame.wpQuiet_want rfl (fun K hK => ?_)
          refine quiet_val (.bool false) (fun w' hw' => by have e := F0.out; go_simp) (hK _ ?_)
          clear hK K
          simp only [Act.put, List.setIfInBounds_toArray, List.set_cons_zero, List.set_cons_succ]
          refine BigFrame.wpQuiet_want rfl (fun K hK => ?_)
          refine quiet_val (.bool false) (fun w' hw' => by go_simp) (hK _ ?_)
          clear hK K
          simp only [Act.put, List.setIfInBounds_toArray, List.set_cons_zero, List.set_cons_succ]
          refine wpQuiet_nil ?_
          intro w32 hb
          have HB32 : Hid (∀ A, Below w32.heap.size w32 A → Blk A w.heap.size 26 (c8 (full c)) ∧ Blk A (w.heap.size + 1) 26 (c8 (full d)) ∧ Blk A (w.heap.size + 1 + 1) 52 (tab 20 (waysG (full c) (full d) 5))) := fun A hA => HB31.out A (hb.trans (hA.mono hb.size))
          have BW32 : Hid (Below w.heap.size w w32) := BW31.out.trans (hb.mono BW31.out.size)
          clear hb
          go_wp2_with fail
          exact ⟨⟨k + 1, by omega, by go_num, HB32, BW32⟩, by simp [intOf]; omega⟩
        · have hd : decide ((k : Int) < 3) = false := by simp; omega
          go_wp2_with fail
          refine (HAW.out _).mono ?_
          rintro e w31 ⟨rfl, hb⟩
          have HB31 : Hid (∀ A, Below w31.heap.size w31 A → Blk A w.heap.size 26 (c8 (full c)) ∧ Blk A (w.heap.size + 1) 26 (c8 (full d)) ∧ Blk A (w.heap.size + 1 + 1) 52 (tab 20 (waysG (full c) (full d) 5))) := fun A hA => HB30.out A (hb.trans (hA.mono hb.size))
          have BW31 : Hid (Below w.heap.size w w31) := BW30.out.trans (hb.mono BW30.out.size)
          clear hb
          go_wp2_with fail
          go_ret
          exact ⟨rfl, BW31.out⟩
end Go.Proofs.Ytcbldamlfjkppaa
