/- The walk of the statement CoverSums. -/
import Derived.Test.YtopngjpgikpmaaaLM
namespace Go.Proofs.Ytopngjpgikpmaaa
open Go.RowKit
theorem countP_or (p q r : Nat → Bool) (h : ∀ i, p i = true → q i = true ∨ r i = true) (l : List Nat) : l.countP p ≤ l.countP q + l.countP r := by
  induction l with
  | nil => simp
  | cons a l ih =>
    rw [List.countP_cons, List.countP_cons, List.countP_cons]
    have := h a
    by_cases hp : p a = true
    · rcases this hp with h1 | h1 <;> simp [hp, h1] <;> split <;> omega
    · simp only [hp]
      simp only [if_neg Bool.false_ne_true]
      split <;> split <;> omega
theorem count_two (l m : List Pt) (x y : Int) : countI [l, m] 1 x y ≤ countI [l] 1 x y + countI [m] 1 x y := by
  unfold countI
  refine countP_or _ _ _ (fun i hi => ?_) _
  generalize sampP x y i = s at *
  unfold insideI inI timesI at *
  simp at hi ⊢
  by_cases h : windsI l s = 0
  · right; omega
  · left; exact h
theorem count_four (l m : List Pt) (x y : Int) : countI [l, m, m, l] 2 x y = 0 := by
  unfold countI
  rw [List.countP_eq_zero]
  intro i _
  generalize sampP x y i = s at *
  unfold insideI inI timesI
  simp
  omega
theorem win4 : winB ⟨0, 0, 4, 4⟩ = true := by decide
theorem mask4_at (P : List (List Pt)) (rule : Int) (k : Nat) (hk : k < 16) : (maskI P rule ⟨0, 0, 4, 4⟩)[k]? = some (countI P rule (0 + ((k % 4 : Nat) : Int)) (0 + ((k / 4 : Nat) : Int))) := by
  unfold maskI
  rw [show acrossI ⟨0, 0, 4, 4⟩ * downI ⟨0, 0, 4, 4⟩ = 16 from rfl, show acrossI ⟨0, 0, 4, 4⟩ = 4 from rfl, List.getElem?_map, List.getElem?_range hk]
  rfl
theorem mask4 (P : List (List Pt)) (rule : Int) (hr : ruleB rule = true) : maskO P rule ⟨0, 0, 4, 4⟩ = if allR P = true then (0, maskI P rule ⟨0, 0, 4, 4⟩) else (30, []) := by
  unfold maskO
  rw [hr, win4]
  simp
def MaskZ (W : World) (z : Int) (M : List Nat) (e : Ending) (w' : World) : Prop := ∃ v, e = .returned (.tuple #[v, .int .i64 z]) ∧ VRow w' v (bytesL M) ∧ Below W.heap.size W w'
set_option maxHeartbeats 16000000 in
set_option maxRecDepth 100000 in
theorem coverSums_law (s : Value) (l : List Pt) (t : Value) (m : List Pt) (w : World) (rl : Row w s l) (rm : Row w t m) :
    Calls Try.prog 8 #[s, t] w fun e w' => e = .returned (.bool true) ∧ Below w.heap.size w w' := by
  have HAW := Lib.hid awake_c
  obtain ⟨z1, M1, hm1⟩ : ∃ z M, maskO [l, m] 1 ⟨0, 0, 4, 4⟩ = (z, M) := ⟨_, _, rfl⟩
  have HM1 : Hid (Small [(s, l), (t, m)] ⟨0, 0, 4, 4⟩ → ∀ (W : World) (u : Value), PolyR W u [(s, l), (t, m)] → Calls Try.prog 12 #[u, .int .i64 1, .agg #[.int .i64 0, .int .i64 0, .int .i64 4, .int .i64 4]] W fun e w' => MaskZ W z1 M1 e w') := fun hs W u h => by
    have h1 := hs.2.1 (s, l) (by simp)
    have h2 := hs.2.1 (t, m) (by simp)
    simp only at h1 h2
    have := mask_c u [(s, l), (t, m)] 1 ⟨0, 0, 4, 4⟩ W h (by simp) (by simp; omega)
    rw [show maskO (List.map Prod.snd [(s, l), (t, m)]) 1 ⟨0, 0, 4, 4⟩ = (z1, M1) from hm1] at this
    exact this
  have HE1 := Lib.hid hm1
  clear hm1
  obtain ⟨z2, M2, hm2⟩ : ∃ z M, maskO [l] 1 ⟨0, 0, 4, 4⟩ = (z, M) := ⟨_, _, rfl⟩
  have HM2 : Hid (Small [(s, l), (t, m)] ⟨0, 0, 4, 4⟩ → ∀ (W : World) (u : Value), PolyR W u [(s, l)] → Calls Try.prog 12 #[u, .int .i64 1, .agg #[.int .i64 0, .int .i64 0, .int .i64 4, .int .i64 4]] W fun e w' => MaskZ W z2 M2 e w') := fun hs W u h => by
    have h1 := hs.2.1 (s, l) (by simp)
    have h2 := hs.2.1 (t, m) (by simp)
    simp only at h1 h2
    have := mask_c u [(s, l)] 1 ⟨0, 0, 4, 4⟩ W h (by simp) (by simp; omega)
    rw [show maskO (List.map Prod.snd [(s, l)]) 1 ⟨0, 0, 4, 4⟩ = (z2, M2) from hm2] at this
    exact this
  have HE2 := Lib.hid hm2
  clear hm2
  obtain ⟨z3, M3, hm3⟩ : ∃ z M, maskO [m] 1 ⟨0, 0, 4, 4⟩ = (z, M) := ⟨_, _, rfl⟩
  have HM3 : Hid (Small [(s, l), (t, m)] ⟨0, 0, 4, 4⟩ → ∀ (W : World) (u : Value), PolyR W u [(t, m)] → Calls Try.prog 12 #[u, .int .i64 1, .agg #[.int .i64 0, .int .i64 0, .int .i64 4, .int .i64 4]] W fun e w' => MaskZ W z3 M3 e w') := fun hs W u h => by
    have h1 := hs.2.1 (s, l) (by simp)
    have h2 := hs.2.1 (t, m) (by simp)
    simp only at h1 h2
    have := mask_c u [(t, m)] 1 ⟨0, 0, 4, 4⟩ W h (by simp) (by simp; omega)
    rw [show maskO (List.map Prod.snd [(t, m)]) 1 ⟨0, 0, 4, 4⟩ = (z3, M3) from hm3] at this
    exact this
  have HE3 := Lib.hid hm3
  clear hm3
  obtain ⟨z4, M4, hm4⟩ : ∃ z M, maskO [l, m, m, l] 2 ⟨0, 0, 4, 4⟩ = (z, M) := ⟨_, _, rfl⟩
  have HM4 : Hid (Small [(s, l), (t, m)] ⟨0, 0, 4, 4⟩ → ∀ (W : World) (u : Value), PolyR W u [(s, l), (t, m), (t, m), (s, l)] → Calls Try.prog 12 #[u, .int .i64 2, .agg #[.int .i64 0, .int .i64 0, .int .i64 4, .int .i64 4]] W fun e w' => MaskZ W z4 M4 e w') := fun hs W u h => by
    have h1 := hs.2.1 (s, l) (by simp)
    have h2 := hs.2.1 (t, m) (by simp)
    simp only at h1 h2
    have := mask_c u [(s, l), (t, m), (t, m), (s, l)] 2 ⟨0, 0, 4, 4⟩ W h (by simp) (by simp; omega)
    rw [show maskO (List.map Prod.snd [(s, l), (t, m), (t, m), (s, l)]) 2 ⟨0, 0, 4, 4⟩ = (z4, M4) from hm4] at this
    exact this
  have HE4 := Lib.hid hm4
  clear hm4
  have HSM : Hid (∀ (W : World) (u : Value), PolyR W u [(s, l), (t, m)] → Calls Try.prog 9 #[u, .agg #[.int .i64 0, .int .i64 0, .int .i64 4, .int .i64 4]] W fun e w' => SmallP [(s, l), (t, m)] ⟨0, 0, 4, 4⟩ W e w') := fun W u h => small_c u [(s, l), (t, m)] 0 0 4 4 W h
  obtain ⟨ao, ac, rfl⟩ := rl.shape
  obtain ⟨bo, bc, rfl⟩ := rm.shape
  obtain ⟨an, han⟩ : ∃ x, l.length = x := ⟨_, rfl⟩
  obtain ⟨bn, hbn⟩ : ∃ x, m.length = x := ⟨_, rfl⟩
  rw [han] at rl HM1 HM2 HM3 HM4 HSM ⊢
  rw [hbn] at rm HM1 HM2 HM3 HM4 HSM ⊢
  have HRL := Lib.hid rl; have HRM := Lib.hid rm
  clear rl rm han hbn
  go_enter Try.func8, Try.ntmps8
  go_wp2_with fail
  obtain ⟨w1, hw1⟩ : ∃ X, w.alloc (.cells #[.int .i64 0, .int .i64 0, .int .i64 4, .int .i64 4] 24) = X := ⟨_, rfl⟩
  have S1 : Hid (Row w1 (.slice ao an ac) l ∧ Row w1 (.slice bo bn bc) m ∧ Below w.heap.size w w1 ∧ Blk w1 w.heap.size 24 (four ⟨0, 0, 4, 4⟩)) := by
    rw [← hw1]
    exact ⟨HRL.out.on ((Below.refl _ _).alloc (Nat.le_refl _) _), HRM.out.on ((Below.refl _ _).alloc (Nat.le_refl _) _), (Below.refl _ _).alloc (Nat.le_refl _) _, Blk.new _ _ _⟩
  have hz1 : w1.heap.size = w.heap.size + 1 := by rw [← hw1]; simp
  have HZ1 := Lib.hid hz1
  rw [hw1]
  clear hw1 hz1 HRL HRM
  obtain ⟨g1, hg1⟩ : ∃ x, w1.heap.size = x := ⟨_, rfl⟩
  have HG1 := Lib.hid hg1
  rw [show w.heap.size + 1 = g1 by rw [← hg1]; exact HZ1.out.symm]
  clear hg1
  refine (HSM.out _ _ (polys_lit w1 _ [(.slice ao an ac, l), (.slice bo bn bc, m)] _ 2 _ HG1.out rfl rfl (by simpa using ⟨S1.out.1, S1.out.2.1⟩))).mono ?_
  rintro e w2 ⟨r, rfl, hr, hb⟩
  have S2 : Hid (Row w2 (.slice ao an ac) l ∧ Row w2 (.slice bo bn bc) m ∧ Below w.heap.size w w2 ∧ Blk w2 w.heap.size 24 (four ⟨0, 0, 4, 4⟩)) := by
    have hbb : Below w1.heap.size w1 w2 := ((Below.refl _ _).alloc (Nat.le_refl _) _).trans (hb.mono (by simp))
    exact ⟨S1.out.1.on hbb, S1.out.2.1.on hbb, S1.out.2.2.1.trans (hbb.mono S1.out.2.2.1.size), S1.out.2.2.2.grow hbb⟩
  clear hb S1 HG1 HZ1
  cases r
  · go_wp2_with fail
    refine (HAW.out _).mono ?_
    rintro e w3 ⟨rfl, hb⟩
    have B3 : Hid (Below w.heap.size w w3) := S2.out.2.2.1.trans (hb.mono S2.out.2.2.1.size)
    clear hb
    go_wp2_with fail
    go_ret
    exact ⟨rfl, B3.out⟩
  have hsm := hr rfl
  have HS := Lib.hid hsm
  clear hr hsm
  have a0 := S2.out.2.2.2.b0
  have a1 := S2.out.2.2.2.b1
  have a2 := S2.out.2.2.2.b2
  have a3 := S2.out.2.2.2.b3
  simp only at a0 a1 a2 a3
  have hsl := S2.out.2.2.2.lt
  go_wp2_with fail
  obtain ⟨g2, hg2⟩ : ∃ x, w2.heap.size = x := ⟨_, rfl⟩
  have HG2 := Lib.hid hg2
  rw [hg2]
  clear hg2 a0 a1 a2 a3 hsl
  refine (HM1.out HS.out _ _ (polys_lit w2 _ [(.slice ao an ac, l), (.slice bo bn bc, m)] _ 2 _ HG2.out rfl rfl (by simpa using ⟨S2.out.1, S2.out.2.1⟩))).mono ?_
  rintro e w3 ⟨v1, rfl, hv, hb⟩
  have S3 : Hid (Row w3 (.slice ao an ac) l ∧ Row w3 (.slice bo bn bc) m ∧ Below w.heap.size w w3 ∧ Blk w3 w.heap.size 24 (four ⟨0, 0, 4, 4⟩)) := by
    have hbb : Below w2.heap.size w2 w3 := ((Below.refl _ _).alloc (Nat.le_refl _) _).trans (hb.mono (by simp))
    exact ⟨S2.out.1.on hbb, S2.out.2.1.on hbb, S2.out.2.2.1.trans (hbb.mono S2.out.2.2.1.size), S2.out.2.2.2.grow hbb⟩
  have V1 : Hid (VRow w3 v1 (bytesL M1)) := hv
  clear hv hb S2 HG2
  have a0 := S3.out.2.2.2.b0
  have a1 := S3.out.2.2.2.b1
  have a2 := S3.out.2.2.2.b2
  have a3 := S3.out.2.2.2.b3
  simp only at a0 a1 a2 a3
  have hsl := S3.out.2.2.2.lt
  go_wp2_with fail
  obtain ⟨g3, hg3⟩ : ∃ x, w3.heap.size = x := ⟨_, rfl⟩
  have HG3 := Lib.hid hg3
  rw [hg3]
  clear hg3 a0 a1 a2 a3 hsl
  refine (HM2.out HS.out _ _ (polys_lit w3 _ [(.slice ao an ac, l)] _ 1 _ HG3.out rfl rfl (by simpa using S3.out.1))).mono ?_
  rintro e w4 ⟨v2, rfl, hv, hb⟩
  have S4 : Hid (Row w4 (.slice ao an ac) l ∧ Row w4 (.slice bo bn bc) m ∧ Below w.heap.size w w4 ∧ Blk w4 w.heap.size 24 (four ⟨0, 0, 4, 4⟩)) := by
    have hbb : Below w3.heap.size w3 w4 := ((Below.refl _ _).alloc (Nat.le_refl _) _).trans (hb.mono (by simp))
    exact ⟨S3.out.1.on hbb, S3.out.2.1.on hbb, S3.out.2.2.1.trans (hbb.mono S3.out.2.2.1.size), S3.out.2.2.2.grow hbb⟩
  have V1' : Hid (VRow w4 v1 (bytesL M1)) := V1.out.on (((Below.refl _ _).alloc (Nat.le_refl _) _).trans (hb.mono (by simp)))
  clear V1
  have V1 := V1'
  clear V1'
  have V2 : Hid (VRow w4 v2 (bytesL M2)) := hv
  clear hv hb S3 HG3
  have a0 := S4.out.2.2.2.b0
  have a1 := S4.out.2.2.2.b1
  have a2 := S4.out.2.2.2.b2
  have a3 := S4.out.2.2.2.b3
  simp only at a0 a1 a2 a3
  have hsl := S4.out.2.2.2.lt
  go_wp2_with fail
  obtain ⟨g4, hg4⟩ : ∃ x, w4.heap.size = x := ⟨_, rfl⟩
  have HG4 := Lib.hid hg4
  rw [hg4]
  clear hg4 a0 a1 a2 a3 hsl
  refine (HM3.out HS.out _ _ (polys_lit w4 _ [(.slice bo bn bc, m)] _ 1 _ HG4.out rfl rfl (by simpa using S4.out.2.1))).mono ?_
  rintro e w5 ⟨v3, rfl, hv, hb⟩
  have S5 : Hid (Row w5 (.slice ao an ac) l ∧ Row w5 (.slice bo bn bc) m ∧ Below w.heap.size w w5 ∧ Blk w5 w.heap.size 24 (four ⟨0, 0, 4, 4⟩)) := by
    have hbb : Below w4.heap.size w4 w5 := ((Below.refl _ _).alloc (Nat.le_refl _) _).trans (hb.mono (by simp))
    exact ⟨S4.out.1.on hbb, S4.out.2.1.on hbb, S4.out.2.2.1.trans (hbb.mono S4.out.2.2.1.size), S4.out.2.2.2.grow hbb⟩
  have V1' : Hid (VRow w5 v1 (bytesL M1)) := V1.out.on (((Below.refl _ _).alloc (Nat.le_refl _) _).trans (hb.mono (by simp)))
  clear V1
  have V1 := V1'
  clear V1'
  have V2' : Hid (VRow w5 v2 (bytesL M2)) := V2.out.on (((Below.refl _ _).alloc (Nat.le_refl _) _).trans (hb.mono (by simp)))
  clear V2
  have V2 := V2'
  clear V2'
  have V3 : Hid (VRow w5 v3 (bytesL M3)) := hv
  clear hv hb S4 HG4
  have a0 := S5.out.2.2.2.b0
  have a1 := S5.out.2.2.2.b1
  have a2 := S5.out.2.2.2.b2
  have a3 := S5.out.2.2.2.b3
  simp only at a0 a1 a2 a3
  have hsl := S5.out.2.2.2.lt
  go_wp2_with fail
  obtain ⟨g5, hg5⟩ : ∃ x, w5.heap.size = x := ⟨_, rfl⟩
  have HG5 := Lib.hid hg5
  rw [hg5]
  clear hg5 a0 a1 a2 a3 hsl
  refine (HM4.out HS.out _ _ (polys_lit w5 _ [(.slice ao an ac, l), (.slice bo bn bc, m), (.slice bo bn bc, m), (.slice ao an ac, l)] _ 4 _ HG5.out rfl rfl (by have q1 := S5.out.1; have q2 := S5.out.2.1; intro x hx; simp at hx; rcases hx with rfl | rfl | rfl | rfl <;> assumption))).mono ?_
  rintro e w6 ⟨v4, rfl, hv, hb⟩
  have S6 : Hid (Row w6 (.slice ao an ac) l ∧ Row w6 (.slice bo bn bc) m ∧ Below w.heap.size w w6 ∧ Blk w6 w.heap.size 24 (four ⟨0, 0, 4, 4⟩)) := by
    have hbb : Below w5.heap.size w5 w6 := ((Below.refl _ _).alloc (Nat.le_refl _) _).trans (hb.mono (by simp))
    exact ⟨S5.out.1.on hbb, S5.out.2.1.on hbb, S5.out.2.2.1.trans (hbb.mono S5.out.2.2.1.size), S5.out.2.2.2.grow hbb⟩
  have V1' : Hid (VRow w6 v1 (bytesL M1)) := V1.out.on (((Below.refl _ _).alloc (Nat.le_refl _) _).trans (hb.mono (by simp)))
  clear V1
  have V1 := V1'
  clear V1'
  have V2' : Hid (VRow w6 v2 (bytesL M2)) := V2.out.on (((Below.refl _ _).alloc (Nat.le_refl _) _).trans (hb.mono (by simp)))
  clear V2
  have V2 := V2'
  clear V2'
  have V3' : Hid (VRow w6 v3 (bytesL M3)) := V3.out.on (((Below.refl _ _).alloc (Nat.le_refl _) _).trans (hb.mono (by simp)))
  clear V3
  have V3 := V3'
  clear V3'
  have V4 : Hid (VRow w6 v4 (bytesL M4)) := hv
  clear hv hb S5 HG5
  obtain ⟨la, hla⟩ : ∃ r, l.all roomP = r := ⟨_, rfl⟩
  obtain ⟨ma, hma⟩ : ∃ r, m.all roomP = r := ⟨_, rfl⟩
  have HLA := Lib.hid hla; have HMA := Lib.hid hma
  clear hla hma HM1 HM2 HM3 HM4 HSM
  cases la
  · clear V1 V2 V3 V4
    have hz1 : z1 = 30 := by
      have h := HE1.out
      rw [mask4 _ _ (by decide), if_neg (by unfold allR; simp [HLA.out, HMA.out])] at h
      exact (Prod.mk.inj h).1.symm
    subst hz1
    go_wp2_with fail
    obtain ⟨g6, hg6⟩ : ∃ x, w6.heap.size = x := ⟨_, rfl⟩
    have HG6 := Lib.hid hg6
    rw [hg6]
    clear hg6
    refine (refs_p _ _ _ (polys_lit w6 _ [(.slice ao an ac, l), (.slice bo bn bc, m)] _ 2 _ HG6.out rfl rfl (by simpa using ⟨S6.out.1, S6.out.2.1⟩)) (by simp) (by have h1 := HS.out.2.1 (.slice ao an ac, l) (by simp); have h2 := HS.out.2.1 (.slice bo bn bc, m) (by simp); simp only at h1 h2; simp; omega)).mono ?_
    rintro e w7 ⟨u, S', rfl, hp, he, hb⟩
    have B7 : Hid (Below w.heap.size w w7) := (S6.out.2.2.1.alloc S6.out.2.2.1.size _).trans (hb.mono (by have := S6.out.2.2.1.size; simp; omega))
    have HRA : Hid (Calls Try.prog 14 #[u] w7 fun e w' => e = .returned (.bool false) ∧ Below w7.heap.size w7 w') := by
      have hall : allR (List.map Prod.snd [((.slice ao an ac : Value), l), (.slice bo bn bc, m)]) = false := by unfold allR; simp [HLA.out, HMA.out]
      have h1 := same_pts he (fun l => l.length ≤ 20) HS.out.2.1
      have := refAll_c u S' w7 hp (by have := h1.1; simp at this; omega) (fun x hx => by have := h1.2 x hx; omega)
      rwa [he, hall] at this
    clear hp he hb
    go_wp2_with fail
    refine (HRA.out).mono ?_
    rintro e w8 ⟨rfl, hb⟩
    have B8 : Hid (Below w.heap.size w w8) := B7.out.trans (hb.mono B7.out.size)
    clear hb
    go_wp2_with fail
    refine (HAW.out _).mono ?_
    rintro e w9 ⟨rfl, hb⟩
    have B9 : Hid (Below w.heap.size w w9) := B8.out.trans (hb.mono B8.out.size)
    clear hb
    go_wp2_with fail
    go_ret
    exact ⟨rfl, B9.out⟩
  cases ma
  · clear V1 V2 V3 V4
    have hz1 : z1 = 30 := by
      have h := HE1.out
      rw [mask4 _ _ (by decide), if_neg (by unfold allR; simp [HLA.out, HMA.out])] at h
      exact (Prod.mk.inj h).1.symm
    subst hz1
    go_wp2_with fail
    obtain ⟨g6, hg6⟩ : ∃ x, w6.heap.size = x := ⟨_, rfl⟩
    have HG6 := Lib.hid hg6
    rw [hg6]
    clear hg6
    refine (refs_p _ _ _ (polys_lit w6 _ [(.slice ao an ac, l), (.slice bo bn bc, m)] _ 2 _ HG6.out rfl rfl (by simpa using ⟨S6.out.1, S6.out.2.1⟩)) (by simp) (by have h1 := HS.out.2.1 (.slice ao an ac, l) (by simp); have h2 := HS.out.2.1 (.slice bo bn bc, m) (by simp); simp only at h1 h2; simp; omega)).mono ?_
    rintro e w7 ⟨u, S', rfl, hp, he, hb⟩
    have B7 : Hid (Below w.heap.size w w7) := (S6.out.2.2.1.alloc S6.out.2.2.1.size _).trans (hb.mono (by have := S6.out.2.2.1.size; simp; omega))
    have HRA : Hid (Calls Try.prog 14 #[u] w7 fun e w' => e = .returned (.bool false) ∧ Below w7.heap.size w7 w') := by
      have hall : allR (List.map Prod.snd [((.slice ao an ac : Value), l), (.slice bo bn bc, m)]) = false := by unfold allR; simp [HLA.out, HMA.out]
      have h1 := same_pts he (fun l => l.length ≤ 20) HS.out.2.1
      have := refAll_c u S' w7 hp (by have := h1.1; simp at this; omega) (fun x hx => by have := h1.2 x hx; omega)
      rwa [he, hall] at this
    clear hp he hb
    go_wp2_with fail
    refine (HRA.out).mono ?_
    rintro e w8 ⟨rfl, hb⟩
    have B8 : Hid (Below w.heap.size w w8) := B7.out.trans (hb.mono B7.out.size)
    clear hb
    go_wp2_with fail
    refine (HAW.out _).mono ?_
    rintro e w9 ⟨rfl, hb⟩
    have B9 : Hid (Below w.heap.size w w9) := B8.out.trans (hb.mono B8.out.size)
    clear hb
    go_wp2_with fail
    go_ret
    exact ⟨rfl, B9.out⟩
  obtain ⟨hz1, hm1⟩ : z1 = 0 ∧ M1 = maskI [l, m] 1 ⟨0, 0, 4, 4⟩ := by
    have h := HE1.out
    rw [mask4 _ _ (by decide), if_pos (by unfold allR; simp [HLA.out, HMA.out])] at h
    exact ⟨(Prod.mk.inj h).1.symm, (Prod.mk.inj h).2.symm⟩
  subst hz1
  have L1 : M1.length = 16 := by rw [hm1, maskI_length]; rfl
  obtain ⟨b1, o1, c1, e1, hb1, hc1⟩ := V1.out.open (by rw [bytes_length, L1]; decide)
  rw [bytes_length, L1] at e1
  subst e1
  have HC1 : Hid (∀ (i q : Nat), M1[i]? = some q → ∀ W, Below w6.heap.size w6 W → W.cell? ⟨b1, o1 + i, none⟩ = some (.int .u8 (q : Int))) := fun i q h W hW => by
    rw [cell_below hW hb1]
    exact hc1 i _ (by show (bytesL M1)[i]? = _; unfold bytesL; rw [List.getElem?_map, h]; rfl)
  have HM1 := Lib.hid hm1
  clear V1 hb1 hc1 L1 HE1 hm1
  obtain ⟨hz2, hm2⟩ : z2 = 0 ∧ M2 = maskI [l] 1 ⟨0, 0, 4, 4⟩ := by
    have h := HE2.out
    rw [mask4 _ _ (by decide), if_pos (by unfold allR; simp [HLA.out])] at h
    exact ⟨(Prod.mk.inj h).1.symm, (Prod.mk.inj h).2.symm⟩
  subst hz2
  have L2 : M2.length = 16 := by rw [hm2, maskI_length]; rfl
  obtain ⟨b2, o2, c2, e2, hb2, hc2⟩ := V2.out.open (by rw [bytes_length, L2]; decide)
  rw [bytes_length, L2] at e2
  subst e2
  have HC2 : Hid (∀ (i q : Nat), M2[i]? = some q → ∀ W, Below w6.heap.size w6 W → W.cell? ⟨b2, o2 + i, none⟩ = some (.int .u8 (q : Int))) := fun i q h W hW => by
    rw [cell_below hW hb2]
    exact hc2 i _ (by show (bytesL M2)[i]? = _; unfold bytesL; rw [List.getElem?_map, h]; rfl)
  have HM2 := Lib.hid hm2
  clear V2 hb2 hc2 L2 HE2 hm2
  obtain ⟨hz3, hm3⟩ : z3 = 0 ∧ M3 = maskI [m] 1 ⟨0, 0, 4, 4⟩ := by
    have h := HE3.out
    rw [mask4 _ _ (by decide), if_pos (by unfold allR; simp [HMA.out])] at h
    exact ⟨(Prod.mk.inj h).1.symm, (Prod.mk.inj h).2.symm⟩
  subst hz3
  have L3 : M3.length = 16 := by rw [hm3, maskI_length]; rfl
  obtain ⟨b3, o3, c3, e3, hb3, hc3⟩ := V3.out.open (by rw [bytes_length, L3]; decide)
  rw [bytes_length, L3] at e3
  subst e3
  have HC3 : Hid (∀ (i q : Nat), M3[i]? = some q → ∀ W, Below w6.heap.size w6 W → W.cell? ⟨b3, o3 + i, none⟩ = some (.int .u8 (q : Int))) := fun i q h W hW => by
    rw [cell_below hW hb3]
    exact hc3 i _ (by show (bytesL M3)[i]? = _; unfold bytesL; rw [List.getElem?_map, h]; rfl)
  have HM3 := Lib.hid hm3
  clear V3 hb3 hc3 L3 HE3 hm3
  obtain ⟨hz4, hm4⟩ : z4 = 0 ∧ M4 = maskI [l, m, m, l] 2 ⟨0, 0, 4, 4⟩ := by
    have h := HE4.out
    rw [mask4 _ _ (by decide), if_pos (by unfold allR; simp [HLA.out, HMA.out])] at h
    exact ⟨(Prod.mk.inj h).1.symm, (Prod.mk.inj h).2.symm⟩
  subst hz4
  have L4 : M4.length = 16 := by rw [hm4, maskI_length]; rfl
  obtain ⟨b4, o4, c4, e4, hb4, hc4⟩ := V4.out.open (by rw [bytes_length, L4]; decide)
  rw [bytes_length, L4] at e4
  subst e4
  have HC4 : Hid (∀ (i q : Nat), M4[i]? = some q → ∀ W, Below w6.heap.size w6 W → W.cell? ⟨b4, o4 + i, none⟩ = some (.int .u8 (q : Int))) := fun i q h W hW => by
    rw [cell_below hW hb4]
    exact hc4 i _ (by show (bytesL M4)[i]? = _; unfold bytesL; rw [List.getElem?_map, h]; rfl)
  have HM4 := Lib.hid hm4
  clear V4 hb4 hc4 L4 HE4 hm4
  go_wp2_with fail
  go_loopw [80] (fun i wr => ∃ k : Nat, k ≤ 16 ∧ i = .int .i64 (k : Int) ∧ Hid (Below w6.heap.size w6 wr)) (fun i _ => 16 - (intOf i).toNat)
  case atStart => exact ⟨0, by omega, rfl, Below.refl _ _⟩
  case round =>
    obtain ⟨k, hk, rfl, hw⟩ := hrel
    by_cases hlt : k < 16
    · have hd : decide ((k : Int) < 16) = true := by simp; omega
      obtain ⟨q1, hq1⟩ : ∃ q, countI [l, m] 1 (0 + ((k % 4 : Nat) : Int)) (0 + ((k / 4 : Nat) : Int)) = q := ⟨_, rfl⟩
      obtain ⟨q2, hq2⟩ : ∃ q, countI [l] 1 (0 + ((k % 4 : Nat) : Int)) (0 + ((k / 4 : Nat) : Int)) = q := ⟨_, rfl⟩
      obtain ⟨q3, hq3⟩ : ∃ q, countI [m] 1 (0 + ((k % 4 : Nat) : Int)) (0 + ((k / 4 : Nat) : Int)) = q := ⟨_, rfl⟩
      have h12 : q1 ≤ q2 + q3 := by rw [← hq1, ← hq2, ← hq3]; exact count_two _ _ _ _
      have h1 : q1 ≤ 16 := by rw [← hq1]; exact count_le _ _ _ _
      have h2 : q2 ≤ 16 := by rw [← hq2]; exact count_le _ _ _ _
      have h3 : q3 ≤ 16 := by rw [← hq3]; exact count_le _ _ _ _
      have HA1 : Hid (∀ W, Below w6.heap.size w6 W → W.cell? ⟨b1, o1 + k, none⟩ = some (.int .u8 (q1 : Int))) := HC1.out k q1 (by rw [HM1.out, mask4_at _ _ _ hlt, hq1])
      have HA2 : Hid (∀ W, Below w6.heap.size w6 W → W.cell? ⟨b2, o2 + k, none⟩ = some (.int .u8 (q2 : Int))) := HC2.out k q2 (by rw [HM2.out, mask4_at _ _ _ hlt, hq2])
      have HA3 : Hid (∀ W, Below w6.heap.size w6 W → W.cell? ⟨b3, o3 + k, none⟩ = some (.int .u8 (q3 : Int))) := HC3.out k q3 (by rw [HM3.out, mask4_at _ _ _ hlt, hq3])
      have HA4 : Hid (∀ W, Below w6.heap.size w6 W → W.cell? ⟨b4, o4 + k, none⟩ = some (.int .u8 0)) := HC4.out k 0 (by rw [HM4.out, mask4_at _ _ _ hlt, count_four])
      have hgt : decide ((q1 : Int) > (q2 : Int) + (q3 : Int)) = false := by simp; omega
      have hg16 : decide ((q1 : Int) > 16) = false := by simp; omega
      have e95 : IntKind.u8.wrap ((q2 : Int) + (q3 : Int)) = (q2 : Int) + (q3 : Int) := by rw [IntKind.wrap_u8]; omega
      clear hq1 hq2 hq3
      go_wp2_with fail
      refine wp_region_quiet (C := Out wr) (by kernel_rfl) (by kernel_rfl) ⟨rfl, rfl, rfl, Nat.le_refl _, fun _ _ => rfl⟩ ?_
      refine BigFrame.wpQuiet_want rfl (fun K hK => ?_)
      refine quiet_val (.slice (some ⟨b1, o1, none⟩) 16 c1) (fun w' hw' => by go_simp) (hK _ ?_)
      clear hK K
      simp only [Act.put, List.setIfInBounds_toArray, List.set_cons_zero, List.set_cons_succ]
      refine BigFrame.wpQuiet_want rfl (fun K hK => ?_)
      refine quiet_val (.int .i64 (k : Int)) (fun w' hw' => by go_simp) (hK _ ?_)
      clear hK K
      simp only [Act.put, List.setIfInBounds_toArray, List.set_cons_zero, List.set_cons_succ]
      refine BigFrame.wpQuiet_want rfl (fun K hK => ?_)
      refine quiet_val (.pointer (some ⟨b1, o1 + k, none⟩)) (fun w' hw' => by go_simp; exact fun hh => absurd hh (by omega)) (hK _ ?_)
      clear hK K
      simp only [Act.put, List.setIfInBounds_toArray, List.set_cons_zero, List.set_cons_succ]
      refine BigFrame.wpQuiet_want rfl (fun K hK => ?_)
      refine quiet_val (.int .u8 (q1 : Int)) (fun w' hw' => by have c0 := HA1.out w' (hw.out.trans (hw'.mono hw.out.size)); go_simp) (hK _ ?_)
      clear hK K
      simp only [Act.put, List.setIfInBounds_toArray, List.set_cons_zero, List.set_cons_succ]
      refine BigFrame.wpQuiet_want rfl (fun K hK => ?_)
      refine quiet_val (.slice (some ⟨b2, o2, none⟩) 16 c2) (fun w' hw' => by go_simp) (hK _ ?_)
      clear hK K
      simp only [Act.put, List.setIfInBounds_toArray, List.set_cons_zero, List.set_cons_succ]
      refine BigFrame.wpQuiet_want rfl (fun K hK => ?_)
      refine quiet_val (.int .i64 (k : Int)) (fun w' hw' => by go_simp) (hK _ ?_)
      clear hK K
      simp only [Act.put, List.setIfInBounds_toArray, List.set_cons_zero, List.set_cons_succ]
      refine BigFrame.wpQuiet_want rfl (fun K hK => ?_)
      refine quiet_val (.pointer (some ⟨b2, o2 + k, none⟩)) (fun w' hw' => by go_simp; exact fun hh => absurd hh (by omega)) (hK _ ?_)
      clear hK K
      simp only [Act.put, List.setIfInBounds_toArray, List.set_cons_zero, List.set_cons_succ]
      refine BigFrame.wpQuiet_want rfl (fun K hK => ?_)
      refine quiet_val (.int .u8 (q2 : Int)) (fun w' hw' => by have c0 := HA2.out w' (hw.out.trans (hw'.mono hw.out.size)); go_simp) (hK _ ?_)
      clear hK K
      simp only [Act.put, List.setIfInBounds_toArray, List.set_cons_zero, List.set_cons_succ]
      refine BigFrame.wpQuiet_want rfl (fun K hK => ?_)
      refine quiet_val (.slice (some ⟨b3, o3, none⟩) 16 c3) (fun w' hw' => by go_simp) (hK _ ?_)
      clear hK K
      simp only [Act.put, List.setIfInBounds_toArray, List.set_cons_zero, List.set_cons_succ]
      refine BigFrame.wpQuiet_want rfl (fun K hK => ?_)
      refine quiet_val (.int .i64 (k : Int)) (fun w' hw' => by go_simp) (hK _ ?_)
      clear hK K
      simp only [Act.put, List.setIfInBounds_toArray, List.set_cons_zero, List.set_cons_succ]
      refine BigFrame.wpQuiet_want rfl (fun K hK => ?_)
      refine quiet_val (.pointer (some ⟨b3, o3 + k, none⟩)) (fun w' hw' => by go_simp; exact fun hh => absurd hh (by omega)) (hK _ ?_)
      clear hK K
      simp only [Act.put, List.setIfInBounds_toArray, List.set_cons_zero, List.set_cons_succ]
      refine BigFrame.wpQuiet_want rfl (fun K hK => ?_)
      refine quiet_val (.int .u8 (q3 : Int)) (fun w' hw' => by have c0 := HA3.out w' (hw.out.trans (hw'.mono hw.out.size)); go_simp) (hK _ ?_)
      clear hK K
      simp only [Act.put, List.setIfInBounds_toArray, List.set_cons_zero, List.set_cons_succ]
      refine BigFrame.wpQuiet_want rfl (fun K hK => ?_)
      refine quiet_val (.int .u8 ((q2 : Int) + (q3 : Int))) (fun w' hw' => by go_simp) (hK _ ?_)
      clear hK K
      simp only [Act.put, List.setIfInBounds_toArray, List.set_cons_zero, List.set_cons_succ]
      refine BigFrame.wpQuiet_want rfl (fun K hK => ?_)
      refine quiet_val (.bool false) (fun w' hw' => by go_simp) (hK _ ?_)
      clear hK K
      simp only [Act.put, List.setIfInBounds_toArray, List.set_cons_zero, List.set_cons_succ]
      refine BigFrame.wpQuiet_want rfl (fun K hK => ?_)
      refine quiet_val (.bool false) (fun w' hw' => by go_simp) (hK _ ?_)
      clear hK K
      simp only [Act.put, List.setIfInBounds_toArray, List.set_cons_zero, List.set_cons_succ]
      refine BigFrame.wpQuiet_want rfl (fun K hK => ?_)
      refine quiet_val (.slice (some ⟨b4, o4, none⟩) 16 c4) (fun w' hw' => by go_simp) (hK _ ?_)
      clear hK K
      simp only [Act.put, List.setIfInBounds_toArray, List.set_cons_zero, List.set_cons_succ]
      refine BigFrame.wpQuiet_want rfl (fun K hK => ?_)
      refine quiet_val (.int .i64 (k : Int)) (fun w' hw' => by go_simp) (hK _ ?_)
      clear hK K
      simp only [Act.put, List.setIfInBounds_toArray, List.set_cons_zero, List.set_cons_succ]
      refine BigFrame.wpQuiet_want rfl (fun K hK => ?_)
      refine quiet_val (.pointer (some ⟨b4, o4 + k, none⟩)) (fun w' hw' => by go_simp; exact fun hh => absurd hh (by omega)) (hK _ ?_)
      clear hK K
      simp only [Act.put, List.setIfInBounds_toArray, List.set_cons_zero, List.set_cons_succ]
      refine BigFrame.wpQuiet_want rfl (fun K hK => ?_)
      refine quiet_val (.int .u8 0) (fun w' hw' => by have c0 := HA4.out w' (hw.out.trans (hw'.mono hw.out.size)); go_simp) (hK _ ?_)
      clear hK K
      simp only [Act.put, List.setIfInBounds_toArray, List.set_cons_zero, List.set_cons_succ]
      refine BigFrame.wpQuiet_want rfl (fun K hK => ?_)
      refine quiet_val (.bool false) (fun w' hw' => by go_simp) (hK _ ?_)
      clear hK K
      simp only [Act.put, List.setIfInBounds_toArray, List.set_cons_zero, List.set_cons_succ]
      refine BigFrame.wpQuiet_want rfl (fun K hK => ?_)
      refine quiet_val (.bool false) (fun w' hw' => by go_simp) (hK _ ?_)
      clear hK K
      simp only [Act.put, List.setIfInBounds_toArray, List.set_cons_zero, List.set_cons_succ]
      refine BigFrame.wpQuiet_want rfl (fun K hK => ?_)
      refine quiet_val (.bool false) (fun w' hw' => by go_simp) (hK _ ?_)
      clear hK K
      simp only [Act.put, List.setIfInBounds_toArray, List.set_cons_zero, List.set_cons_succ]
      refine BigFrame.wpQuiet_want rfl (fun K hK => ?_)
      refine quiet_val (.slice (some ⟨b1, o1, none⟩) 16 c1) (fun w' hw' => by go_simp) (hK _ ?_)
      clear hK K
      simp only [Act.put, List.setIfInBounds_toArray, List.set_cons_zero, List.set_cons_succ]
      refine BigFrame.wpQuiet_want rfl (fun K hK => ?_)
      refine quiet_val (.int .i64 (k : Int)) (fun w' hw' => by go_simp) (hK _ ?_)
      clear hK K
      simp only [Act.put, List.setIfInBounds_toArray, List.set_cons_zero, List.set_cons_succ]
      refine BigFrame.wpQuiet_want rfl (fun K hK => ?_)
      refine quiet_val (.pointer (some ⟨b1, o1 + k, none⟩)) (fun w' hw' => by go_simp; exact fun hh => absurd hh (by omega)) (hK _ ?_)
      clear hK K
      simp only [Act.put, List.setIfInBounds_toArray, List.set_cons_zero, List.set_cons_succ]
      refine BigFrame.wpQuiet_want rfl (fun K hK => ?_)
      refine quiet_val (.int .u8 (q1 : Int)) (fun w' hw' => by have c0 := HA1.out w' (hw.out.trans (hw'.mono hw.out.size)); go_simp) (hK _ ?_)
      clear hK K
      simp only [Act.put, List.setIfInBounds_toArray, List.set_cons_zero, List.set_cons_succ]
      refine BigFrame.wpQuiet_want rfl (fun K hK => ?_)
      refine quiet_val (.bool false) (fun w' hw' => by go_simp) (hK _ ?_)
      clear hK K
      simp only [Act.put, List.setIfInBounds_toArray, List.set_cons_zero, List.set_cons_succ]
      refine BigFrame.wpQuiet_want rfl (fun K hK => ?_)
      refine quiet_val (.bool false) (fun w' hw' => by go_simp) (hK _ ?_)
      clear hK K
      simp only [Act.put, List.setIfInBounds_toArray, List.set_cons_zero, List.set_cons_succ]
      refine wpQuiet_nil ?_
      intro w8 hb8
      have B8 : Hid (Below w6.heap.size w6 w8) := hw.out.trans (hb8.mono hw.out.size)
      clear hb8
      go_wp2_with fail
      exact ⟨⟨k + 1, by omega, by go_num, B8.out⟩, by simp [intOf]; omega⟩
    · have hd : decide ((k : Int) < 16) = false := by simp; omega
      go_wp2_with fail
      refine (HAW.out _).mono ?_
      rintro e w9 ⟨rfl, hb9⟩
      have B9 : Hid (Below w.heap.size w w9) := (S6.out.2.2.1.trans (hw.out.mono S6.out.2.2.1.size)).trans (hb9.mono (Nat.le_trans S6.out.2.2.1.size hw.out.size))
      clear hb9
      go_wp2_with fail
      go_ret
      exact ⟨rfl, B9.out⟩
end Go.Proofs.Ytopngjpgikpmaaa
