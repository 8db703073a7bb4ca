/- Layer 6: Put. -/
import Derived.Test.YtffgpikhahpomaaDoorSs
namespace Go.Proofs.YtffgpikhahpomaaDoor
open Go.RowKit
set_option maxHeartbeats 4000000 in
set_option maxRecDepth 100000 in
theorem put_c (ao : Option Addr) (n c : Nat) (l : List Sg) (i j : Int) (px py : Int) (w : World) (hr : Rd w) (row : RowS w (.slice ao n c) l) (hc : n ≤ c) (hl : n ≤ 5000) :
    Calls Tryd.prog 18 #[.slice ao n c, .int .i64 i, .int .i64 j, .agg #[.int .i64 px, .int .i64 py]] w (Edited w (putI l i j (px, py))) := by
  have hn := row.len
  obtain ⟨w0, hw0⟩ : ∃ w0, w.alloc (.cells #[.int .i64 px, .int .i64 py] 44) = w0 := ⟨_, rfl⟩
  have HB0 : Hid (Below w.heap.size w w0) := by rw [← hw0]; exact (Below.refl _ _).alloc (Nat.le_refl _) _
  have HK : Hid (Blk w0 w.heap.size 44 #[.int .i64 px, .int .i64 py]) := by rw [← hw0]; exact Blk.new _ _ _
  have HC := Lib.hid (check_c _ l w0 (hr.on HB0.out) (row.on HB0.out))
  have HH : Hid (∀ W, Calls Tryd.prog 40 #[.slice ao n c, .int .i64 i] W fun e w' => e = .returned (.bool (hasB l i)) ∧ W = w') := fun W => by unfold hasB; rw [hn]; exact hasSegment_c ao n c i W
  obtain ⟨z, hz⟩ : ∃ z, checkI l = z := ⟨_, rfl⟩
  obtain ⟨b, hb⟩ : ∃ b, hasB l i = b := ⟨_, rfl⟩
  have HZ := Lib.hid (And.intro hz hb)
  have HW0 := Lib.hid hw0
  have HROW := Lib.hid row
  have HR := Lib.hid hr
  have HN := Lib.hid hn
  rw [hz] at HC
  rw [hb] at HH
  clear hz hw0 row hr
  by_cases h0 : z = 0
  · subst h0
    cases b with
    | false =>
      have hX : putI l i j (px, py) = (30, []) := by unfold putI; rw [HZ.out.1, HZ.out.2]; rfl
      rw [hX]
      clear hb hX hn
      go_enter Tryd.func18, Tryd.ntmps18
      go_wp2_with fail
      rw [show w.alloc (.cells #[.int .i64 px, .int .i64 py] 44) = w0 from HW0.out]
      refine HC.out.mono ?_
      rintro e w1 ⟨rfl, hb⟩
      have HB := Lib.hid (below_next HB0.out hb)
      have kp := HK.out.on hb HK.out.lt
      have HB1 : Hid (w.heap.size < w1.heap.size) := kp.lt
      clear hb
      have p0 := kp.cell 0
      have p1 := kp.cell 1
      simp only [List.getElem?_toArray, List.getElem?_cons_zero, List.getElem?_cons_succ] at p0 p1
      go_wp2_with fail
      refine (HH.out _).mono ?_
      rintro e w2 ⟨rfl, rfl⟩
      go_wp2_with fail
      go_ret2
      exact ⟨_, rfl, OwnS.nil _ _ _, HB.out⟩
    | true =>
      have hi : 0 ≤ i ∧ i < (n : Int) := by unfold hasB at hb; rw [hn] at hb; simpa using hb
      by_cases hj0 : j < 0
      · have hX : putI l i j (px, py) = (30, []) := by unfold putI; rw [HZ.out.1, HZ.out.2]; simp [hj0]
        rw [hX]
        have d1 : decide (j < 0) = true := by simpa using hj0
        clear hX hb hi hn
        go_enter Tryd.func18, Tryd.ntmps18
        go_wp2_with fail
        rw [show w.alloc (.cells #[.int .i64 px, .int .i64 py] 44) = w0 from HW0.out]
        refine HC.out.mono ?_
        rintro e w1 ⟨rfl, hb⟩
        have HB := Lib.hid (below_next HB0.out hb)
        have kp := HK.out.on hb HK.out.lt
        have HB1 : Hid (w.heap.size < w1.heap.size) := kp.lt
        clear hb
        have p0 := kp.cell 0
        have p1 := kp.cell 1
        simp only [List.getElem?_toArray, List.getElem?_cons_zero, List.getElem?_cons_succ] at p0 p1
        go_wp2_with fail
        refine (HH.out _).mono ?_
        rintro e w2 ⟨rfl, rfl⟩
        go_wp2_with fail
        go_ret2
        exact ⟨_, rfl, OwnS.nil _ _ _, HB.out⟩
      · obtain ⟨k, rfl⟩ : ∃ k : Nat, i = (k : Int) := ⟨i.toNat, by omega⟩
        have hk : k < n := by omega
        obtain ⟨b, o, rfl, hbs, hpa⟩ := RowS.addr HROW.out (k := k) (by rw [hn]; exact hk)
        obtain ⟨s, hq⟩ : ∃ p, l[k]? = some p := ⟨_, List.getElem?_eq_getElem (by rw [hn]; exact hk)⟩
        have hat : atS l (k : Int) = s := by unfold atS; simp [hq]
        have HNE : Hid (∀ W, Rd W → Calls Tryd.prog 13 #[.int .i64 s.k] W fun e w' => e = .returned (.int .i64 (needI s.k : Int)) ∧ W = w') := fun W h => need_c s.k W h
        have d0 : decide (j < 0) = false := by simpa using hj0
        have HPA := Lib.hid (And.intro hbs (And.intro hpa hq))
        have hle := needI_le s.k
        by_cases hj1 : j ≥ (needI s.k : Int)
        · have hX : putI l (k : Int) j (px, py) = (30, []) := by unfold putI; rw [HZ.out.1, HZ.out.2, hat]; simp [hj1]
          rw [hX]
          have d1 : decide (j ≥ (needI s.k : Int)) = true := by simpa using hj1
          have d2 : decide ((needI s.k : Int) ≤ j) = true := d1
          clear hX hb hi hat hpa hbs hn
          go_enter Tryd.func18, Tryd.ntmps18
          go_wp2_with fail
          rw [show w.alloc (.cells #[.int .i64 px, .int .i64 py] 44) = w0 from HW0.out]
          refine HC.out.mono ?_
          rintro e w1 ⟨rfl, hb⟩
          have HB := Lib.hid (below_next HB0.out hb)
          have kp := HK.out.on hb HK.out.lt
          have HB1 : Hid (w.heap.size < w1.heap.size) := kp.lt
          clear hb
          have p0 := kp.cell 0
          have p1 := kp.cell 1
          simp only [List.getElem?_toArray, List.getElem?_cons_zero, List.getElem?_cons_succ] at p0 p1
          go_wp2_with fail
          refine (HH.out _).mono ?_
          rintro e w2 ⟨rfl, rfl⟩
          have hs := HPA.out.2.1.on HB.out HPA.out.1
          have c0 := hs.c0 hq
          clear hs
          go_wp2_with fail
          refine (HNE.out _ (HR.out.on HB.out)).mono ?_
          rintro e w2 ⟨rfl, rfl⟩
          go_wp2_with fail
          go_ret2
          exact ⟨_, rfl, OwnS.nil _ _ _, HB.out⟩
        · have hX : putI l (k : Int) j (px, py) = outI (putL l (k : Int) j (px, py)) := by unfold putI; rw [HZ.out.1, HZ.out.2, hat]; simp; omega
          rw [hX]
          have d1 : decide (j ≥ (needI s.k : Int)) = false := by simpa using hj1
          have d2 : decide ((needI s.k : Int) ≤ j) = false := d1
          have w1 : wrap64 ((k : Int) + 1) = ((k + 1 : Nat) : Int) := by rw [wrapR _ (by omega) (by omega)]; omega
          have w2 : IntKind.i64.wrap ((k : Int) + 1) = ((k + 1 : Nat) : Int) := (wrap_is _).trans w1
          obtain ⟨J, rfl⟩ : ∃ J : Nat, j = (J : Int) := ⟨j.toNat, by omega⟩
          have HREP : Hid (∀ W u, Below w.heap.size w W → RowS W u [s.put J (px, py)] → Calls Tryd.prog 42 #[.slice (some ⟨b, o, none⟩) n c, .int .i64 (k : Int), .int .i64 ((k + 1 : Nat) : Int), u] W fun e w' => ∃ v, e = .returned v ∧ OwnS w' W.heap.size 48 v (putL l (k : Int) (J : Int) (px, py)) ∧ Below W.heap.size W w') := fun W u hW hu => by
            have h := replaced_c (some ⟨b, o, none⟩) n c k (k + 1) l _ [s.put J (px, py)] W (HROW.out.on hW) hc (by omega) hk hu (by simp; omega)
            unfold putL
            rw [hat]
            exact h
          have hJ : J < 3 := by omega
          have hJlt : J < needI s.k := by omega
          clear d1 d2
          clear hX hb hi hat hpa hbs hn hj1 hj0 hle
          have hlt := Lib.hid hJlt; clear hJlt
          rcases (by omega : J = 0 ∨ J = 1 ∨ J = 2) with rfl | rfl | rfl
          · have dA : decide (needI s.k = 0) = false := decide_eq_false (by have := hlt.out; omega)
            have dB : decide ((needI s.k : Int) ≤ 0) = false := decide_eq_false (by have := hlt.out; omega)
            go_enter Tryd.func18, Tryd.ntmps18
            go_wp2_with fail
            rw [show w.alloc (.cells #[.int .i64 px, .int .i64 py] 44) = w0 from HW0.out]
            refine HC.out.mono ?_
            rintro e w1 ⟨rfl, hb⟩
            have HB := Lib.hid (below_next HB0.out hb)
            have kp := HK.out.on hb HK.out.lt
            have HB1 : Hid (w.heap.size < w1.heap.size) := kp.lt
            clear hb
            have p0 := kp.cell 0
            have p1 := kp.cell 1
            simp only [List.getElem?_toArray, List.getElem?_cons_zero, List.getElem?_cons_succ] at p0 p1
            go_wp2_with fail
            refine (HH.out _).mono ?_
            rintro e w2 ⟨rfl, rfl⟩
            have hs := HPA.out.2.1.on HB.out HPA.out.1
            have c0 := hs.c0 hq
            have c1 := hs.c1 hq
            have c2 := hs.c2 hq
            have c3 := hs.c3 hq
            have c4 := hs.c4 hq
            have c5 := hs.c5 hq
            have c6 := hs.c6 hq
            clear hs
            go_wp2_with fail
            refine (HNE.out _ (HR.out.on HB.out)).mono ?_
            rintro e w2 ⟨rfl, rfl⟩
            have hne : w.heap.size ≠ w1.heap.size := by have := HB.out.size; have := HK.out.lt; have := HB1.out; omega
            have q0 : (w1.alloc (.cells (seven s.k s.p s.q s.r) 48)).cell? ⟨w.heap.size, 0, none⟩ = some (.int .i64 px) := (cell_below (Below.alloc (Below.refl w1.heap.size w1) (Nat.le_refl _) _) HB1.out).trans p0
            have q1 : (w1.alloc (.cells (seven s.k s.p s.q s.r) 48)).cell? ⟨w.heap.size, 1, none⟩ = some (.int .i64 py) := (cell_below (Below.alloc (Below.refl w1.heap.size w1) (Nat.le_refl _) _) HB1.out).trans p1
            have q2 : (w1.alloc (.cells (seven s.k s.p s.q s.r) 48)).cell? ⟨w.heap.size, 0 + 1, none⟩ = some (.int .i64 py) := q1
            go_wp2_with fail
            have HNEW : Hid (RowS ((w1.alloc (.cells ((⟨s.k, (px, py), s.q, s.r⟩ : Sg)).cells 48)).alloc (.cells ((⟨s.k, (px, py), s.q, s.r⟩ : Sg)).cells 48)) (.slice (some ⟨w1.heap.size + 1, 0, none⟩) 1 1) [s.put 0 (px, py)]) := by
              have h := RowS.new (w1.alloc (.cells ((⟨s.k, (px, py), s.q, s.r⟩ : Sg)).cells 48)) [(⟨s.k, (px, py), s.q, s.r⟩ : Sg)] ((⟨s.k, (px, py), s.q, s.r⟩ : Sg)).cells 1 rfl rfl
              rw [show (w1.alloc (.cells ((⟨s.k, (px, py), s.q, s.r⟩ : Sg)).cells 48)).heap.size = w1.heap.size + 1 by simp] at h
              exact h
            have HB2 := Lib.hid ((HB.out.alloc HB.out.size (.cells ((⟨s.k, (px, py), s.q, s.r⟩ : Sg)).cells 48)).alloc (by have := HB.out.size; simp; omega) (.cells ((⟨s.k, (px, py), s.q, s.r⟩ : Sg)).cells 48))
            refine (HREP.out _ _ HB2.out HNEW.out).mono ?_
            rintro e w2 ⟨v, rfl, ho, hb⟩
            have HO := Lib.hid (And.intro (owns_base ho HB2.out.size) (below_next HB2.out hb)); clear ho hb
            go_wp2_with fail
            refine (checked_own (HR.out.on HO.out.2) HO.out.1).mono ?_
            rintro e w3 ⟨u, rfl, ho, hb⟩
            have HP := Lib.hid (And.intro ho (below_next HO.out.2 hb)); clear ho hb
            go_wp2_with fail
            go_ret2
            exact ⟨_, rfl, HP.out⟩
          · have dA : decide (needI s.k = 0) = false := decide_eq_false (by have := hlt.out; omega)
            have dB : decide ((needI s.k : Int) ≤ 1) = false := decide_eq_false (by have := hlt.out; omega)
            go_enter Tryd.func18, Tryd.ntmps18
            go_wp2_with fail
            rw [show w.alloc (.cells #[.int .i64 px, .int .i64 py] 44) = w0 from HW0.out]
            refine HC.out.mono ?_
            rintro e w1 ⟨rfl, hb⟩
            have HB := Lib.hid (below_next HB0.out hb)
            have kp := HK.out.on hb HK.out.lt
            have HB1 : Hid (w.heap.size < w1.heap.size) := kp.lt
            clear hb
            have p0 := kp.cell 0
            have p1 := kp.cell 1
            simp only [List.getElem?_toArray, List.getElem?_cons_zero, List.getElem?_cons_succ] at p0 p1
            go_wp2_with fail
            refine (HH.out _).mono ?_
            rintro e w2 ⟨rfl, rfl⟩
            have hs := HPA.out.2.1.on HB.out HPA.out.1
            have c0 := hs.c0 hq
            have c1 := hs.c1 hq
            have c2 := hs.c2 hq
            have c3 := hs.c3 hq
            have c4 := hs.c4 hq
            have c5 := hs.c5 hq
            have c6 := hs.c6 hq
            clear hs
            go_wp2_with fail
            refine (HNE.out _ (HR.out.on HB.out)).mono ?_
            rintro e w2 ⟨rfl, rfl⟩
            have hne : w.heap.size ≠ w1.heap.size := by have := HB.out.size; have := HK.out.lt; have := HB1.out; omega
            have q0 : (w1.alloc (.cells (seven s.k s.p s.q s.r) 48)).cell? ⟨w.heap.size, 0, none⟩ = some (.int .i64 px) := (cell_below (Below.alloc (Below.refl w1.heap.size w1) (Nat.le_refl _) _) HB1.out).trans p0
            have q1 : (w1.alloc (.cells (seven s.k s.p s.q s.r) 48)).cell? ⟨w.heap.size, 1, none⟩ = some (.int .i64 py) := (cell_below (Below.alloc (Below.refl w1.heap.size w1) (Nat.le_refl _) _) HB1.out).trans p1
            have q2 : (w1.alloc (.cells (seven s.k s.p s.q s.r) 48)).cell? ⟨w.heap.size, 0 + 1, none⟩ = some (.int .i64 py) := q1
            go_wp2_with fail
            have HNEW : Hid (RowS ((w1.alloc (.cells ((⟨s.k, s.p, (px, py), s.r⟩ : Sg)).cells 48)).alloc (.cells ((⟨s.k, s.p, (px, py), s.r⟩ : Sg)).cells 48)) (.slice (some ⟨w1.heap.size + 1, 0, none⟩) 1 1) [s.put 1 (px, py)]) := by
              have h := RowS.new (w1.alloc (.cells ((⟨s.k, s.p, (px, py), s.r⟩ : Sg)).cells 48)) [(⟨s.k, s.p, (px, py), s.r⟩ : Sg)] ((⟨s.k, s.p, (px, py), s.r⟩ : Sg)).cells 1 rfl rfl
              rw [show (w1.alloc (.cells ((⟨s.k, s.p, (px, py), s.r⟩ : Sg)).cells 48)).heap.size = w1.heap.size + 1 by simp] at h
              exact h
            have HB2 := Lib.hid ((HB.out.alloc HB.out.size (.cells ((⟨s.k, s.p, (px, py), s.r⟩ : Sg)).cells 48)).alloc (by have := HB.out.size; simp; omega) (.cells ((⟨s.k, s.p, (px, py), s.r⟩ : Sg)).cells 48))
            refine (HREP.out _ _ HB2.out HNEW.out).mono ?_
            rintro e w2 ⟨v, rfl, ho, hb⟩
            have HO := Lib.hid (And.intro (owns_base ho HB2.out.size) (below_next HB2.out hb)); clear ho hb
            go_wp2_with fail
            refine (checked_own (HR.out.on HO.out.2) HO.out.1).mono ?_
            rintro e w3 ⟨u, rfl, ho, hb⟩
            have HP := Lib.hid (And.intro ho (below_next HO.out.2 hb)); clear ho hb
            go_wp2_with fail
            go_ret2
            exact ⟨_, rfl, HP.out⟩
          · have dA : decide (needI s.k = 0) = false := decide_eq_false (by have := hlt.out; omega)
            have dB : decide ((needI s.k : Int) ≤ 2) = false := decide_eq_false (by have := hlt.out; omega)
            go_enter Tryd.func18, Tryd.ntmps18
            go_wp2_with fail
            rw [show w.alloc (.cells #[.int .i64 px, .int .i64 py] 44) = w0 from HW0.out]
            refine HC.out.mono ?_
            rintro e w1 ⟨rfl, hb⟩
            have HB := Lib.hid (below_next HB0.out hb)
            have kp := HK.out.on hb HK.out.lt
            have HB1 : Hid (w.heap.size < w1.heap.size) := kp.lt
            clear hb
            have p0 := kp.cell 0
            have p1 := kp.cell 1
            simp only [List.getElem?_toArray, List.getElem?_cons_zero, List.getElem?_cons_succ] at p0 p1
            go_wp2_with fail
            refine (HH.out _).mono ?_
            rintro e w2 ⟨rfl, rfl⟩
            have hs := HPA.out.2.1.on HB.out HPA.out.1
            have c0 := hs.c0 hq
            have c1 := hs.c1 hq
            have c2 := hs.c2 hq
            have c3 := hs.c3 hq
            have c4 := hs.c4 hq
            have c5 := hs.c5 hq
            have c6 := hs.c6 hq
            clear hs
            go_wp2_with fail
            refine (HNE.out _ (HR.out.on HB.out)).mono ?_
            rintro e w2 ⟨rfl, rfl⟩
            have hne : w.heap.size ≠ w1.heap.size := by have := HB.out.size; have := HK.out.lt; have := HB1.out; omega
            have q0 : (w1.alloc (.cells (seven s.k s.p s.q s.r) 48)).cell? ⟨w.heap.size, 0, none⟩ = some (.int .i64 px) := (cell_below (Below.alloc (Below.refl w1.heap.size w1) (Nat.le_refl _) _) HB1.out).trans p0
            have q1 : (w1.alloc (.cells (seven s.k s.p s.q s.r) 48)).cell? ⟨w.heap.size, 1, none⟩ = some (.int .i64 py) := (cell_below (Below.alloc (Below.refl w1.heap.size w1) (Nat.le_refl _) _) HB1.out).trans p1
            have q2 : (w1.alloc (.cells (seven s.k s.p s.q s.r) 48)).cell? ⟨w.heap.size, 0 + 1, none⟩ = some (.int .i64 py) := q1
            go_wp2_with fail
            have HNEW : Hid (RowS ((w1.alloc (.cells ((⟨s.k, s.p, s.q, (px, py)⟩ : Sg)).cells 48)).alloc (.cells ((⟨s.k, s.p, s.q, (px, py)⟩ : Sg)).cells 48)) (.slice (some ⟨w1.heap.size + 1, 0, none⟩) 1 1) [s.put 2 (px, py)]) := by
              have h := RowS.new (w1.alloc (.cells ((⟨s.k, s.p, s.q, (px, py)⟩ : Sg)).cells 48)) [(⟨s.k, s.p, s.q, (px, py)⟩ : Sg)] ((⟨s.k, s.p, s.q, (px, py)⟩ : Sg)).cells 1 rfl rfl
              rw [show (w1.alloc (.cells ((⟨s.k, s.p, s.q, (px, py)⟩ : Sg)).cells 48)).heap.size = w1.heap.size + 1 by simp] at h
              exact h
            have HB2 := Lib.hid ((HB.out.alloc HB.out.size (.cells ((⟨s.k, s.p, s.q, (px, py)⟩ : Sg)).cells 48)).alloc (by have := HB.out.size; simp; omega) (.cells ((⟨s.k, s.p, s.q, (px, py)⟩ : Sg)).cells 48))
            refine (HREP.out _ _ HB2.out HNEW.out).mono ?_
            rintro e w2 ⟨v, rfl, ho, hb⟩
            have HO := Lib.hid (And.intro (owns_base ho HB2.out.size) (below_next HB2.out hb)); clear ho hb
            go_wp2_with fail
            refine (checked_own (HR.out.on HO.out.2) HO.out.1).mono ?_
            rintro e w3 ⟨u, rfl, ho, hb⟩
            have HP := Lib.hid (And.intro ho (below_next HO.out.2 hb)); clear ho hb
            go_wp2_with fail
            go_ret2
            exact ⟨_, rfl, HP.out⟩
  · have hX : putI l i j (px, py) = (z, []) := by unfold putI; rw [HZ.out.1, if_pos h0]
    rw [hX]
    have hz1 : (z != 0) = true := by simpa using h0
    clear hX h0 hb hn
    go_enter Tryd.func18, Tryd.ntmps18
    go_wp2_with fail
    rw [show w.alloc (.cells #[.int .i64 px, .int .i64 py] 44) = w0 from HW0.out]
    refine HC.out.mono ?_
    rintro e w1 ⟨rfl, hb⟩
    have HB := Lib.hid (below_next HB0.out hb)
    have kp := HK.out.on hb HK.out.lt
    have HB1 : Hid (w.heap.size < w1.heap.size) := kp.lt
    clear hb
    have p0 := kp.cell 0
    have p1 := kp.cell 1
    simp only [List.getElem?_toArray, List.getElem?_cons_zero, List.getElem?_cons_succ] at p0 p1
    go_wp2_with fail
    go_ret2
    exact ⟨_, rfl, OwnS.nil _ _ _, HB.out⟩
end Go.Proofs.YtffgpikhahpomaaDoor
