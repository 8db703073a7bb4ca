/- Layer 6: what is wrong with a segment. -/
import Derived.Test.YtbnbglngpgikfaaGreatDoorSb
namespace Go.Proofs.YtbnbglngpgikfaaGreatDoor
open Go.RowKit
def Sg.pts (s : Sg) : List Pt := [s.p, s.q, s.r]
def loopsI (n : Nat) (l : List Pt) : Int :=
  if ((l.drop n).any fun p => decide (p ≠ (0, 0))) = true then 33 else if ((l.take n).any fun p => !roomP p) = true then 30 else 0
/-- What is wrong with s behind x. -/
def faultI (x s : Sg) : Int := if (!isKindB s.k || (decide (s.k ≠ 1) && decide (x.k = 5))) = true then 33 else loopsI (needI s.k) s.pts
def frm (o n : Nat) : Nat := if n = 3 then o else o + n * 2
theorem slice_from (w : World) (g o n : Nat) (hn : n ≤ 3) : (Instr.sliceAt 51 (.pointer (some ⟨g, o, none⟩)) (some (.int .i64 (n : Int))) none none).run Tryz.prog w = .ok (.slice (some ⟨g, frm o n, none⟩) (3 - n) (3 - n)) w := by
  unfold frm
  rcases (by omega : n = 0 ∨ n = 1 ∨ n = 2 ∨ n = 3) with rfl | rfl | rfl | rfl
  · go_simp
  · go_simp
  · go_simp
  · go_simp
theorem slice_to (w : World) (g o n : Nat) (hn : n ≤ 3) : (Instr.sliceAt 51 (.pointer (some ⟨g, o, none⟩)) none (some (.int .i64 (n : Int))) none).run Tryz.prog w = .ok (.slice (some ⟨g, o, none⟩) n 3) w := by
  rcases (by omega : n = 0 ∨ n = 1 ∨ n = 2 ∨ n = 3) with rfl | rfl | rfl | rfl
  · go_simp
  · go_simp
  · go_simp
  · go_simp
theorem seven_pts {w : World} {g : Nat} {t : TypeId} {s : Sg} (h : Blk w g t s.cells) : PtsAt w g 1 s.pts := fun i a ha => by
  rw [h.cell, h.cell]
  match i, ha with
  | 0, ha => simp [Sg.pts] at ha; subst ha; exact ⟨rfl, rfl⟩
  | 1, ha => simp [Sg.pts] at ha; subst ha; exact ⟨rfl, rfl⟩
  | 2, ha => simp [Sg.pts] at ha; subst ha; exact ⟨rfl, rfl⟩
  | k + 3, ha => simp [Sg.pts] at ha
theorem PtsAt.drop {w : World} {g n : Nat} {l : List Pt} (h : PtsAt w g 1 l) (hl : l.length = 3) : PtsAt w g (frm 1 n) (l.drop n) := fun i a ha => by
  rw [List.getElem?_drop] at ha
  have hi : n + i < 3 := by have := (List.getElem?_eq_some_iff.1 ha).1; omega
  have := h (n + i) a ha
  unfold frm
  rw [if_neg (by omega), show 1 + n * 2 + i * 2 = 1 + (n + i) * 2 by omega]
  exact this
theorem PtsAt.take {w : World} {g o n : Nat} {l : List Pt} (h : PtsAt w g o l) : PtsAt w g o (l.take n) := fun i a ha => by
  rw [List.getElem?_take] at ha
  split at ha
  · exact h i a ha
  · cases ha
theorem any_some {l : List Pt} {f : Pt → Bool} {k : Nat} {p : Pt} (h : l[k]? = some p) (hf : f p = true) : l.any f = true := List.any_eq_true.2 ⟨p, List.mem_of_getElem? h, hf⟩
theorem any_take {l : List Pt} {f : Pt → Bool} {k : Nat} {p : Pt} (h0 : (l.take k).any f = false) (h : l[k]? = some p) (hf : f p = false) : (l.take (k + 1)).any f = false := by
  rw [List.take_add_one, h, List.any_append, h0]; simp [hf]
set_option maxHeartbeats 4000000 in
set_option maxRecDepth 100000 in
theorem fault_one (y : Sg) (p q r : Pt) (n : Nat) (w : World) (hn : n ≤ 3) (hr : Rd w)
    (HK : Hid (∀ w, Calls Tryz.prog 37 #[.int .i64 1] w fun e w' => e = .returned (.bool true) ∧ w = w'))
    (HN : Hid (∀ w, Rd w → Calls Tryz.prog 22 #[.int .i64 1] w fun e w' => e = .returned (.int .i64 (n : Nat)) ∧ w = w')) :
    Calls Tryz.prog 34 #[.agg (seven 1 p q r), .agg (seven y.k y.p y.q y.r)] w fun e w' => e = .returned (.int .i64 (loopsI n [p, q, r])) ∧ Below w.heap.size w w' := by
  have HR := Lib.hid hr
  have S1 := fun w g o => slice_from w g o n hn
  have S2 := fun w g o => slice_to w g o n hn
  have HN3 := Lib.hid hn
  have B0 : Hid (Blk ((w.alloc (.cells (seven 1 p q r) 53)).alloc (.cells (seven y.k y.p y.q y.r) 53)) w.heap.size 53 (Sg.mk 1 p q r).cells ∧ Below w.heap.size w ((w.alloc (.cells (seven 1 p q r) 53)).alloc (.cells (seven y.k y.p y.q y.r) 53))) := ⟨(Blk.new _ _ _).alloc _, ((Below.refl _ _).alloc (Nat.le_refl _) _).alloc (by simp) _⟩
  clear hr hn
  go_enter Tryz.func34, Tryz.ntmps34
  go_wp2_with fail
  refine (HK.out _).mono ?_
  rintro e w' ⟨rfl, rfl⟩
  go_wp2_with fail
  refine (HN.out _ (HR.out.on ?_)).mono ?_
  · go_grown
  rintro e w' ⟨rfl, rfl⟩
  go_wp2_with fail
  generalize (w.alloc (.cells (seven 1 p q r) 53)).alloc (.cells (seven y.k y.p y.q y.r) 53) = w2 at B0 ⊢
  go_loopw [31] (fun i wr => ∃ i0 : Nat, i0 ≤ 3 - n ∧ i = .int .i64 i0 ∧ Hid (Blk wr w.heap.size 53 (Sg.mk 1 p q r).cells ∧ Below w.heap.size w wr ∧ (([p, q, r].drop n).take i0).any (fun p => decide (p ≠ (0, 0))) = false)) (fun i _ => 3 - (intOf i).toNat)
  case atStart => exact ⟨0, by omega, rfl, B0.out.1, B0.out.2, rfl⟩
  case round =>
    obtain ⟨j, hj, rfl, hw⟩ := hrel
    by_cases hlt : j < 3 - n
    · have hd : decide ((j : Int) < ((3 - n : Nat) : Int)) = true := by simp; omega
      obtain ⟨⟨px, py⟩, hq⟩ : ∃ a, ([p, q, r].drop n)[j]? = some a := ⟨_, List.getElem?_eq_getElem (by simp; omega)⟩
      obtain ⟨c0, c1⟩ := (seven_pts hw.out.1).drop (n := n) rfl j (px, py) hq
      have HQ := Lib.hid hq
      clear hq
      simp only at c0 c1
      have RET : ((px, py) ≠ ((0, 0) : Pt)) → Hid (loopsI n [p, q, r] = 33) := fun hne => by
        unfold Hid loopsI
        rw [if_pos (any_some HQ.out (decide_eq_true hne))]
      have B3 := Lib.hid (hw.out.2.1.alloc hw.out.2.1.size (.cells #[.int .i64 px, .int .i64 py] 50))
      by_cases hx : px = 0
      · have e1 : (px == 0) = true := by simpa using hx
        by_cases hy : py = 0
        · have e2 : (py == 0) = true := by simpa using hy
          have NX : Hid ((([p, q, r].drop n).take (j + 1)).any (fun p => decide (p ≠ (0, 0))) = false) := by
            subst hx hy
            exact any_take hw.out.2.2 HQ.out (by simp)
          clear hx hy RET
          go_wp2_with fail
          exact ⟨⟨j + 1, by omega, by go_num, hw.out.1.alloc _, B3.out, NX.out⟩, by simp [intOf]; omega⟩
        · have e2 : (py == 0) = false := by simpa using hy
          have RT := RET (fun h => hy (by simpa using (congrArg Prod.snd h)))
          clear hx hy RET
          go_wp2_with fail
          go_ret
          exact ⟨by rw [RT.out]; rfl, B3.out⟩
      · have e1 : (px == 0) = false := by simpa using hx
        have RT := RET (fun h => hx (by simpa using (congrArg Prod.fst h)))
        clear hx RET
        go_wp2_with fail
        go_ret
        exact ⟨by rw [RT.out]; rfl, B3.out⟩
    · have hd : decide ((j : Int) < ((3 - n : Nat) : Int)) = false := by simp; omega
      have D : Hid (([p, q, r].drop n).any (fun p => decide (p ≠ (0, 0))) = false) := by
        have h := hw.out.2.2
        rw [List.take_of_length_le (by simp; omega)] at h
        exact h
      have L30 : Hid (∀ b, ([p, q, r].take n).any (fun p => !roomP p) = b → Hid (loopsI n [p, q, r] = if b = true then 30 else 0)) := fun b hb => by
        unfold Hid loopsI
        rw [D.out, hb]; rfl
      have W0 := Lib.hid (show Blk wr w.heap.size 53 (Sg.mk 1 p q r).cells ∧ Below w.heap.size w wr from ⟨hw.out.1, hw.out.2.1⟩)
      go_wp2_with fail
      clear hw hd hj
      generalize wr = w3 at W0 ⊢
      go_loopw [43] (fun i wr => ∃ i0 : Nat, i0 ≤ n ∧ i = .int .i64 i0 ∧ Hid (Blk wr w.heap.size 53 (Sg.mk 1 p q r).cells ∧ Below w.heap.size w wr ∧ (([p, q, r].take n).take i0).any (fun p => !roomP p) = false)) (fun i _ => n - (intOf i).toNat)
      case atStart => exact ⟨0, by omega, rfl, W0.out.1, W0.out.2, rfl⟩
      case round =>
        obtain ⟨i, hi, rfl, hw⟩ := hrel
        by_cases hlt : i < n
        · have hd : decide ((i : Int) < (n : Int)) = true := by simp; omega
          have hn3 := HN3.out
          obtain ⟨⟨px, py⟩, hq⟩ : ∃ a, ([p, q, r].take n)[i]? = some a := ⟨_, List.getElem?_eq_getElem (by simp; omega)⟩
          obtain ⟨c0, c1⟩ := (seven_pts hw.out.1).take (n := n) i (px, py) hq
          have HQ := Lib.hid hq
          clear hq
          simp only at c0 c1
          have B3 := Lib.hid (hw.out.2.1.alloc hw.out.2.1.size (.cells #[.int .i64 px, .int .i64 py] 50))
          have K3 := Lib.hid (hw.out.1.alloc (.cells #[.int .i64 px, .int .i64 py] 50))
          have HP := Lib.hid (ptIn_c px py)
          obtain ⟨rm, hrm⟩ : ∃ b, (room px && room py) = b := ⟨_, rfl⟩
          rw [hrm] at HP
          have HRM : Hid (roomP (px, py) = rm) := hrm
          clear hrm
          go_wp2_with fail
          refine (HP.out _).mono ?_
          rintro e w4 ⟨rfl, hb⟩
          have B4 := Lib.hid (B3.out.trans (hb.mono B3.out.size))
          have K4 := Lib.hid (K3.out.grow hb)
          clear hb
          cases rm
          · have RT := L30.out true (any_some HQ.out (by rw [HRM.out]; rfl))
            go_wp2_with fail
            go_ret
            exact ⟨by rw [RT.out]; rfl, B4.out⟩
          · have NX : Hid ((([p, q, r].take n).take (i + 1)).any (fun p => !roomP p) = false) := any_take hw.out.2.2 HQ.out (by rw [HRM.out]; rfl)
            go_wp2_with fail
            exact ⟨⟨i + 1, by omega, by go_num, K4.out, B4.out, NX.out⟩, by simp [intOf]; omega⟩
        · have hd : decide ((i : Int) < (n : Int)) = false := by simp; omega
          have RT := L30.out false (by
            have h := hw.out.2.2
            have hn3 := HN3.out
            rw [List.take_of_length_le (by simp; omega)] at h
            exact h)
          go_wp2_with fail
          go_ret
          exact ⟨by rw [RT.out]; rfl, hw.out.2.1⟩
set_option maxHeartbeats 4000000 in
set_option maxRecDepth 100000 in
theorem fault_other (y : Sg) (k : Int) (h1 : (k != 1) = true) (h5 : (y.k == 5) = false) (p q r : Pt) (n : Nat) (w : World) (hn : n ≤ 3) (hr : Rd w)
    (HK : Hid (∀ w, Calls Tryz.prog 37 #[.int .i64 k] w fun e w' => e = .returned (.bool true) ∧ w = w'))
    (HN : Hid (∀ w, Rd w → Calls Tryz.prog 22 #[.int .i64 k] w fun e w' => e = .returned (.int .i64 (n : Nat)) ∧ w = w')) :
    Calls Tryz.prog 34 #[.agg (seven k p q r), .agg (seven y.k y.p y.q y.r)] w fun e w' => e = .returned (.int .i64 (loopsI n [p, q, r])) ∧ Below w.heap.size w w' := by
  have HR := Lib.hid hr
  have S1 := fun w g o => slice_from w g o n hn
  have S2 := fun w g o => slice_to w g o n hn
  have HN3 := Lib.hid hn
  have B0 : Hid (Blk ((w.alloc (.cells (seven k p q r) 53)).alloc (.cells (seven y.k y.p y.q y.r) 53)) w.heap.size 53 (Sg.mk k p q r).cells ∧ Below w.heap.size w ((w.alloc (.cells (seven k p q r) 53)).alloc (.cells (seven y.k y.p y.q y.r) 53))) := ⟨(Blk.new _ _ _).alloc _, ((Below.refl _ _).alloc (Nat.le_refl _) _).alloc (by simp) _⟩
  clear hr hn
  go_enter Tryz.func34, Tryz.ntmps34
  go_wp2_with fail
  refine (HK.out _).mono ?_
  rintro e w' ⟨rfl, rfl⟩
  go_wp2_with fail
  refine (HN.out _ (HR.out.on ?_)).mono ?_
  · go_grown
  rintro e w' ⟨rfl, rfl⟩
  go_wp2_with fail
  generalize (w.alloc (.cells (seven k p q r) 53)).alloc (.cells (seven y.k y.p y.q y.r) 53) = w2 at B0 ⊢
  go_loopw [31] (fun i wr => ∃ i0 : Nat, i0 ≤ 3 - n ∧ i = .int .i64 i0 ∧ Hid (Blk wr w.heap.size 53 (Sg.mk k p q r).cells ∧ Below w.heap.size w wr ∧ (([p, q, r].drop n).take i0).any (fun p => decide (p ≠ (0, 0))) = false)) (fun i _ => 3 - (intOf i).toNat)
  case atStart => exact ⟨0, by omega, rfl, B0.out.1, B0.out.2, rfl⟩
  case round =>
    obtain ⟨j, hj, rfl, hw⟩ := hrel
    by_cases hlt : j < 3 - n
    · have hd : decide ((j : Int) < ((3 - n : Nat) : Int)) = true := by simp; omega
      obtain ⟨⟨px, py⟩, hq⟩ : ∃ a, ([p, q, r].drop n)[j]? = some a := ⟨_, List.getElem?_eq_getElem (by simp; omega)⟩
      obtain ⟨c0, c1⟩ := (seven_pts hw.out.1).drop (n := n) rfl j (px, py) hq
      have HQ := Lib.hid hq
      clear hq
      simp only at c0 c1
      have RET : ((px, py) ≠ ((0, 0) : Pt)) → Hid (loopsI n [p, q, r] = 33) := fun hne => by
        unfold Hid loopsI
        rw [if_pos (any_some HQ.out (decide_eq_true hne))]
      have B3 := Lib.hid (hw.out.2.1.alloc hw.out.2.1.size (.cells #[.int .i64 px, .int .i64 py] 50))
      by_cases hx : px = 0
      · have e1 : (px == 0) = true := by simpa using hx
        by_cases hy : py = 0
        · have e2 : (py == 0) = true := by simpa using hy
          have NX : Hid ((([p, q, r].drop n).take (j + 1)).any (fun p => decide (p ≠ (0, 0))) = false) := by
            subst hx hy
            exact any_take hw.out.2.2 HQ.out (by simp)
          clear hx hy RET
          go_wp2_with fail
          exact ⟨⟨j + 1, by omega, by go_num, hw.out.1.alloc _, B3.out, NX.out⟩, by simp [intOf]; omega⟩
        · have e2 : (py == 0) = false := by simpa using hy
          have RT := RET (fun h => hy (by simpa using (congrArg Prod.snd h)))
          clear hx hy RET
          go_wp2_with fail
          go_ret
          exact ⟨by rw [RT.out]; rfl, B3.out⟩
      · have e1 : (px == 0) = false := by simpa using hx
        have RT := RET (fun h => hx (by simpa using (congrArg Prod.fst h)))
        clear hx RET
        go_wp2_with fail
        go_ret
        exact ⟨by rw [RT.out]; rfl, B3.out⟩
    · have hd : decide ((j : Int) < ((3 - n : Nat) : Int)) = false := by simp; omega
      have D : Hid (([p, q, r].drop n).any (fun p => decide (p ≠ (0, 0))) = false) := by
        have h := hw.out.2.2
        rw [List.take_of_length_le (by simp; omega)] at h
        exact h
      have L30 : Hid (∀ b, ([p, q, r].take n).any (fun p => !roomP p) = b → Hid (loopsI n [p, q, r] = if b = true then 30 else 0)) := fun b hb => by
        unfold Hid loopsI
        rw [D.out, hb]; rfl
      have W0 := Lib.hid (show Blk wr w.heap.size 53 (Sg.mk k p q r).cells ∧ Below w.heap.size w wr from ⟨hw.out.1, hw.out.2.1⟩)
      go_wp2_with fail
      clear hw hd hj
      generalize wr = w3 at W0 ⊢
      go_loopw [43] (fun i wr => ∃ i0 : Nat, i0 ≤ n ∧ i = .int .i64 i0 ∧ Hid (Blk wr w.heap.size 53 (Sg.mk k p q r).cells ∧ Below w.heap.size w wr ∧ (([p, q, r].take n).take i0).any (fun p => !roomP p) = false)) (fun i _ => n - (intOf i).toNat)
      case atStart => exact ⟨0, by omega, rfl, W0.out.1, W0.out.2, rfl⟩
      case round =>
        obtain ⟨i, hi, rfl, hw⟩ := hrel
        by_cases hlt : i < n
        · have hd : decide ((i : Int) < (n : Int)) = true := by simp; omega
          have hn3 := HN3.out
          obtain ⟨⟨px, py⟩, hq⟩ : ∃ a, ([p, q, r].take n)[i]? = some a := ⟨_, List.getElem?_eq_getElem (by simp; omega)⟩
          obtain ⟨c0, c1⟩ := (seven_pts hw.out.1).take (n := n) i (px, py) hq
          have HQ := Lib.hid hq
          clear hq
          simp only at c0 c1
          have B3 := Lib.hid (hw.out.2.1.alloc hw.out.2.1.size (.cells #[.int .i64 px, .int .i64 py] 50))
          have K3 := Lib.hid (hw.out.1.alloc (.cells #[.int .i64 px, .int .i64 py] 50))
          have HP := Lib.hid (ptIn_c px py)
          obtain ⟨rm, hrm⟩ : ∃ b, (room px && room py) = b := ⟨_, rfl⟩
          rw [hrm] at HP
          have HRM : Hid (roomP (px, py) = rm) := hrm
          clear hrm
          go_wp2_with fail
          refine (HP.out _).mono ?_
          rintro e w4 ⟨rfl, hb⟩
          have B4 := Lib.hid (B3.out.trans (hb.mono B3.out.size))
          have K4 := Lib.hid (K3.out.grow hb)
          clear hb
          cases rm
          · have RT := L30.out true (any_some HQ.out (by rw [HRM.out]; rfl))
            go_wp2_with fail
            go_ret
            exact ⟨by rw [RT.out]; rfl, B4.out⟩
          · have NX : Hid ((([p, q, r].take n).take (i + 1)).any (fun p => !roomP p) = false) := any_take hw.out.2.2 HQ.out (by rw [HRM.out]; rfl)
            go_wp2_with fail
            exact ⟨⟨i + 1, by omega, by go_num, K4.out, B4.out, NX.out⟩, by simp [intOf]; omega⟩
        · have hd : decide ((i : Int) < (n : Int)) = false := by simp; omega
          have RT := L30.out false (by
            have h := hw.out.2.2
            have hn3 := HN3.out
            rw [List.take_of_length_le (by simp; omega)] at h
            exact h)
          go_wp2_with fail
          go_ret
          exact ⟨by rw [RT.out]; rfl, hw.out.2.1⟩
set_option maxHeartbeats 1000000 in
theorem fault_kind (k : Int) (p q r : Pt) (y : Sg) (w : World) (HK : Hid (∀ w, Calls Tryz.prog 37 #[.int .i64 k] w fun e w' => e = .returned (.bool false) ∧ w = w')) :
    Calls Tryz.prog 34 #[.agg (seven k p q r), .agg (seven y.k y.p y.q y.r)] w fun e w' => e = .returned (.int .i64 33) ∧ Below w.heap.size w w' := by
  go_enter Tryz.func34, Tryz.ntmps34
  go_wp2_with fail
  refine (HK.out _).mono ?_
  rintro e w' ⟨rfl, rfl⟩
  go_wp2_with fail
  go_ret
  exact ⟨rfl, by go_grown⟩
set_option maxHeartbeats 1000000 in
theorem fault_shut (k : Int) (h1 : (k != 1) = true) (p q r p' q' r' : Pt) (w : World) (HK : Hid (∀ w, Calls Tryz.prog 37 #[.int .i64 k] w fun e w' => e = .returned (.bool true) ∧ w = w')) :
    Calls Tryz.prog 34 #[.agg (seven k p q r), .agg (seven 5 p' q' r')] w fun e w' => e = .returned (.int .i64 33) ∧ Below w.heap.size w w' := by
  go_enter Tryz.func34, Tryz.ntmps34
  go_wp2_with fail
  refine (HK.out _).mono ?_
  rintro e w' ⟨rfl, rfl⟩
  go_wp2_with fail
  go_ret
  exact ⟨rfl, by go_grown⟩
theorem fault_c (x s : Sg) (w : World) (hr : Rd w) : Calls Tryz.prog 34 #[.agg s.cells, .agg x.cells] w fun e w' => e = .returned (.int .i64 (faultI x s)) ∧ Below w.heap.size w w' := by
  obtain ⟨k, p, q, r⟩ := s
  have HK := Lib.hid (isKind_c k)
  have HN := Lib.hid (need_c k)
  have hn := needI_le k
  cases hk : isKindB k with
  | false =>
    rw [hk] at HK
    have e : faultI x ⟨k, p, q, r⟩ = 33 := by simp [faultI, hk]
    rw [e]
    exact fault_kind k p q r x w HK
  | true =>
    rw [hk] at HK
    by_cases h1 : k = 1
    · subst h1
      have e : faultI x ⟨1, p, q, r⟩ = loopsI (needI 1) [p, q, r] := by simp [faultI, hk, Sg.pts]
      rw [e]
      exact fault_one x p q r (needI 1) w hn hr HK HN
    · by_cases h5 : x.k = 5
      · have e : faultI x ⟨k, p, q, r⟩ = 33 := by simp [faultI, h1, h5]
        rw [e]
        obtain ⟨xk, xp, xq, xr⟩ := x
        obtain rfl : xk = 5 := h5
        exact fault_shut k (bne_iff_ne.2 h1) p q r xp xq xr w HK
      · have e : faultI x ⟨k, p, q, r⟩ = loopsI (needI k) [p, q, r] := by simp [faultI, hk, Sg.pts, h5]
        rw [e]
        exact fault_other x k (bne_iff_ne.2 h1) (by simpa using h5) p q r (needI k) w hn hr HK HN
end Go.Proofs.YtbnbglngpgikfaaGreatDoor

