/- Layer 6: the document's Check. -/
import Derived.Test.YtbnbglngpgikfaaGreatDoorSd
namespace Go.Proofs.YtbnbglngpgikfaaGreatDoor
open Go.RowKit
theorem rcheck_many (ao : Option Addr) (n c : Nat) (w : World) (hn : 4096 < n) : Calls Tryz.prog 10 #[.slice ao n c] w fun e w' => e = .returned (.int .i64 36) ∧ Below w.heap.size w w' := by
  have hd : decide ((n : Int) > 4096) = true := decide_eq_true (by omega)
  clear hn
  go_enter Tryz.func10, Tryz.ntmps10
  go_wp2_with fail
  go_ret
  exact ⟨rfl, Below.refl _ _⟩
theorem pts_at0 (s : Sg) : s.pts[0]? = some s.p := rfl
theorem pts_at1 (s : Sg) : s.pts[1]? = some s.q := rfl
theorem pts_at2 (s : Sg) : s.pts[2]? = some s.r := rfl
/-- The unneeded points, from behind. -/
def tailZ (s : Sg) (m : Nat) : Prop := ∀ i p, 3 - m ≤ i → s.pts[i]? = some p → p = (0, 0)
theorem tailZ_zero (s : Sg) : tailZ s 0 := fun i p h hp => by
  have := (List.getElem?_eq_some_iff.1 hp).1
  simp [Sg.pts] at this
  omega
theorem tailZ_succ {s : Sg} {m : Nat} {p : Pt} (h : tailZ s m) (hm : m < 3) (hp : s.pts[2 - m]? = some p) (hz : p = (0, 0)) : tailZ s (m + 1) := fun i q hi hq => by
  by_cases e : i = 2 - m
  · subst e; rw [hp] at hq; cases hq; exact hz
  · exact h i q (by omega) hq
theorem tailZ_done {s : Sg} {n : Nat} (hn : n ≤ 3) (h : tailZ s (3 - n)) : (s.pts.drop n).any (fun p => decide (p ≠ (0, 0))) = false := by
  rw [List.any_eq_false]
  intro p hp
  obtain ⟨i, hi⟩ := List.mem_iff_getElem?.1 hp
  rw [List.getElem?_drop] at hi
  have := h (n + i) p (by omega) hi
  simp [this]
theorem tail_bad {s : Sg} {n i : Nat} {p : Pt} (h : s.pts[i]? = some p) (hi : n ≤ i) (hp : p ≠ (0, 0)) : (s.pts.drop n).any (fun p => decide (p ≠ (0, 0))) = true :=
  List.any_eq_true.2 ⟨p, List.mem_iff_getElem?.2 ⟨i - n, by rw [List.getElem?_drop, show n + (i - n) = i by omega]; exact h⟩, decide_eq_true hp⟩
theorem fault_bad {x s : Sg} (h0 : (!isKindB s.k || (decide (s.k ≠ 1) && decide (x.k = 5))) = false) : faultI x s = loopsI (needI s.k) s.pts := by
  unfold faultI; rw [h0]; rfl
theorem refIn_w (x : Int) (w : World) : Calls Tryz.prog 25 #[.int .i64 x] w fun e w' => e = .returned (.bool (room x)) ∧ w = w' := refIn_c x w
theorem go_bad {l : List Sg} {k : Nat} {s : Sg} {z : Int} (hg : goI shut0 l = goI (aheadL l k) (l.drop k)) (hq : l[k]? = some s) (h : faultI (aheadL l k) s = z ∧ z ≠ 0) : goI shut0 l = z := by
  rw [hg, drop_at hq]
  simp only [goI]
  rw [if_neg (by rw [h.1]; exact h.2), h.1]
theorem kind_bad {x s : Sg} (h : isKindB s.k = false) : faultI x s = 33 ∧ (33 : Int) ≠ 0 := ⟨by simp [faultI, h], by decide⟩
theorem shut_bad {x s : Sg} (h : s.k ≠ 1) (h5 : x.k = 5) : faultI x s = 33 ∧ (33 : Int) ≠ 0 := ⟨by simp [faultI, h, h5], by decide⟩
set_option maxHeartbeats 8000000 in
set_option maxRecDepth 100000 in
theorem rcheck_walk (b o c N : Nat) (l : List Sg) (w : World) (hn : l.length = N) (hN : N ≤ 4096) (hb : b < w.heap.size) (hs : SegsAt w b o l) (hl0 : 0 < N) :
    Calls Tryz.prog 10 #[.slice (some ⟨b, o, none⟩) N c] w fun e w' => e = .returned (.int .i64 (goI shut0 l)) ∧ Below w.heap.size w w' := by
  have hd : decide ((N : Int) > 4096) = false := decide_eq_false (by omega)
  have HNL := Lib.hid hn
  have HNN := Lib.hid hN
  have HB := Lib.hid hb
  have HS := Lib.hid hs
  clear hn hN hb hs hl0
  go_enter Tryz.func10, Tryz.ntmps10
  go_wp2_with fail
  go_loopw [3] (fun i wr => ∃ k : Nat, k ≤ N ∧ i = .int .i64 k ∧ Hid (Below w.heap.size w wr ∧ goI shut0 l = goI (aheadL l k) (l.drop k))) (fun i _ => N - (intOf i).toNat)
  case atStart => exact ⟨0, by omega, rfl, Below.refl _ _, rfl⟩
  case round =>
    obtain ⟨K, hk, rfl, hw⟩ := hrel
    obtain ⟨w2, rfl⟩ : ∃ x, x = wr := ⟨_, rfl⟩
    by_cases hlt : K < N
    · have hd3 : decide ((K : Int) < (N : Int)) = true := decide_eq_true (by omega)
      have hNN := HNN.out
      have hwK : wrap64 ((K : Int) + 1) = ((K + 1 : Nat) : Int) := by rw [wrapR _ (by omega) (by omega)]; omega
      obtain ⟨s, hq⟩ : ∃ s, l[K]? = some s := ⟨_, List.getElem?_eq_getElem (by rw [HNL.out]; exact hlt)⟩
      have hs' := HS.out.on hw.out.1 HB.out
      have c0 := hs'.c0 hq
      have c1 := hs'.c1 hq
      have c2 := hs'.c2 hq
      have c3 := hs'.c3 hq
      have c4 := hs'.c4 hq
      have c5 := hs'.c5 hq
      have c6 := hs'.c6 hq
      have HQ := Lib.hid hq
      have HG := Lib.hid hw.out.2
      have B1 : Hid (Below w.heap.size w (w2.alloc (.cells s.cells 48))) := hw.out.1.alloc hw.out.1.size _
      have K1 : Hid (Blk (w2.alloc (.cells s.cells 48)) w2.heap.size 48 s.cells) := Blk.new _ _ _
      obtain ⟨n, hnk⟩ : ∃ n, needI s.k = n := ⟨_, rfl⟩
      have HN : Hid (∀ w, Calls Tryz.prog 21 #[.int .i64 s.k] w fun e w' => e = .returned (.int .i64 (n : Nat)) ∧ w = w') := fun w => hnk ▸ refNeed_c s.k w
      have HNK := Lib.hid hnk
      have HN3 : Hid (n ≤ 3) := hnk ▸ needI_le s.k
      clear hq hnk
      by_cases h1 : s.k < 1
      · have b1 : decide (s.k < 1) = true := decide_eq_true h1
        have HKB : Hid (isKindB s.k = false) := by unfold Hid; simp [isKindB]; omega
        clear h1 hs'
        have RT : Hid (goI shut0 l = 33) := go_bad HG.out HQ.out (kind_bad HKB.out)
        go_wp2_with fail
        go_ret
        exact ⟨by rw [RT.out]; rfl, B1.out⟩
      have b1 : decide (s.k < 1) = false := decide_eq_false h1
      by_cases h5 : s.k > 5
      · have b2 : decide (s.k > 5) = true := decide_eq_true h5
        have HKB : Hid (isKindB s.k = false) := by unfold Hid; simp [isKindB]; omega
        clear h1 h5 hs'
        have RT : Hid (goI shut0 l = 33) := go_bad HG.out HQ.out (kind_bad HKB.out)
        go_wp2_with fail
        go_ret
        exact ⟨by rw [RT.out]; rfl, B1.out⟩
      have b2 : decide (s.k > 5) = false := decide_eq_false h5
      have HKB : Hid (isKindB s.k = true) := by unfold Hid; simp [isKindB]; omega
      clear h1 h5
      by_cases hk1 : s.k = 1
      · have b3 : (s.k != 1) = false := by simpa using hk1
        have HF : Hid ((!isKindB s.k || (decide (s.k ≠ 1) && decide ((aheadL l K).k = 5))) = false) := by unfold Hid; rw [HKB.out]; simp [hk1]
        clear hk1 hs'
        have HL : Hid (goI shut0 l = if loopsI n s.pts = 0 then goI s (l.drop (K + 1)) else loopsI n s.pts) := by
          unfold Hid
          rw [HG.out, drop_at HQ.out]
          simp only [goI]
          rw [fault_bad HF.out, HNK.out]
        go_wp2_with fail
        go_loopw [5] (fun j wr => ∃ m : Nat, m ≤ 3 - n ∧ j = .int .i64 (2 - (m : Int)) ∧ Hid (Blk wr w2.heap.size 48 s.cells ∧ Below w.heap.size w wr ∧ tailZ s m)) (fun j _ => (intOf j + 1).toNat)
        case atStart => exact ⟨0, by omega, rfl, K1.out, B1.out, tailZ_zero s⟩
        case round =>
          obtain ⟨m, hm, rfl, hx⟩ := hrel
          have d0 := hx.out.1.s0
          have d1 := hx.out.1.s1
          have d2 := hx.out.1.s2
          have d3 := hx.out.1.s3
          have d4 := hx.out.1.s4
          have d5 := hx.out.1.s5
          have d6 := hx.out.1.s6
          have HM := Lib.hid hm
          clear hm
          by_cases hlt : m < 3 - n
          · have hd5 : decide ((2 - (m : Int)) ≥ (n : Int)) = true := decide_eq_true (by omega)
            have hm3 : m = 0 ∨ m = 1 ∨ m = 2 := by omega
            have HLT := Lib.hid hlt
            have hn3 := HN3.out
            clear hlt
            rcases hm3 with rfl | rfl | rfl
            · have HP := Lib.hid (pts_at2 s)
              have hd5 : decide ((2 : Int) ≥ (n : Int)) = true := decide_eq_true (by have := HLT.out; omega)
              go_wp2_with fail
              refine (HN.out _).mono ?_
              rintro e w4 ⟨rfl, rfl⟩
              by_cases hx1 : s.r.1 = 0
              · have e1 : (s.r.1 != 0) = false := by simpa using hx1
                by_cases hy1 : s.r.2 = 0
                · have e2 : (s.r.2 != 0) = false := by simpa using hy1
                  have NX : Hid (tailZ s (0 + 1)) := tailZ_succ hx.out.2.2 (by omega) HP.out (Prod.ext hx1 hy1)
                  clear hx1 hy1
                  go_wp2_with fail
                  have hl := HLT.out
                  exact ⟨⟨0 + 1, by omega, by simp, hx.out.1, hx.out.2.1, NX.out⟩, by simp [intOf]⟩
                · have e2 : (s.r.2 != 0) = true := by simpa using hy1
                  have hl := HLT.out
                  have RT : Hid (goI shut0 l = 33) := by
                    unfold Hid
                    rw [HL.out]
                    have e : loopsI n s.pts = 33 := by unfold loopsI; rw [if_pos (tail_bad HP.out (by omega) (fun h => hy1 (by rw [h])))]
                    rw [e]; rfl
                  clear hx1 hy1
                  go_wp2_with fail
                  go_ret
                  exact ⟨by rw [RT.out]; rfl, hx.out.2.1⟩
              · have e1 : (s.r.1 != 0) = true := by simpa using hx1
                have hl := HLT.out
                have RT : Hid (goI shut0 l = 33) := by
                  unfold Hid
                  rw [HL.out]
                  have e : loopsI n s.pts = 33 := by unfold loopsI; rw [if_pos (tail_bad HP.out (by omega) (fun h => hx1 (by rw [h])))]
                  rw [e]; rfl
                clear hx1
                go_wp2_with fail
                go_ret
                exact ⟨by rw [RT.out]; rfl, hx.out.2.1⟩
            · have HP := Lib.hid (pts_at1 s)
              have hd5 : decide ((1 : Int) ≥ (n : Int)) = true := decide_eq_true (by have := HLT.out; omega)
              go_wp2_with fail
              refine (HN.out _).mono ?_
              rintro e w4 ⟨rfl, rfl⟩
              by_cases hx1 : s.q.1 = 0
              · have e1 : (s.q.1 != 0) = false := by simpa using hx1
                by_cases hy1 : s.q.2 = 0
                · have e2 : (s.q.2 != 0) = false := by simpa using hy1
                  have NX : Hid (tailZ s (1 + 1)) := tailZ_succ hx.out.2.2 (by omega) HP.out (Prod.ext hx1 hy1)
                  clear hx1 hy1
                  go_wp2_with fail
                  have hl := HLT.out
                  exact ⟨⟨1 + 1, by omega, by simp, hx.out.1, hx.out.2.1, NX.out⟩, by simp [intOf]⟩
                · have e2 : (s.q.2 != 0) = true := by simpa using hy1
                  have hl := HLT.out
                  have RT : Hid (goI shut0 l = 33) := by
                    unfold Hid
                    rw [HL.out]
                    have e : loopsI n s.pts = 33 := by unfold loopsI; rw [if_pos (tail_bad HP.out (by omega) (fun h => hy1 (by rw [h])))]
                    rw [e]; rfl
                  clear hx1 hy1
                  go_wp2_with fail
                  go_ret
                  exact ⟨by rw [RT.out]; rfl, hx.out.2.1⟩
              · have e1 : (s.q.1 != 0) = true := by simpa using hx1
                have hl := HLT.out
                have RT : Hid (goI shut0 l = 33) := by
                  unfold Hid
                  rw [HL.out]
                  have e : loopsI n s.pts = 33 := by unfold loopsI; rw [if_pos (tail_bad HP.out (by omega) (fun h => hx1 (by rw [h])))]
                  rw [e]; rfl
                clear hx1
                go_wp2_with fail
                go_ret
                exact ⟨by rw [RT.out]; rfl, hx.out.2.1⟩
            · have HP := Lib.hid (pts_at0 s)
              obtain rfl : n = 0 := by have := HLT.out; omega
              go_wp2_with fail
              refine (HN.out _).mono ?_
              rintro e w4 ⟨rfl, rfl⟩
              by_cases hx1 : s.p.1 = 0
              · have e1 : (s.p.1 != 0) = false := by simpa using hx1
                by_cases hy1 : s.p.2 = 0
                · have e2 : (s.p.2 != 0) = false := by simpa using hy1
                  have NX : Hid (tailZ s (2 + 1)) := tailZ_succ hx.out.2.2 (by omega) HP.out (Prod.ext hx1 hy1)
                  clear hx1 hy1
                  go_wp2_with fail
                  have hl := HLT.out
                  exact ⟨⟨2 + 1, by omega, by simp, hx.out.1, hx.out.2.1, NX.out⟩, by simp [intOf]⟩
                · have e2 : (s.p.2 != 0) = true := by simpa using hy1
                  have hl := HLT.out
                  have RT : Hid (goI shut0 l = 33) := by
                    unfold Hid
                    rw [HL.out]
                    have e : loopsI 0 s.pts = 33 := by unfold loopsI; rw [if_pos (tail_bad HP.out (by omega) (fun h => hy1 (by rw [h])))]
                    rw [e]; rfl
                  clear hx1 hy1
                  go_wp2_with fail
                  go_ret
                  exact ⟨by rw [RT.out]; rfl, hx.out.2.1⟩
              · have e1 : (s.p.1 != 0) = true := by simpa using hx1
                have hl := HLT.out
                have RT : Hid (goI shut0 l = 33) := by
                  unfold Hid
                  rw [HL.out]
                  have e : loopsI 0 s.pts = 33 := by unfold loopsI; rw [if_pos (tail_bad HP.out (by omega) (fun h => hx1 (by rw [h])))]
                  rw [e]; rfl
                clear hx1
                go_wp2_with fail
                go_ret
                exact ⟨by rw [RT.out]; rfl, hx.out.2.1⟩
          · have hd5 : decide ((2 - (m : Int)) ≥ (n : Int)) = false := decide_eq_false (by have := HN3.out; omega)
            have D : Hid ((s.pts.drop n).any (fun p => decide (p ≠ (0, 0))) = false) := by
              have hm := HM.out
              have h3 : m = 3 - n := by omega
              exact tailZ_done HN3.out (h3 ▸ hx.out.2.2)
            have L30 : Hid (∀ b, (s.pts.take n).any (fun p => !roomP p) = b → loopsI n s.pts = if b = true then 30 else 0) := fun b hb => by
              unfold loopsI
              rw [D.out, hb]; rfl
            have W0 := Lib.hid (show Blk wr w2.heap.size 48 s.cells ∧ Below w.heap.size w wr from ⟨hx.out.1, hx.out.2.1⟩)
            clear hlt
            go_wp2_with fail
            refine (HN.out _).mono ?_
            rintro e w4 ⟨rfl, rfl⟩
            go_wp2_with fail
            clear hx hd5 HM d0 d1 d2 d3 d4 d5 d6
            generalize wr = w3 at W0 ⊢
            go_loopw [6] (fun j wr => ∃ m : Nat, m ≤ n ∧ j = .int .i64 m ∧ Hid (wr = w3 ∧ (s.pts.take n |>.take m).any (fun p => !roomP p) = false)) (fun j _ => n - (intOf j).toNat)
            case atStart => exact ⟨0, by omega, rfl, rfl, rfl⟩
            case round =>
              obtain ⟨m, hm, rfl, hx⟩ := hrel
              obtain rfl := hx.out.1.symm
              have d0 := W0.out.1.s0
              by_cases hlt : m < n
              · have hd6 : decide ((m : Int) < (n : Int)) = true := decide_eq_true (by omega)
                have hn3 := HN3.out
                obtain ⟨⟨px, py⟩, hq⟩ : ∃ a, (s.pts.take n)[m]? = some a := ⟨_, List.getElem?_eq_getElem (by simp [Sg.pts]; omega)⟩
                obtain ⟨c0, c1⟩ := (seven_pts W0.out.1).take (n := n) m (px, py) hq
                have HQ2 := Lib.hid hq
                have HPX := Lib.hid (refIn_c px)
                have HPY := Lib.hid (refIn_c py)
                have hm3 : m < 3 := by omega
                have hwm : wrap64 ((m : Int) + 1) = ((m + 1 : Nat) : Int) := by rw [wrapR _ (by omega) (by omega)]; omega
                clear hq
                simp only at c0 c1
                obtain ⟨rx, hrx⟩ : ∃ b, room px = b := ⟨_, rfl⟩
                obtain ⟨ry, hry⟩ : ∃ b, room py = b := ⟨_, rfl⟩
                rw [hrx] at HPX
                rw [hry] at HPY
                have HRM : Hid (roomP (px, py) = (rx && ry)) := by unfold Hid roomP; rw [hrx, hry]
                clear hrx hry
                go_wp2_with fail
                refine (HN.out _).mono ?_
                rintro e w4 ⟨rfl, rfl⟩
                go_wp2_with fail
                refine (HPX.out _).mono ?_
                rintro e w4 ⟨rfl, rfl⟩
                cases rx
                · have RT : Hid (goI shut0 l = 30) := by
                    unfold Hid
                    rw [HL.out, L30.out true (any_some HQ2.out (by rw [HRM.out]; rfl))]; rfl
                  go_wp2_with fail
                  go_ret
                  exact ⟨by rw [RT.out]; rfl, W0.out.2⟩
                · go_wp2_with fail
                  refine (HPY.out _).mono ?_
                  rintro e w4 ⟨rfl, rfl⟩
                  cases ry
                  · have RT : Hid (goI shut0 l = 30) := by
                      unfold Hid
                      rw [HL.out, L30.out true (any_some HQ2.out (by rw [HRM.out]; rfl))]; rfl
                    go_wp2_with fail
                    go_ret
                    exact ⟨by rw [RT.out]; rfl, W0.out.2⟩
                  · have NX : Hid (((s.pts.take n).take (m + 1)).any (fun p => !roomP p) = false) := any_take hx.out.2 HQ2.out (by rw [HRM.out]; rfl)
                    go_wp2_with fail
                    exact ⟨⟨m + 1, by omega, by simp, by first | exact rfl | trivial, NX.out⟩, by simp [intOf]; omega⟩
              · have hd6 : decide ((m : Int) < (n : Int)) = false := decide_eq_false (by omega)
                have NX : Hid (goI shut0 l = goI s (l.drop (K + 1))) := by
                  unfold Hid
                  have h := hx.out.2
                  have hn3 := HN3.out
                  rw [List.take_of_length_le (by simp; omega)] at h
                  rw [HL.out, L30.out false h]; rfl
                go_wp2_with fail
                refine (HN.out _).mono ?_
                rintro e w4 ⟨rfl, rfl⟩
                go_wp2_with fail
                exact ⟨⟨K + 1, by omega, by simp, W0.out.2, by rw [NX.out, aheadL_succ HQ.out]⟩, by simp [intOf]; omega⟩
      · have b3 : (s.k != 1) = true := by simpa using hk1
        have HK1 := Lib.hid hk1
        clear hk1
        by_cases hK0 : K = 0
        · have b4 : ((K : Int) == 0) = true := by simp [hK0]
          have HA0 : Hid (aheadL l K = shut0) := by rw [hK0]; rfl
          clear hK0 hs'
          have RT : Hid (goI shut0 l = 33) := go_bad HG.out HQ.out (shut_bad HK1.out (by rw [HA0.out]))
          go_wp2_with fail
          go_ret
          exact ⟨by rw [RT.out]; rfl, B1.out⟩
        · have hj : K - 1 + 1 = K := by omega
          obtain ⟨y, hy⟩ : ∃ y, l[K - 1]? = some y := ⟨_, List.getElem?_eq_getElem (by rw [HNL.out]; omega)⟩
          have hbl : b < w2.heap.size := Nat.lt_of_lt_of_le HB.out hw.out.1.size
          have hK1 : 1 ≤ K := by omega
          have c7 := hs'.c0 hy
          have HY := Lib.hid hy
          have b4 : ((K : Int) == 0) = false := by simp; omega
          have HA : Hid (aheadL l K = y) := hj ▸ aheadL_succ hy
          clear hy hj hs' hK0
          by_cases hy5 : y.k = 5
          · have b5 : (y.k == 5) = true := by simpa using hy5
            have HY5 := Lib.hid hy5
            clear hy5
            have RT : Hid (goI shut0 l = 33) := go_bad HG.out HQ.out (shut_bad HK1.out (by rw [HA.out]; exact HY5.out))
            go_wp2_with fail
            go_ret
            exact ⟨by rw [RT.out]; rfl, B1.out⟩
          · have b5 : (y.k == 5) = false := by simpa using hy5
            have HF : Hid ((!isKindB s.k || (decide (s.k ≠ 1) && decide ((aheadL l K).k = 5))) = false) := by unfold Hid; rw [HKB.out, HA.out]; simp [hy5]
            clear hy5
            have HL : Hid (goI shut0 l = if loopsI n s.pts = 0 then goI s (l.drop (K + 1)) else loopsI n s.pts) := by
              unfold Hid
              rw [HG.out, drop_at HQ.out]
              simp only [goI]
              rw [fault_bad HF.out, HNK.out]
            go_wp2_with fail
            go_loopw [5] (fun j wr => ∃ m : Nat, m ≤ 3 - n ∧ j = .int .i64 (2 - (m : Int)) ∧ Hid (Blk wr w2.heap.size 48 s.cells ∧ Below w.heap.size w wr ∧ tailZ s m)) (fun j _ => (intOf j + 1).toNat)
            case atStart => exact ⟨0, by omega, rfl, K1.out, B1.out, tailZ_zero s⟩
            case round =>
              obtain ⟨m, hm, rfl, hx⟩ := hrel
              have d0 := hx.out.1.s0
              have d1 := hx.out.1.s1
              have d2 := hx.out.1.s2
              have d3 := hx.out.1.s3
              have d4 := hx.out.1.s4
              have d5 := hx.out.1.s5
              have d6 := hx.out.1.s6
              have HM := Lib.hid hm
              clear hm
              by_cases hlt : m < 3 - n
              · have hd5 : decide ((2 - (m : Int)) ≥ (n : Int)) = true := decide_eq_true (by omega)
                have hm3 : m = 0 ∨ m = 1 ∨ m = 2 := by omega
                have HLT := Lib.hid hlt
                have hn3 := HN3.out
                clear hlt
                rcases hm3 with rfl | rfl | rfl
                · have HP := Lib.hid (pts_at2 s)
                  have hd5 : decide ((2 : Int) ≥ (n : Int)) = true := decide_eq_true (by have := HLT.out; omega)
                  go_wp2_with fail
                  refine (HN.out _).mono ?_
                  rintro e w4 ⟨rfl, rfl⟩
                  by_cases hx1 : s.r.1 = 0
                  · have e1 : (s.r.1 != 0) = false := by simpa using hx1
                    by_cases hy1 : s.r.2 = 0
                    · have e2 : (s.r.2 != 0) = false := by simpa using hy1
                      have NX : Hid (tailZ s (0 + 1)) := tailZ_succ hx.out.2.2 (by omega) HP.out (Prod.ext hx1 hy1)
                      clear hx1 hy1
                      go_wp2_with fail
                      have hl := HLT.out
                      exact ⟨⟨0 + 1, by omega, by simp, hx.out.1, hx.out.2.1, NX.out⟩, by simp [intOf]⟩
                    · have e2 : (s.r.2 != 0) = true := by simpa using hy1
                      have hl := HLT.out
                      have RT : Hid (goI shut0 l = 33) := by
                        unfold Hid
                        rw [HL.out]
                        have e : loopsI n s.pts = 33 := by unfold loopsI; rw [if_pos (tail_bad HP.out (by omega) (fun h => hy1 (by rw [h])))]
                        rw [e]; rfl
                      clear hx1 hy1
                      go_wp2_with fail
                      go_ret
                      exact ⟨by rw [RT.out]; rfl, hx.out.2.1⟩
                  · have e1 : (s.r.1 != 0) = true := by simpa using hx1
                    have hl := HLT.out
                    have RT : Hid (goI shut0 l = 33) := by
                      unfold Hid
                      rw [HL.out]
                      have e : loopsI n s.pts = 33 := by unfold loopsI; rw [if_pos (tail_bad HP.out (by omega) (fun h => hx1 (by rw [h])))]
                      rw [e]; rfl
                    clear hx1
                    go_wp2_with fail
                    go_ret
                    exact ⟨by rw [RT.out]; rfl, hx.out.2.1⟩
                · have HP := Lib.hid (pts_at1 s)
                  have hd5 : decide ((1 : Int) ≥ (n : Int)) = true := decide_eq_true (by have := HLT.out; omega)
                  go_wp2_with fail
                  refine (HN.out _).mono ?_
                  rintro e w4 ⟨rfl, rfl⟩
                  by_cases hx1 : s.q.1 = 0
                  · have e1 : (s.q.1 != 0) = false := by simpa using hx1
                    by_cases hy1 : s.q.2 = 0
                    · have e2 : (s.q.2 != 0) = false := by simpa using hy1
                      have NX : Hid (tailZ s (1 + 1)) := tailZ_succ hx.out.2.2 (by omega) HP.out (Prod.ext hx1 hy1)
                      clear hx1 hy1
                      go_wp2_with fail
                      have hl := HLT.out
                      exact ⟨⟨1 + 1, by omega, by simp, hx.out.1, hx.out.2.1, NX.out⟩, by simp [intOf]⟩
                    · have e2 : (s.q.2 != 0) = true := by simpa using hy1
                      have hl := HLT.out
                      have RT : Hid (goI shut0 l = 33) := by
                        unfold Hid
                        rw [HL.out]
                        have e : loopsI n s.pts = 33 := by unfold loopsI; rw [if_pos (tail_bad HP.out (by omega) (fun h => hy1 (by rw [h])))]
                        rw [e]; rfl
                      clear hx1 hy1
                      go_wp2_with fail
                      go_ret
                      exact ⟨by rw [RT.out]; rfl, hx.out.2.1⟩
                  · have e1 : (s.q.1 != 0) = true := by simpa using hx1
                    have hl := HLT.out
                    have RT : Hid (goI shut0 l = 33) := by
                      unfold Hid
                      rw [HL.out]
                      have e : loopsI n s.pts = 33 := by unfold loopsI; rw [if_pos (tail_bad HP.out (by omega) (fun h => hx1 (by rw [h])))]
                      rw [e]; rfl
                    clear hx1
                    go_wp2_with fail
                    go_ret
                    exact ⟨by rw [RT.out]; rfl, hx.out.2.1⟩
                · have HP := Lib.hid (pts_at0 s)
                  obtain rfl : n = 0 := by have := HLT.out; omega
                  go_wp2_with fail
                  refine (HN.out _).mono ?_
                  rintro e w4 ⟨rfl, rfl⟩
                  by_cases hx1 : s.p.1 = 0
                  · have e1 : (s.p.1 != 0) = false := by simpa using hx1
                    by_cases hy1 : s.p.2 = 0
                    · have e2 : (s.p.2 != 0) = false := by simpa using hy1
                      have NX : Hid (tailZ s (2 + 1)) := tailZ_succ hx.out.2.2 (by omega) HP.out (Prod.ext hx1 hy1)
                      clear hx1 hy1
                      go_wp2_with fail
                      have hl := HLT.out
                      exact ⟨⟨2 + 1, by omega, by simp, hx.out.1, hx.out.2.1, NX.out⟩, by simp [intOf]⟩
                    · have e2 : (s.p.2 != 0) = true := by simpa using hy1
                      have hl := HLT.out
                      have RT : Hid (goI shut0 l = 33) := by
                        unfold Hid
                        rw [HL.out]
                        have e : loopsI 0 s.pts = 33 := by unfold loopsI; rw [if_pos (tail_bad HP.out (by omega) (fun h => hy1 (by rw [h])))]
                        rw [e]; rfl
                      clear hx1 hy1
                      go_wp2_with fail
                      go_ret
                      exact ⟨by rw [RT.out]; rfl, hx.out.2.1⟩
                  · have e1 : (s.p.1 != 0) = true := by simpa using hx1
                    have hl := HLT.out
                    have RT : Hid (goI shut0 l = 33) := by
                      unfold Hid
                      rw [HL.out]
                      have e : loopsI 0 s.pts = 33 := by unfold loopsI; rw [if_pos (tail_bad HP.out (by omega) (fun h => hx1 (by rw [h])))]
                      rw [e]; rfl
                    clear hx1
                    go_wp2_with fail
                    go_ret
                    exact ⟨by rw [RT.out]; rfl, hx.out.2.1⟩
              · have hd5 : decide ((2 - (m : Int)) ≥ (n : Int)) = false := decide_eq_false (by have := HN3.out; omega)
                have D : Hid ((s.pts.drop n).any (fun p => decide (p ≠ (0, 0))) = false) := by
                  have hm := HM.out
                  have h3 : m = 3 - n := by omega
                  exact tailZ_done HN3.out (h3 ▸ hx.out.2.2)
                have L30 : Hid (∀ b, (s.pts.take n).any (fun p => !roomP p) = b → loopsI n s.pts = if b = true then 30 else 0) := fun b hb => by
                  unfold loopsI
                  rw [D.out, hb]; rfl
                have W0 := Lib.hid (show Blk wr w2.heap.size 48 s.cells ∧ Below w.heap.size w wr from ⟨hx.out.1, hx.out.2.1⟩)
                clear hlt
                go_wp2_with fail
                refine (HN.out _).mono ?_
                rintro e w4 ⟨rfl, rfl⟩
                go_wp2_with fail
                clear hx hd5 HM d0 d1 d2 d3 d4 d5 d6
                generalize wr = w3 at W0 ⊢
                go_loopw [6] (fun j wr => ∃ m : Nat, m ≤ n ∧ j = .int .i64 m ∧ Hid (wr = w3 ∧ (s.pts.take n |>.take m).any (fun p => !roomP p) = false)) (fun j _ => n - (intOf j).toNat)
                case atStart => exact ⟨0, by omega, rfl, rfl, rfl⟩
                case round =>
                  obtain ⟨m, hm, rfl, hx⟩ := hrel
                  obtain rfl := hx.out.1.symm
                  have d0 := W0.out.1.s0
                  by_cases hlt : m < n
                  · have hd6 : decide ((m : Int) < (n : Int)) = true := decide_eq_true (by omega)
                    have hn3 := HN3.out
                    obtain ⟨⟨px, py⟩, hq⟩ : ∃ a, (s.pts.take n)[m]? = some a := ⟨_, List.getElem?_eq_getElem (by simp [Sg.pts]; omega)⟩
                    obtain ⟨c0, c1⟩ := (seven_pts W0.out.1).take (n := n) m (px, py) hq
                    have HQ2 := Lib.hid hq
                    have HPX := Lib.hid (refIn_c px)
                    have HPY := Lib.hid (refIn_c py)
                    have hm3 : m < 3 := by omega
                    have hwm : wrap64 ((m : Int) + 1) = ((m + 1 : Nat) : Int) := by rw [wrapR _ (by omega) (by omega)]; omega
                    clear hq
                    simp only at c0 c1
                    obtain ⟨rx, hrx⟩ : ∃ b, room px = b := ⟨_, rfl⟩
                    obtain ⟨ry, hry⟩ : ∃ b, room py = b := ⟨_, rfl⟩
                    rw [hrx] at HPX
                    rw [hry] at HPY
                    have HRM : Hid (roomP (px, py) = (rx && ry)) := by unfold Hid roomP; rw [hrx, hry]
                    clear hrx hry
                    go_wp2_with fail
                    refine (HN.out _).mono ?_
                    rintro e w4 ⟨rfl, rfl⟩
                    go_wp2_with fail
                    refine (HPX.out _).mono ?_
                    rintro e w4 ⟨rfl, rfl⟩
                    cases rx
                    · have RT : Hid (goI shut0 l = 30) := by
                        unfold Hid
                        rw [HL.out, L30.out true (any_some HQ2.out (by rw [HRM.out]; rfl))]; rfl
                      go_wp2_with fail
                      go_ret
                      exact ⟨by rw [RT.out]; rfl, W0.out.2⟩
                    · go_wp2_with fail
                      refine (HPY.out _).mono ?_
                      rintro e w4 ⟨rfl, rfl⟩
                      cases ry
                      · have RT : Hid (goI shut0 l = 30) := by
                          unfold Hid
                          rw [HL.out, L30.out true (any_some HQ2.out (by rw [HRM.out]; rfl))]; rfl
                        go_wp2_with fail
                        go_ret
                        exact ⟨by rw [RT.out]; rfl, W0.out.2⟩
                      · have NX : Hid (((s.pts.take n).take (m + 1)).any (fun p => !roomP p) = false) := any_take hx.out.2 HQ2.out (by rw [HRM.out]; rfl)
                        go_wp2_with fail
                        exact ⟨⟨m + 1, by omega, by simp, by first | exact rfl | trivial, NX.out⟩, by simp [intOf]; omega⟩
                  · have hd6 : decide ((m : Int) < (n : Int)) = false := decide_eq_false (by omega)
                    have NX : Hid (goI shut0 l = goI s (l.drop (K + 1))) := by
                      unfold Hid
                      have h := hx.out.2
                      have hn3 := HN3.out
                      rw [List.take_of_length_le (by simp; omega)] at h
                      rw [HL.out, L30.out false h]; rfl
                    go_wp2_with fail
                    refine (HN.out _).mono ?_
                    rintro e w4 ⟨rfl, rfl⟩
                    go_wp2_with fail
                    exact ⟨⟨K + 1, by omega, by simp, W0.out.2, by rw [NX.out, aheadL_succ HQ.out]⟩, by simp [intOf]; omega⟩
    · have hd3 : decide ((K : Int) < (N : Int)) = false := decide_eq_false (by omega)
      have RT : Hid (goI shut0 l = 0) := by
        unfold Hid
        rw [hw.out.2, List.drop_of_length_le (by rw [HNL.out]; omega)]; rfl
      go_wp2_with fail
      go_ret
      exact ⟨by rw [RT.out]; rfl, hw.out.1⟩
theorem rcheck_zero (ao : Option Addr) (c : Nat) (w : World) : Calls Tryz.prog 10 #[.slice ao 0 c] w fun e w' => e = .returned (.int .i64 0) ∧ Below w.heap.size w w' := by
  go_enter Tryz.func10, Tryz.ntmps10
  go_wp2_with fail
  go_loopw [3] (fun i wr => i = .int .i64 0 ∧ Hid (wr = w)) (fun _ _ => 0)
  case atStart => exact ⟨rfl, rfl⟩
  case round =>
    obtain ⟨rfl, hw⟩ := hrel
    go_wp2_with fail
    go_ret
    exact ⟨rfl, by rw [hw.out]; exact Below.refl _ _⟩
theorem rcheck_c (v : Value) (l : List Sg) (w : World) (row : RowS w v l) : Calls Tryz.prog 10 #[v] w fun e w' => e = .returned (.int .i64 (checkI l)) ∧ Below w.heap.size w w' := by
  obtain ⟨ao, c, rfl⟩ := row.shape
  unfold checkI
  split
  · exact rcheck_many ao _ c w (by omega)
  · by_cases h0 : l.length = 0
    · rw [h0]
      have e : l = [] := List.eq_nil_of_length_eq_zero h0
      subst e
      exact rcheck_zero ao c w
    · obtain ⟨b, o, rfl, hb, hs⟩ := row.addr (k := 0) (by omega)
      exact rcheck_walk b o c l.length l w rfl (by omega) hb hs (by omega)
end Go.Proofs.YtbnbglngpgikfaaGreatDoor

