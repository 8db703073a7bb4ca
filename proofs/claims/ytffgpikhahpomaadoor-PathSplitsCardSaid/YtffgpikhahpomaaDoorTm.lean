/- Layer 6: the law PathSplits. -/
import Derived.Test.YtffgpikhahpomaaDoorTl
namespace Go.Proofs.YtffgpikhahpomaaDoor
open Go.RowKit
theorem check_alone {f : Pt} {s x : Sg} (hf : roomP f = true) (h : faultI x s = 0) : checkI [⟨1, f, (0, 0), (0, 0)⟩, s] = 0 := by
  obtain ⟨hl, hc⟩ := faultI_loops h
  have h1 : faultI shut0 ⟨1, f, (0, 0), (0, 0)⟩ = 0 := by simp [faultI, isKindB, loopsI, needI, Sg.pts, hf]
  have hk : isKindB s.k = true := by
    cases hb : isKindB s.k with
    | true => rfl
    | false => exact absurd (by rw [hb]; rfl) hc
  have h2 : faultI ⟨1, f, (0, 0), (0, 0)⟩ s = 0 := by simp [faultI, hk, hl]
  simp [checkI, goI, h1, h2]
theorem splitL_alone (f : Pt) (s : Sg) : splitL [⟨1, f, (0, 0), (0, 0)⟩, s] 1 f s = [⟨1, f, (0, 0), (0, 0)⟩, halfA f s, halfB s] := rfl
theorem flat_one (v : Value) (l : List Sg) (d : Nat) (L : List Pt) (W : World) (hr : Rd W) (row : RowS W v l) (h : checkI l = 0) (hd : d ≤ 6) (hl : l.length ≤ 60) (hs : subsI d l = [(L, false)]) :
    Calls Tryd.prog 16 #[v, .int .i64 (d : Int)] W fun e w' => ∃ u, e = .returned (.tuple #[u, .int .i64 0]) ∧ OneSub L u w' ∧ Below W.heap.size W w' := by
  refine (pflat_c v l d W hr row h hd hl).mono ?_
  rintro e w' ⟨u, S, rfl, ho, hm, hb⟩
  exact ⟨u, rfl, ⟨_, S, ho, hm.trans hs⟩, hb⟩
theorem splits_law (ao : Option Addr) (n c : Nat) (l : List Sg) (i d : Int) (w : World) (hr : Rd w) (row : RowS w (.slice ao n c) l) (hc : n ≤ c) :
    Calls Tryd.prog 6 #[.slice ao n c, .int .i64 i, .int .i64 d] w fun e w' => e = .returned (.bool true) ∧ Below w.heap.size w w' := by
  have hn := row.len
  by_cases h60 : 60 < n
  · exact splits_long ao n c i d w hr h60
  have HA : Hid (Rd w ∧ RowS w (.slice ao n c) l ∧ n ≤ c ∧ l.length = n ∧ n ≤ 60) := ⟨hr, row, hc, hn, by omega⟩
  by_cases hz : checkI l = 0
  · cases hb : hasB l i with
    | false =>
      have hX : splitI l i = (30, []) := by unfold splitI; simp [hz, hb]
      by_cases h0 : i < 0
      · exact splits_C1 ao n c l i d w HA (by simpa using h0) ⟨hz, hX⟩
      · refine splits_C2 ao n c l i d w HA (by simpa using h0) ?_ ⟨hz, hX⟩
        unfold hasB at hb
        rw [hn] at hb
        simp at hb ⊢
        omega
    | true =>
      have hb' := hb
      unfold hasB at hb'
      rw [hn] at hb'
      simp at hb'
      obtain ⟨I, rfl⟩ : ∃ I : Nat, i = (I : Int) := ⟨i.toNat, by omega⟩
      have hI : I < n := by omega
      obtain ⟨s, hq⟩ : ∃ s, l[I]? = some s := ⟨_, List.getElem?_eq_getElem (by rw [hn]; exact hI)⟩
      have hat : atS l (I : Int) = s := by unfold atS; simp [hq]
      by_cases h1 : s.k = 1
      · exact splits_D1 ao n c l I d w HA hI s hq h1 ⟨hz, by unfold splitI; rw [hat]; simp [hz, hb, h1]⟩
      by_cases h5 : s.k = 5
      · exact splits_D5 ao n c l I d w HA hI s hq h5 ⟨hz, by unfold splitI; rw [hat]; simp [hz, hb, h5]⟩
      obtain ⟨J, rfl⟩ : ∃ J, I = J + 1 := by
        cases I with
        | zero => exact absurd (first_move hz hq) h1
        | succ J => exact ⟨J, rfl⟩
      obtain ⟨x, hx⟩ : ∃ x, l[J]? = some x := ⟨_, List.getElem?_eq_getElem (by omega)⟩
      obtain ⟨hk3, hnx, hrx, hrs⟩ := split_facts hz hq hx h1 h5
      have hfault : faultI x s = 0 := by
        have := (check_good hz).1 (J + 1) s hq
        rwa [aheadL_succ hx] at this
      have hX : splitI l ((J + 1 : Nat) : Int) = (0, splitL l (J + 1) (endI x) s) := by
        unfold splitI
        rw [hat, if_neg (by rw [hz]; simp), if_neg (by rw [hb]; simp), if_neg (by simp [h1, h5])]
        rw [show ((J + 1 : Nat) : Int).toNat = J + 1 from rfl, aheadL_succ hx]
      have hlen : (splitL l (J + 1) (endI x) s).length = n + 1 := by unfold splitL; simp; omega
      have hcs := check_split (f := endI x) hz hq hk3 hrx (by omega)
      have hout : outI (splitL l (J + 1) (endI x) s) = (0, splitL l (J + 1) (endI x) s) := by unfold outI; simp [hcs]
      have HP : Hid (∀ W b o tc, SegsAt W b o l → b < W.heap.size → Calls Tryd.prog 25 #[.slice (some ⟨b, o, none⟩) n tc, .int .i64 ((J + 1 : Nat) : Int)] W fun e w' => e = .returned (.tuple #[.agg (halfA (endI x) s).cells, .agg (halfB s).cells]) ∧ Below W.heap.size W w') := fun W b o tc h1 h2 => parts_c b o n tc J l s x W hn (by omega) h2 h1 hq hx hk3 hnx hrx hrs
      have HW : Hid (∀ W ta tc u, RowS W (.slice ta n tc) l → RowS W u [halfA (endI x) s, halfB s] → Calls Tryd.prog 23 #[.slice ta n tc, .int .i64 ((J + 1 : Nat) : Int), .int .i64 1, u] W fun e w' => ∃ v, e = .returned v ∧ RowS w' v (splitL l (J + 1) (endI x) s) ∧ Below W.heap.size W w') := fun W ta tc u h1 h2 => by
        refine (with_c ta n tc (J + 1) 1 l u _ W h1 h2 (by omega) (by simp; omega)).mono ?_
        rintro e w' ⟨v, rfl, ho, hb⟩
        exact ⟨v, rfl, ho.row, hb⟩
      have HI : Hid (∀ W q v, RowS W q (splitL l (J + 1) (endI x) s) → RowS W v (splitL l (J + 1) (endI x) s) → Calls Tryd.prog 22 #[q, .int .i64 0, v] W fun e w' => e = .returned (.bool true) ∧ Below W.heap.size W w') := fun W q v h1 h2 => by
        have h := is_c q v (splitL l (J + 1) (endI x) s) W (by omega) (by rw [hout]; exact h1) h2
        rw [hout] at h
        exact h
      have e1 : (s.k == 1) = false := by simpa using h1
      have e5 : (s.k == 5) = false := by simpa using h5
      by_cases h2 : s.k = 2
      · exact splits_E1 ao n c l (J + 1) s _ _ _ e1 e5 ⟨hI, hq⟩ ⟨hz, hX⟩ HP HW HI d w HA (by simpa using h2)
      have e2 : (s.k == 2) = false := by simpa using h2
      have hk4 : s.k = 3 ∨ s.k = 4 := by omega
      by_cases hd1 : d < 1
      · exact splits_E2 ao n c l (J + 1) s _ _ _ e1 e5 ⟨hI, hq⟩ ⟨hz, hX⟩ HP HW HI d w HA e2 (by simpa using hd1)
      by_cases hd6 : 6 < d
      · exact splits_E3 ao n c l (J + 1) s _ _ _ e1 e5 ⟨hI, hq⟩ ⟨hz, hX⟩ HP HW HI d w HA e2 (by simpa using hd1) (by simpa using hd6)
      obtain ⟨D, rfl⟩ : ∃ D : Nat, d = ((D + 1 : Nat) : Int) := ⟨(d - 1).toNat, by omega⟩
      have hc1 := check_alone hrx hfault
      have hc2 := check_split (i := 1) (f := endI x) (s := s) hc1 rfl hk3 hrx (by simp)
      rw [splitL_alone] at hc2
      have hs1 := flat_alone (D + 1) (endI x) s hk4
      have hs2 := (flat_halves D (endI x) s hk4).symm.trans hs1
      refine splits_E4 ao n c l (J + 1) s _ _ _ e1 e5 ⟨hI, hq⟩ ⟨hz, hX⟩ HP HW HI (endI x) D (D + 1) (J + 1 + 1) (n + 1) _ e2 rfl rfl ⟨rfl, by omega⟩ ?_ ⟨hlen, ?_, ?_⟩ (fun W b o tc h1 h2 => from_c x b o tc n (J + 1) l W hx hn (by omega) (by omega) h2 h1 hnx) (fun W v hW hv => flat_one v _ (D + 1) _ W hW hv hc1 (by omega) (by simp) hs1) (fun W v hW hv => flat_one v _ D _ W hW hv hc2 (by omega) (by simp) hs2) w HA
      · have := pow_small (d := D + 1) (by omega)
        have h := flatI_length (D + 1) (endI x :: needPts s)
        unfold Hid
        simp only [List.length_cons]
        omega
      · unfold splitL
        rw [List.append_assoc, List.getElem?_append_right (by simp; omega)]
        simp
        rw [show J + 1 - min (J + 1) l.length = 0 by omega]
        rfl
      · unfold splitL
        rw [List.append_assoc, List.getElem?_append_right (by simp; omega)]
        simp
        rw [show J + 1 + 1 - min (J + 1) l.length = 1 by omega]
        rfl
  · exact splits_B ao n c l i d w HA (checkI l) (by simpa using hz) ⟨rfl, by unfold splitI; rw [if_pos hz]⟩
end Go.Proofs.YtffgpikhahpomaaDoor
