/- Layer 6: the law PathBack, whole. -/
import Derived.Test.YtffgpikhahpomaaDoorBc
import Derived.Test.YtffgpikhahpomaaDoorEg
namespace Go.Proofs.YtffgpikhahpomaaDoor
open Go.RowKit
theorem outI_cases (M : List Sg) : (∃ z, (z == (0 : Int)) = false ∧ outI M = (z, [])) ∨ (checkI M = 0 ∧ outI M = (0, M)) := by
  unfold outI
  by_cases h : checkI M = 0
  · exact .inr ⟨h, by simp [h]⟩
  · exact .inl ⟨checkI M, by simpa using h, by simp [h]⟩
theorem ins_cases (l : List Sg) (i : Int) (s : Sg) : (∃ z, (z == (0 : Int)) = false ∧ insI l i s = (z, [])) ∨ (checkI l = 0 ∧ 0 ≤ i ∧ i ≤ (l.length : Int) ∧ checkI (insL l i s) = 0 ∧ insI l i s = (0, insL l i s)) := by
  unfold insI
  by_cases h : checkI l = 0
  · rw [if_neg (by simp [h])]
    by_cases hb : (decide (i < 0) || decide (i > (l.length : Int))) = true
    · rw [if_pos hb]; exact .inl ⟨30, rfl, rfl⟩
    · rw [if_neg hb]
      simp at hb
      rcases outI_cases (insL l i s) with ⟨z, h1, h2⟩ | ⟨h1, h2⟩
      · exact .inl ⟨z, h1, h2⟩
      · exact .inr ⟨h, by omega, by omega, h1, h2⟩
  · rw [if_pos h]; exact .inl ⟨_, by simpa using h, rfl⟩
theorem put_cases (l : List Sg) (i j : Int) (p : Pt) : (∃ z, (z == (0 : Int)) = false ∧ putI l i j p = (z, [])) ∨ (checkI l = 0 ∧ hasB l i = true ∧ 0 ≤ j ∧ j < (needI (atS l i).k : Int) ∧ checkI (putL l i j p) = 0 ∧ putI l i j p = (0, putL l i j p)) := by
  unfold putI
  by_cases h : checkI l = 0
  · rw [if_neg (by simp [h])]
    by_cases hb : (!hasB l i || (decide (j < 0) || decide (j ≥ (needI (atS l i).k : Int)))) = true
    · rw [if_pos hb]; exact .inl ⟨30, rfl, rfl⟩
    · rw [if_neg hb]
      simp at hb
      rcases outI_cases (putL l i j p) with ⟨z, h1, h2⟩ | ⟨h1, h2⟩
      · exact .inl ⟨z, h1, h2⟩
      · exact .inr ⟨h, hb.1, by omega, by omega, h1, h2⟩
  · rw [if_pos h]; exact .inl ⟨_, by simpa using h, rfl⟩
theorem outI_zero {l : List Sg} (h : checkI l = 0) : outI l = (0, l) := by unfold outI; simp [h]
theorem del_ins (l : List Sg) (I : Nat) (s : Sg) (h : I ≤ l.length) : delL (insL l (I : Int) s) (I : Int) = l := by
  have hl : (l.take I).length = I := by rw [List.length_take]; omega
  unfold delL insL
  simp only [Int.toNat_natCast]
  have e1 : (l.take I ++ [s] ++ l.drop I).take I = l.take I := by rw [List.append_assoc, List.take_left' hl]
  have e2 : (l.take I ++ [s] ++ l.drop I).drop (I + 1) = l.drop I := List.drop_left' (by simp; omega)
  rw [e1, e2, List.append_nil, List.take_append_drop]
theorem put_at (l : List Sg) (I J : Nat) (s : Sg) (p : Pt) (h : l[I]? = some s) : atS (putL l (I : Int) (J : Int) p) (I : Int) = s.put J p ∧ atS l (I : Int) = s := by
  have hI := (List.getElem?_eq_some_iff.1 h).1
  have hl : (l.take I).length = I := by rw [List.length_take]; omega
  have h2 : atS l (I : Int) = s := by unfold atS; simp [h]
  refine ⟨?_, h2⟩
  unfold putL
  rw [h2]
  unfold atS
  simp only [Int.toNat_natCast]
  rw [List.append_assoc, List.getElem?_append_right (by omega), hl]
  simp
theorem putL_back (l : List Sg) (I J : Nat) (s : Sg) (p : Pt) (h : l[I]? = some s) : putL (putL l (I : Int) (J : Int) p) (I : Int) (J : Int) (s.pt J) = l := by
  have hI := (List.getElem?_eq_some_iff.1 h).1
  have hl : (l.take I).length = I := by rw [List.length_take]; omega
  obtain ⟨h1, h2⟩ := put_at l I J s p h
  have hback : (s.put J p).put J (s.pt J) = s := by
    unfold Sg.put Sg.pt
    by_cases e0 : J = 0
    · subst e0; rfl
    · by_cases e1 : J = 1
      · subst e1; rfl
      · simp [e0, e1]
  rw [show putL (putL l (I : Int) (J : Int) p) (I : Int) (J : Int) (s.pt J) = (putL l (I : Int) (J : Int) p).take I ++ [(atS (putL l (I : Int) (J : Int) p) (I : Int)).put J (s.pt J)] ++ (putL l (I : Int) (J : Int) p).drop (I + 1) from rfl, h1, hback]
  rw [show putL l (I : Int) (J : Int) p = l.take I ++ [(atS l (I : Int)).put J p] ++ l.drop (I + 1) from rfl, h2]
  rw [List.append_assoc (l.take I), List.take_left' hl, ← List.append_assoc (l.take I), List.drop_left' (by simp; omega)]
  have h3 : l = l.take I ++ [s] ++ l.drop (I + 1) := by
    have e : l.drop I = s :: l.drop (I + 1) := by rw [List.drop_eq_getElem_cons hI, (List.getElem?_eq_some_iff.1 h).2]
    rw [List.append_assoc, List.singleton_append, ← e, List.take_append_drop]
  exact h3.symm
theorem back_law (ao : Option Addr) (n c : Nat) (l : List Sg) (i k : Int) (s : Sg) (x y : Int) (w : World) (hr : Rd w) (row : RowS w (.slice ao n c) l) (hc : n ≤ c) :
    Calls Tryd.prog 8 #[.agg (editCells (.slice ao n c) i k s x y)] w fun e w' => e = .returned (.bool true) ∧ Below w.heap.size w w' := by
  have hn := row.len
  by_cases h100 : 100 < n
  · exact back_long ao n c i k s x y w hr h100
  have HA : Hid (Rd w ∧ RowS w (.slice ao n c) l ∧ n ≤ c ∧ l.length = n ∧ n ≤ 100) := ⟨hr, row, hc, hn, by omega⟩
  rcases put_cases l i k (x, y) with ⟨zp, hzp, hP⟩ | ⟨hz, hb, hk0, hk1, hcP, hP⟩
  · rcases ins_cases l i s with ⟨zi, hzi, hI⟩ | ⟨hz, hi0, hi1, hcI, hI⟩
    · exact back_A ao n c l i k zi hzi zp hzp s x y w HA ⟨hI, hP⟩
    · obtain ⟨I, rfl⟩ : ∃ I : Nat, i = (I : Int) := ⟨i.toNat, by omega⟩
      have hlen : (insL l (I : Int) s).length = n + 1 := by unfold insL; simp; omega
      have hD : delI (insL l (I : Int) s) (I : Int) = (0, l) := by
        rw [delI_in hcI (by unfold hasB; rw [hlen]; simp; omega), del_ins l I s (by omega), outI_zero hz]
      exact back_B ao n c l I k zp hzp s x y w HA ⟨hI, hP⟩ ⟨hD, hlen⟩
  · have hi : 0 ≤ i ∧ i < (n : Int) := by unfold hasB at hb; rw [hn] at hb; simpa using hb
    obtain ⟨I, rfl⟩ : ∃ I : Nat, i = (I : Int) := ⟨i.toNat, by omega⟩
    obtain ⟨J, rfl⟩ : ∃ J : Nat, k = (J : Int) := ⟨k.toNat, by omega⟩
    have hIn : I < n := by omega
    obtain ⟨s0, hq⟩ : ∃ s0, l[I]? = some s0 := ⟨_, List.getElem?_eq_getElem (by omega)⟩
    obtain ⟨ha1, ha2⟩ := put_at l I J s0 (x, y) hq
    have hlenP : (putL l (I : Int) (J : Int) (x, y)).length = n := by unfold putL; simp; omega
    have hkk : (s0.put J (x, y)).k = s0.k := by unfold Sg.put; split; rfl; split <;> rfl
    rw [ha2] at hk1
    have hle := needI_le s0.k
    have hP2 : putI (putL l (I : Int) (J : Int) (x, y)) (I : Int) (J : Int) (s0.pt J) = (0, l) := by
      have hbb : hasB (putL l (I : Int) (J : Int) (x, y)) (I : Int) = true := by unfold hasB; rw [hlenP]; simp; omega
      rw [putI_in hcP (by rw [ha1, hkk, hbb]; simp; omega), putL_back l I J s0 (x, y) hq, outI_zero hz]
    rcases ins_cases l (I : Int) s with ⟨zi, hzi, hI⟩ | ⟨_, hi0, hi1, hcI, hI⟩
    · rcases (by omega : J = 0 ∨ J = 1 ∨ J = 2) with rfl | rfl | rfl
      · exact back_C0 ao n c l I zi hzi s x y w HA hIn ⟨hI, hP⟩ s0 hq _ _ rfl ⟨hP2, hlenP⟩
      · exact back_C1 ao n c l I zi hzi s x y w HA hIn ⟨hI, hP⟩ s0 hq _ _ rfl ⟨hP2, hlenP⟩
      · exact back_C2 ao n c l I zi hzi s x y w HA hIn ⟨hI, hP⟩ s0 hq _ _ rfl ⟨hP2, hlenP⟩
    · have hlen : (insL l (I : Int) s).length = n + 1 := by unfold insL; simp; omega
      have hD : delI (insL l (I : Int) s) (I : Int) = (0, l) := by
        rw [delI_in hcI (by unfold hasB; rw [hlen]; simp; omega), del_ins l I s (by omega), outI_zero hz]
      rcases (by omega : J = 0 ∨ J = 1 ∨ J = 2) with rfl | rfl | rfl
      · exact back_D0 ao n c l I s x y w HA hIn ⟨hI, hP⟩ ⟨hD, hlen⟩ s0 hq _ _ rfl ⟨hP2, hlenP⟩
      · exact back_D1 ao n c l I s x y w HA hIn ⟨hI, hP⟩ ⟨hD, hlen⟩ s0 hq _ _ rfl ⟨hP2, hlenP⟩
      · exact back_D2 ao n c l I s x y w HA hIn ⟨hI, hP⟩ ⟨hD, hlen⟩ s0 hq _ _ rfl ⟨hP2, hlenP⟩
end Go.Proofs.YtffgpikhahpomaaDoor
