/- Layer 6: the law PathEdits, whole. -/
import Derived.Test.YtffgpikhahpomaaDoorEd
import Derived.Test.YtffgpikhahpomaaDoorEb
namespace Go.Proofs.YtffgpikhahpomaaDoor
open Go.RowKit
theorem putI_out {l : List Sg} {i j : Int} {p : Pt} (h : checkI l = 0) (hb : (!hasB l i || (decide (j < 0) || decide (j ≥ (needI (atS l i).k : Int)))) = true) : putI l i j p = (30, []) := by
  unfold putI; rw [if_neg (by simp [h]), if_pos hb]
theorem putI_in {l : List Sg} {i j : Int} {p : Pt} (h : checkI l = 0) (hb : (!hasB l i || (decide (j < 0) || decide (j ≥ (needI (atS l i).k : Int)))) = false) : putI l i j p = outI (putL l i j p) := by
  unfold putI; rw [if_neg (by simp [h]), if_neg (by rw [hb]; simp)]
theorem insI_out {l : List Sg} {i : Int} {s : Sg} (h : checkI l = 0) (hb : i < 0 ∨ i > (l.length : Int)) : insI l i s = (30, []) := by
  unfold insI; rw [if_neg (by simp [h]), if_pos (by simpa using hb)]
theorem insI_in {l : List Sg} {i : Int} {s : Sg} (h : checkI l = 0) (h0 : 0 ≤ i) (h1 : i ≤ (l.length : Int)) : insI l i s = outI (insL l i s) := by
  unfold insI; rw [if_neg (by simp [h]), if_neg (by simp; omega)]
theorem delI_out {l : List Sg} {i : Int} (h : checkI l = 0) (hb : hasB l i = false) : delI l i = (30, []) := by
  unfold delI; rw [if_neg (by simp [h]), if_pos hb]
theorem delI_in {l : List Sg} {i : Int} (h : checkI l = 0) (hb : hasB l i = true) : delI l i = outI (delL l i) := by
  unfold delI; rw [if_neg (by simp [h]), if_neg (by rw [hb]; simp)]
theorem edits_law (ao : Option Addr) (n c : Nat) (l : List Sg) (i k : Int) (s : Sg) (x y : Int) (w : World) (hr : Rd w) (row : RowS w (.slice ao n c) l) (hc : n ≤ c) :
    Calls Tryd.prog 5 #[.agg (editCells (.slice ao n c) i k s x y)] w fun e w' => e = .returned (.bool true) ∧ Below w.heap.size w w' := by
  have hn := row.len
  by_cases h100 : 100 < n
  · exact edits_long ao n c i k s x y w hr h100
  have HA : Hid (Rd w ∧ RowS w (.slice ao n c) l ∧ n ≤ c ∧ l.length = n ∧ n ≤ 100) := ⟨hr, row, hc, hn, by omega⟩
  by_cases hz : checkI l = 0
  · have bad : ∀ i, hasB l i = false → putI l i k (x, y) = (30, []) := fun i h => putI_out hz (by rw [h]; rfl)
    by_cases h0 : i < 0
    · have hb : hasB l i = false := by unfold hasB; simp; omega
      exact edits_C1 ao n c l i k s x y w HA (by simpa using h0) ⟨hz, bad i hb, insI_out hz (.inl h0), delI_out hz hb⟩
    by_cases h1 : i > (n : Int)
    · have hb : hasB l i = false := by unfold hasB; simp; omega
      exact edits_C2 ao n c l i k s x y w HA (by simpa using h0) (by simpa using h1) ⟨hz, bad i hb, insI_out hz (.inr (by omega)), delI_out hz hb⟩
    obtain ⟨I, rfl⟩ : ∃ I : Nat, i = (I : Int) := ⟨i.toNat, by omega⟩
    have lenI : (insL l (I : Int) s).length ≤ 5000 := by unfold insL; simp; omega
    have insOk := insI_in (s := s) hz (i := (I : Int)) (by omega) (by omega)
    by_cases h2 : I = n
    · subst h2
      have hb : hasB l (I : Int) = false := by unfold hasB; simp; omega
      exact edits_D ao I c l k s x y w HA ⟨lenI, lenI, lenI⟩ ⟨hz, bad _ hb, insOk, delI_out hz hb⟩
    have hI : I < n := by omega
    have hb : hasB l (I : Int) = true := by unfold hasB; simp; omega
    have lenD : (delL l (I : Int)).length ≤ 5000 := by unfold delL; simp; omega
    obtain ⟨s0, hq⟩ : ∃ s0, l[I]? = some s0 := ⟨_, List.getElem?_eq_getElem (by omega)⟩
    have hat : atS l (I : Int) = s0 := by unfold atS; simp [hq]
    have lenP : ∀ k, (putL l (I : Int) k (x, y)).length ≤ 5000 := fun k => by unfold putL; simp; omega
    by_cases h3 : k < 0
    · exact edits_E1 ao n c l I k s x y w HA hI h3 ⟨lenI, lenI, lenD⟩ ⟨hz, putI_out hz (by simp [h3]), insOk, delI_in hz hb⟩
    by_cases h4 : (needI s0.k : Int) ≤ k
    · exact edits_E2 ao n c l I k s x y w HA hI s0 hq (by omega) h4 ⟨lenI, lenI, lenD⟩ ⟨hz, putI_out hz (by rw [hat]; simp [h4]), insOk, delI_in hz hb⟩
    have hle := needI_le s0.k
    have putOk := putI_in (p := (x, y)) (i := (I : Int)) (j := k) hz (by rw [hat, hb]; simp; omega)
    rcases (by omega : k = 0 ∨ k = 1 ∨ k = 2) with rfl | rfl | rfl
    · exact edits_F0 ao n c l I s x y w HA hI s0 hq (by omega) ⟨lenP _, lenI, lenD⟩ ⟨hz, putOk, insOk, delI_in hz hb⟩
    · exact edits_F1 ao n c l I s x y w HA hI s0 hq (by omega) ⟨lenP _, lenI, lenD⟩ ⟨hz, putOk, insOk, delI_in hz hb⟩
    · exact edits_F2 ao n c l I s x y w HA hI s0 hq (by omega) ⟨lenP _, lenI, lenD⟩ ⟨hz, putOk, insOk, delI_in hz hb⟩
  · have hz' : checkI l ≠ 0 := hz
    exact edits_B ao n c l i k s x y w HA (checkI l) (by simpa using hz) ⟨rfl, by unfold putI; rw [if_pos hz'], by unfold insI; rw [if_pos hz'], by unfold delI; rw [if_pos hz']⟩
end Go.Proofs.YtffgpikhahpomaaDoor
