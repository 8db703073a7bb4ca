/- Layer 11: bytes tell the image. -/
import Derived.Test.YtoppmlfibllhlaaIf
namespace Go.Proofs.Ytoppmlfibllhlaa
open Go.RowKit
abbrev Q4 := Int × Int × Int × Int
def q4 (c : Col) : Q4 := (c 0, c 1, c 2, c 3)
theorem q4_eq {c d : Col} (h : eqC c d = true) : q4 c = q4 d := by
  have h := eqC_iff.1 h
  unfold q4
  rw [h 0 (by decide), h 1 (by decide), h 2 (by decide), h 3 (by decide)]
/-- What runs say. -/
def decB : List Int → List Q4
  | m :: a :: b :: c :: d :: t => List.replicate (m + 1).toNat (a, b, c, d) ++ decB t
  | _ => []
theorem runTo_same (l : List Col) (i : Nat) : ∀ f n, (∀ j, j < n → eqC (cAt l (i + j)) (cAt l i) = true) → ∀ j, j < runTo l i f n → eqC (cAt l (i + j)) (cAt l i) = true
  | 0, _, h => h
  | f + 1, n, h => by
    unfold runTo
    split
    · rename_i hc
      refine runTo_same l i f (n + 1) fun j hj => ?_
      rcases Nat.lt_or_ge j n with h1 | h1
      · exact h j h1
      · rw [show j = n by omega]; exact hc.2.2
    · exact h
theorem run_same {l : List Col} {i j : Nat} (h : j < runLen l i) : eqC (cAt l (i + j)) (cAt l i) = true := runTo_same l i 257 0 (fun _ h => absurd h (Nat.not_lt_zero _)) j h
theorem cAt_get {l : List Col} {k : Nat} (h : k < l.length) : l[k] = cAt l k := by
  have := cAt_some h
  rw [List.getElem?_eq_getElem h] at this
  simpa using this
theorem dec_runs (l : List Col) : ∀ f i, l.length ≤ f + i → decB (runsB l f i) = (l.drop i).map q4
  | 0, i, h => by rw [List.drop_of_length_le (by omega)]; rfl
  | f + 1, i, h => by
    by_cases hi : i < l.length
    · obtain ⟨r, hr⟩ : ∃ r, runLen l i = r := ⟨_, rfl⟩
      have hin := runLen_in hi
      rw [hr] at hin
      rw [runsB_step hi hr rfl]
      have ih := dec_runs l f (i + r) (by omega)
      show List.replicate ((r : Int) - 1 + 1).toNat (q4 (cAt l i)) ++ decB (runsB l f (i + r)) = _
      rw [ih, show ((r : Int) - 1 + 1).toNat = r by omega]
      have hs : l.drop i = (l.drop i).take r ++ l.drop (i + r) := by
        rw [← List.drop_drop]
        exact (List.take_append_drop r (l.drop i)).symm
      rw [hs, List.map_append]
      congr 1
      refine List.ext_getElem (by simp; omega) fun j h1 h2 => ?_
      have hj : j < r := by simpa using h1
      simp only [List.getElem_replicate, List.getElem_map, List.getElem_take, List.getElem_drop]
      rw [cAt_get (by omega)]
      exact (q4_eq (run_same (by rw [hr]; exact hj))).symm
    · rw [runsB_end hi, List.drop_of_length_le (by omega)]; rfl
/-- Bytes tell the image. -/
theorem bytesI_inj {W H W' H' : Int} {l l' : List Col} (h : bytesI W H l = bytesI W' H' l') : W = W' ∧ H = H' ∧ l.map q4 = l'.map q4 := by
  unfold bytesI at h
  have h1 := (List.cons.inj h).1
  have h2 := (List.cons.inj (List.cons.inj h).2).1
  have h3 := (List.cons.inj (List.cons.inj h).2).2
  have e1 := dec_runs l l.length 0 (by omega)
  have e2 := dec_runs l' l'.length 0 (by omega)
  rw [h3] at e1
  rw [e1] at e2
  exact ⟨by omega, by omega, by simpa using e2⟩
theorem q4_iff {c d : Col} : q4 c = q4 d ↔ eqC c d = true := by
  constructor
  · intro h
    unfold q4 at h
    simp only [Prod.mk.injEq] at h
    unfold eqC
    simp [h]
  · exact q4_eq
end Go.Proofs.Ytoppmlfibllhlaa

