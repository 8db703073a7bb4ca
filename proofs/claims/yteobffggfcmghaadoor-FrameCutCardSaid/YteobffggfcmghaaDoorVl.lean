/- Layer 13: frames one behind the other, cut off anywhere. -/
import Derived.Test.YteobffggfcmghaaDoorVa
namespace Go.Proofs.YteobffggfcmghaaDoor
open Go.RowKit
/-- Frames one behind the other: numbers from 7 + i on, kinds from i on. -/
def framesB : Nat → List (List Int) → List Int
  | _, [] => []
  | i, E :: L => frameI ((7 + i : Nat) : Int) (i : Int) E ++ framesB (i + 1) L
theorem framesB_snoc : ∀ (L : List (List Int)) (i : Nat) (E : List Int), framesB i (L ++ [E]) = framesB i L ++ frameI ((7 + (i + L.length) : Nat) : Int) ((i + L.length : Nat) : Int) E
  | [], i, E => by simp [framesB]
  | F :: L, i, E => by
    have e : i + 1 + L.length = i + (F :: L).length := by rw [List.length_cons]; omega
    rw [List.cons_append, framesB, framesB_snoc L (i + 1) E, framesB, List.append_assoc, e]
theorem framesB_len : ∀ (L : List (List Int)) (i : Nat), (∀ E ∈ L, E.length ≤ 200) → (framesB i L).length ≤ 217 * L.length
  | [], _, _ => by simp [framesB]
  | E :: L, i, h => by
    have h1 := framesB_len L (i + 1) fun F hF => h F (List.mem_cons_of_mem _ hF)
    have h2 := h E (List.mem_cons_self ..)
    rw [framesB, List.length_append, frameI_len, List.length_cons]
    omega
theorem framesB_ok : ∀ (L : List (List Int)) (i : Nat), i + L.length ≤ 100 → (∀ E ∈ L, OkB E) → OkB (framesB i L)
  | [], _, _, _ => fun x hx => by cases hx
  | E :: L, i, hi, h => by
    rw [List.length_cons] at hi
    exact (frameI_ok ⟨by omega, by omega⟩ (h E (List.mem_cons_self ..))).append (framesB_ok L (i + 1) (by omega) fun F hF => h F (List.mem_cons_of_mem _ hF))
/-- How many of them are whole, and where these end. -/
def cutN : List (List Int) → Nat → Nat × Nat
  | [], _ => (0, 0)
  | E :: L, t => if 17 + E.length ≤ t then (1 + (cutN L (t - (17 + E.length))).1, 17 + E.length + (cutN L (t - (17 + E.length))).2) else (0, 0)
theorem recAt_part (P F : List Int) (q : Int) (m t : Nat) (hF : F.length = 17 + m) (hw : wordI F 0 = (m : Int)) (ht : t < 17 + m) : recAt (P ++ F.take t) P.length q = none := by
  have hl : (P ++ F.take t).length = P.length + t := by rw [List.length_append, List.length_take, hF]; omega
  unfold recAt
  split
  · rename_i h1
    have h17 : 17 ≤ t := by omega
    have e : wordI (P ++ F.take t) P.length = (m : Int) := by
      have key := word_mid P (F.take t) [] (by rw [List.length_take]; omega)
      rw [List.append_nil] at key
      rw [key, ← hw]
      have eb : ∀ j, j < 4 → bAt (F.take t) j = bAt F j := fun j hj => by
        unfold bAt
        rw [List.getD_eq_getElem?_getD, List.getD_eq_getElem?_getD, List.getElem?_take_of_lt (by omega)]
      unfold wordI
      rw [eb 0 (by omega), eb (0 + 1) (by omega), eb (0 + 2) (by omega), eb (0 + 3) (by omega)]
    rw [e, Int.toNat_natCast, if_neg (by omega)]
  · rfl
/-- A scan of frames that are cut off finds those that are whole. -/
theorem scan_cut : ∀ (L : List (List Int)) (i : Nat) (P : List Int) (t f : Nat), i + L.length ≤ 100 → (∀ E ∈ L, E.length ≤ 200) → t ≤ (framesB i L).length → t + 1 ≤ f →
    (scanI (P ++ (framesB i L).take t) f P.length ((7 + i : Nat) : Int)).1.length = (cutN L t).1 ∧ (scanI (P ++ (framesB i L).take t) f P.length ((7 + i : Nat) : Int)).2 = P.length + (cutN L t).2
  | [], i, P, t, f, _, _, _, hf => by
    have hn : recAt (P ++ (framesB i []).take t) P.length ((7 + i : Nat) : Int) = none := by
      unfold recAt
      rw [if_neg (by simp [framesB]; omega)]
    rw [scanI_none hn]
    exact ⟨rfl, rfl⟩
  | E :: L, i, P, t, f, hi, hE, ht, hf => by
    have hfl := frameI_len ((7 + i : Nat) : Int) (i : Int) E
    have h200 := hE E (List.mem_cons_self ..)
    rw [List.length_cons] at hi
    rw [framesB] at ht ⊢
    rw [List.length_append] at ht
    by_cases hc : 17 + E.length ≤ t
    · have htk : (frameI ((7 + i : Nat) : Int) (i : Int) E ++ framesB (i + 1) L).take t = frameI ((7 + i : Nat) : Int) (i : Int) E ++ (framesB (i + 1) L).take (t - (17 + E.length)) := by
        rw [List.take_append, List.take_of_length_le (by omega), hfl]
      have hr := recAt_mid P ((framesB (i + 1) L).take (t - (17 + E.length))) (seq := ((7 + i : Nat) : Int)) (kind := (i : Int)) (E := E) (by omega) (by omega)
      rw [htk]
      obtain ⟨f', rfl⟩ : ∃ f', f = f' + 1 := ⟨f - 1, by omega⟩
      rw [scanI_some (by omega) hr]
      have ih := scan_cut L (i + 1) (P ++ frameI ((7 + i : Nat) : Int) (i : Int) E) (t - (17 + E.length)) f' (by omega) (fun F hF => hE F (List.mem_cons_of_mem _ hF)) (by omega) (by omega)
      have e1 : (P ++ frameI ((7 + i : Nat) : Int) (i : Int) E).length = P.length + 17 + E.length := by rw [List.length_append, hfl]; omega
      have e2 : wrap64 (((7 + i : Nat) : Int) + 1) = ((7 + (i + 1) : Nat) : Int) := by rw [wrapR _ (by omega) (by omega)]; omega
      rw [List.append_assoc, e1] at ih
      rw [e2, cutN, if_pos hc]
      refine ⟨?_, ?_⟩
      · rw [List.length_cons, ih.1]; omega
      · show (scanI _ f' _ _).2 = _
        rw [ih.2]; omega
    · have htk : (frameI ((7 + i : Nat) : Int) (i : Int) E ++ framesB (i + 1) L).take t = (frameI ((7 + i : Nat) : Int) (i : Int) E).take t := by
        rw [List.take_append_of_le_length (by omega)]
      rw [htk, scanI_none (recAt_part P _ _ E.length t hfl (frame_word (by omega)) (by omega)), cutN, if_neg hc]
      exact ⟨rfl, rfl⟩
/-- With another number at first none is found. -/
theorem scan_other (L : List (List Int)) (f : Nat) (hE : ∀ E ∈ L, E.length ≤ 200) : scanI (framesB 0 L) f 0 8 = ([], 0) := by
  refine scanI_none ?_
  cases L with
  | nil => unfold recAt; rw [if_neg (by simp [framesB])]
  | cons E L =>
    have hfl := frameI_len ((7 + 0 : Nat) : Int) ((0 : Nat) : Int) E
    have h200 := hE E (List.mem_cons_self ..)
    rw [framesB]
    have hw : wordI (frameI ((7 + 0 : Nat) : Int) ((0 : Nat) : Int) E ++ framesB (0 + 1) L) 0 = (E.length : Int) := by
      have key := word_mid [] (frameI ((7 + 0 : Nat) : Int) ((0 : Nat) : Int) E) (framesB (0 + 1) L) (by omega)
      exact key.trans (frame_word (by omega))
    have hc : cutL (frameI ((7 + 0 : Nat) : Int) ((0 : Nat) : Int) E ++ framesB (0 + 1) L) 0 (17 + E.length) = frameI ((7 + 0 : Nat) : Int) ((0 : Nat) : Int) E := by
      have key := cutL_mid [] (frameI ((7 + 0 : Nat) : Int) ((0 : Nat) : Int) E) (framesB (0 + 1) L)
      rw [hfl] at key
      exact key
    unfold recAt
    rw [hw, Int.toNat_natCast, hc]
    split
    · split
      · rw [if_neg]
        intro e
        have e2 := congrArg (fun l => wordL (cutL l 4 8)) e
        simp only [cut_seq] at e2
        rw [lowI_8 (by decide), lowI_8 (by decide)] at e2
        exact absurd e2 (by decide)
      · rfl
    · rfl
end Go.Proofs.YteobffggfcmghaaDoor
