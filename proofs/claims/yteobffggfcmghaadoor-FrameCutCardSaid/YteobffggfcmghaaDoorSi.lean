/- Layer 13: records in bytes; what a scan finds. -/
import Derived.Test.YteobffggfcmghaaDoorSg
namespace Go.Proofs.YteobffggfcmghaaDoor
open Go.RowKit
/-- Four bytes as a number, the highest first. -/
def wordI (B : List Int) (a : Nat) : Int := ((bAt B a * 256 + bAt B (a + 1)) * 256 + bAt B (a + 2)) * 256 + bAt B (a + 3)
/-- The record at a place, if there is one with that number. -/
def recAt (B : List Int) (a : Nat) (seq : Int) : Option (Int × List Int) :=
  if a + 17 ≤ B.length ∧ 0 ≤ seq then
    if wordI B a ≤ 1048576 ∧ a + 17 + (wordI B a).toNat ≤ B.length then
      if frameI seq (bAt B (a + 12)) (cutL B (a + 13) (wordI B a).toNat) = cutL B a (17 + (wordI B a).toNat) then some (bAt B (a + 12), cutL B (a + 13) (wordI B a).toNat) else none
    else none
  else none
/-- The records from a place on, and where they end. -/
def scanI (B : List Int) : Nat → Nat → Int → List (Int × Int × List Int) × Nat
  | 0, a, _ => ([], a)
  | f + 1, a, seq => match recAt B a seq with
    | none => ([], a)
    | some r => if seq = 9223372036854775807 then ([(seq, r.1, r.2)], a + 17 + r.2.length) else ((seq, r.1, r.2) :: (scanI B f (a + 17 + r.2.length) (seq + 1)).1, (scanI B f (a + 17 + r.2.length) (seq + 1)).2)
theorem lowI_word {n : Int} (h0 : 0 ≤ n) (h1 : n ≤ 4294967295) : wordI (lowI n 4) 0 = n := by
  show ((n / 256 ^ 3 % 256 * 256 + n / 256 ^ 2 % 256) * 256 + n / 256 ^ 1 % 256) * 256 + n / 256 ^ 0 % 256 = n
  omega
theorem bAt_left {L R : List Int} {j : Nat} (h : j < L.length) : bAt (L ++ R) j = bAt L j := by
  unfold bAt
  rw [List.getD_eq_getElem?_getD, List.getD_eq_getElem?_getD, List.getElem?_append_left h]
theorem bAt_right {L R : List Int} {j : Nat} : bAt (L ++ R) (L.length + j) = bAt R j := by
  unfold bAt
  rw [List.getD_eq_getElem?_getD, List.getD_eq_getElem?_getD, List.getElem?_append_right (by omega), Nat.add_sub_cancel_left]
/-- A frame's parts: its length's bytes, its number's, its kind, its data, its sum. -/
theorem frameI_eq (seq kind : Int) (E : List Int) : frameI seq kind E = lowI (E.length : Int) 4 ++ (lowI seq 8 ++ ([kind] ++ (E ++ lowI (sumI (headI seq kind E)) 4))) := by
  unfold frameI
  have e : headI seq kind E = lowI (E.length : Int) 4 ++ lowI seq 8 ++ [kind] ++ E := rfl
  generalize hs : lowI (sumI (headI seq kind E)) 4 = s
  rw [e]
  simp only [List.append_assoc]
theorem frame_word {seq kind : Int} {E : List Int} (hE : E.length ≤ 4294967295) : wordI (frameI seq kind E) 0 = (E.length : Int) := by
  have h := lowI_word (n := (E.length : Int)) (by omega) (by omega)
  rw [frameI_eq]
  unfold wordI at h ⊢
  have hl : (lowI (E.length : Int) 4).length = 4 := lowI_len _ 4
  rw [bAt_left (by omega), bAt_left (by omega), bAt_left (by omega), bAt_left (by omega)]
  exact h
theorem frame_kind (seq kind : Int) (E : List Int) : bAt (frameI seq kind E) 12 = kind := by
  rw [frameI_eq]
  have h4 : (lowI (E.length : Int) 4).length = 4 := lowI_len _ 4
  have h8 : (lowI seq 8).length = 8 := lowI_len _ 8
  have e : ∀ R : List Int, bAt (lowI (E.length : Int) 4 ++ R) 12 = bAt R 8 := fun R => by
    have := bAt_right (L := lowI (E.length : Int) 4) (R := R) (j := 8); rw [h4] at this; exact this
  have e2 : ∀ R : List Int, bAt (lowI seq 8 ++ R) 8 = bAt R 0 := fun R => by
    have := bAt_right (L := lowI seq 8) (R := R) (j := 0); rw [h8] at this; exact this
  rw [e, e2]
  rfl
theorem word_mid (P F R : List Int) (h : 4 ≤ F.length) : wordI (P ++ (F ++ R)) P.length = wordI F 0 := by
  unfold wordI
  have e : ∀ j, j < 4 → bAt (P ++ (F ++ R)) (P.length + j) = bAt F j := fun j hj => bAt_mid P F R (by omega)
  rw [show bAt (P ++ (F ++ R)) P.length = bAt F 0 from e 0 (by omega), e 1 (by omega), e 2 (by omega), e 3 (by omega)]
theorem frame_data (P R : List Int) (seq kind : Int) (E : List Int) : cutL (P ++ (frameI seq kind E ++ R)) (P.length + 13) E.length = E := by
  have h4 : (lowI (E.length : Int) 4).length = 4 := lowI_len _ 4
  have h8 : (lowI seq 8).length = 8 := lowI_len _ 8
  have e : P ++ (frameI seq kind E ++ R) = (P ++ (lowI (E.length : Int) 4 ++ (lowI seq 8 ++ [kind]))) ++ (E ++ (lowI (sumI (headI seq kind E)) 4 ++ R)) := by
    rw [frameI_eq]; simp only [List.append_assoc]
  have hl : (P ++ (lowI (E.length : Int) 4 ++ (lowI seq 8 ++ [kind]))).length = P.length + 13 := by
    simp only [List.length_append, h4, h8, List.length_singleton]
  rw [e, ← hl]
  exact cutL_mid _ _ _
/-- A record is found in its frame. -/
theorem recAt_mid (P R : List Int) {seq kind : Int} {E : List Int} (hs : 0 ≤ seq) (hE : E.length ≤ 1048576) : recAt (P ++ (frameI seq kind E ++ R)) P.length seq = some (kind, E) := by
  have hf := frameI_len seq kind E
  have hl : (P ++ (frameI seq kind E ++ R)).length = P.length + (17 + E.length) + R.length := by simp only [List.length_append, hf]; omega
  have hw : wordI (P ++ (frameI seq kind E ++ R)) P.length = (E.length : Int) := by
    rw [word_mid _ _ _ (by omega)]; exact frame_word (by omega)
  have hk : bAt (P ++ (frameI seq kind E ++ R)) (P.length + 12) = kind := by
    rw [bAt_mid P _ R (by omega)]; exact frame_kind ..
  have hd := frame_data P R seq kind E
  have hc : cutL (P ++ (frameI seq kind E ++ R)) P.length (17 + E.length) = frameI seq kind E := by
    rw [← hf]; exact cutL_mid _ _ _
  unfold recAt
  rw [hw, hk, Int.toNat_natCast, hd, hc, if_pos ⟨by omega, hs⟩, if_pos ⟨by omega, by omega⟩, if_pos rfl]
end Go.Proofs.YteobffggfcmghaaDoor
