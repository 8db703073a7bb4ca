/- Layer 13: the record that bytes begin with; a scan, step by step. -/
import Derived.Test.YteobffggfcmghaaDoorSi
namespace Go.Proofs.YteobffggfcmghaaDoor
open Go.RowKit
/-- Bytes as a number, the highest first. -/
def wordL (E : List Int) : Int := E.foldl (fun n c => n * 256 + c) 0
theorem wordL_snoc (E : List Int) (x : Int) : wordL (E ++ [x]) = wordL E * 256 + x := by unfold wordL; rw [List.foldl_append]; rfl
theorem fold_in : ∀ (E : List Int) (n : Int), OkB E → 0 ≤ n → 0 ≤ E.foldl (fun n c => n * 256 + c) n ∧ E.foldl (fun n c => n * 256 + c) n < (n + 1) * 256 ^ E.length
  | [], n, _, h0 => ⟨h0, by simp; omega⟩
  | c :: E, n, hE, h0 => by
    have hc := hE c (List.mem_cons_self ..)
    have ih := fold_in E (n * 256 + c) (fun y hy => hE y (List.mem_cons_of_mem _ hy)) (by omega)
    rw [List.foldl_cons]
    refine ⟨ih.1, Int.lt_of_lt_of_le ih.2 ?_⟩
    rw [List.length_cons, Int.pow_succ]
    have h1 : n * 256 + c + 1 ≤ (n + 1) * 256 := by omega
    have hp : (0 : Int) ≤ 256 ^ E.length := Int.le_of_lt (Int.pow_pos (by decide))
    have := Int.mul_le_mul_of_nonneg_right h1 hp
    rw [show (n + 1) * (256 ^ E.length * 256) = (n + 1) * 256 * 256 ^ E.length by ac_rfl]
    exact this
theorem wordL_in (E : List Int) (h : OkB E) : 0 ≤ wordL E ∧ wordL E < 256 ^ E.length := by
  have := fold_in E 0 h (Int.le_refl _)
  rw [Int.zero_add, Int.one_mul] at this
  exact this
theorem lowI_8 {n : Int} (h : 0 ≤ n ∧ n ≤ 9223372036854775807) : wordL (lowI n 8) = n := by
  show (((((((0 * 256 + n / 256 ^ 7 % 256) * 256 + n / 256 ^ 6 % 256) * 256 + n / 256 ^ 5 % 256) * 256 + n / 256 ^ 4 % 256) * 256 + n / 256 ^ 3 % 256) * 256 + n / 256 ^ 2 % 256) * 256 + n / 256 ^ 1 % 256) * 256 + n / 256 ^ 0 % 256 = n
  omega
theorem bAt_drop (B : List Int) (a i : Nat) : bAt (B.drop a) i = bAt B (a + i) := by
  unfold bAt
  rw [List.getD_eq_getElem?_getD, List.getD_eq_getElem?_getD, List.getElem?_drop]
theorem cutL_drop (B : List Int) (a i n : Nat) : cutL (B.drop a) i n = cutL B (a + i) n := by
  unfold cutL
  rw [List.drop_drop]
theorem word_cut {B : List Int} {a : Nat} (h : a + 4 ≤ B.length) : wordL (cutL B a 4) = wordI B a := by
  have e : cutL B a 4 = [bAt B a, bAt B (a + 1), bAt B (a + 2), bAt B (a + 3)] := by
    apply List.ext_getElem?
    intro i
    rcases i with _ | _ | _ | _ | i
    · rw [cutL_at (by omega)]; exact bAt_some (by omega)
    · rw [cutL_at (by omega)]; exact bAt_some (by omega)
    · rw [cutL_at (by omega)]; exact bAt_some (by omega)
    · rw [cutL_at (by omega)]; exact bAt_some (by omega)
    · rw [List.getElem?_eq_none (by rw [cutL_len h]; omega)]; rfl
  rw [e]
  show (((0 * 256 + bAt B a) * 256 + bAt B (a + 1)) * 256 + bAt B (a + 2)) * 256 + bAt B (a + 3) = _
  unfold wordI
  omega
theorem wordI_in {B : List Int} {a : Nat} (hB : OkB B) (h : a + 4 ≤ B.length) : 0 ≤ wordI B a ∧ wordI B a ≤ 4294967295 := by
  rw [← word_cut h]
  have := wordL_in _ (cutL_ok hB a 4)
  rw [cutL_len h] at this
  omega
/-- The number of the frame that bytes begin with, as an int. -/
def seqI (B : List Int) : Int := wrap64 (wordL (cutL B 4 8))
/-- The record whose frame bytes begin with. -/
def firstO (B : List Int) : Option (Int × Int × List Int) :=
  if 17 ≤ B.length ∧ (wordI B 0).toNat + 17 ≤ B.length ∧ 0 ≤ seqI B ∧ frameI (seqI B) (bAt B 12) (cutL B 13 (wordI B 0).toNat) = cutL B 0 (17 + (wordI B 0).toNat) then some (seqI B, bAt B 12, cutL B 13 (wordI B 0).toNat) else none
theorem cut_seq (seq kind : Int) (E : List Int) : cutL (frameI seq kind E) 4 8 = lowI seq 8 := by
  have h4 : (lowI (E.length : Int) 4).length = 4 := lowI_len _ 4
  have h8 : (lowI seq 8).length = 8 := lowI_len _ 8
  have key := cutL_mid (lowI (E.length : Int) 4) (lowI seq 8) ([kind] ++ (E ++ lowI (sumI (headI seq kind E)) 4))
  rw [← frameI_eq, h4, h8] at key
  exact key
theorem cut_cut (B : List Int) (a n i k : Nat) (h : i + k ≤ n) : cutL (cutL B a n) i k = cutL B (a + i) k := by
  unfold cutL
  rw [List.drop_take, List.take_take, List.drop_drop, Nat.min_eq_left (by omega)]
theorem wrap_in {n : Int} (h : 0 ≤ n ∧ n ≤ 9223372036854775807) : wrap64 n = n := wrapR _ (by omega) (by omega)
/-- A record with a number is at a place just if it is the one that the bytes from there begin with. -/
theorem recAt_first {B : List Int} (hB : OkB B) (hl : B.length ≤ 60000) (a : Nat) (q : Int) (hq : q ≤ 9223372036854775807) :
    recAt B a q = match firstO (B.drop a) with | some (s, k, E) => if s = q then some (k, E) else none | none => none := by
  have hlen : (B.drop a).length = B.length - a := List.length_drop
  have hw : wordI (B.drop a) 0 = wordI B a := by unfold wordI; simp only [bAt_drop, Nat.add_zero]
  have hk : bAt (B.drop a) 12 = bAt B (a + 12) := bAt_drop ..
  have hd : cutL (B.drop a) 13 (wordI B a).toNat = cutL B (a + 13) (wordI B a).toNat := cutL_drop ..
  have hc : cutL (B.drop a) 0 (17 + (wordI B a).toNat) = cutL B a (17 + (wordI B a).toNat) := cutL_drop ..
  unfold firstO
  rw [hw, hk, hd, hc, hlen]
  unfold recAt
  by_cases h1 : a + 17 ≤ B.length ∧ 0 ≤ q
  · rw [if_pos h1]
    have hwi := wordI_in (a := a) hB (by omega)
    by_cases h2 : wordI B a ≤ 1048576 ∧ a + 17 + (wordI B a).toNat ≤ B.length
    · rw [if_pos h2]
      by_cases h3 : frameI q (bAt B (a + 12)) (cutL B (a + 13) (wordI B a).toNat) = cutL B a (17 + (wordI B a).toNat)
      · have hs : seqI (B.drop a) = q := by
          unfold seqI
          have e : cutL (B.drop a) 4 8 = lowI q 8 := by
            rw [cutL_drop, ← cut_cut B a (17 + (wordI B a).toNat) 4 8 (by omega), ← h3, cut_seq]
          rw [e, lowI_8 ⟨h1.2, hq⟩, wrap_in ⟨h1.2, hq⟩]
        rw [if_pos h3, hs, if_pos ⟨by omega, by omega, h1.2, h3⟩]
        simp
      · rw [if_neg h3]
        split
        · rename_i heq
          split at heq
          · rename_i hcond
            cases heq
            split
            · rename_i hsq
              rw [hsq] at hcond
              exact absurd hcond.2.2.2 h3
            · rfl
          · cases heq
        · rfl
    · rw [if_neg h2, if_neg (fun hh => h2 ⟨by omega, by omega⟩)]
  · rw [if_neg h1]
    split
    · rename_i heq
      split at heq
      · rename_i hcond
        cases heq
        split
        · rename_i hsq
          exact absurd ⟨by omega, by rw [← hsq]; exact hcond.2.2.1⟩ h1
        · rfl
      · cases heq
    · rfl
theorem recAt_len {B : List Int} {a : Nat} {q k : Int} {E : List Int} (h : recAt B a q = some (k, E)) : 0 ≤ q ∧ a + 17 + E.length ≤ B.length := by
  unfold recAt at h
  split at h
  · rename_i h1
    split at h
    · rename_i h2
      split at h
      · cases h
        refine ⟨h1.2, ?_⟩
        rw [cutL_len (by omega)]
        omega
      · cases h
    · cases h
  · cases h
theorem recAt_neg {B : List Int} {a : Nat} {q : Int} (h : q < 0) : recAt B a q = none := by
  unfold recAt
  rw [if_neg (by omega)]
theorem scanI_none {B : List Int} {f a : Nat} {q : Int} (h : recAt B a q = none) : scanI B f a q = ([], a) := by
  cases f with
  | zero => rfl
  | succ f => rw [scanI, h]
/-- A step of a scan; behind the greatest number comes one below nought. -/
theorem scanI_some {B : List Int} {f a : Nat} {q k : Int} {E : List Int} (hq : q ≤ 9223372036854775807) (h : recAt B a q = some (k, E)) : scanI B (f + 1) a q = ((q, k, E) :: (scanI B f (a + 17 + E.length) (wrap64 (q + 1))).1, (scanI B f (a + 17 + E.length) (wrap64 (q + 1))).2) := by
  have h0 := (recAt_len h).1
  rw [scanI, h]
  by_cases hm : q = 9223372036854775807
  · subst hm
    have e : wrap64 (9223372036854775807 + 1) = -9223372036854775808 := by unfold wrap64; omega
    rw [e, scanI_none (recAt_neg (by decide))]
    rfl
  · rw [wrap_in ⟨by omega, by omega⟩]
    show (if q = 9223372036854775807 then _ else _) = _
    rw [if_neg hm]
end Go.Proofs.YteobffggfcmghaaDoor
