/- Plain texts for layer 1 (fixed): decimal digits. Nothing of the program. -/
import Derived.Lib.ItoaMem
import Derived.Lib.TrimByte
import Derived.Lib.Strings
import Derived.Lib.IndexBytes
import Derived.Lib.AppendIntMem
import Derived.Laws.Concat
namespace Go.Proofs.YtbnbglngpgikfaaGreatDoor
open Go.RowKit

theorem dec_len (k : Nat) : ∀ u, u < 10 ^ (k + 1) → (Lib.decDigits u).length ≤ k + 1 := by
  induction k with
  | zero => intro u h; rw [Lib.decDigits_one (by omega)]; simp
  | succ k ih =>
    intro u h
    rw [Lib.decDigits]
    split
    · simp
    · rw [List.length_append, List.length_singleton]
      have h2 : u / 10 < 10 ^ (k + 1) := by
        rw [Nat.div_lt_iff_lt_mul (by decide)]
        rw [Nat.pow_succ] at h; exact h
      have := ih _ h2
      omega
theorem dec_pos (u : Nat) : 1 ≤ (Lib.decDigits u).length := by
  rw [Lib.decDigits]
  split <;> simp
theorem itoa_pos (n : Int) : 1 ≤ ((Lib.itoa n).length : Int) := by
  unfold Lib.itoa
  split
  · simp; omega
  · have := dec_pos n.toNat; omega
theorem itoa_len (n : Int) (h0 : -9223372036854775808 ≤ n) (h1 : n ≤ 9223372036854775807) : ((Lib.itoa n).length : Int) ≤ 20 := by
  unfold Lib.itoa
  split
  · have := dec_len 18 n.natAbs (by omega)
    simp; omega
  · have := dec_len 18 n.toNat (by omega)
    omega
theorem trim_len (l : List UInt8) (c : UInt8) : (Lib.trimRightB l c).length ≤ l.length := by
  unfold Lib.trimRightB
  rw [List.length_reverse]
  have := (List.dropWhile_suffix (l := l.reverse) (fun x => x == c)).length_le
  simpa using this
theorem drop_ext (l : List UInt8) (k : Nat) : ((⟨l.toArray⟩ : ByteArray).extract k l.length).data.toList = l.drop k := by
  rw [Lib.extract_data]
  exact List.take_of_length_le (by rw [List.length_drop]; exact Nat.le_refl _)
theorem cat_mk (a b : List UInt8) : ((⟨a.toArray⟩ : ByteArray) ++ (⟨b.toArray⟩ : ByteArray)) = ⟨(a ++ b).toArray⟩ := by
  rw [ByteArray.mk_append_mk]
/-- A part behind the point. -/
def partT (p : Int) : List UInt8 := if p = 0 then [] else 46 :: Lib.trimRightB (Lib.itoa (100000000 + p * 390625)).tail 48
/-- The text of a coordinate in room. -/
def textT (a : Int) : List UInt8 := if a < 0 then 45 :: (Lib.itoa (-a / 256) ++ partT (-a % 256)) else Lib.itoa (a / 256) ++ partT (a % 256)
theorem dec_next (u : Nat) (h : ¬ u < 10) : Lib.decDigits u = Lib.decDigits (u / 10) ++ [UInt8.ofNat (48 + u % 10)] := by rw [Lib.decDigits, dif_neg h]
theorem text_384 : textT (-384) = [45, 49, 46, 53] := by
  have e : Lib.decDigits 150000000 = [49, 53, 48, 48, 48, 48, 48, 48, 48] := by
    rw [dec_next _ (by decide), dec_next _ (by decide), dec_next _ (by decide), dec_next _ (by decide), dec_next _ (by decide), dec_next _ (by decide), dec_next _ (by decide), dec_next _ (by decide), Lib.decDigits_one (by decide)]
    rfl
  have e1 : Lib.itoa 1 = [49] := by
    unfold Lib.itoa
    rw [if_neg (by decide), show (1 : Int).toNat = 1 from rfl, Lib.decDigits_one (by decide)]
    rfl
  have e2 : partT 128 = [46, 53] := by
    unfold partT Lib.itoa
    rw [if_neg (by decide), if_neg (by decide), show (100000000 + 128 * 390625 : Int).toNat = 150000000 from rfl, e]
    rfl
  unfold textT
  rw [if_pos (by decide), show (-(-384 : Int)) / 256 = 1 from rfl, show (-(-384 : Int)) % 256 = 128 from rfl, e1, e2]
  rfl
theorem partT_len (p : Int) (h0 : 0 ≤ p) (h1 : p ≤ 255) : (partT p).length ≤ 21 := by
  unfold partT
  split
  · simp
  · have h2 := trim_len (Lib.itoa (100000000 + p * 390625)).tail 48
    have h3 := itoa_len (100000000 + p * 390625) (by omega) (by omega)
    rw [List.length_tail] at h2
    rw [List.length_cons]; omega
#print axioms partT_len
end Go.Proofs.YtbnbglngpgikfaaGreatDoor

