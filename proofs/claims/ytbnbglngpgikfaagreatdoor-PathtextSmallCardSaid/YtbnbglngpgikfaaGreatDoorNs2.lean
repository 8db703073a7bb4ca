/- Plain texts for layer 1 (fixed): what is written is read back. Nothing of the program. -/
import Derived.Test.YtbnbglngpgikfaaGreatDoorNs
import Derived.Test.YtbnbglngpgikfaaGreatDoorNm
import Derived.Lib.ParseIntB
import Derived.Lib.IndexMore
import Derived.Lib.Repeat
namespace Go.Proofs.YtbnbglngpgikfaaGreatDoor
open Go.RowKit

/-- The number, if one was read. -/
def okOf : Lib.NumEnd Nat → Option Nat
  | .ok u => some u
  | _ => none
/-- What the decimal digits spell behind acc. -/
def val (acc : Nat) : List UInt8 → Nat
  | [] => acc
  | c :: r => val (acc * 10 + (c.toNat - 48)) r
def digs (l : List UInt8) : Prop := ∀ c ∈ l, 48 ≤ c.toNat ∧ c.toNat ≤ 57
theorem val_ge : ∀ (l : List UInt8) (acc : Nat), acc ≤ val acc l
  | [], _ => Nat.le_refl _
  | c :: r, acc => Nat.le_trans (by omega) (val_ge r (acc * 10 + (c.toNat - 48)))
theorem val_append : ∀ (l m : List UInt8) (acc : Nat), val acc (l ++ m) = val (val acc l) m
  | [], _, _ => rfl
  | _ :: r, m, _ => val_append r m _
theorem parse_digs (M : Nat) (hM : M ≤ 4294967295) : ∀ (l : List UInt8) (acc : Nat), digs l → val acc l ≤ M → Lib.parseUintM M acc l = .ok (val acc l)
  | [], _, _, _ => rfl
  | c :: r, acc, hd, hv => by
    have h0 := hd c (List.mem_cons_self ..)
    have h1 := val_ge r (acc * 10 + (c.toNat - 48))
    have hv' : val (acc * 10 + (c.toNat - 48)) r ≤ M := hv
    unfold Lib.parseUintM
    rw [if_pos h0, if_neg (by omega), if_neg (by omega)]
    exact parse_digs M hM r _ (fun x hx => hd x (List.mem_cons_of_mem _ hx)) hv'
theorem digit_nat (d : Nat) (h : d < 10) : (UInt8.ofNat (48 + d)).toNat = 48 + d := by
  rw [UInt8.toNat_ofNat']; omega
theorem dec_digs (u : Nat) : digs (Lib.decDigits u) ∧ val 0 (Lib.decDigits u) = u := by
  induction u using Nat.strongRecOn with
  | _ u ih =>
    by_cases h : u < 10
    · rw [Lib.decDigits_one h]
      have hd := digit_nat u h
      refine ⟨fun c hc => ?_, ?_⟩
      · rw [List.mem_singleton.1 hc, hd]; omega
      · show 0 * 10 + ((UInt8.ofNat (48 + u)).toNat - 48) = u
        rw [hd]; omega
    · obtain ⟨i1, i2⟩ := ih (u / 10) (by omega)
      rw [dec_next u h]
      have hd := digit_nat (u % 10) (by omega)
      refine ⟨fun c hc => ?_, ?_⟩
      · rcases List.mem_append.1 hc with hc | hc
        · exact i1 c hc
        · rw [List.mem_singleton.1 hc, hd]; omega
      · rw [val_append, i2]
        show u / 10 * 10 + ((UInt8.ofNat (48 + u % 10)).toNat - 48) = u
        rw [hd]; omega
theorem dec_ne (u : Nat) : Lib.decDigits u ≠ [] := fun h => by have := dec_pos u; rw [h] at this; simp at this
/-- k digits of r. -/
def padD : Nat → Nat → List UInt8
  | 0, _ => []
  | k + 1, r => padD k (r / 10) ++ [UInt8.ofNat (48 + r % 10)]
theorem padD_len : ∀ k r, (padD k r).length = k
  | 0, _ => rfl
  | k + 1, r => by rw [padD, List.length_append, padD_len k]; rfl
theorem padD_val : ∀ k r, r < 10 ^ k → digs (padD k r) ∧ val 0 (padD k r) = r
  | 0, r, h => by
    have : r = 0 := by simpa using h
    subst this
    exact ⟨(fun c hc => by cases hc), rfl⟩
  | k + 1, r, h => by
    obtain ⟨i1, i2⟩ := padD_val k (r / 10) (by rw [Nat.pow_succ] at h; omega)
    have hd := digit_nat (r % 10) (by omega)
    refine ⟨fun c hc => ?_, ?_⟩
    · rcases List.mem_append.1 hc with hc | hc
      · exact i1 c hc
      · rw [List.mem_singleton.1 hc, hd]; omega
    · rw [padD, val_append, i2]
      show r / 10 * 10 + ((UInt8.ofNat (48 + r % 10)).toNat - 48) = r
      rw [hd]; omega
/-- A 1 ahead keeps the noughts. -/
theorem dec_pad : ∀ k r, r < 10 ^ k → Lib.decDigits (10 ^ k + r) = 49 :: padD k r
  | 0, r, h => by
    have : r = 0 := by simpa using h
    subst this
    rw [Lib.decDigits_one (by decide)]; rfl
  | k + 1, r, h => by
    have hp : 0 < 10 ^ k := Nat.pow_pos (by decide)
    rw [Nat.pow_succ] at h
    rw [dec_next _ (by rw [Nat.pow_succ]; omega), show (10 ^ (k + 1) + r) / 10 = 10 ^ k + r / 10 by rw [Nat.pow_succ]; omega, show (10 ^ (k + 1) + r) % 10 = r % 10 by rw [Nat.pow_succ]; omega,
      dec_pad k (r / 10) (by omega)]
    rfl
/-! Noughts at the end. -/
theorem trim_cons (c : UInt8) (t : List UInt8) (h : c ≠ 48) : Lib.trimRightB (c :: t) 48 = c :: Lib.trimRightB t 48 := by
  unfold Lib.trimRightB
  rw [List.reverse_cons]
  have : (t.reverse ++ [c]).dropWhile (· == 48) = t.reverse.dropWhile (· == 48) ++ [c] := by
    generalize t.reverse = r
    induction r with
    | nil => simp [h]
    | cons x r ih =>
      rw [List.cons_append, List.dropWhile_cons, List.dropWhile_cons]
      split
      · exact ih
      · rfl
  rw [this, List.reverse_append]; rfl
theorem trim_snoc (l : List UInt8) (c : UInt8) : Lib.trimRightB (l ++ [c]) 48 = if c = 48 then Lib.trimRightB l 48 else l ++ [c] := by
  unfold Lib.trimRightB
  rw [List.reverse_append, List.reverse_singleton, List.singleton_append, List.dropWhile_cons]
  by_cases h : c = 48
  · rw [if_pos (by simp [h]), if_pos h]
  · rw [if_neg (by simp [h]), if_neg h]; simp
theorem take_last (l : List UInt8) (h : l ≠ []) : l = l.take (l.length - 1) ++ [l.getD (l.length - 1) 0] := by
  rcases List.eq_nil_or_concat l with rfl | ⟨m, c, rfl⟩
  · exact absurd rfl h
  · simp
theorem repeat_one (n : Nat) : Lib.repeatL [48] n = List.replicate n 48 := by
  induction n with
  | zero => rfl
  | succ n ih => rw [Lib.repeatL, ih]; rfl
theorem trim_pad (l : List UInt8) : Lib.trimRightB l 48 ++ Lib.repeatL [48] (l.length - (Lib.trimRightB l 48).length) = l := by
  induction hn : l.length generalizing l with
  | zero => obtain rfl := List.eq_nil_of_length_eq_zero hn; rfl
  | succ n ih =>
    have e := take_last l (fun h => by rw [h] at hn; simp at hn)
    generalize l.take (l.length - 1) = m at e
    generalize l.getD (l.length - 1) 0 = c at e
    subst e
    have hm : m.length = n := by simpa using hn
    rw [trim_snoc]
    split
    · rename_i hc
      have h1 := ih m hm
      have h2 := trim_len m 48
      subst hc
      rw [show n + 1 - (Lib.trimRightB m 48).length = (n - (Lib.trimRightB m 48).length) + 1 by omega]
      rw [repeat_one] at h1 ⊢
      rw [List.replicate_succ', ← List.append_assoc, h1]
    · rw [show n + 1 - (m ++ [c]).length = 0 by rw [List.length_append, List.length_singleton]; omega]
      simp [Lib.repeatL]
/-! The point. -/
theorem index_at (rest : List UInt8) : ∀ l : List UInt8, digs l → Lib.index (l ++ 46 :: rest) [46] = l.length
  | [], _ => by simp [Lib.index]
  | c :: r, h => by
    have hc := h c (List.mem_cons_self ..)
    have hne : ¬ (46 = c) := fun e => by rw [← e] at hc; exact absurd hc.1 (by decide)
    have := index_at rest r (fun x hx => h x (List.mem_cons_of_mem _ hx))
    rw [List.cons_append, Lib.index, if_neg (by simp [hne]), if_neg (by rw [this]; simp), this]
    rfl
theorem index_none : ∀ l : List UInt8, digs l → Lib.index l [46] = -1
  | [], _ => by simp [Lib.index]
  | c :: r, h => by
    have hc := h c (List.mem_cons_self ..)
    have hne : ¬ (46 = c) := fun e => by rw [← e] at hc; exact absurd hc.1 (by decide)
    have := index_none r (fun x hx => h x (List.mem_cons_of_mem _ hx))
    rw [Lib.index, if_neg (by simp [hne]), if_pos (by rw [this]; rfl)]
theorem cut_at (l rest : List UInt8) (h : digs l) : Lib.cut (l ++ 46 :: rest) [46] = (l, rest, true) := by
  unfold Lib.cut
  rw [index_at rest l h, if_pos (by omega), Int.toNat_natCast]
  simp
theorem cut_none (l : List UInt8) (h : digs l) : Lib.cut l [46] = (l, [], false) := by
  unfold Lib.cut
  rw [index_none l h, if_neg (by decide)]
/-- What a part of 256ths is behind the point. -/
def fracL (p : Nat) : List UInt8 := Lib.trimRightB (padD 8 (p * 390625)) 48
theorem partT_pos (p : Int) (h0 : 1 ≤ p) (h1 : p ≤ 255) : partT p = 46 :: fracL p.toNat := by
  obtain ⟨n, rfl⟩ := Int.eq_ofNat_of_zero_le (show 0 ≤ p by omega)
  unfold partT fracL Lib.itoa
  rw [if_neg (by omega), if_neg (by omega), show (100000000 + (n : Int) * 390625).toNat = 10 ^ 8 + n * 390625 by omega, dec_pad 8 _ (by omega)]
  rfl
theorem itoa_nat (u : Nat) : Lib.itoa (u : Int) = Lib.decDigits u := Lib.itoa_nonneg u
theorem frac_len (p : Nat) : (fracL p).length ≤ 8 := by
  have := trim_len (padD 8 (p * 390625)) 48
  rw [padD_len] at this; exact this
/-- A part behind the point, read: at most eight digits. -/
def readPartF (l : List UInt8) : Option Nat := if 8 < l.length then none else (okOf (Lib.parseUintB 32 (l ++ Lib.repeatL [48] (8 - l.length)))).map (· / 390625)
theorem readPart_frac (p : Nat) (h : p ≤ 255) : readPartF (fracL p) = some p := by
  unfold readPartF
  rw [if_neg (by have := frac_len p; omega)]
  have e := trim_pad (padD 8 (p * 390625))
  rw [padD_len] at e
  show (okOf (Lib.parseUintB 32 (fracL p ++ Lib.repeatL [48] (8 - (fracL p).length)))).map (· / 390625) = some p
  unfold fracL
  rw [e]
  obtain ⟨d1, d2⟩ := padD_val 8 (p * 390625) (by omega)
  unfold Lib.parseUintB
  rw [if_neg (fun e => by have := padD_len 8 (p * 390625); rw [e] at this; simp at this), parse_digs _ (by decide) _ _ d1 (by rw [d2]; omega), d2]
  show some (p * 390625 / 390625) = some p
  rw [Nat.mul_div_cancel _ (by decide)]
theorem readPart_nil : readPartF [] = some 0 := by
  unfold readPartF
  rw [if_neg (by decide)]
  have d := padD_val 8 0 (by decide)
  have e : ([] : List UInt8) ++ Lib.repeatL [48] (8 - ([] : List UInt8).length) = padD 8 0 := by decide
  rw [e]
  unfold Lib.parseUintB
  rw [if_neg (fun e => by have := padD_len 8 0; rw [e] at this; simp at this), parse_digs _ (by decide) _ _ d.1 (by rw [d.2]; omega), d.2]
  rfl
/-- A minus or none, digits, and a point with digits or none. -/
def sizeF (l : List UInt8) : Option Int :=
  (okOf (Lib.parseUintB 24 (Lib.cut l [46]).1)).bind fun u => (readPartF (Lib.cut l [46]).2.1).map fun (p : Nat) => (u : Int) * 256 + (p : Int)
def readF (s : List UInt8) : Option Int := (sizeF (Lib.trimPrefix s [45])).map fun n => if Lib.hasPrefix s [45] then -n else n
theorem readF_nil : readF [] = none := by
  unfold readF
  have : Lib.trimPrefix [] [45] = [] := by decide
  rw [this]
  unfold sizeF
  rw [cut_none [] (fun c hc => by cases hc)]
  rfl
theorem size_text (u p : Nat) (hu : u ≤ 8388608) (hp : p ≤ 255) : sizeF (Lib.itoa u ++ partT p) = some ((u : Int) * 256 + p) := by
  obtain ⟨d1, d2⟩ := dec_digs u
  have hu2 : okOf (Lib.parseUintB 24 (Lib.decDigits u)) = some u := by
    unfold Lib.parseUintB
    rw [if_neg (dec_ne u), parse_digs _ (by decide) _ _ d1 (by rw [d2]; omega), d2]
    rfl
  unfold sizeF
  rw [itoa_nat]
  by_cases h : p = 0
  · subst h
    rw [show partT ((0 : Nat) : Int) = [] from rfl, List.append_nil, cut_none _ d1, hu2, Option.bind_some, readPart_nil]
    rfl
  · rw [partT_pos _ (by omega) (by omega), Int.toNat_natCast, cut_at _ _ d1, hu2, Option.bind_some, readPart_frac p hp]
    rfl
theorem read_text (a : Int) (h : inB a = true) : readF (textT a) = some a := by
  have := inB_iff.1 h
  unfold textT
  by_cases hn : a < 0
  · rw [if_pos hn]
    obtain ⟨n, hn'⟩ := Int.eq_ofNat_of_zero_le (show 0 ≤ -a by omega)
    have e := size_text (n / 256) (n % 256) (by omega) (by omega)
    rw [show -a / 256 = ((n / 256 : Nat) : Int) by omega, show -a % 256 = ((n % 256 : Nat) : Int) by omega]
    generalize Lib.itoa ((n / 256 : Nat) : Int) ++ partT ((n % 256 : Nat) : Int) = t at e ⊢
    unfold readF
    have hp : Lib.hasPrefix (45 :: t) [45] = true := by simp [Lib.hasPrefix]
    rw [show Lib.trimPrefix (45 :: t) [45] = t by unfold Lib.trimPrefix; rw [hp]; rfl, e, Option.map_some, if_pos hp]
    congr 1; omega
  · rw [if_neg hn]
    obtain ⟨n, hn'⟩ := Int.eq_ofNat_of_zero_le (show 0 ≤ a by omega)
    have e := size_text (n / 256) (n % 256) (by omega) (by omega)
    rw [show a / 256 = ((n / 256 : Nat) : Int) by omega, show a % 256 = ((n % 256 : Nat) : Int) by omega]
    have hd := (dec_digs (n / 256)).1
    have hp : Lib.hasPrefix (Lib.itoa ((n / 256 : Nat) : Int) ++ partT ((n % 256 : Nat) : Int)) [45] = false := by
      rw [itoa_nat]
      have hne := dec_ne (n / 256)
      generalize Lib.decDigits (n / 256) = d at hd hne
      match d, hne with
      | c :: r, _ =>
        have hc := hd c (List.mem_cons_self ..)
        have : ¬ (45 = c) := fun e => by rw [← e] at hc; exact absurd hc.1 (by decide)
        show (((45 : UInt8) == c) && List.isPrefixOf [] _) = false
        rw [beq_eq_false_iff_ne.2 this]; rfl
    generalize Lib.itoa ((n / 256 : Nat) : Int) ++ partT ((n % 256 : Nat) : Int) = t at e hp ⊢
    unfold readF
    rw [show Lib.trimPrefix t [45] = t by unfold Lib.trimPrefix; rw [hp]; rfl, e, Option.map_some, hp, if_neg (by decide)]
    congr 1; omega
theorem text_ne (a : Int) : textT a ≠ [] := by
  unfold textT
  split
  · simp
  · intro h
    have := itoa_pos (a / 256)
    rw [List.append_eq_nil_iff] at h
    rw [h.1] at this; simp at this
#print axioms read_text
#print axioms cut_at
#print axioms trim_pad
end Go.Proofs.YtbnbglngpgikfaaGreatDoor

