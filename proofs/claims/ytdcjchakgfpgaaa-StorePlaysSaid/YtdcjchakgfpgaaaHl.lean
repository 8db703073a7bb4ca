/- Layer 14: a save's steps: the data's writes, the header's, both synced; a disk that is made ready. -/
import Derived.Test.YtdcjchakgfpgaaaHd
import Derived.Test.YtdcjchakgfpgaaaCk
namespace Go.Proofs.Ytdcjchakgfpgaaa
open Go.RowKit
/-- The places P of a disk are R's. -/
def AgreeP (P : Nat → Prop) (R s : List Int) : Prop := s.length = R.length ∧ ∀ j, P j → bAt s j = bAt R j
/-- A write that leaves the places P as R has them. -/
def HarmP (P : Nat → Prop) (R : List Int) (size : Int) (x : Int × List Int) : Prop := ∀ j, P j → x.1 * size ≤ (j : Int) → (j : Int) < x.1 * size + x.2.length → bAt x.2 ((j : Int) - x.1 * size).toNat = bAt R j
theorem layB_at (A B : List Int) (at0 : Int) {j : Nat} (h : j < A.length) : bAt (layB A B at0) j = layV A B at0 j := by
  have hl : j < (layB A B at0).length := by rw [layB_len]; exact h
  have h1 := bAt_some hl
  have h2 : (layB A B at0)[j]? = some (layV A B at0 j) := by
    unfold layB layTo
    rw [List.getElem?_map, List.getElem?_range h]
    rfl
  exact Option.some.inj (h1.symm.trans h2)
theorem bAt_off {A : List Int} {j : Nat} (h : A.length ≤ j) : bAt A j = 0 := by
  unfold bAt
  simp [List.getD, List.getElem?_eq_none h]
/-- A write, or some first bytes of it, is laid. -/
theorem AgreeP.lay {P : Nat → Prop} {R s : List Int} {size : Int} {x : Int × List Int} (h : AgreeP P R s) (hx : HarmP P R size x) {b : List Int} {n : Nat} (hb : b = x.2.take n) : AgreeP P R (layB s b (x.1 * size)) := by
  refine ⟨by rw [layB_len]; exact h.1, fun j hj => ?_⟩
  by_cases hjl : j < s.length
  · rw [layB_at s b _ hjl]
    unfold layV
    split
    · rename_i hc
      have hbl : b.length ≤ x.2.length := by rw [hb, List.length_take]; omega
      have hbn : b.length ≤ n := by rw [hb, List.length_take]; omega
      rw [← hx j hj (by omega) (by omega)]
      have e : b[((j : Int) - x.1 * size).toNat]? = x.2[((j : Int) - x.1 * size).toNat]? := by
        rw [hb, List.getElem?_take]
        rw [if_pos (by omega)]
      unfold bAt
      simp only [List.getD, e]
    · exact h.2 j hj
  · rw [bAt_off (by rw [layB_len]; omega), bAt_off (by rw [← h.1]; omega)]
/-- All the writes that wait are laid: what is seen of a disk. -/
theorem AgreeP.now {P : Nat → Prop} {R : List Int} {size : Int} : ∀ (L : List (Int × List Int)) (s : List Int), AgreeP P R s → (∀ x ∈ L, HarmP P R size x) → AgreeP P R (nowM size s L)
  | [], s, h, _ => h
  | x :: L, s, h, hx => AgreeP.now L _ (h.lay (hx x (by simp)) (List.take_of_length_le (Nat.le_refl _)).symm) (fun y hy => hx y (by simp [hy]))
/-- Some of them are, one torn: what a crash leaves. -/
theorem AgreeP.crash {P : Nat → Prop} {R : List Int} {size : Int} (keep : List Bool) (torn cut : Int) : ∀ (L : List (Int × List Int)) (k : Nat) (s : List Int), AgreeP P R s → (∀ x ∈ L, HarmP P R size x) → AgreeP P R (crashM keep torn cut size k L s)
  | [], _, s, h, _ => h
  | x :: L, k, s, h, hx => by
    have hb : ∃ n, tornB keep torn cut k x.2 = x.2.take n := by
      unfold tornB
      split
      · exact ⟨_, rfl⟩
      · split
        · exact ⟨_, (List.take_of_length_le (Nat.le_refl _)).symm⟩
        · exact ⟨0, rfl⟩
    obtain ⟨n, hn⟩ := hb
    exact AgreeP.crash keep torn cut L (k + 1) _ (h.lay (hx x (by simp)) hn) (fun y hy => hx y (by simp [hy]))
end Go.Proofs.Ytdcjchakgfpgaaa
namespace Go.Proofs.Ytdcjchakgfpgaaa
open Go.RowKit
open Go.Shelf
theorem AgreeP.sec {P : Nat → Prop} {R s : List Int} (h : AgreeP P R s) {z i : Nat} (hp : ∀ j, i * z ≤ j → j < i * z + z → P j) : secZ z i s = secZ z i R := by
  unfold secZ
  apply List.ext_getElem?
  intro k
  rw [List.getElem?_take, List.getElem?_take]
  by_cases hk : k < z
  · rw [if_pos hk, if_pos hk, List.getElem?_drop, List.getElem?_drop]
    by_cases hl : i * z + k < s.length
    · rw [bAt_some hl, bAt_some (by rw [← h.1]; exact hl), h.2 _ (hp _ (by omega) (by omega))]
    · rw [List.getElem?_eq_none (by omega), List.getElem?_eq_none (by rw [← h.1]; omega)]
  · rw [if_neg hk, if_neg hk]
/-- The first bytes of a write to a sector, laid: they, and behind them what was there. -/
theorem sec_torn {A B : List Int} {z i : Nat} (hB : B.length = z) (h : i * z + z ≤ A.length) (n : Nat) : secZ z i (layB A (B.take n) ((i * z : Nat) : Int)) = B.take n ++ (secZ z i A).drop (B.take n).length := by
  have hl : (B.take n).length ≤ z := by rw [List.length_take]; omega
  generalize B.take n = C at *
  apply List.ext_getElem?
  intro k
  unfold secZ
  rw [List.getElem?_take]
  by_cases hk : k < z
  · rw [if_pos hk, List.getElem?_drop, bAt_some (by rw [layB_len]; omega), layB_at _ _ _ (by omega)]
    unfold layV
    by_cases hc : k < C.length
    · rw [if_pos (by omega), List.getElem?_append_left hc, bAt_some hc, show (((i * z + k : Nat) : Int) - ((i * z : Nat) : Int)).toNat = k by omega]
    · rw [if_neg (by omega), List.getElem?_append_right (by omega), List.getElem?_drop, List.getElem?_take, if_pos (by omega), List.getElem?_drop, show i * z + (C.length + (k - C.length)) = i * z + k by omega, bAt_some (by omega)]
  · rw [if_neg hk, List.getElem?_eq_none]
    rw [List.length_append, List.length_drop, List.length_take, List.length_drop]
    omega
/-- One write that waits, behind a crash: its sector torn at some place, or as it was, or whole. -/
theorem crash_one {s B : List Int} {z i : Nat} (keep : List Bool) (torn cut : Int) (k : Nat) (hB : B.length = z) (h : i * z + z ≤ s.length) : ∃ n, n ≤ z ∧ secZ z i (crashM keep torn cut (z : Int) k [((i : Int), B)] s) = B.take n ++ (secZ z i s).drop n ∧ ∀ j, j ≠ i → secZ z j (crashM keep torn cut (z : Int) k [((i : Int), B)] s) = secZ z j s := by
  have hb : ∃ n, tornB keep torn cut k B = B.take n := by
    unfold tornB
    split
    · exact ⟨_, rfl⟩
    · split
      · exact ⟨_, (List.take_of_length_le (Nat.le_refl _)).symm⟩
      · exact ⟨0, rfl⟩
  obtain ⟨n, hn⟩ := hb
  have hl : (B.take n).length = min n z := by rw [List.length_take, hB]
  refine ⟨min n z, Nat.min_le_right _ _, ?_, fun j hj => ?_⟩
  · show secZ z i (layB s (tornB keep torn cut k B) ((i : Int) * (z : Int))) = _
    rw [hn, show (i : Int) * (z : Int) = ((i * z : Nat) : Int) by simp, sec_torn hB h, hl]
    congr 1
    rw [← hB, List.take_eq_take_iff]
    simp
  · show secZ z j (layB s (tornB keep torn cut k B) ((i : Int) * (z : Int))) = _
    rw [hn]
    have ha : AgreeP (fun p => j * z ≤ p ∧ p < j * z + z) s s := ⟨rfl, fun _ _ => rfl⟩
    refine AgreeP.sec (P := fun p => j * z ≤ p ∧ p < j * z + z) (ha.lay (x := ((i : Int), B)) ?_ rfl) (fun p h1 h2 => ⟨h1, h2⟩)
    intro p hp h1 h2
    exfalso
    have e : (i : Int) * (z : Int) = ((i * z : Nat) : Int) := by simp
    dsimp only at h1 h2
    rw [e] at h1 h2
    rw [hB] at h2
    have hm : i * z + z ≤ j * z ∨ j * z + z ≤ i * z := by
      rcases Nat.lt_or_ge i j with q | q
      · left
        have := Nat.mul_le_mul_right z (show i + 1 ≤ j by omega)
        rw [Nat.add_mul, Nat.one_mul] at this
        exact this
      · right
        have := Nat.mul_le_mul_right z (show j + 1 ≤ i by omega)
        rw [Nat.add_mul, Nat.one_mul] at this
        exact this
    omega
end Go.Proofs.Ytdcjchakgfpgaaa
namespace Go.Proofs.Ytdcjchakgfpgaaa
open Go.RowKit
open Go.Shelf
theorem AgreeP.cut {P : Nat → Prop} {R s : List Int} (h : AgreeP P R s) {o n : Nat} (hp : ∀ j, o ≤ j → j < o + n → P j) : (s.drop o).take n = (R.drop o).take n := by
  apply List.ext_getElem?
  intro k
  rw [List.getElem?_take, List.getElem?_take]
  by_cases hk : k < n
  · rw [if_pos hk, if_pos hk, List.getElem?_drop, List.getElem?_drop]
    by_cases hl : o + k < s.length
    · rw [bAt_some hl, bAt_some (by rw [← h.1]; exact hl), h.2 _ (hp _ (by omega) (by omega))]
    · rw [List.getElem?_eq_none (by omega), List.getElem?_eq_none (by rw [← h.1]; omega)]
  · rw [if_neg hk, if_neg hk]
/-- The data D of the header h stand in its half. -/
def DataAt (z H : Nat) (A : List Int) (h : Hd) (D : List Int) : Prop := (D.length : Int) = h.snap + h.log ∧ (A.drop ((2 + h.half.toNat * H) * z)).take D.length = D
/-- An image that bears a store: the newest header in its sector, the other sector safe, the data in place. -/
structure Img (z H : Nat) (A : List Int) (h : Hd) (D : List Int) : Prop where
  len : 2 * z ≤ A.length
  size : 32 ≤ z
  right : okHd h ((H * z : Nat) : Int)
  head : secZ z (h.gen % 2).toNat A = hdrB h z
  other : SafeX (secZ z ((h.gen + 1) % 2).toNat A) (h.gen + 1)
  data : DataAt z H A h D
/-- What a store finds on a disk: the younger of the headers. -/
def newer : Option Hd → Option Hd → Option Hd
  | none, b => b
  | some a, none => some a
  | some a, some b => if a.gen > b.gen then some a else some b
def openI (z : Nat) (cap : Int) (A : List Int) : Option Hd := newer (decI (secZ z 0 A) cap) (decI (secZ z 1 A) cap)
theorem newer_left {h : Hd} {o : Option Hd} (ho : ∀ r, o = some r → r.gen < h.gen) : newer (some h) o = some h := by
  cases o with
  | none => rfl
  | some r =>
    show (if h.gen > r.gen then some h else some r) = some h
    rw [if_pos (ho r rfl)]
theorem newer_right {h : Hd} {o : Option Hd} (ho : ∀ r, o = some r → r.gen < h.gen) : newer o (some h) = some h := by
  cases o with
  | none => rfl
  | some r =>
    show (if r.gen > h.gen then some r else some h) = some h
    rw [if_neg (by have := ho r rfl; omega)]
theorem Img.open {z H : Nat} {A : List Int} {h : Hd} {D : List Int} (im : Img z H A h D) : openI z ((H * z : Nat) : Int) A = some h := by
  have h1 : decI (secZ z (h.gen % 2).toNat A) ((H * z : Nat) : Int) = some h := by rw [im.head]; exact dec_hdr im.size im.right
  have h2 : ∀ r, decI (secZ z ((h.gen + 1) % 2).toNat A) ((H * z : Nat) : Int) = some r → r.gen < h.gen := fun r hr => by
    have := safe_dec im.other hr
    omega
  unfold openI
  rcases (by omega : h.gen % 2 = 0 ∧ (h.gen + 1) % 2 = 1 ∨ h.gen % 2 = 1 ∧ (h.gen + 1) % 2 = 0) with ⟨e1, e2⟩ | ⟨e1, e2⟩
  · rw [e1] at h1
    rw [e2] at h2
    exact (congrArg (fun x => newer x _) h1).trans (newer_left h2)
  · rw [e1] at h1
    rw [e2] at h2
    exact (congrArg (fun x => newer _ x) h1).trans (newer_right h2)
theorem secZ_len {z i : Nat} {A : List Int} (h : i * z + z ≤ A.length) : (secZ z i A).length = z := by
  unfold secZ
  rw [List.length_take, List.length_drop]
  omega
theorem DataAt.on {z H : Nat} {A A' : List Int} {h : Hd} {D : List Int} (hd : DataAt z H A h D) (ha : AgreeP (fun p => 2 * z ≤ p) A A') : DataAt z H A' h D := by
  refine ⟨hd.1, ?_⟩
  rw [ha.cut (fun j hj _ => ?_)]
  · exact hd.2
  · have : 2 * z ≤ (2 + h.half.toNat * H) * z := Nat.mul_le_mul_right z (by omega)
    omega
/-- The header of the next save waits: behind a crash the image is the elder's still, or the younger's. -/
theorem Img.crash {z H : Nat} {A : List Int} {h h' : Hd} {D D' : List Int} (im : Img z H A h D) (hg : h'.gen = h.gen + 1) (hr : okHd h' ((H * z : Nat) : Int)) (hd : DataAt z H A h' D') (keep : List Bool) (torn cut : Int) (k : Nat) :
    Img z H (crashM keep torn cut (z : Int) k [((((h'.gen % 2).toNat : Nat) : Int), hdrB h' z)] A) h D ∨ Img z H (crashM keep torn cut (z : Int) k [((((h'.gen % 2).toNat : Nat) : Int), hdrB h' z)] A) h' D' := by
  have e1 : (h'.gen % 2).toNat = ((h.gen + 1) % 2).toNat := by rw [hg]
  have e2 : ((h'.gen + 1) % 2).toNat = (h.gen % 2).toNat := by rw [hg]; omega
  have ne : (h.gen % 2).toNat ≠ (h'.gen % 2).toNat := by rw [hg]; omega
  have lt : (h'.gen % 2).toNat ≤ 1 := by omega
  have hfit : (h'.gen % 2).toNat * z + z ≤ A.length := by
    have h1 := im.len
    have h2 := Nat.mul_le_mul_right z lt
    omega
  have hB : (hdrB h' z).length = z := hdrB_len im.size
  obtain ⟨n, hn, hs, ho⟩ := crash_one keep torn cut k hB hfit
  have hag : AgreeP (fun p => 2 * z ≤ p) A (crashM keep torn cut (z : Int) k [((((h'.gen % 2).toNat : Nat) : Int), hdrB h' z)] A) := by
    refine AgreeP.crash keep torn cut _ k A ⟨rfl, fun _ _ => rfl⟩ (fun x hx => ?_)
    rw [List.mem_singleton] at hx
    subst hx
    intro j hj h1 h2
    exfalso
    dsimp only at h2
    rw [hB, show (((h'.gen % 2).toNat : Nat) : Int) * (z : Int) = (((h'.gen % 2).toNat * z : Nat) : Int) by simp] at h2
    have h3 := Nat.mul_le_mul_right z lt
    omega
  have hlen : (crashM keep torn cut (z : Int) k [((((h'.gen % 2).toNat : Nat) : Int), hdrB h' z)] A).length = A.length := hag.1
  have hX : (secZ z (h'.gen % 2).toNat A).length = z := secZ_len hfit
  have hsafe : SafeX (secZ z (h'.gen % 2).toNat A) (h.gen + 1) := by rw [e1]; exact im.other
  have hold := ho _ ne
  generalize crashM keep torn cut (z : Int) k [((((h'.gen % 2).toNat : Nat) : Int), hdrB h' z)] A = A' at *
  rcases safe_torn (n := n) im.size hX hsafe hr hg with hw | hw
  · refine .inr ⟨by rw [hlen]; exact im.len, im.size, hr, hs.trans hw, ?_, hd.on hag⟩
    rw [e2, hold, im.head, show h'.gen + 1 = h.gen + 2 by omega]
    exact safe_elder im.size im.right
  · refine .inl ⟨by rw [hlen]; exact im.len, im.size, im.right, hold.trans im.head, ?_, im.data.on hag⟩
    rw [← e1, hs]
    exact hw
end Go.Proofs.Ytdcjchakgfpgaaa
namespace Go.Proofs.Ytdcjchakgfpgaaa
open Go.RowKit
open Go.Shelf
/-- Where a half begins. -/
def baseI (z H : Nat) (half : Int) : Nat := (2 + half.toNat * H) * z
/-- The places that a store's image rests on. -/
def KeepP (z H : Nat) (h : Hd) (D : List Int) (j : Nat) : Prop := j < 2 * z ∨ (baseI z H h.half ≤ j ∧ j < baseI z H h.half + D.length)
theorem Img.keep {z H : Nat} {A A' : List Int} {h : Hd} {D : List Int} (im : Img z H A h D) (ha : AgreeP (KeepP z H h D) A A') : Img z H A' h D := by
  have hs : ∀ i, i ≤ 1 → secZ z i A' = secZ z i A := fun i hi => ha.sec (fun j _ h2 => .inl (by
    have := Nat.mul_le_mul_right z hi
    omega))
  refine ⟨by rw [ha.1]; exact im.len, im.size, im.right, ?_, ?_, im.data.1, ?_⟩
  · rw [hs _ (by omega)]; exact im.head
  · rw [hs _ (by omega)]; exact im.other
  · exact (ha.cut (o := baseI z H h.half) (n := D.length) (fun j h1 h2 => .inr ⟨h1, h2⟩)).trans im.data.2
/-- The i-th sector of data: what is behind them is noughts. -/
def padB (z : Nat) (D : List Int) (i : Nat) : List Int := ((D ++ List.replicate z 0).drop (i * z)).take z
theorem padB_len {z : Nat} {D : List Int} {i : Nat} (h : i * z ≤ D.length) : (padB z D i).length = z := by
  unfold padB
  rw [List.length_take, List.length_drop, List.length_append, List.length_replicate]
  omega
theorem padB_at {z : Nat} {D : List Int} {i k : Nat} (hk : k < z) : bAt (padB z D i) k = bAt D (i * z + k) := by
  unfold padB
  unfold bAt
  rw [List.getD_eq_getElem?_getD, List.getD_eq_getElem?_getD, List.getElem?_take, if_pos hk, List.getElem?_drop]
  by_cases hl : i * z + k < D.length
  · rw [List.getElem?_append_left hl]
  · rw [List.getElem?_append_right (by omega), List.getElem?_eq_none (show D.length ≤ i * z + k by omega), List.getElem?_replicate]
    split <;> rfl
theorem padB_ok {z : Nat} {D : List Int} {i : Nat} (h : OkB D) : OkB (padB z D i) := fun x hx => by
  have := List.mem_of_mem_drop (List.mem_of_mem_take hx)
  rcases List.mem_append.1 this with q | q
  · exact h x q
  · rw [(List.mem_replicate.1 q).2]; decide
/-- Data grow in their half: a sector's write leaves those that were there. -/
theorem harm_grow {z H : Nat} {A : List Int} {h : Hd} {D D' : List Int} (im : Img z H A h D) (hp : D <+: D') {i : Nat} (hi : i * z ≤ D'.length) : HarmP (KeepP z H h D) A (z : Int) (((2 + h.half.toNat * H + i : Nat) : Int), padB z D' i) := by
  intro j hj h1 h2
  dsimp only at h1 h2 ⊢
  rw [padB_len hi] at h2
  have e : ((2 + h.half.toNat * H + i : Nat) : Int) * (z : Int) = ((baseI z H h.half + i * z : Nat) : Int) := by
    unfold baseI
    rw [← Nat.add_mul]
    simp
  rw [e] at h1 h2 ⊢
  have hb : 2 * z ≤ baseI z H h.half := Nat.mul_le_mul_right z (by omega)
  rcases hj with q | ⟨q1, q2⟩
  · omega
  · obtain ⟨k, rfl⟩ : ∃ k, j = baseI z H h.half + i * z + k := ⟨j - (baseI z H h.half + i * z), by omega⟩
    have hk : k < z := by omega
    rw [show (((baseI z H h.half + i * z + k : Nat) : Int) - ((baseI z H h.half + i * z : Nat) : Int)).toNat = k by omega, padB_at hk]
    have hkd : i * z + k < D.length := by omega
    have e1 : D[i * z + k]? = A[baseI z H h.half + i * z + k]? := by
      have e0 := im.data.2
      have e2 : D[i * z + k]? = ((A.drop (baseI z H h.half)).take D.length)[i * z + k]? := by rw [show (A.drop (baseI z H h.half)).take D.length = D from e0]
      rw [e2, List.getElem?_take, if_pos hkd, List.getElem?_drop, Nat.add_assoc]
    have e3 : D'[i * z + k]? = D[i * z + k]? := by
      obtain ⟨t, rfl⟩ := hp
      rw [List.getElem?_append_left hkd]
    unfold bAt
    rw [List.getD_eq_getElem?_getD, List.getD_eq_getElem?_getD, e3, e1]
/-- Data in the other half: a sector's write meets nothing that the image rests on. -/
theorem harm_other {z H : Nat} {A : List Int} {h : Hd} {D D' : List Int} (im : Img z H A h D) (hfit : D.length ≤ H * z) {half : Int} (hh : 0 ≤ half ∧ half ≤ 1 ∧ half ≠ h.half) {i : Nat} (hi : i < H) (hl : i * z ≤ D'.length) : HarmP (KeepP z H h D) A (z : Int) (((2 + half.toNat * H + i : Nat) : Int), padB z D' i) := by
  intro j hj h1 h2
  exfalso
  dsimp only at h1 h2
  rw [padB_len hl] at h2
  have e : ((2 + half.toNat * H + i : Nat) : Int) * (z : Int) = ((baseI z H half + i * z : Nat) : Int) := by
    unfold baseI
    rw [← Nat.add_mul]
    simp
  rw [e] at h1 h2
  have hr := im.right
  have hz : i * z + z ≤ H * z := by
    have := Nat.mul_le_mul_right z (show i + 1 ≤ H by omega)
    rw [Nat.add_mul, Nat.one_mul] at this
    exact this
  have hb : 2 * z ≤ baseI z H half := Nat.mul_le_mul_right z (by omega)
  rcases hj with q | ⟨q1, q2⟩
  · omega
  · have ha : h.half = 0 ∨ h.half = 1 := by have := hr.2.2.1; have := hr.2.2.2.1; omega
    have hc : half = 0 ∨ half = 1 := by omega
    have b0 : baseI z H 0 = 2 * z := by unfold baseI; simp
    have b1 : baseI z H 1 = 2 * z + H * z := by unfold baseI; rw [← Nat.add_mul]; simp
    rcases ha with a | a <;> rcases hc with c | c
    · exact hh.2.2 (c.trans a.symm)
    · rw [a, b0] at q1 q2; rw [c, b1] at h1 h2; omega
    · rw [a, b1] at q1 q2; rw [c, b0] at h1 h2; omega
    · exact hh.2.2 (c.trans a.symm)
end Go.Proofs.Ytdcjchakgfpgaaa
namespace Go.Proofs.Ytdcjchakgfpgaaa
open Go.RowKit
open Go.Shelf
/-- The sectors of a half from the i0-th on, so many, with the data's bytes. -/
def dataW (z H : Nat) (half : Int) (D : List Int) (i0 : Nat) : Nat → List (Int × List Int)
  | 0 => []
  | n + 1 => dataW z H half D i0 n ++ [(((2 + half.toNat * H + (i0 + n) : Nat) : Int), padB z D (i0 + n))]
theorem nowM_append (z : Int) (s : List Int) (L : List (Int × List Int)) (x : Int × List Int) : nowM z s (L ++ [x]) = layB (nowM z s L) x.2 (x.1 * z) := by
  unfold nowM
  rw [List.foldl_append]
  rfl
theorem nowM_same (z : Int) : ∀ (L : List (Int × List Int)) (s : List Int), (nowM z s L).length = s.length
  | [], _ => rfl
  | x :: L, s => by
    show (nowM z (layB s x.2 (x.1 * z)) L).length = _
    rw [nowM_same z L, layB_len]
theorem dataW_at {z H : Nat} {half : Int} {A D : List Int} {i0 : Nat} (h0 : ∀ j, j < i0 * z → j < D.length → bAt A (baseI z H half + j) = bAt D j) : ∀ n, (∀ i, i < n → (i0 + i) * z ≤ D.length) → baseI z H half + (i0 + n) * z ≤ A.length → ∀ j, j < (i0 + n) * z → j < D.length → bAt (nowM (z : Int) A (dataW z H half D i0 n)) (baseI z H half + j) = bAt D j
  | 0, _, _ => h0
  | n + 1, hl, hf => by
    intro j hj hd
    have hs : (i0 + (n + 1)) * z = (i0 + n) * z + z := by rw [show i0 + (n + 1) = (i0 + n) + 1 by omega, Nat.add_mul (i0 + n) 1 z, Nat.one_mul]
    have ih := dataW_at h0 n (fun i hi => hl i (by omega)) (by omega)
    have hlen := nowM_same (z : Int) (dataW z H half D i0 n) A
    have hpl := padB_len (hl n (by omega))
    show bAt (nowM (z : Int) A (dataW z H half D i0 n ++ [_])) _ = _
    rw [nowM_append, layB_at _ _ _ (by rw [hlen]; omega)]
    unfold layV
    dsimp only
    have e : ((2 + half.toNat * H + (i0 + n) : Nat) : Int) * (z : Int) = ((baseI z H half + (i0 + n) * z : Nat) : Int) := by
      unfold baseI
      rw [← Nat.add_mul]
      simp
    rw [e, hpl]
    split
    · rw [show (((baseI z H half + j : Nat) : Int) - ((baseI z H half + (i0 + n) * z : Nat) : Int)).toNat = j - (i0 + n) * z by omega, padB_at (by omega)]
      congr 1
      omega
    · exact ih j (by omega) hd
/-- All sectors that are needed are laid, and those ahead of them were there: the data stand. -/
theorem dataW_all {z H : Nat} {A D : List Int} {h : Hd} {i0 n : Nat} (hlen : (D.length : Int) = h.snap + h.log) (h0 : ∀ j, j < i0 * z → j < D.length → bAt A (baseI z H h.half + j) = bAt D j) (hl : ∀ i, i < n → (i0 + i) * z ≤ D.length) (hn : D.length ≤ (i0 + n) * z) (hf : baseI z H h.half + (i0 + n) * z ≤ A.length) : DataAt z H (nowM (z : Int) A (dataW z H h.half D i0 n)) h D := by
  refine ⟨hlen, ?_⟩
  have key := dataW_at h0 n hl hf
  have hl2 := nowM_same (z : Int) (dataW z H h.half D i0 n) A
  generalize nowM (z : Int) A (dataW z H h.half D i0 n) = A' at *
  show (A'.drop (baseI z H h.half)).take D.length = D
  apply List.ext_getElem?
  intro k
  rw [List.getElem?_take]
  by_cases hk : k < D.length
  · rw [if_pos hk, List.getElem?_drop, bAt_some hk, bAt_some (by omega), key k (by omega) hk]
  · rw [if_neg hk, List.getElem?_eq_none (by omega)]
theorem mem_dataW {z H : Nat} {half : Int} {D : List Int} {i0 : Nat} {x : Int × List Int} : ∀ n, x ∈ dataW z H half D i0 n → ∃ i, i < n ∧ x = (((2 + half.toNat * H + (i0 + i) : Nat) : Int), padB z D (i0 + i))
  | 0, h => by cases h
  | n + 1, h => by
    rcases List.mem_append.1 h with q | q
    · obtain ⟨i, hi, e⟩ := mem_dataW n q
      exact ⟨i, by omega, e⟩
    · rw [List.mem_singleton] at q
      exact ⟨n, by omega, q⟩
end Go.Proofs.Ytdcjchakgfpgaaa
namespace Go.Proofs.Ytdcjchakgfpgaaa
open Go.RowKit
open Go.Shelf
/-- Writes that leave what the image rests on: it is the elder's still, crash or not. -/
theorem Img.crash_any {z H : Nat} {A : List Int} {h : Hd} {D : List Int} (im : Img z H A h D) {L : List (Int × List Int)} (hL : ∀ x ∈ L, HarmP (KeepP z H h D) A (z : Int) x) (keep : List Bool) (torn cut : Int) (k : Nat) : Img z H (crashM keep torn cut (z : Int) k L A) h D :=
  im.keep (AgreeP.crash keep torn cut L k A ⟨rfl, fun _ _ => rfl⟩ hL)
theorem Img.now_any {z H : Nat} {A : List Int} {h : Hd} {D : List Int} (im : Img z H A h D) {L : List (Int × List Int)} (hL : ∀ x ∈ L, HarmP (KeepP z H h D) A (z : Int) x) : Img z H (nowM (z : Int) A L) h D :=
  im.keep (AgreeP.now L A ⟨rfl, fun _ _ => rfl⟩ hL)
/-- A write to one of the first two sectors leaves all behind them. -/
theorem agree_front {z i : Nat} {A B : List Int} (hB : B.length = z) (hi : i ≤ 1) : AgreeP (fun p => 2 * z ≤ p) A (layB A B ((i * z : Nat) : Int)) := by
  refine ⟨layB_len .., fun j hj => ?_⟩
  have hm := Nat.mul_le_mul_right z hi
  by_cases hl : j < A.length
  · rw [layB_at _ _ _ hl]
    unfold layV
    rw [if_neg (by omega)]
  · rw [bAt_off (by rw [layB_len]; omega), bAt_off (by omega)]
/-- The next header is written and synced: the image is the younger's. -/
theorem Img.saved {z H : Nat} {A : List Int} {h h' : Hd} {D D' : List Int} (im : Img z H A h D) (hg : h'.gen = h.gen + 1) (hr : okHd h' ((H * z : Nat) : Int)) (hd : DataAt z H A h' D') :
    Img z H (nowM (z : Int) A [((((h'.gen % 2).toNat : Nat) : Int), hdrB h' z)]) h' D' := by
  have e2 : ((h'.gen + 1) % 2).toNat = (h.gen % 2).toNat := by rw [hg]; omega
  have ne : (h.gen % 2).toNat ≠ (h'.gen % 2).toNat := by rw [hg]; omega
  have lt : (h'.gen % 2).toNat ≤ 1 := by omega
  have hfit : (h'.gen % 2).toNat * z + z ≤ A.length := by
    have h1 := im.len
    have h2 := Nat.mul_le_mul_right z lt
    omega
  have hB : (hdrB h' z).length = z := hdrB_len im.size
  have hn : nowM (z : Int) A [((((h'.gen % 2).toNat : Nat) : Int), hdrB h' z)] = layB A (hdrB h' z) (((h'.gen % 2).toNat * z : Nat) : Int) := by
    show layB A (hdrB h' z) ((((h'.gen % 2).toNat : Nat) : Int) * (z : Int)) = _
    simp
  rw [hn]
  refine ⟨by rw [layB_len]; exact im.len, im.size, hr, secZ_same hB hfit, ?_, hd.on (agree_front hB lt)⟩
  rw [e2, secZ_other hB ne.symm, im.head, show h'.gen + 1 = h.gen + 2 by omega]
  exact safe_elder im.size im.right
/-- A disk that was made ready: noughts in the sector 0, the header 1 in the sector 1. -/
theorem Img.format {z H : Nat} {A : List Int} (hz : 32 ≤ z) (hl : 2 * z ≤ A.length) : Img z H (layB (layB A (List.replicate z 0) ((0 * z : Nat) : Int)) (hdrB ⟨1, 0, 0, 0⟩ z) ((1 * z : Nat) : Int)) ⟨1, 0, 0, 0⟩ [] := by
  have hB : (hdrB ⟨1, 0, 0, 0⟩ z).length = z := hdrB_len hz
  have hN : (List.replicate z (0 : Int)).length = z := List.length_replicate
  refine ⟨by rw [layB_len, layB_len]; exact hl, hz, ?_, ?_, ?_, ?_⟩
  · unfold okHd
    dsimp only
    omega
  · show secZ z 1 _ = _
    exact secZ_same hB (by rw [layB_len]; omega)
  · show SafeX (secZ z 0 _) _
    rw [secZ_other hB (by decide), secZ_same hN (by omega)]
    exact safe_zero (by decide)
  · exact ⟨rfl, by simp⟩
end Go.Proofs.Ytdcjchakgfpgaaa
