/- Layer 15: words, plain. Nothing of the program. -/
import Derived.WalkKit
namespace Go.Proofs.YtbnbglngpgikfaaGreatDoor
open Go.RowKit
abbrev Wd := List UInt8
def gapB (c : UInt8) : Bool := decide (c = 32) || decide (c = 44) || decide (c = 10)
def letB (c : UInt8) : Bool := (decide (65 ≤ c.toNat) && decide (c.toNat ≤ 90)) || (decide (97 ≤ c.toNat) && decide (c.toNat ≤ 122))
def plainB (c : UInt8) : Bool := !gapB c && !letB c
/-- A word that has begun, ended. -/
def flushW : Wd → List Wd
  | [] => []
  | c :: r => [c :: r]
/-- The words of what follows, behind the beginning of one. -/
def wordsW (a : Wd) : Wd → List Wd
  | [] => flushW a
  | c :: r => if gapB c = true then flushW a ++ wordsW [] r else if letB c = true then flushW a ++ [c] :: wordsW [] r else wordsW (a ++ [c]) r
def plainL (w : Wd) : Prop := ∀ c ∈ w, plainB c = true
/-- A word: a letter, or some that are neither letters nor gaps. -/
def isWord (w : Wd) : Prop := (∃ c, w = [c] ∧ letB c = true) ∨ (w ≠ [] ∧ plainL w)
theorem gap_not_let {c : UInt8} (h : gapB c = true) : letB c = false := by
  simp only [gapB, Bool.or_eq_true, decide_eq_true_eq] at h
  rcases h with (rfl | rfl) | rfl <;> decide
theorem let_not_gap {c : UInt8} (h : letB c = true) : gapB c = false := by
  cases hg : gapB c with
  | false => rfl
  | true => rw [gap_not_let hg] at h; cases h
theorem plain_iff {c : UInt8} : plainB c = true ↔ gapB c = false ∧ letB c = false := by simp [plainB]
theorem flush_ne {a : Wd} (h : a ≠ []) : flushW a = [a] := by cases a with
  | nil => exact absurd rfl h
  | cons c r => rfl
theorem words_gap {c : UInt8} (h : gapB c = true) (a r : Wd) : wordsW a (c :: r) = flushW a ++ wordsW [] r := by rw [wordsW, if_pos h]
theorem words_let {c : UInt8} (h : letB c = true) (a r : Wd) : wordsW a (c :: r) = flushW a ++ [c] :: wordsW [] r := by rw [wordsW, if_neg (by rw [let_not_gap h]; decide), if_pos h]
theorem words_one {c : UInt8} (h : plainB c = true) (a r : Wd) : wordsW a (c :: r) = wordsW (a ++ [c]) r := by
  obtain ⟨h1, h2⟩ := plain_iff.1 h
  rw [wordsW, if_neg (by rw [h1]; decide), if_neg (by rw [h2]; decide)]
theorem words_plain : ∀ (w : Wd), plainL w → ∀ a r, wordsW a (w ++ r) = wordsW (a ++ w) r
  | [], _, a, r => by simp
  | c :: w, h, a, r => by
    rw [List.cons_append, words_one (h c (List.mem_cons_self ..)), words_plain w (fun x hx => h x (List.mem_cons_of_mem _ hx))]
    simp
theorem plainL_append {a b : Wd} (ha : plainL a) (hb : plainL b) : plainL (a ++ b) := fun c hc => by
  rcases List.mem_append.1 hc with h | h
  · exact ha c h
  · exact hb c h
theorem flush_words {a : Wd} (ha : plainL a) : ∀ w ∈ flushW a, isWord w := by
  cases a with
  | nil => intro w h; cases h
  | cons c r => intro w h; rw [flushW, List.mem_singleton] at h; subst h; exact .inr ⟨by simp, ha⟩
theorem words_are : ∀ (s a : Wd), plainL a → ∀ w ∈ wordsW a s, isWord w
  | [], a, ha => flush_words ha
  | c :: r, a, ha => by
    intro w hw
    have hn : plainL [] := fun c hc => by cases hc
    rw [wordsW] at hw
    split at hw
    · rcases List.mem_append.1 hw with h | h
      · exact flush_words ha w h
      · exact words_are r [] hn w h
    · rename_i hg
      split at hw
      · rename_i hl
        rcases List.mem_append.1 hw with h | h
        · exact flush_words ha w h
        · rcases List.mem_cons.1 h with h | h
          · subst h; exact .inl ⟨c, rfl, hl⟩
          · exact words_are r [] hn w h
      · rename_i hl
        refine words_are r (a ++ [c]) (plainL_append ha (fun x hx => ?_)) w hw
        rw [List.mem_singleton.1 hx]
        exact plain_iff.2 ⟨by simpa using hg, by simpa using hl⟩
/-- The words of a text. -/
def wordsL (s : Wd) : List Wd := wordsW [] s
theorem wordsL_are (s : Wd) : ∀ w ∈ wordsL s, isWord w := words_are s [] (fun c hc => by cases hc)
theorem isWord.ne {w : Wd} (h : isWord w) : w ≠ [] := by
  rcases h with ⟨c, rfl, _⟩ | ⟨h, _⟩
  · simp
  · exact h
theorem words_len : ∀ (s a : Wd), (wordsW a s).length ≤ (flushW a).length + s.length
  | [], a => by simp [wordsW]
  | c :: r, a => by
    have h0 := words_len r []
    have h1 := words_len r (a ++ [c])
    have hz : (flushW (a ++ [c])).length ≤ (flushW a).length + 1 := by
      rw [flush_ne (by simp)]; simp
    simp only [flushW, List.length_nil] at h0
    rw [wordsW]
    split
    · simp; omega
    · split
      · simp; omega
      · simp; omega
theorem wordsL_len (s : Wd) : (wordsL s).length ≤ s.length := by unfold wordsL; have := words_len s []; simp only [flushW, List.length_nil, Nat.zero_add] at this; exact this
/-- What comes next ends a word that has begun. -/
def breaks (r : Wd) : Prop := ∀ a, wordsW a r = flushW a ++ wordsW [] r
theorem breaks_nil : breaks [] := fun a => by simp [wordsW, flushW]
theorem breaks_gap {c : UInt8} (h : gapB c = true) (r : Wd) : breaks (c :: r) := fun a => by rw [words_gap h, words_gap h]; rfl
theorem breaks_let {c : UInt8} (h : letB c = true) (r : Wd) : breaks (c :: r) := fun a => by rw [words_let h, words_let h]; rfl
theorem word_then {w r : Wd} (h : isWord w) (hr : breaks r) (a : Wd) (ha : plainL w → a = []) : wordsW a (w ++ r) = flushW a ++ w :: wordsW [] r := by
  rcases h with ⟨c, rfl, hc⟩ | ⟨hne, hp⟩
  · exact words_let hc a r
  · rw [ha hp, words_plain w hp, List.nil_append, hr, flush_ne hne]; rfl
/-- Words, each behind a blank. -/
def spaced : List Wd → Wd
  | [] => []
  | w :: r => 32 :: (w ++ spaced r)
theorem spaced_append : ∀ l m, spaced (l ++ m) = spaced l ++ spaced m
  | [], _ => rfl
  | w :: r, m => by rw [List.cons_append, spaced, spaced_append r m, spaced]; simp
theorem breaks_spaced (l : List Wd) (r : Wd) (hr : breaks r) : breaks (spaced l ++ r) := by
  cases l with
  | nil => exact hr
  | cons w l => exact breaks_gap (by decide) _
theorem words_spaced : ∀ (l : List Wd), (∀ w ∈ l, isWord w) → ∀ r, breaks r → ∀ a, wordsW a (spaced l ++ r) = flushW a ++ (l ++ wordsW [] r)
  | [], _, r, hr, a => by rw [spaced]; exact hr a
  | w :: l, h, r, hr, a => by
    rw [spaced, List.cons_append, words_gap (by decide), List.append_assoc, word_then (h w (List.mem_cons_self ..)) (breaks_spaced l r hr) [] (fun _ => rfl), words_spaced l (fun x hx => h x (List.mem_cons_of_mem _ hx)) r hr]
    rfl
/-- Words with a blank between two. -/
def joinW : List Wd → Wd
  | [] => []
  | w :: r => w ++ spaced r
theorem words_join (l : List Wd) (h : ∀ w ∈ l, isWord w) : wordsL (joinW l) = l := by
  cases l with
  | nil => rfl
  | cons w r =>
    have e := word_then (h w (List.mem_cons_self ..)) (breaks_spaced r [] breaks_nil) [] (fun _ => rfl)
    rw [List.append_nil] at e
    unfold wordsL joinW
    rw [e]
    have e2 := words_spaced r (fun x hx => h x (List.mem_cons_of_mem _ hx)) [] breaks_nil []
    rw [List.append_nil] at e2
    rw [e2]
    simp [flushW, wordsW]
/-- Words, each with a blank, a comma and an end of line behind it. -/
def tailed : List Wd → Wd
  | [] => []
  | w :: r => w ++ (32 :: 44 :: 10 :: tailed r)
theorem tailed_append : ∀ l m, tailed (l ++ m) = tailed l ++ tailed m
  | [], _ => rfl
  | w :: r, m => by rw [List.cons_append, tailed, tailed_append r m, tailed]; simp
theorem words_tailed : ∀ (l : List Wd), (∀ w ∈ l, isWord w) → wordsW [] (tailed l) = l
  | [], _ => rfl
  | w :: r, h => by
    rw [tailed, word_then (h w (List.mem_cons_self ..)) (breaks_gap (by decide) _) [] (fun _ => rfl), words_gap (by decide), words_gap (by decide), words_gap (by decide), words_tailed r (fun x hx => h x (List.mem_cons_of_mem _ hx))]
    rfl
theorem words_again (l : List Wd) (h : ∀ w ∈ l, isWord w) : wordsL (44 :: tailed l) = l := by
  unfold wordsL
  rw [words_gap (by decide), words_tailed l h]
  rfl
#print axioms words_again
#print axioms words_join
#print axioms wordsL_are
end Go.Proofs.YtbnbglngpgikfaaGreatDoor
