/- Layer 13: what package frame is to answer for numbers, texts and counts. -/
import Derived.Test.YteobffggfcmghaaDoorSf
namespace Go.Proofs.YteobffggfcmghaaDoor
open Go.RowKit
theorem OwnB.cap {w : World} {base : Nat} {v : Value} {E : List Int} (h : OwnB w base v E) : CapS v := fun a n c e => by
  subst e
  obtain ⟨_, ⟨e, h0⟩ | ⟨g, cap, cur, e, _, _, hc, _⟩⟩ := h
  · cases e; exact Nat.le_refl _
  · cases e; exact hc
theorem OwnB.lt {w : World} {base : Nat} {v : Value} {E : List Int} (h : OwnB w base v E) : ∀ k, v.ownBlock = some k → base ≤ k ∧ k < w.heap.size := World.ownsRow.lt h
/-- A call changed what lies behind a pointer: nothing outside of its territory, and the territory grew by new memory alone. -/
structure To (T : Nat → Prop) (w : World) (T' : Nat → Prop) (w' : World) : Prop where
  keep : Keep (fun k => ¬ T k) w w'
  new : ∀ k, T' k → T k ∨ w.heap.size ≤ k
abbrev ptrG (g : Nat) : Value := .pointer (some ⟨g, 0, none⟩)
/-- How far bytes are read; none: bad. What is told, and how far then. -/
def intD (B : List Int) : Option Nat → Int × Option Nat
  | none => (0, none)
  | some a => if (readI B a).2 < 0 then (0, none) else ((readI B a).1, some (readI B a).2.toNat)
def textD (B : List Int) : Option Nat → List Int × Option Nat
  | none => ([], none)
  | some a => if (readI B a).2 < 0 ∨ (readI B a).1 < 0 ∨ (readI B a).1 > (B.length : Int) - (readI B a).2 then ([], none) else (cutL B (readI B a).2.toNat (readI B a).1.toNat, some ((readI B a).2 + (readI B a).1).toNat)
def countD (B : List Int) (most : Int) : Option Nat → Int × Option Nat
  | none => (0, none)
  | some a => if (readI B a).2 < 0 ∨ (readI B a).1 < 0 ∨ (readI B a).1 > most then (0, none) else ((readI B a).1, some (readI B a).2.toNat)
/-- A place within the bytes. -/
def WithinD (B : List Int) (a : Option Nat) : Prop := ∀ k, a = some k → k ≤ B.length
theorem intD_in {B : List Int} {a : Option Nat} (h : WithinD B a) : WithinD B (intD B a).2 := by
  cases a with
  | none => exact h
  | some a =>
    have hr := readI_in (h a rfl)
    rw [intD]
    split
    · exact fun k e => by cases e
    · intro k e
      cases e
      omega
theorem textD_in {B : List Int} {a : Option Nat} (h : WithinD B a) : WithinD B (textD B a).2 := by
  cases a with
  | none => exact h
  | some a =>
    have hr := readI_in (h a rfl)
    rw [textD]
    split
    · exact fun k e => by cases e
    · intro k e
      cases e
      omega
theorem countD_in {B : List Int} {most : Int} {a : Option Nat} (h : WithinD B a) : WithinD B (countD B most a).2 := by
  cases a with
  | none => exact h
  | some a =>
    have hr := readI_in (h a rfl)
    rw [countD]
    split
    · exact fun k e => by cases e
    · intro k e
      cases e
      omega
/-- What is put is read back: a number; a text. -/
theorem intD_put {n : Int} (h : rngN n) (P R : List Int) : intD (P ++ (intI n ++ R)) (some P.length) = (n, some (P.length + (intI n).length)) := by
  rw [intD, readI_int h]
  show (if ((P.length + (intI n).length : Nat) : Int) < 0 then _ else _) = _
  rw [if_neg (by omega)]
  rfl
theorem textD_put (E P R : List Int) (hE : E.length ≤ 1000000) : textD (P ++ (intI (E.length : Int) ++ (E ++ R))) (some P.length) = (E, some (P.length + (intI (E.length : Int)).length + E.length)) := by
  have hn : rngN (E.length : Int) := ⟨by omega, by omega⟩
  have hl : (P ++ (intI (E.length : Int) ++ (E ++ R))).length = P.length + (intI (E.length : Int)).length + E.length + R.length := by simp only [List.length_append]; omega
  rw [textD, readI_int hn]
  show (if ((P.length + (intI (E.length : Int)).length : Nat) : Int) < 0 ∨ (E.length : Int) < 0 ∨ (E.length : Int) > ((P ++ (intI (E.length : Int) ++ (E ++ R))).length : Int) - ((P.length + (intI (E.length : Int)).length : Nat) : Int) then _ else _) = _
  rw [if_neg (by rw [hl]; omega)]
  show (cutL _ (P.length + (intI (E.length : Int)).length) E.length, _) = _
  have e : P ++ (intI (E.length : Int) ++ (E ++ R)) = (P ++ intI (E.length : Int)) ++ (E ++ R) := by rw [List.append_assoc]
  have hc : cutL (P ++ (intI (E.length : Int) ++ (E ++ R))) (P.length + (intI (E.length : Int)).length) E.length = E := by
    rw [e, ← List.length_append]; exact cutL_mid _ _ _
  rw [hc]
  rfl
/-- What package frame is to answer for reading (Rd: what the listed variables hold; At: over whatever it keeps in memory). -/
structure InOk (Rd : World → Prop) (At : (Nat → Prop) → World → Nat → List Int → Option Nat → Prop) : Prop where
  keep : ∀ {T w w' g B a}, At T w g B a → Keep T w w' → At T w' g B a
  lt : ∀ {T w g B a k}, At T w g B a → T k → k < w.heap.size
  new : ∀ (s : Value) (B : List Int) (w : World), Rd w → RowB w s B → CapS s → OkB B → B.length ≤ 20000 → Calls Tryd.prog 21 #[s] w fun e w' => ∃ T g, e = .returned (ptrG g) ∧ At T w' g B (some 0) ∧ Below w.heap.size w w' ∧ ∀ k, T k → w.heap.size ≤ k
  int : ∀ T (w : World) g B a, Rd w → At T w g B a → WithinD B a → Calls Tryd.prog 22 #[ptrG g] w fun e w' => ∃ T', e = .returned (.int .i64 (intD B a).1) ∧ At T' w' g B (intD B a).2 ∧ To T w T' w'
  text : ∀ T (w : World) g B a, Rd w → At T w g B a → WithinD B a → Calls Tryd.prog 23 #[ptrG g] w fun e w' => ∃ T' v, e = .returned v ∧ At T' w' g B (textD B a).2 ∧ To T w T' w' ∧ RowB w' v (textD B a).1
  count : ∀ T (w : World) g B a (most : Int), Rd w → At T w g B a → WithinD B a → rngN most → Calls Tryd.prog 27 #[ptrG g, .int .i64 most] w fun e w' => ∃ T', e = .returned (.int .i64 (countD B most a).1) ∧ At T' w' g B (countD B most a).2 ∧ To T w T' w'
  bad : ∀ T (w : World) g B a, Rd w → At T w g B a → WithinD B a → Calls Tryd.prog 25 #[ptrG g] w fun e w' => e = .returned (.bool a.isNone) ∧ Below w.heap.size w w'
  done : ∀ T (w : World) g B a, Rd w → At T w g B a → WithinD B a → Calls Tryd.prog 24 #[ptrG g] w fun e w' => e = .returned (.bool (decide (a = some B.length))) ∧ Below w.heap.size w w'
/-- What package frame is to answer for putting. -/
structure OutOk (Rd : World → Prop) (At : (Nat → Prop) → World → Nat → List Int → Prop) : Prop where
  keep : ∀ {T w w' g L}, At T w g L → Keep T w w' → At T w' g L
  lt : ∀ {T w g L k}, At T w g L → T k → k < w.heap.size
  int : ∀ T (w : World) g L (n : Int), Rd w → At T w g L → L.length ≤ 20000 → rngN n → Calls Tryd.prog 17 #[ptrG g, .int .i64 n] w fun e w' => ∃ T', e = .returned (ptrG g) ∧ At T' w' g (L ++ intI n) ∧ To T w T' w'
  text : ∀ T (w : World) g L (v : Value) (E : List Int), Rd w → At T w g L → L.length ≤ 20000 → RowB w v E → CapS v → OkB E → E.length ≤ 1000 → (E.length ≠ 0 → ∀ k, v.ownBlock = some k → ¬ T k) → Calls Tryd.prog 19 #[ptrG g, v] w fun e w' => ∃ T', e = .returned (ptrG g) ∧ At T' w' g (L ++ (intI (E.length : Int) ++ E)) ∧ To T w T' w'
  bytes : ∀ T (w : World) g L, Rd w → At T w g L → L.length ≤ 20000 → Calls Tryd.prog 20 #[ptrG g] w fun e w' => ∃ v, e = .returned v ∧ OwnB w' w.heap.size v L ∧ Below w.heap.size w w' ∧ ∀ k, v.ownBlock = some k → ¬ T k
/-- Something behind a pointer on the way, seen from where the call began. -/
structure Far (w0 w : World) (T : Nat → Prop) : Prop where
  far : ∀ k, T k → w0.heap.size ≤ k
  below : Below w0.heap.size w0 w
theorem Far.grow {w0 w w' : World} {T : Nat → Prop} (h : Far w0 w T) (hb : Below w.heap.size w w') : Far w0 w' T := ⟨h.far, h.below.trans (hb.mono h.below.size)⟩
theorem Far.step {w0 w w' : World} {T T' : Nat → Prop} (h : Far w0 w T) (ht : To T w T' w') : Far w0 w' T' :=
  ⟨fun k hk => (ht.new k hk).elim (h.far k) (Nat.le_trans h.below.size), h.below.trans (ht.keep.below (fun k hk hT => absurd (h.far k hT) (by omega)) h.below.size)⟩
end Go.Proofs.YteobffggfcmghaaDoor
