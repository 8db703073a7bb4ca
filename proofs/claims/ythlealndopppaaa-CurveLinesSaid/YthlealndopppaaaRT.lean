/- A drawn region in which a call yields a row and an error. -/
import Derived.Test.YthlealndopppaaaO
namespace Go.Proofs.Ythlealndopppaaa
open Go.RowKit
/-- A pair that an operation yields: a row, and no error. -/
def TupF (n : Nat) (T : List Made) (b : Nat → Bool) (vs : Nat → Value) (w : World) : Prop := ∀ x ∈ T, b x.op = true → ∃ r, vs x.op = .tuple #[r, .int .i64 0] ∧ Own w n x.t r x.pts
def RegT (n : Nat) (w0 : World) (A T : List Made) (S : List Stor) (l : BlkL) (b : Nat → Bool) (vs : Nat → Value) (w : World) : Prop := RegM n w0 A S l b vs w ∧ TupF n T b vs w
section
variable {n : Nat} {w0 w w' : World} {A T : List Made} {S : List Stor} {l : BlkL} {b : Nat → Bool} {vs : Nat → Value}
theorem TupF.start (vs : Nat → Value) (w : World) : TupF n T (fun _ => false) vs w := fun _ _ h => Bool.noConfusion h
theorem TupF.grow (h : TupF n T b vs w) (hb : Below w.heap.size w w') : TupF n T b vs w' := fun x hx hbx => by
  obtain ⟨r, e, ho⟩ := h x hx hbx
  exact ⟨r, e, ho.grow hb⟩
theorem TupF.other (h : TupF n T b vs w) (i : Nat) (v : Value) (hi : (T.all fun x => decide (x.op ≠ i)) = true) : TupF n T (upd b i true) (upd vs i v) w := fun x hx hbx => by
  have hT : x.op ≠ i := by simpa using List.all_eq_true.1 hi x hx
  rw [upd_other _ _ _ _ hT] at hbx ⊢
  exact h x hx hbx
theorem TupF.made (h : TupF n T b vs w) (x : Made) (r : Value) (ho : Own w n x.t r x.pts) (hT : ∀ y ∈ T, y.op = x.op → y.t = x.t ∧ y.pts = x.pts) : TupF n T (upd b x.op true) (upd vs x.op (.tuple #[r, .int .i64 0])) w := fun y hy hby => by
  by_cases e : y.op = x.op
  · have := hT y hy e
    refine ⟨r, by rw [e, upd_same], ?_⟩
    rw [this.1, this.2]; exact ho
  · rw [upd_other _ _ _ _ e] at hby ⊢
    exact h y hy hby
theorem TupF.at (h : TupF n T b vs w) (x : Made) (hx : x ∈ T) (hb : b x.op = true) : ∃ r, vs x.op = .tuple #[r, .int .i64 0] ∧ Own w n x.t r x.pts := h x hx hb
theorem RegT.grow (h : RegT n w0 A T S l b vs w) (hb : Below w.heap.size w w') : RegT n w0 A T S l b vs w' := ⟨h.1.grow hb, h.2.grow hb⟩
theorem RegT.other (h : RegT n w0 A T S l b vs w) (i : Nat) (v : Value) (hi : ((A.all fun x => decide (x.op ≠ i)) && S.all fun s => decide (s.st ≠ i)) = true) (hi2 : (T.all fun x => decide (x.op ≠ i)) = true) : RegT n w0 A T S l (upd b i true) (upd vs i v) w := ⟨h.1.other i v hi, h.2.other i v hi2⟩
end
end Go.Proofs.Ythlealndopppaaa
