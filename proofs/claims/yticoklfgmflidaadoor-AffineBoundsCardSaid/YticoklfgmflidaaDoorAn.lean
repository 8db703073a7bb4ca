/- The frame, second part: the table of quarters as the rows list it; rows of four ints; the struct Plain. -/
import Derived.Test.YticoklfgmflidaaDoorAm
namespace Go.Proofs.YticoklfgmflidaaDoor
open Go.ChangeShapes Go.WideShapes Go.ChangeAt Go.RowKit Go.Deep

theorem cut6 {α : Type} (l : List α) (i : Nat) : l.drop i = (l.drop i).take 6 ++ l.drop (i + 6) := by
  rw [← List.drop_drop]; exact (List.take_append_drop 6 _).symm
theorem mx_of_data {H : Type} {a b c d e f a' b' c' d' e' f' : Int} (h : (DataW.agg [.lit (.int .i64 a), .lit (.int .i64 b), .lit (.int .i64 c), .lit (.int .i64 d), .lit (.int .i64 e), .lit (.int .i64 f)] : DataW H) = .agg [.lit (.int .i64 a'), .lit (.int .i64 b'), .lit (.int .i64 c'), .lit (.int .i64 d'), .lit (.int .i64 e'), .lit (.int .i64 f')]) :
    (⟨a, b, c, d, e, f⟩ : Mx) = ⟨a', b', c', d', e', f'⟩ := by
  simp only [DataW.agg.injEq, List.cons.injEq, DataW.lit.injEq, Lit.int.injEq, true_and, and_true] at h
  obtain ⟨rfl, rfl, rfl, rfl, rfl, rfl⟩ := h
  rfl
/-- What a row's list gives the walks. -/
theorem rd_of {W : World} (h : laidMetH Tryd.prog [("limner/affine.quarters", Rows.laid_limner_affine_quarters)] W) : Rd W := by
  rw [MakeChecks.laidMetH_plain _ _ _ (by kernel_rfl)] at h
  obtain ⟨ps, ⟨g', t', cs, fuel, p, q, hg', ht', hvar, hd, _, _⟩, _⟩ := h
  obtain rfl : g' = 0 := Option.some.inj (hg'.symm.trans gQ)
  obtain rfl : t' = 74 := Option.some.inj (ht'.symm.trans (show (Tryd.prog.globals[0]?).map (·.type) = some 74 by kernel_rfl))
  obtain ⟨xs, m, _, hx, hl, hlen, hf⟩ := DataW.trod_array Tryd.underlying74 hd
  rw [cellsQ] at hl
  obtain ⟨y0, y1, y2, y3, rfl⟩ := list4 hlen
  have f0 := hf 0 (by decide)
  have f1 := hf 1 (by decide)
  have f2 := hf 2 (by decide)
  have f3 := hf 3 (by decide)
  rw [cellsM] at f0 f1 f2 f3
  obtain ⟨M0, e0, d0⟩ := mat_open (x := y0) (by simpa using f0)
  obtain ⟨M1, e1, d1⟩ := mat_open (x := y1) (by simpa using f1)
  obtain ⟨M2, e2, d2⟩ := mat_open (x := y2) (by simpa using f2)
  obtain ⟨M3, e3, d3⟩ := mat_open (x := y3) (by simpa using f3)
  have hdat := congrArg Prod.fst hx
  simp only [List.map_cons, List.map_nil, d0, d1, d2, d3] at hdat
  unfold Rows.laid_limner_affine_quarters at hdat
  rw [DataW.agg.injEq, List.cons.injEq, List.cons.injEq, List.cons.injEq, List.cons.injEq] at hdat
  obtain ⟨k0, k1, k2, k3, _⟩ := hdat
  have r0 : M0 = q0 := (mx_of_data k0).symm
  have r1 : M1 = q1 := (mx_of_data k1).symm
  have r2 : M2 = q2 := (mx_of_data k2).symm
  have r3 : M3 = q3 := (mx_of_data k3).symm
  have hcs : cs.toList = quartersL := by
    have c0 : cs.toList = (cs.toList.drop 0).take 6 ++ cs.toList.drop 6 := cut6 cs.toList 0
    rw [cut6 cs.toList 6, cut6 cs.toList 12, cut6 cs.toList 18, List.drop_eq_nil_of_le (show cs.toList.length ≤ 18 + 6 by omega)] at c0
    have e0' : List.take 6 (List.drop 0 cs.toList) = (six q0).toList := by rw [← r0, ← e0]; simp
    have e1' : List.take 6 (List.drop 6 cs.toList) = (six q1).toList := by rw [← r1, ← e1]
    have e2' : List.take 6 (List.drop 12 cs.toList) = (six q2).toList := by rw [← r2, ← e2]
    have e3' : List.take 6 (List.drop 18 cs.toList) = (six q3).toList := by rw [← r3, ← e3]
    rw [e0', e1', e2', e3'] at c0
    exact c0
  unfold Rd
  rw [hvar, ← hcs]
section
variable {H : Type} {enc : TypeId × Value → H} {W : World} {base b0 : Nat} {spare : Nat → Bool} {held : Bool}
theorem open_ints {v : Value} {d : DataW H} {p : List MemPlace} (hv : Value.okWide Tryd.prog W .any b0 60 v) (h : DataW.Trod enc Tryd.prog W base spare held 60 v d p) :
    ∃ a0 a1 a2 a3 : Int, v = .agg #[.int .i64 a0, .int .i64 a1, .int .i64 a2, .int .i64 a3] := by
  obtain ⟨cs, rfl, hsz⟩ := okWide_row Tryd.underlying60 hv
  obtain ⟨l⟩ := cs
  obtain ⟨c0, c1, c2, c3, rfl⟩ := list4 (l := l) (by simpa [cellsA] using hsz)
  obtain ⟨fuel, hf⟩ := h
  obtain ⟨xs, m, _, _, _, hlen, hg⟩ := DataW.trod_array Tryd.underlying60 hf
  obtain ⟨y0, y1, y2, y3, rfl⟩ := list4 hlen
  obtain ⟨z0, rfl, _, _⟩ := int_at (by have := hg 0 (by decide); simpa [cellsI, Value.cells] using this) (by simp)
  obtain ⟨z1, rfl, _, _⟩ := int_at (by have := hg 1 (by decide); simpa [cellsI, Value.cells] using this) (by simp)
  obtain ⟨z2, rfl, _, _⟩ := int_at (by have := hg 2 (by decide); simpa [cellsI, Value.cells] using this) (by simp)
  obtain ⟨z3, rfl, _, _⟩ := int_at (by have := hg 3 (by decide); simpa [cellsI, Value.cells] using this) (by simp)
  exact ⟨z0, z1, z2, z3, rfl⟩
theorem open_plain {v : Value} {d : DataW H} {p : List MemPlace} (hv : Value.okWide Tryd.prog W .any b0 47 v) (h : DataW.Trod enc Tryd.prog W base spare held 47 v d p) :
    ∃ a b x y n : Int, v = .agg #[.int .i64 a, .int .i64 b, .int .i64 x, .int .i64 y, .int .i64 n] := by
  obtain ⟨cs, rfl, hsz⟩ := okWide_struct Tryd.underlying47 hv
  obtain ⟨l⟩ := cs
  obtain ⟨c0, c1, c2, c3, c4, rfl⟩ := list5 (l := l) (by simpa [cellsZ] using hsz)
  obtain ⟨fuel, hf⟩ := h
  obtain ⟨xs, m, _, _, _, hlen, hg⟩ := DataW.trod_struct Tryd.underlying47 hf
  obtain ⟨y0, y1, y2, y3, rfl⟩ := list4 (l := xs) (by rw [hlen]; rfl)
  obtain ⟨z1, rfl, _, _⟩ := int_at (by have := hg 1 _ rfl; simpa [cellsI, Value.cells] using this) (by simp)
  obtain ⟨z2, rfl, _, _⟩ := int_at (by have := hg 2 _ rfl; simpa [cellsI, Value.cells] using this) (by simp)
  obtain ⟨z3, rfl, _, _⟩ := int_at (by have := hg 3 _ rfl; simpa [cellsI, Value.cells] using this) (by simp)
  have hp : DataW.trod enc Tryd.prog W base spare held m 25 [c0, c1] = some y0 := by have := hg 0 _ rfl; simpa [cellsP, Value.cells] using this
  obtain ⟨ys, k, _, _, _, hlen2, hf2⟩ := DataW.trod_struct Tryd.underlying25 hp
  have hy : ∃ u0 u1, ys = [u0, u1] := by
    match ys, (by rw [hlen2]; rfl : ys.length = 2) with
    | [u0, u1], _ => exact ⟨u0, u1, rfl⟩
  obtain ⟨u0, u1, rfl⟩ := hy
  obtain ⟨za, rfl, _, _⟩ := int_at (by have := hf2 0 _ rfl; simpa [cellsI] using this) (by simp)
  obtain ⟨zb, rfl, _, _⟩ := int_at (by have := hf2 1 _ rfl; simpa [cellsI] using this) (by simp)
  exact ⟨za, zb, z1, z2, z3, rfl⟩
end
end Go.Proofs.YticoklfgmflidaaDoor
