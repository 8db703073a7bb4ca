/- Layer 11: parts of images; what package image answers of parts, pixels, boxes. -/
import Derived.Test.YtoppmlfibllhlaaKa
namespace Go.Proofs.Ytoppmlfibllhlaa
open Go.RowKit
theorem equal8 (c d : Col) (w : World) : (Op.equalIn 10000 28 (.agg #[.int .u8 (c 0), .int .u8 (c 1), .int .u8 (c 2), .int .u8 (c 3)]) (.agg #[.int .u8 (d 0), .int .u8 (d 1), .int .u8 (d 2), .int .u8 (d 3)])).run Try.prog w = .ok (eqC c d) w := by
  have hsz : ∀ w, (sizeOf 5).run Try.prog w = .ok 1 w := fun w => by kernel_rfl
  rw [Op.equalIn]
  simp only [Sem.run_bind, run_underlying Try.underlying28, Result.andThen_ok, hsz, Std.Legacy.Range.forIn_eq_forIn_range', Std.Legacy.Range.size, Nat.sub_zero, Nat.add_sub_cancel, Nat.div_one]
  rw [show List.range' 0 4 1 = [0, 1, 2, 3] from rfl]
  have px : ∀ (c : Col) (i : Nat), i < 4 → (part 5 #[Value.int .u8 (c 0), .int .u8 (c 1), .int .u8 (c 2), .int .u8 (c 3)] (i * 1)).run Try.prog w = .ok (.int .u8 (c i)) w := fun c i hi => by
    have he : (#[Value.int .u8 (c 0), .int .u8 (c 1), .int .u8 (c 2), .int .u8 (c 3)] : Array Value)[i]? = some (.int .u8 (c i)) := four_at (fun i => .int .u8 (c i)) hi
    simp [part, isAgg, run_underlying Try.underlying5, he]
  have pe : ∀ x y : Int, (Op.equalIn (9998 + 1) 5 (.int .u8 x) (.int .u8 y)).run Try.prog w = .ok (x == y) w := fun x y => run_equalIn_int w 9998 _ _ _ _ _ Try.underlying5
  unfold eqC
  simp only [List.forIn_cons, List.forIn_nil, Sem.run_bind, px c 0 (by decide), px d 0 (by decide), pe, Result.andThen_ok]
  cases h0 : (c 0 == d 0)
  · simp
  cases h1 : (c 1 == d 1)
  · simp [px c 1 (by decide), px d 1 (by decide), pe, h1]
  cases h2 : (c 2 == d 2)
  · simp [px c 1 (by decide), px d 1 (by decide), px c 2 (by decide), px d 2 (by decide), pe, h1, h2]
  cases h3 : (c 3 == d 3)
  · simp [px c 1 (by decide), px d 1 (by decide), px c 2 (by decide), px d 2 (by decide), px c 3 (by decide), px d 3 (by decide), pe, h1, h2, h3]
  · simp [px c 1 (by decide), px d 1 (by decide), px c 2 (by decide), px d 2 (by decide), px c 3 (by decide), px d 3 (by decide), pe, h1, h2, h3]
def v4 (c : Col) : Int × Int × Int × Int := (c 0, c 1, c 2, c 3)
theorem eqC_ext {c d : Col} (h : eqC c d = true) : v4 c = v4 d := by
  have := eqC_iff.1 h
  unfold v4
  rw [this 0 (by decide), this 1 (by decide), this 2 (by decide), this 3 (by decide)]
/-- A part of an image. -/
def cropPx (W x0 y0 cw : Int) (l : List Col) (k : Nat) : Col := cAt l ((y0 + (k : Int) / cw) * W + x0 + (k : Int) % cw).toNat
def cropL (W x0 y0 x1 y1 : Int) (l : List Col) : List Col := (List.range ((x1 - x0) * (y1 - y0)).toNat).map (cropPx W x0 y0 (x1 - x0) l)
def cropB (W H x0 y0 x1 y1 : Int) : Bool := decide (x0 < 0) || decide (y0 < 0) || decide (x1 > W) || decide (y1 > H) || decide (x0 ≥ x1) || decide (y0 ≥ y1)
theorem cropB_no {W H x0 y0 x1 y1 : Int} : cropB W H x0 y0 x1 y1 = false ↔ 0 ≤ x0 ∧ 0 ≤ y0 ∧ x1 ≤ W ∧ y1 ≤ H ∧ x0 < x1 ∧ y0 < y1 := by
  unfold cropB
  simp only [Bool.or_eq_false_iff, decide_eq_false_iff_not]
  omega
theorem cropL_len {W x0 y0 x1 y1 : Int} {l : List Col} (hx : x0 < x1) (hy : y0 < y1) : ((cropL W x0 y0 x1 y1 l).length : Int) = (x1 - x0) * (y1 - y0) := by
  unfold cropL
  rw [List.length_map, List.length_range, Int.toNat_of_nonneg]
  exact Int.mul_nonneg (by omega) (by omega)
theorem all_at {l : List Col} {p : Col → Bool} (h : l.all p = true) {k : Nat} (hk : k < l.length) : p (cAt l k) = true := List.all_eq_true.1 h _ (List.mem_of_getElem? (cAt_some hk))
theorem crop_in {W H x0 y0 x1 y1 : Int} {l : List Col} (hr : rightIm W H l = true) (hb : cropB W H x0 y0 x1 y1 = false) {k : Nat} (hk : (k : Int) < (x1 - x0) * (y1 - y0)) : 0 ≤ (y0 + (k : Int) / (x1 - x0)) * W + x0 + (k : Int) % (x1 - x0) ∧ (y0 + (k : Int) / (x1 - x0)) * W + x0 + (k : Int) % (x1 - x0) < l.length := by
  obtain ⟨a1, a2, a3, a4, a5, _⟩ := rightIm_iff.1 hr
  obtain ⟨b1, b2, b3, b4, b5, b6⟩ := cropB_no.1 hb
  have h1 : 0 ≤ (k : Int) / (x1 - x0) := Int.ediv_nonneg (by omega) (by omega)
  have h2 : (k : Int) / (x1 - x0) < y1 - y0 := Int.ediv_lt_of_lt_mul (by omega) (by rw [Int.mul_comm]; exact hk)
  have h3 := Int.emod_nonneg (k : Int) (show x1 - x0 ≠ 0 by omega)
  have h4 := Int.emod_lt_of_pos (k : Int) (show 0 < x1 - x0 by omega)
  generalize (k : Int) / (x1 - x0) = j at *
  generalize (k : Int) % (x1 - x0) = i at *
  have := at_prod (px := x0 + i) (py := y0 + j) (oW := W) (oH := H) (by omega) (by omega) (by omega) (by omega) (by omega) (by omega)
  rw [a5]
  omega
theorem crop_ok {W H x0 y0 x1 y1 : Int} {l : List Col} (hr : rightIm W H l = true) (hb : cropB W H x0 y0 x1 y1 = false) : ∀ c ∈ cropL W x0 y0 x1 y1 l, ∃ k, k < l.length ∧ c = cAt l k := fun c hc => by
  obtain ⟨k, hk, rfl⟩ := List.mem_map.1 hc
  have hk' := List.mem_range.1 hk
  obtain ⟨h1, h2⟩ := crop_in hr hb (k := k) (by omega)
  exact ⟨_, by omega, rfl⟩
theorem crop_right {W H x0 y0 x1 y1 : Int} {l : List Col} (hr : rightIm W H l = true) (hb : cropB W H x0 y0 x1 y1 = false) : rightIm (x1 - x0) (y1 - y0) (cropL W x0 y0 x1 y1 l) = true := by
  obtain ⟨a1, a2, a3, a4, a5, a6⟩ := rightIm_iff.1 hr
  obtain ⟨b1, b2, b3, b4, b5, b6⟩ := cropB_no.1 hb
  refine rightIm_iff.2 ⟨by omega, by omega, by omega, by omega, cropL_len b5 b6, ?_⟩
  rw [List.all_eq_true]
  intro c hc
  obtain ⟨k, hk, rfl⟩ := crop_ok hr hb c hc
  exact all_at a6 hk
theorem crop_okC {W H x0 y0 x1 y1 : Int} {l : List Col} (hr : rightIm W H l = true) (hb : cropB W H x0 y0 x1 y1 = false) (hok : ∀ c ∈ l, OkC c) : ∀ c ∈ cropL W x0 y0 x1 y1 l, OkC c := fun c hc => by
  obtain ⟨k, hk, rfl⟩ := crop_ok hr hb c hc
  exact hok _ (List.mem_of_getElem? (cAt_some hk))
/-- The pixel of a part at a place. -/
theorem crop_at {W x0 y0 x1 y1 : Int} {l : List Col} {i j : Int} (hi : 0 ≤ i ∧ i < x1 - x0) (hj : 0 ≤ j ∧ j < y1 - y0) : 0 ≤ j * (x1 - x0) + i ∧ j * (x1 - x0) + i < (x1 - x0) * (y1 - y0) ∧ cAt (cropL W x0 y0 x1 y1 l) (j * (x1 - x0) + i).toNat = cAt l ((y0 + j) * W + x0 + i).toNat := by
  have h1 : 0 ≤ j * (x1 - x0) := Int.mul_nonneg hj.1 (by omega)
  have h2 : (j + 1) * (x1 - x0) ≤ (y1 - y0) * (x1 - x0) := Int.mul_le_mul_of_nonneg_right (by omega) (by omega)
  have h3 : (j + 1) * (x1 - x0) = j * (x1 - x0) + (x1 - x0) := by rw [Int.add_mul, Int.one_mul]
  have h4 : (y1 - y0) * (x1 - x0) = (x1 - x0) * (y1 - y0) := Int.mul_comm _ _
  have h5 : j * (x1 - x0) + i < (x1 - x0) * (y1 - y0) := by omega
  refine ⟨by omega, h5, ?_⟩
  unfold cropL cAt
  have hlt : (j * (x1 - x0) + i).toNat < ((x1 - x0) * (y1 - y0)).toNat := by omega
  rw [List.getD_eq_getElem?_getD, List.getElem?_map, List.getElem?_range hlt]
  simp only [Option.map_some, Option.getD_some]
  unfold cropPx
  have hn : ((j * (x1 - x0) + i).toNat : Int) = i + j * (x1 - x0) := by omega
  rw [hn, Int.add_mul_ediv_right _ _ (by omega), Int.add_mul_emod_self_right, Int.ediv_eq_zero_of_lt hi.1 hi.2, Int.emod_eq_of_lt hi.1 hi.2, Int.zero_add]
  rfl
def inIm (W H x y : Int) : Bool := decide (x ≥ 0) && decide (x < W) && decide (y ≥ 0) && decide (y < H)
def atC (W H x y : Int) (l : List Col) : Col := if inIm W H x y then cAt l (y * W + x).toNat else zeroK
def AtOk : Prop := ∀ (W H x y : Int) (s : Value) (l : List Col) (w : World), RowK .u8 w s l → (∀ c ∈ l, OkC c) → l.length ≤ 400 → rightIm W H l = true → Calls Try.prog 23 #[.agg #[.int .i64 W, .int .i64 H, s], .int .i64 x, .int .i64 y] w fun e w' => e = .returned (.tuple #[.agg #[.int .u8 (atC W H x y l 0), .int .u8 (atC W H x y l 1), .int .u8 (atC W H x y l 2), .int .u8 (atC W H x y l 3)], .bool (inIm W H x y)]) ∧ Below w.heap.size w w'
def BoxOk : Prop := ∀ (W H : Int) (s : Value) (l : List Col) (w : World), RowK .u8 w s l → (∀ c ∈ l, OkC c) → l.length ≤ 400 → rightIm W H l = true → Calls Try.prog 24 #[.agg #[.int .i64 W, .int .i64 H, s]] w fun e w' => e = .returned (.agg #[.int .i64 0, .int .i64 0, .int .i64 W, .int .i64 H]) ∧ Below w.heap.size w w'
def CropOk : Prop := ∀ (W H x0 y0 x1 y1 : Int) (s : Value) (l : List Col) (w : World), RowK .u8 w s l → Hid (CapS s) → (∀ c ∈ l, OkC c) → l.length ≤ 400 → Calls Try.prog 22 #[.agg #[.int .i64 W, .int .i64 H, s], .agg #[.int .i64 x0, .int .i64 y0, .int .i64 x1, .int .i64 y1]] w fun e w' =>
  (rightIm W H l = true → cropB W H x0 y0 x1 y1 = false → ToldIm w (x1 - x0) (y1 - y0) (cropL W x0 y0 x1 y1 l) 0 e w') ∧ ((rightIm W H l && !cropB W H x0 y0 x1 y1) = false → ToldIm w 0 0 [] 30 e w')
end Go.Proofs.Ytoppmlfibllhlaa

