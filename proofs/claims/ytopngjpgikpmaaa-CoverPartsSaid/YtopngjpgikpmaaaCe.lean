/- Layer 8: rows of ints and of bytes at hand; the field of a part. -/
import Derived.Test.YtopngjpgikpmaaaCa
import Derived.Test.YtopngjpgikpmaaaL
namespace Go.Proofs.Ytopngjpgikpmaaa
open Go.RowKit
theorem infoI : (Try.prog.info? 3).map (fun i => (i.zero, i.size, i.bytes)) = some (some (.int .i64 0), 1, 8) := by kernel_rfl
theorem infoU : (Try.prog.info? 5).map (fun i => (i.zero, i.size, i.bytes)) = some (some (.int .u8 0), 1, 1) := by kernel_rfl
theorem made_one (n : Nat) (z : Value) : madeCells #[z] (n * 1) = Array.replicate n z := by
  apply Array.ext
  · simp [madeCells]
  · intro j h1 h2
    simp [madeCells, Nat.mod_one]
theorem make_ints (W : World) (c : Nat) (hc : c ≤ 100000000) : (Instr.makeSlice 64 (.int .i64 (c : Int)) (.int .i64 (c : Int))).run Try.prog W = .ok (.slice (some ⟨W.heap.size, 0, none⟩) c c) (W.alloc (.cells (Array.replicate c (Value.int .i64 0)) 3)) := by
  obtain ⟨i, hi, hz0, hz1, hz2⟩ := info_parts infoI
  have h := run_make (P := Try.prog) W 64 3 i _ Try.underlying64 hi hz0 .i64 .i64 c c (by omega) (by omega) (by rw [hz2]; omega) (by omega)
  rw [hz1] at h
  rw [← made_one]
  exact h
theorem make_bytes (W : World) (c : Nat) (hc : c ≤ 100000000) : (Instr.makeSlice 29 (.int .i64 (c : Int)) (.int .i64 (c : Int))).run Try.prog W = .ok (.slice (some ⟨W.heap.size, 0, none⟩) c c) (W.alloc (.cells (Array.replicate c (Value.int .u8 0)) 5)) := by
  obtain ⟨i, hi, hz0, hz1, hz2⟩ := info_parts infoU
  have h := run_make (P := Try.prog) W 29 5 i _ Try.underlying29 hi hz0 .i64 .i64 c c (by omega) (by omega) (by rw [hz2]; omega) (by omega)
  rw [hz1] at h
  rw [← made_one]
  exact h
def intsA (L : List Int) : Array Value := (L.map (Value.int .i64)).toArray
def bytesL (M : List Nat) : List Value := M.map fun (n : Nat) => Value.int .u8 (n : Int)
def bytesA (M : List Nat) : Array Value := (bytesL M).toArray
theorem intsA_zero (n : Nat) : Array.replicate n (Value.int .i64 0) = intsA (List.replicate n 0) := by unfold intsA; simp
theorem bytesA_zero (n : Nat) : Array.replicate n (Value.int .u8 0) = bytesA (List.replicate n 0) := by unfold bytesA bytesL; simp
theorem Blk.int {w : World} {b : Nat} {t : TypeId} {l : List Int} (h : Blk w b t (intsA l)) {j : Nat} {x : Int} (hj : l[j]? = some x) : w.cell? ⟨b, j, none⟩ = some (.int .i64 x) := by
  rw [h.cell]; simp [intsA, hj]
theorem Blk.setInt {w : World} {b : Nat} {t : TypeId} {l : List Int} (h : Blk w b t (intsA l)) (j : Nat) (x : Int) : Blk (w.setCell ⟨b, j, none⟩ (.int .i64 x)) b t (intsA (l.set j x)) := by
  have := h.set j (.int .i64 x)
  unfold intsA at *
  simpa using this
theorem Blk.byte {w : World} {b : Nat} {t : TypeId} {l : List Nat} (h : Blk w b t (bytesA l)) {j : Nat} {x : Nat} (hj : l[j]? = some x) : w.cell? ⟨b, j, none⟩ = some (.int .u8 (x : Int)) := by
  rw [h.cell]; simp [bytesA, bytesL, hj]
theorem Blk.setByte {w : World} {b : Nat} {t : TypeId} {l : List Nat} (h : Blk w b t (bytesA l)) (j : Nat) (x : Nat) : Blk (w.setCell ⟨b, j, none⟩ (.int .u8 (x : Int))) b t (bytesA (l.set j x)) := by
  have := h.set j (.int .u8 (x : Int))
  unfold bytesA bytesL at *
  simpa [List.map_set] using this
/-- The cells of a field. -/
abbrev fcells (fx fy : Int) (cols rows h N : Nat) : Array Value := #[.int .i64 fx, .int .i64 fy, .int .i64 cols, .int .i64 rows, .slice (some ⟨h, 0, none⟩) N N]
/-- A field at hand: where it lies, where its numbers lie, the first sample, the numbers. -/
structure FieldAt (w : World) (g h : Nat) (fx fy : Int) (cols rows N : Nat) (L : List Int) : Prop where
  f : Blk w g 66 (fcells fx fy cols rows h N)
  r : Blk w h 3 (intsA L)
  len : L.length = N
  ne : g ≠ h
theorem FieldAt.grow {w w' : World} {g h : Nat} {fx fy : Int} {cols rows N : Nat} {L : List Int} (k : FieldAt w g h fx fy cols rows N L) (hb : Below w.heap.size w w') : FieldAt w' g h fx fy cols rows N L := ⟨k.f.grow hb, k.r.grow hb, k.len, k.ne⟩
theorem FieldAt.alloc {w : World} {g h : Nat} {fx fy : Int} {cols rows N : Nat} {L : List Int} (k : FieldAt w g h fx fy cols rows N L) (o : Obj) : FieldAt (w.alloc o) g h fx fy cols rows N L := ⟨k.f.alloc _, k.r.alloc _, k.len, k.ne⟩
theorem FieldAt.c0 {w : World} {g h : Nat} {fx fy : Int} {cols rows N : Nat} {L : List Int} (k : FieldAt w g h fx fy cols rows N L) : w.cell? ⟨g, 0, none⟩ = some (.int .i64 fx) := k.f.cell 0
theorem FieldAt.c1 {w : World} {g h : Nat} {fx fy : Int} {cols rows N : Nat} {L : List Int} (k : FieldAt w g h fx fy cols rows N L) : w.cell? ⟨g, 1, none⟩ = some (.int .i64 fy) := k.f.cell 1
theorem FieldAt.c2 {w : World} {g h : Nat} {fx fy : Int} {cols rows N : Nat} {L : List Int} (k : FieldAt w g h fx fy cols rows N L) : w.cell? ⟨g, 2, none⟩ = some (.int .i64 cols) := k.f.cell 2
theorem FieldAt.c3 {w : World} {g h : Nat} {fx fy : Int} {cols rows N : Nat} {L : List Int} (k : FieldAt w g h fx fy cols rows N L) : w.cell? ⟨g, 3, none⟩ = some (.int .i64 rows) := k.f.cell 3
theorem FieldAt.c4 {w : World} {g h : Nat} {fx fy : Int} {cols rows N : Nat} {L : List Int} (k : FieldAt w g h fx fy cols rows N L) : w.cell? ⟨g, 4, none⟩ = some (.slice (some ⟨h, 0, none⟩) N N) := k.f.cell 4
theorem FieldAt.set {w : World} {g h : Nat} {fx fy : Int} {cols rows N : Nat} {L : List Int} (k : FieldAt w g h fx fy cols rows N L) (j : Nat) (x : Int) : FieldAt (w.setCell ⟨h, j, none⟩ (.int .i64 x)) g h fx fy cols rows N (L.set j x) :=
  ⟨k.f.other _ _ k.ne, k.r.setInt j x, by rw [List.length_set]; exact k.len, k.ne⟩
set_option maxHeartbeats 2000000 in
set_option maxRecDepth 100000 in
theorem newField_c (b : Bx) (cols rows N : Nat) (w : World) (h0 : -4194304 ≤ b.x0 ∧ b.x0 ≤ 4194304) (h1 : -4194304 ≤ b.y0 ∧ b.y0 ≤ 4194304) (hc : (b.x1 - b.x0) * 4 = cols) (hr : (b.y1 - b.y0) * 4 = rows) (hc2 : cols ≤ 1024) (hr2 : rows ≤ 1024) (hN : cols * rows = N) (hN2 : N ≤ 1048576) :
    Calls Try.prog 31 #[.agg #[.int .i64 b.x0, .int .i64 b.y0, .int .i64 b.x1, .int .i64 b.y1]] w fun e w' => ∃ g h, e = .returned (.pointer (some ⟨g, 0, none⟩)) ∧ w.heap.size ≤ g ∧ w.heap.size ≤ h ∧
      FieldAt w' g h (b.x0 * 256 + 32) (b.y0 * 256 + 32) cols rows N (List.replicate N 0) ∧ Below w.heap.size w w' := by
  have HM : ∀ W : World, (Instr.makeSlice 64 (.int .i64 (wrap64 ((cols : Int) * (rows : Int)))) (.int .i64 (wrap64 ((cols : Int) * (rows : Int))))).run Try.prog W = .ok (.slice (some ⟨W.heap.size, 0, none⟩) N N) (W.alloc (.cells (Array.replicate N (Value.int .i64 0)) 3)) := fun W => by
    have e5 : wrap64 ((cols : Int) * (rows : Int)) = (N : Int) := by rw [← Int.natCast_mul, hN]; unfold wrap64; omega
    rw [e5]
    exact make_ints W N (by omega)
  have HM2 : ∀ W : World, (Instr.makeSlice 64 (.int .i64 (IntKind.i64.wrap ((cols : Int) * (rows : Int)))) (.int .i64 (IntKind.i64.wrap ((cols : Int) * (rows : Int))))).run Try.prog W = .ok (.slice (some ⟨W.heap.size, 0, none⟩) N N) (W.alloc (.cells (Array.replicate N (Value.int .i64 0)) 3)) := fun W => by rw [wrap_is]; exact HM W
  obtain ⟨x0, y0, x1, y1⟩ := b
  simp only at *
  obtain ⟨h0a, h0b⟩ := h0
  obtain ⟨h1a, h1b⟩ := h1
  have e1 : wrap64 (x1 - x0) = x1 - x0 := by unfold wrap64; omega
  have e2 : wrap64 (y1 - y0) = y1 - y0 := by unfold wrap64; omega
  have e3 : wrap64 ((x1 - x0) * 4) = (cols : Int) := by unfold wrap64; omega
  have e4 : wrap64 ((y1 - y0) * 4) = (rows : Int) := by unfold wrap64; omega
  clear hc hr hN hc2 hr2
  go_enter Try.func31, Try.ntmps31
  go_wp2_with fail
  go_region
  have GR : ∀ W : World, Below W.heap.size W W.drew := fun W => ⟨rfl, rfl, rfl, Nat.le_refl _, fun _ _ => rfl⟩
  have GRH := Lib.hid GR
  clear GR HM HM2
  go_wp2_with fail
  go_ret
  rw [intsA_zero]
  refine ⟨w.heap.size + 1, w.heap.size + 1 + 1, rfl, by omega, by omega, ⟨Blk.grow ((Blk.newAt _ _ _ (by simp)).alloc _) (GRH.out _), Blk.grow (Blk.newAt _ _ _ (by simp)) (GRH.out _), by simp, by omega⟩, ?_⟩
  exact ((((Below.refl _ _).alloc (Nat.le_refl _) _).alloc (by simp) _).alloc (by simp; omega) _).trans ((GRH.out _).mono (by simp; omega))
end Go.Proofs.Ytopngjpgikpmaaa
