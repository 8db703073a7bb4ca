/- strconv.ParseUint at 24 and 32 bits, with its errors. -/
import Derived.Test.YtbnbglngpgikfaaGreatDoorNp
import Derived.Lib.SmallJoins
namespace Go.Proofs.YtbnbglngpgikfaaGreatDoor
open Go.RowKit Go.Shelf

/-! What the walks of Parse read of memory. -/
theorem gSyn : Tryz.prog.globalNamed "strconv.ErrSyntax" = some 7 := by kernel_rfl
theorem gRng : Tryz.prog.globalNamed "strconv.ErrRange" = some 8 := by kernel_rfl
structure Rd2 (w : World) : Prop where
  rd : RdF w
  syn : ∃ t p, w.var? Tryz.prog "strconv.ErrSyntax" = some #[.iface t p]
  rng : ∃ t p, w.var? Tryz.prog "strconv.ErrRange" = some #[.iface t p]
  mx : ∃ m, w.cell? ⟨1, 0, none⟩ = some (.int .i64 m)
theorem Rd2.on {w w' : World} (h : Rd2 w) (hb : Below w.heap.size w w') : Rd2 w' :=
  ⟨h.rd.on hb, let ⟨t, p, e⟩ := h.syn; ⟨t, p, Joins.var_stays gSyn e hb (Nat.le_refl _)⟩, let ⟨t, p, e⟩ := h.rng; ⟨t, p, Joins.var_stays gRng e hb (Nat.le_refl _)⟩,
    let ⟨m, e⟩ := h.mx; ⟨m, (hb.cell (Lib.lt_of_cell e)).trans e⟩⟩
theorem below_bytes (w : World) (t : ByteArray) : Below w.heap.size w (Lib.bytesWorld w 5 t) := Lib.bytesWorld_below _ _ _

theorem parse24_all (t : ByteArray) (hmax : t.size ≤ 4294967296) (w : World) :
    Calls Tryz.prog 99 #[.string t, .int .i64 10, .int .i64 24] w fun e w' => e = .returned (Lib.uintTupleM 138 16777215 (Lib.parseUintB 24 t.data.toList)) ∧ Below w.heap.size w w' := by
  by_cases h0 : t.size = 0
  · have ht : t = ⟨#[]⟩ := by
      apply ByteArray.ext
      exact Array.eq_empty_of_size_eq_zero h0
    subst ht
    exact (AnyPu.internal_strconv_ParseUint_empty { Tryz.laysPu14 with } 10 24 w).mono fun e w' ⟨he, hw⟩ => ⟨he, hw ▸ Below.refl _ _⟩
  · have hne : t.data.toList ≠ [] := fun h => h0 (by rw [Lib.size_eq, h]; rfl)
    refine (parse24 t h0 hmax w).mono fun e w' ⟨he, hw⟩ => ⟨?_, hw ▸ below_bytes _ _⟩
    rw [he, Lib.parseUintB, if_neg hne]
theorem parse32_all (t : ByteArray) (hmax : t.size ≤ 4294967296) (w : World) :
    Calls Tryz.prog 99 #[.string t, .int .i64 10, .int .i64 32] w fun e w' => e = .returned (Lib.uintTupleM 138 4294967295 (Lib.parseUintB 32 t.data.toList)) ∧ Below w.heap.size w w' :=
  (AnyPu.internal_strconv_ParseUint_10_at32 { Tryz.laysPu14 with } t (by omega) w).mono fun e w' ⟨he, hw⟩ => ⟨he, by rcases hw with rfl | rfl; exact Below.refl _ _; exact below_bytes _ _⟩
/-- An error that is not nil. -/
def badEnd (e : Ending) : Prop := ∃ x N, e = .returned (.tuple #[.int .u64 x, .iface 140 (.pointer (some ⟨N, 0, none⟩))])

set_option maxHeartbeats 4000000 in
set_option maxRecDepth 100000 in
theorem pu_ok (t : ByteArray) (bits M : Int) (u : Nat) (w : World)
    (hI : Calls Tryz.prog 99 #[.string t, .int .i64 10, .int .i64 bits] w fun e w' => e = .returned (Lib.uintTupleM 138 M (.ok u)) ∧ Below w.heap.size w w') :
    Calls Tryz.prog 85 #[.string t, .int .i64 10, .int .i64 bits] w fun e w' => e = .returned (.tuple #[.int .u64 u, .nilIface]) ∧ Below w.heap.size w w' := by
  have hI : Calls Tryz.prog 99 #[.string t, .int .i64 10, .int .i64 bits] w fun e w' => e = .returned (.tuple #[.int .u64 u, .nilIface]) ∧ Below w.heap.size w w' := hI
  have HI := Lib.hid hI; clear hI
  go_enter Tryz.func85, Tryz.ntmps85
  go_wp2_with (go_at_call 99; refine HI.out.mono ?_; rintro e W1 ⟨rfl, hW⟩; have HW := Lib.hid hW; clear hW)
  go_ret2
  exact ⟨rfl, HW.out⟩
set_option maxHeartbeats 4000000 in
set_option maxRecDepth 100000 in
theorem pu_syn (t : ByteArray) (hlim : t.size ≤ 281474976710656) (bits M : Int) (w : World) (hr : Rd2 w)
    (hI : Calls Tryz.prog 99 #[.string t, .int .i64 10, .int .i64 bits] w fun e w' => e = .returned (Lib.uintTupleM 138 M synE) ∧ Below w.heap.size w w') :
    Calls Tryz.prog 85 #[.string t, .int .i64 10, .int .i64 bits] w fun e w' => badEnd e ∧ Below w.heap.size w w' := by
  have hI : Calls Tryz.prog 99 #[.string t, .int .i64 10, .int .i64 bits] w fun e w' => e = .returned (.tuple #[.int .u64 0, .iface 138 (.int .i64 2)]) ∧ Below w.heap.size w w' := hI
  have HI := Lib.hid hI; have Hr := Lib.hid hr; clear hI hr
  go_enter Tryz.func85, Tryz.ntmps85
  go_wp2_with (go_at_call 99; refine HI.out.mono ?_; rintro e W1 ⟨rfl, hW⟩; have HW := Lib.hid hW; clear hW)
  obtain ⟨te, pe, hv⟩ := (Hr.out.on HW.out).syn
  refine (AnyPu.strconv_toError_syntax { Tryz.laysPu14 with } ⟨#[80, 97, 114, 115, 101, 85, 105, 110, 116]⟩ t 10 bits (.iface te pe) _ hlim (by have h0 := World.var?_cell gSyn hv 0; have h1 : W1.cell? ⟨7, 0, none⟩ = some (.iface te pe) := (by simpa using h0); exact h1) (Or.inr ⟨te, pe, rfl⟩)).mono ?_
  rintro e W2 ⟨N, rfl, h1, h2, h3⟩
  have H3 := Lib.hid h3; clear h1 h2 h3 hv
  go_wp2
  go_ret2
  exact ⟨⟨_, N, rfl⟩, below_next HW.out H3.out⟩
set_option maxHeartbeats 4000000 in
set_option maxRecDepth 100000 in
theorem pu_rng (t : ByteArray) (hlim : t.size ≤ 281474976710656) (bits M : Int) (w : World) (hr : Rd2 w)
    (hI : Calls Tryz.prog 99 #[.string t, .int .i64 10, .int .i64 bits] w fun e w' => e = .returned (Lib.uintTupleM 138 M .range) ∧ Below w.heap.size w w') :
    Calls Tryz.prog 85 #[.string t, .int .i64 10, .int .i64 bits] w fun e w' => badEnd e ∧ Below w.heap.size w w' := by
  have hI : Calls Tryz.prog 99 #[.string t, .int .i64 10, .int .i64 bits] w fun e w' => e = .returned (.tuple #[.int .u64 M, .iface 138 (.int .i64 1)]) ∧ Below w.heap.size w w' := hI
  have HI := Lib.hid hI; have Hr := Lib.hid hr; clear hI hr
  go_enter Tryz.func85, Tryz.ntmps85
  go_wp2_with (go_at_call 99; refine HI.out.mono ?_; rintro e W1 ⟨rfl, hW⟩; have HW := Lib.hid hW; clear hW)
  obtain ⟨te, pe, hv⟩ := (Hr.out.on HW.out).rng
  refine (AnyPu.strconv_toError_range { Tryz.laysPu14 with } ⟨#[80, 97, 114, 115, 101, 85, 105, 110, 116]⟩ t 10 bits (.iface te pe) _ hlim (by have h0 := World.var?_cell gRng hv 0; have h1 : W1.cell? ⟨8, 0, none⟩ = some (.iface te pe) := (by simpa using h0); exact h1) (Or.inr ⟨te, pe, rfl⟩)).mono ?_
  rintro e W2 ⟨N, rfl, h1, h2, h3⟩
  have H3 := Lib.hid h3; clear h1 h2 h3 hv
  go_wp2
  go_ret2
  exact ⟨⟨_, N, rfl⟩, below_next HW.out H3.out⟩
/-- Both sizes in one: what was read, or an error. -/
theorem pu_some (l : List UInt8) (hmax : l.length ≤ 4294967296) (w : World) :
    (∀ u, okOf (Lib.parseUintB 24 l) = some u → Calls Tryz.prog 85 #[.string ⟨l.toArray⟩, .int .i64 10, .int .i64 24] w fun e w' => e = .returned (.tuple #[.int .u64 u, .nilIface]) ∧ Below w.heap.size w w') ∧
    (∀ u, okOf (Lib.parseUintB 32 l) = some u → Calls Tryz.prog 85 #[.string ⟨l.toArray⟩, .int .i64 10, .int .i64 32] w fun e w' => e = .returned (.tuple #[.int .u64 u, .nilIface]) ∧ Below w.heap.size w w') := by
  have hs : (⟨l.toArray⟩ : ByteArray).size ≤ 4294967296 := by simpa [ByteArray.size] using hmax
  constructor
  · intro u h
    have hI := parse24_all ⟨l.toArray⟩ hs w
    simp only at hI
    cases hp : Lib.parseUintB 24 l
    · rw [hp] at h hI
      cases h
      exact pu_ok _ _ _ _ w hI
    · rw [hp] at h; cases h
    · rw [hp] at h; cases h
  · intro u h
    have hI := parse32_all ⟨l.toArray⟩ hs w
    simp only at hI
    cases hp : Lib.parseUintB 32 l
    · rw [hp] at h hI
      cases h
      exact pu_ok _ _ _ _ w hI
    · rw [hp] at h; cases h
    · rw [hp] at h; cases h
theorem pu_none (l : List UInt8) (hmax : l.length ≤ 4294967296) (w : World) (hr : Rd2 w) :
    (okOf (Lib.parseUintB 24 l) = none → Calls Tryz.prog 85 #[.string ⟨l.toArray⟩, .int .i64 10, .int .i64 24] w fun e w' => badEnd e ∧ Below w.heap.size w w') ∧
    (okOf (Lib.parseUintB 32 l) = none → Calls Tryz.prog 85 #[.string ⟨l.toArray⟩, .int .i64 10, .int .i64 32] w fun e w' => badEnd e ∧ Below w.heap.size w w') := by
  have hs : (⟨l.toArray⟩ : ByteArray).size ≤ 4294967296 := by simpa [ByteArray.size] using hmax
  constructor
  · intro h
    have hI := parse24_all ⟨l.toArray⟩ hs w
    simp only at hI
    cases hp : Lib.parseUintB 24 l
    · rw [hp] at h; cases h
    · rw [hp] at hI; exact pu_syn _ (by omega) _ _ w hr hI
    · rw [hp] at hI; exact pu_rng _ (by omega) _ _ w hr hI
  · intro h
    have hI := parse32_all ⟨l.toArray⟩ hs w
    simp only at hI
    cases hp : Lib.parseUintB 32 l
    · rw [hp] at h; cases h
    · rw [hp] at hI; exact pu_syn _ (by omega) _ _ w hr hI
    · rw [hp] at hI; exact pu_rng _ (by omega) _ _ w hr hI
end Go.Proofs.YtbnbglngpgikfaaGreatDoor

