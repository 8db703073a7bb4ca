/- Layer 12: package disk: Read, where it is refused; the bytes of a sector. -/
import Derived.Test.YtdcjchakgfpgaaaCi
namespace Go.Proofs.Ytdcjchakgfpgaaa
open Go.RowKit
open Go.Shelf
/-- A sector's bytes. -/
def secZ (z i : Nat) (A : List Int) : List Int := (A.drop (i * z)).take z
theorem secZ_same {A B : List Int} {z i : Nat} (hB : B.length = z) (h : i * z + z ≤ A.length) : secZ z i (layB A B ((i * z : Nat) : Int)) = B := by
  unfold secZ
  rw [← layB_splice A B (i * z) (by omega)]
  unfold splice
  rw [List.drop_append_of_le_length (by simp; omega), List.drop_eq_nil_of_le (by simp; omega), List.nil_append, ← hB, List.take_left]
theorem secZ_other {A B : List Int} {z i j : Nat} (hB : B.length = z) (hne : j ≠ i) : secZ z i (layB A B ((j * z : Nat) : Int)) = secZ z i A := by
  have hm : i * z + z ≤ j * z ∨ j * z + z ≤ i * z := by
    rcases Nat.lt_or_ge i j with h | h
    · left
      have := Nat.mul_le_mul_right z (show i + 1 ≤ j by omega)
      rw [Nat.add_mul, Nat.one_mul] at this
      exact this
    · right
      have := Nat.mul_le_mul_right z (show j + 1 ≤ i by omega)
      rw [Nat.add_mul, Nat.one_mul] at this
      exact this
  unfold secZ
  apply List.ext_getElem?
  intro k
  rw [List.getElem?_take, List.getElem?_take]
  by_cases hk : k < z
  · rw [if_pos hk, if_pos hk, List.getElem?_drop, List.getElem?_drop]
    by_cases hl : i * z + k < A.length
    · unfold layB layTo
      rw [List.getElem?_map, List.getElem?_range hl, Option.map_some, bAt_some hl]
      unfold layV
      rw [if_neg (by omega)]
    · rw [List.getElem?_eq_none (by rw [layB_len]; omega), List.getElem?_eq_none (by omega)]
  · rw [if_neg hk, if_neg hk]
def EachW (z : Nat) (L : List Wr) : Prop := ∀ y ∈ L, ∃ j : Nat, y.1 = (j : Int) ∧ y.2.2.length = z
theorem secZ_skip {z i : Nat} : ∀ (L : List Wr) (A : List Int), EachW z L → (∀ y ∈ L, y.1 ≠ (i : Int)) → secZ z i (nowM (z : Int) A (mapW L)) = secZ z i A
  | [], _, _, _ => rfl
  | y :: L, A, hE, hn => by
    obtain ⟨j, hj, hl⟩ := hE y (by simp)
    have hne : j ≠ i := fun e => hn y (by simp) (by rw [hj, e])
    have e : nowM (z : Int) A (mapW (y :: L)) = nowM (z : Int) (layB A y.2.2 ((j * z : Nat) : Int)) (mapW L) := by
      unfold nowM mapW
      rw [List.map_cons, List.foldl_cons]
      simp only [hj]
      congr 2
    rw [e, secZ_skip L _ (fun y hy => hE y (by simp [hy])) (fun y hy => hn y (by simp [hy])), secZ_other hl hne]
theorem secZ_found {z i q : Nat} {L : List Wr} {A : List Int} {y : Wr} (hE : EachW z L) (hy : L[q]? = some y) (hi : y.1 = (i : Int)) (hf : i * z + z ≤ A.length) (hn : ∀ p y', q < p → L[p]? = some y' → y'.1 ≠ (i : Int)) : secZ z i (nowM (z : Int) A (mapW L)) = y.2.2 := by
  obtain ⟨hq, hyq⟩ := List.getElem?_eq_some_iff.1 hy
  have hL : L = L.take q ++ (y :: L.drop (q + 1)) := by
    rw [← hyq, List.getElem_cons_drop, List.take_append_drop]
  have e : nowM (z : Int) A (mapW L) = nowM (z : Int) (layB (nowM (z : Int) A (mapW (L.take q))) y.2.2 ((i * z : Nat) : Int)) (mapW (L.drop (q + 1))) := by
    conv => lhs; rw [hL]
    unfold nowM mapW
    rw [List.map_append, List.map_cons, List.foldl_append, List.foldl_cons]
    simp only [hi]
    congr 2
  obtain ⟨_, _, hl⟩ := hE y (List.mem_of_getElem? hy)
  rw [e, secZ_skip _ _ (fun y hy => hE y (List.mem_of_mem_drop hy)) (fun y' hy' => ?_), secZ_same hl (by rw [nowM_len]; exact hf)]
  obtain ⟨p, hp⟩ := List.mem_iff_getElem?.1 hy'
  rw [List.getElem?_drop] at hp
  exact hn _ y' (by omega) hp
/-- What Read tells, and what lies there then. -/
def ReadQ (T : Nat → Prop) (w : World) (g : Nat) (x : Kd) (E : List Int) (n : Int) (e : Ending) (w' : World) : Prop := ∃ v, e = .returned (.tuple #[v, .int .i64 n]) ∧ KAt T w' g x ∧ Keep (fun j => ¬ T j) w w' ∧ OwnB w' w.heap.size v E
/-- The call's own variables: the number, the two results. -/
def VarsR (w : World) (i : Int) (w3 : World) : Prop := Below w.heap.size w w3 ∧ Blk w3 w.heap.size 3 #[.int .i64 i] ∧ Blk w3 (w.heap.size + 1) 24 #[.slice none 0 0] ∧ Blk w3 (w.heap.size + 1 + 1) 41 #[.int .i64 0] ∧ w3.heap.size = w.heap.size + 3
theorem VarsR.start (w : World) (i : Int) : VarsR w i (((w.alloc (.cells #[.int .i64 i] 3)).alloc (.cells #[.slice none 0 0] 24)).alloc (.cells #[.int .i64 0] 41)) :=
  ⟨(((Below.refl _ _).alloc (Nat.le_refl _) _).alloc (by simp) _).alloc (by simp; omega) _, ((Blk.new _ _ _).alloc _).alloc _, (Blk.newAt _ _ _ (by simp)).alloc _, Blk.newAt _ _ _ (by simp), by simp⟩
/-- Both results are stored, no further block is touched. -/
theorem vars_done {T : Nat → Prop} {w A : World} {g : Nat} {x : Kd} (hT : ∀ k, T k → k < w.heap.size) (hk : KAt T A g x) (hK : Keep (fun j => ¬ T j) w A) (b : Blk A (w.heap.size + 1) 24 #[.slice none 0 0]) (e : Blk A (w.heap.size + 1 + 1) 41 #[.int .i64 0]) (v : Value) (n : Int) (E : List Int) (hv : OwnB A w.heap.size v E) :
    KAt T ((A.setCell ⟨w.heap.size + 1, 0, none⟩ v).setCell ⟨w.heap.size + 1 + 1, 0, none⟩ (.int .i64 n)) g x ∧ Keep (fun j => ¬ T j) w ((A.setCell ⟨w.heap.size + 1, 0, none⟩ v).setCell ⟨w.heap.size + 1 + 1, 0, none⟩ (.int .i64 n)) ∧
    Blk ((A.setCell ⟨w.heap.size + 1, 0, none⟩ v).setCell ⟨w.heap.size + 1 + 1, 0, none⟩ (.int .i64 n)) (w.heap.size + 1) 24 #[v] ∧ Blk ((A.setCell ⟨w.heap.size + 1, 0, none⟩ v).setCell ⟨w.heap.size + 1 + 1, 0, none⟩ (.int .i64 n)) (w.heap.size + 1 + 1) 41 #[.int .i64 n] ∧
    OwnB ((A.setCell ⟨w.heap.size + 1, 0, none⟩ v).setCell ⟨w.heap.size + 1 + 1, 0, none⟩ (.int .i64 n)) w.heap.size v E := by
  have hs : Keep (fun k => k ≠ w.heap.size + 1 ∧ k ≠ w.heap.size + 1 + 1) A ((A.setCell ⟨w.heap.size + 1, 0, none⟩ v).setCell ⟨w.heap.size + 1 + 1, 0, none⟩ (.int .i64 n)) := (Keep.setCell _ _ _ (by simp)).trans (Keep.setCell _ _ _ (by simp))
  refine ⟨hk.keep (hs.mono fun k h => by have := hT k h; omega), ?_, (b.set 0 v).other _ _ (by simp), (e.other _ _ (by simp)).set 0 _, owns_keep hv hs fun k q => ⟨fun h => owns_off hv b (by decide) (h ▸ q), fun h => owns_off hv e (by decide) (h ▸ q)⟩⟩
  exact ⟨hs.os.trans hK.os, hs.tape.trans hK.tape, hs.output.trans hK.output, Nat.le_trans hK.size hs.size, fun k hk hl => (hs.block k (by omega) (by have := hK.size; omega)).trans (hK.block k hk hl)⟩
set_option maxHeartbeats 4000000 in
set_option maxRecDepth 100000 in
theorem readK_down (T : Nat → Prop) (w : World) (g : Nat) (x : Kd) (i : Int) (h : KAt T w g x) (hd : x.down = true) : Calls Try.prog 49 #[ptrD g, .int .i64 i] w (ReadQ T w g x [] 40) := by
  have HX := Lib.hid h
  obtain ⟨w3, hw3⟩ : ∃ WW, ((w.alloc (.cells #[.int .i64 i] 3)).alloc (.cells #[.slice none 0 0] 24)).alloc (.cells #[.int .i64 0] 41) = WW := ⟨_, rfl⟩
  have H3 : Hid (VarsR w i w3) := by rw [← hw3]; exact VarsR.start w i
  obtain ⟨d0, d1, d2, d3, d4, d5, d6⟩ := (h.grow H3.out.1).blk.k7
  rw [hd] at d6
  have c4 : w3.cell? ⟨w.heap.size + 1, 0, none⟩ = some (.slice none 0 0) := H3.out.2.2.1.cell 0
  have c5 : w3.cell? ⟨w.heap.size + 1 + 1, 0, none⟩ = some (.int .i64 0) := H3.out.2.2.2.1.cell 0
  have f4 := H3.out.2.2.1.free 0
  have f5 := H3.out.2.2.2.1.free 0
  have l4 := H3.out.2.2.1.lt
  have l5 := H3.out.2.2.2.1.lt
  clear h hd
  go_enter Try.func49, Try.ntmps49
  go_upto_region 1 with fail
  try rw [hw3]
  clear hw3
  go_wp2_with fail
  obtain ⟨q1, q2, q3, q4, q5⟩ := vars_done HX.out.lt (HX.out.grow H3.out.1) (Keep.of_below H3.out.1) H3.out.2.2.1 H3.out.2.2.2.1 (.slice none 0 0) 40 [] (World.ownsRow_nil _ _ _ _)
  exact bodyPost_ret (results_read rfl rfl rfl (q3.cell 0) (q4.cell 0) ⟨_, _, _, rfl⟩) rfl ⟨_, rfl, q1, q2, q5⟩
set_option maxHeartbeats 4000000 in
set_option maxRecDepth 100000 in
theorem readK_range (T : Nat → Prop) (w : World) (g : Nat) (x : Kd) (i : Int) (h : KAt T w g x) (hd : x.down = false) (hi : hasK x.R.length i = false) : Calls Try.prog 49 #[ptrD g, .int .i64 i] w (ReadQ T w g x [] 30) := by
  have HX := Lib.hid h
  obtain ⟨w3, hw3⟩ : ∃ WW, ((w.alloc (.cells #[.int .i64 i] 3)).alloc (.cells #[.slice none 0 0] 24)).alloc (.cells #[.int .i64 0] 41) = WW := ⟨_, rfl⟩
  have H3 : Hid (VarsR w i w3) := by rw [← hw3]; exact VarsR.start w i
  have HH := Lib.hid (kHas_c w3 g x i (h.grow H3.out.1).blk h.reads.shape)
  rw [hi] at HH
  obtain ⟨d0, d1, d2, d3, d4, d5, d6⟩ := (h.grow H3.out.1).blk.k7
  rw [hd] at d6
  have c3 : w3.cell? ⟨w.heap.size, 0, none⟩ = some (.int .i64 i) := H3.out.2.1.cell 0
  clear h hd hi
  go_enter Try.func49, Try.ntmps49
  go_upto_region 1 with fail
  try rw [hw3]
  clear hw3
  go_wp2_with fail
  refine (HH.out).mono ?_
  rintro e w4 ⟨rfl, hb⟩
  have HXG : Hid (KAt T w4 g x ∧ Keep (fun j => ¬ T j) w w4) := ⟨(HX.out.grow H3.out.1).grow hb, (Keep.of_below H3.out.1).trans (Keep.of_below hb)⟩
  have B4 := H3.out.2.2.1.grow hb
  have B5 := H3.out.2.2.2.1.grow hb
  have H4 := Lib.hid (And.intro B4 B5)
  have c4 : w4.cell? ⟨w.heap.size + 1, 0, none⟩ = some (.slice none 0 0) := B4.cell 0
  have c5 : w4.cell? ⟨w.heap.size + 1 + 1, 0, none⟩ = some (.int .i64 0) := B5.cell 0
  have f4 := B4.free 0
  have f5 := B5.free 0
  have l4 := B4.lt
  have l5 := B5.lt
  clear hb B4 B5 d0 d1 d2 d3 d4 d5 d6 c3
  go_wp2_with fail
  obtain ⟨q1, q2, q3, q4, q5⟩ := vars_done HX.out.lt HXG.out.1 HXG.out.2 H4.out.1 H4.out.2 (.slice none 0 0) 30 [] (World.ownsRow_nil _ _ _ _)
  exact bodyPost_ret (results_read rfl rfl rfl (q3.cell 0) (q4.cell 0) ⟨_, _, _, rfl⟩) rfl ⟨_, rfl, q1, q2, q5⟩
end Go.Proofs.Ytdcjchakgfpgaaa
