/- Layer 6: segments in memory; the table of what kinds need; isKind, Need, the document's Need. -/
import Derived.Test.YtbnbglngpgikfaaGreatDoorTa
namespace Go.Proofs.YtbnbglngpgikfaaGreatDoor
open Go.RowKit
/-- A segment: its kind and three points. -/
structure Sg where
  k : Int
  p : Pt
  q : Pt
  r : Pt
/-- The cells of a segment. -/
abbrev seven (k : Int) (p q r : Pt) : Array Value := #[.int .i64 k, .int .i64 p.1, .int .i64 p.2, .int .i64 q.1, .int .i64 q.2, .int .i64 r.1, .int .i64 r.2]
def Sg.cells (s : Sg) : Array Value := seven s.k s.p s.q s.r
def needI (k : Int) : Nat := if k = 1 then 1 else if k = 2 then 1 else if k = 3 then 2 else if k = 4 then 3 else 0
def isKindB (k : Int) : Bool := decide (1 ≤ k) && decide (k ≤ 5)
theorem needI_no {k : Int} (h : isKindB k = false) : needI k = 0 := by
  unfold needI; simp [isKindB] at h; repeat (split; omega)
  rfl
theorem needI_le (k : Int) : needI k ≤ 3 := by unfold needI; repeat (split; omega)
                                               omega
theorem isKind_cases {k : Int} (h : isKindB k = true) : k = 1 ∨ k = 2 ∨ k = 3 ∨ k = 4 ∨ k = 5 := by simp [isKindB] at h; omega
def needsL : List Value := [.int .i64 0, .int .i64 1, .int .i64 1, .int .i64 2, .int .i64 3, .int .i64 0]
/-- What the walks read of memory: the table of what kinds need. -/
def Rd (w : World) : Prop := w.var? Tryz.prog "limner/path.needs" = some needsL.toArray
theorem gN : Tryz.prog.globalNamed "limner/path.needs" = some 0 := by kernel_rfl
theorem Rd.lt {w : World} (h : Rd w) : 0 < w.heap.size := by
  unfold Rd World.var? at h
  rw [gN] at h
  rcases Nat.lt_or_ge 0 w.heap.size with h' | h'
  · exact h'
  · simp [Array.getElem?_eq_none h'] at h
theorem Rd.on {w w' : World} (h : Rd w) (hb : Below w.heap.size w w') : Rd w' := var?_below hb gN h.lt h
theorem Rd.cell {w : World} (h : Rd w) (i : Nat) : w.cell? ⟨0, i, none⟩ = needsL[i]? := by
  rw [World.var?_cell gN h i]; simp
theorem isKind_c (k : Int) (w : World) : Calls Tryz.prog 37 #[.int .i64 k] w fun e w' => e = .returned (.bool (isKindB k)) ∧ w = w' := by
  by_cases h : 1 ≤ k
  · go_enter Tryz.func37, Tryz.ntmps37
    go_wp2
    go_ret
    exact ⟨by simp [isKindB, h], rfl⟩
  · go_enter Tryz.func37, Tryz.ntmps37
    go_wp2
    go_ret
    exact ⟨by simp [isKindB]; omega, rfl⟩
theorem need_c (k : Int) (w : World) (hr : Rd w) : Calls Tryz.prog 22 #[.int .i64 k] w fun e w' => e = .returned (.int .i64 (needI k : Nat)) ∧ w = w' := by
  have HK := Lib.hid (isKind_c k)
  cases hk : isKindB k
  · rw [hk] at HK
    rw [needI_no hk]
    go_enter Tryz.func22, Tryz.ntmps22
    go_wp2_with fail
    refine (HK.out _).mono ?_
    rintro e w' ⟨rfl, rfl⟩
    go_wp2_with fail
    go_ret
    exact ⟨rfl, rfl⟩
  · rw [hk] at HK
    have l0 := hr.lt
    rcases isKind_cases hk with rfl | rfl | rfl | rfl | rfl
    · have c0 : w.cell? ⟨0, 1, none⟩ = some (.int .i64 1) := hr.cell 1
      go_enter Tryz.func22, Tryz.ntmps22
      go_wp2_with fail
      refine (HK.out _).mono ?_
      rintro e w' ⟨rfl, rfl⟩
      go_wp2_with fail
      go_ret
      exact ⟨rfl, rfl⟩
    · have c0 : w.cell? ⟨0, 2, none⟩ = some (.int .i64 1) := hr.cell 2
      go_enter Tryz.func22, Tryz.ntmps22
      go_wp2_with fail
      refine (HK.out _).mono ?_
      rintro e w' ⟨rfl, rfl⟩
      go_wp2_with fail
      go_ret
      exact ⟨rfl, rfl⟩
    · have c0 : w.cell? ⟨0, 3, none⟩ = some (.int .i64 2) := hr.cell 3
      go_enter Tryz.func22, Tryz.ntmps22
      go_wp2_with fail
      refine (HK.out _).mono ?_
      rintro e w' ⟨rfl, rfl⟩
      go_wp2_with fail
      go_ret
      exact ⟨rfl, rfl⟩
    · have c0 : w.cell? ⟨0, 4, none⟩ = some (.int .i64 3) := hr.cell 4
      go_enter Tryz.func22, Tryz.ntmps22
      go_wp2_with fail
      refine (HK.out _).mono ?_
      rintro e w' ⟨rfl, rfl⟩
      go_wp2_with fail
      go_ret
      exact ⟨rfl, rfl⟩
    · have c0 : w.cell? ⟨0, 5, none⟩ = some (.int .i64 0) := hr.cell 5
      go_enter Tryz.func22, Tryz.ntmps22
      go_wp2_with fail
      refine (HK.out _).mono ?_
      rintro e w' ⟨rfl, rfl⟩
      go_wp2_with fail
      go_ret
      exact ⟨rfl, rfl⟩
theorem refNeed_c (k : Int) (w : World) : Calls Tryz.prog 21 #[.int .i64 k] w fun e w' => e = .returned (.int .i64 (needI k : Nat)) ∧ w = w' := by
  by_cases h1 : k = 1
  · subst h1
    go_enter Tryz.func21, Tryz.ntmps21
    go_wp2
    go_ret
    exact ⟨rfl, rfl⟩
  by_cases h2 : k = 2
  · subst h2
    go_enter Tryz.func21, Tryz.ntmps21
    go_wp2
    go_ret
    exact ⟨rfl, rfl⟩
  by_cases h3 : k = 3
  · subst h3
    go_enter Tryz.func21, Tryz.ntmps21
    go_wp2
    go_ret
    exact ⟨rfl, rfl⟩
  by_cases h4 : k = 4
  · subst h4
    go_enter Tryz.func21, Tryz.ntmps21
    go_wp2
    go_ret
    exact ⟨rfl, rfl⟩
  have e1 : (k == 1) = false := by simpa using h1
  have e2 : (k == 2) = false := by simpa using h2
  have e3 : (k == 3) = false := by simpa using h3
  have e4 : (k == 4) = false := by simpa using h4
  have e : needI k = 0 := by unfold needI; simp [h1, h2, h3, h4]
  rw [e]
  clear h1 h2 h3 h4
  go_enter Tryz.func21, Tryz.ntmps21
  go_wp2
  go_ret
  exact ⟨rfl, rfl⟩
/-- Segments at hand in memory, from an address on. -/
def SegsAt (w : World) (b o : Nat) (l : List Sg) : Prop := ∀ i s, l[i]? = some s → ∀ j v, s.cells[j]? = some v → w.cell? ⟨b, o + i * 7 + j, none⟩ = some v
theorem SegsAt.on {w w' : World} {b o : Nat} {l : List Sg} (h : SegsAt w b o l) {B : Nat} (hb : Below B w w') (hlt : b < B) : SegsAt w' b o l := fun i s hs j v hv => by
  rw [cell_below hb hlt]; exact h i s hs j v hv
/-- A slice of segments. -/
def RowS (w : World) (s : Value) (l : List Sg) : Prop :=
  (s = .slice none 0 0 ∧ l = []) ∨ (∃ a c, s = .slice (some a) 0 c ∧ l = []) ∨ ∃ b o c, s = .slice (some ⟨b, o, none⟩) l.length c ∧ b < w.heap.size ∧ SegsAt w b o l
theorem RowS.on {w w' : World} {s : Value} {l : List Sg} (h : RowS w s l) (hb : Below w.heap.size w w') : RowS w' s l := by
  rcases h with h | h | ⟨b, o, c, h1, h2, h3⟩
  · exact .inl h
  · exact .inr (.inl h)
  · exact .inr (.inr ⟨b, o, c, h1, Nat.lt_of_lt_of_le h2 hb.size, h3.on hb h2⟩)
theorem RowS.shape {w : World} {v : Value} {l : List Sg} (h : RowS w v l) : ∃ ao c, v = .slice ao l.length c := by
  rcases h with ⟨rfl, rfl⟩ | ⟨a, c, rfl, rfl⟩ | ⟨b, o, c, rfl, _, _⟩ <;> exact ⟨_, _, rfl⟩
theorem RowS.addr {w : World} {ao : Option Addr} {n c : Nat} {l : List Sg} (h : RowS w (.slice ao n c) l) {k : Nat} (hk : k < l.length) : ∃ b o, ao = some ⟨b, o, none⟩ ∧ b < w.heap.size ∧ SegsAt w b o l := by
  rcases h with ⟨_, rfl⟩ | ⟨a, c, _, rfl⟩ | ⟨b, o, c, e, h1, h2⟩
  · simp at hk
  · simp at hk
  · simp at e
    exact ⟨b, o, e.1, h1, h2⟩
section
variable {w : World} {b o : Nat} {l : List Sg} {i : Nat} {s : Sg}
theorem SegsAt.c0 (h : SegsAt w b o l) (hi : l[i]? = some s) : w.cell? ⟨b, o + i * 7, none⟩ = some (.int .i64 s.k) := h i s hi 0 _ rfl
theorem SegsAt.c1 (h : SegsAt w b o l) (hi : l[i]? = some s) : w.cell? ⟨b, o + i * 7 + 1, none⟩ = some (.int .i64 s.p.1) := h i s hi 1 _ rfl
theorem SegsAt.c2 (h : SegsAt w b o l) (hi : l[i]? = some s) : w.cell? ⟨b, o + i * 7 + 2, none⟩ = some (.int .i64 s.p.2) := h i s hi 2 _ rfl
theorem SegsAt.c3 (h : SegsAt w b o l) (hi : l[i]? = some s) : w.cell? ⟨b, o + i * 7 + 3, none⟩ = some (.int .i64 s.q.1) := h i s hi 3 _ rfl
theorem SegsAt.c4 (h : SegsAt w b o l) (hi : l[i]? = some s) : w.cell? ⟨b, o + i * 7 + 4, none⟩ = some (.int .i64 s.q.2) := h i s hi 4 _ rfl
theorem SegsAt.c5 (h : SegsAt w b o l) (hi : l[i]? = some s) : w.cell? ⟨b, o + i * 7 + 5, none⟩ = some (.int .i64 s.r.1) := h i s hi 5 _ rfl
theorem SegsAt.c6 (h : SegsAt w b o l) (hi : l[i]? = some s) : w.cell? ⟨b, o + i * 7 + 6, none⟩ = some (.int .i64 s.r.2) := h i s hi 6 _ rfl
end
section
variable {w : World} {g : Nat} {t : TypeId} {s : Sg}
theorem Blk.s0 (h : Blk w g t s.cells) : w.cell? ⟨g, 0, none⟩ = some (.int .i64 s.k) := h.cell 0
theorem Blk.s1 (h : Blk w g t s.cells) : w.cell? ⟨g, 1, none⟩ = some (.int .i64 s.p.1) := h.cell 1
theorem Blk.s2 (h : Blk w g t s.cells) : w.cell? ⟨g, 2, none⟩ = some (.int .i64 s.p.2) := h.cell 2
theorem Blk.s3 (h : Blk w g t s.cells) : w.cell? ⟨g, 3, none⟩ = some (.int .i64 s.q.1) := h.cell 3
theorem Blk.s4 (h : Blk w g t s.cells) : w.cell? ⟨g, 4, none⟩ = some (.int .i64 s.q.2) := h.cell 4
theorem Blk.s5 (h : Blk w g t s.cells) : w.cell? ⟨g, 5, none⟩ = some (.int .i64 s.r.1) := h.cell 5
theorem Blk.s6 (h : Blk w g t s.cells) : w.cell? ⟨g, 6, none⟩ = some (.int .i64 s.r.2) := h.cell 6
end
end Go.Proofs.YtbnbglngpgikfaaGreatDoor

