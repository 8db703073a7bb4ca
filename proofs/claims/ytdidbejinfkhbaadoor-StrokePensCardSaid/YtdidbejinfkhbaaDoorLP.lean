/- Layer 7: the law StrokePens. -/
import Derived.Test.YtdidbejinfkhbaaDoorRg
import Derived.Test.YtdidbejinfkhbaaDoorTj
import Derived.Test.YtdidbejinfkhbaaDoorSh
namespace Go.Proofs.YtdidbejinfkhbaaDoor
open Go.RowKit
/-- What lies in memory: the subpath, and its points as the document's. -/
structure PenM (w W : World) (ao : Option Addr) (n c : Nat) (cl : Bool) (ra : Option Addr) (rn rc : Nat) (l : List Pt) : Prop where
  below : Below w.heap.size w W
  box : Blk W w.heap.size 39 #[.slice ao n c, .bool cl]
  was : Own W w.heap.size 32 (.slice ra rn rc) l
theorem PenM.grow {w W W' : World} {ao : Option Addr} {n c : Nat} {cl : Bool} {ra : Option Addr} {rn rc : Nat} {l : List Pt} (h : PenM w W ao n c cl ra rn rc l) (hb : Below W.heap.size W W') : PenM w W' ao n c cl ra rn rc l := ⟨below_next h.below hb, h.box.grow hb, h.was.grow hb⟩
/-- Two polygons in memory, of the same points. -/
structure PkM (w : World) (gA gB m : Nat) (aA : Option Addr) (nA kA : Nat) (aB : Option Addr) (nB kB : Nat) (L : List Pt) : Prop where
  cA : w.cell? ⟨gA, m, none⟩ = some (.slice aA nA kA)
  cB : w.cell? ⟨gB, m, none⟩ = some (.slice aB nB kB)
  rA : Row w (.slice aA nA kA) L
  rB : Row w (.slice aB nB kB) L
  lA : gA < w.heap.size
  lB : gB < w.heap.size
theorem PkM.grow {w w' : World} {gA gB m : Nat} {aA : Option Addr} {nA kA : Nat} {aB : Option Addr} {nB kB : Nat} {L : List Pt} (h : PkM w gA gB m aA nA kA aB nB kB L) (hb : Below w.heap.size w w') : PkM w' gA gB m aA nA kA aB nB kB L :=
  ⟨(cell_below hb h.lA).trans h.cA, (cell_below hb h.lB).trans h.cB, h.rA.on hb, h.rB.on hb, Nat.lt_of_lt_of_le h.lA hb.size, Nat.lt_of_lt_of_le h.lB hb.size⟩
set_option maxHeartbeats 4000000 in
set_option maxRecDepth 100000 in
theorem pens_many (ao : Option Addr) (n c : Nat) (cl : Bool) (h cap : Int) (w : World) (HAW : Hid (∀ w, Calls Tryd.prog 10 #[] w fun e w' => e = .returned (.bool true) ∧ Below w.heap.size w w')) (hn : n > 30) :
    Calls Tryd.prog 4 #[.agg #[.slice ao n c, .bool cl], .int .i64 h, .int .i64 cap] w fun e w' => e = .returned (.bool true) ∧ Below w.heap.size w w' := by
  go_enter Tryd.func4, Tryd.ntmps4
  go_wp2_with fail
  obtain ⟨w0, hw0⟩ : ∃ W, w.alloc (.cells #[.slice ao n c, .bool cl] 39) = W := ⟨_, rfl⟩
  have S0 : Hid (Below w.heap.size w w0 ∧ Blk w0 w.heap.size 39 #[.slice ao n c, .bool cl]) := by
    rw [← hw0]
    exact ⟨(Below.refl _ _).alloc (Nat.le_refl _) _, Blk.new _ _ _⟩
  rw [hw0]
  clear hw0
  refine (HAW.out _).mono ?_
  rintro e w9 ⟨rfl, hb9⟩
  have B9 : Hid (Below w.heap.size w w9) := S0.out.1.trans (hb9.mono S0.out.1.size)
  clear hb9
  go_wp2_with fail
  go_ret
  exact ⟨rfl, B9.out⟩
set_option maxHeartbeats 4000000 in
set_option maxRecDepth 100000 in
theorem pens_low (ao : Option Addr) (n c : Nat) (cl : Bool) (h cap : Int) (w : World) (HAW : Hid (∀ w, Calls Tryd.prog 10 #[] w fun e w' => e = .returned (.bool true) ∧ Below w.heap.size w w')) (hn : ¬ n > 30) (l : List Pt) 
    (HRE : Hid (∀ w', Below w.heap.size w w' → Calls Tryd.prog 16 #[.slice ao n c] w' fun e w'' => ∃ u, e = .returned u ∧ Own w'' w'.heap.size 32 u l ∧ Below w'.heap.size w' w''))
    (HST : Hid (∀ w', Below w.heap.size w w' → Calls Tryd.prog 17 #[.agg #[.slice ao n c, .bool cl], .int .i64 h, .int .i64 cap] w' (ToldQ w'.heap.size w' (30, []))))
    (HSA : Hid (∀ u w', Below w.heap.size w w' → Row w' u l → Calls Tryd.prog 14 #[.slice ao n c, u] w' fun e w'' => e = .returned (.bool true) ∧ Below w'.heap.size w' w'')) (h1 : h < 1) :
    Calls Tryd.prog 4 #[.agg #[.slice ao n c, .bool cl], .int .i64 h, .int .i64 cap] w fun e w' => e = .returned (.bool true) ∧ Below w.heap.size w w' := by
  go_enter Tryd.func4, Tryd.ntmps4
  go_wp2_with fail
  obtain ⟨w0, hw0⟩ : ∃ W, w.alloc (.cells #[.slice ao n c, .bool cl] 39) = W := ⟨_, rfl⟩
  have S0 : Hid (Below w.heap.size w w0 ∧ Blk w0 w.heap.size 39 #[.slice ao n c, .bool cl]) := by
    rw [← hw0]
    exact ⟨(Below.refl _ _).alloc (Nat.le_refl _) _, Blk.new _ _ _⟩
  rw [hw0]
  clear hw0
  refine (HRE.out _ S0.out.1).mono ?_
  rintro e w1 ⟨v1, rfl, ho1, hb1⟩
  obtain ⟨ra, rn, rc, rfl⟩ := own_shape' ho1
  have S1 : Hid (PenM w w1 ao n c cl ra rn rc l) := ⟨S0.out.1.trans (hb1.mono S0.out.1.size), S0.out.2.grow hb1, ho1.base S0.out.1.size⟩
  clear ho1 hb1 S0
  have k0 := S1.out.box.cell 0
  have k1 := S1.out.box.cell 1
  simp only [List.getElem?_toArray, List.getElem?_cons_zero, List.getElem?_cons_succ] at k0 k1
  go_wp2_with fail
  refine (HST.out _ S1.out.below).mono ?_
  rintro e w2 ⟨v2, S, rfl, p2, e2, b2⟩
  have e2 : S.map Prod.snd = ([] : List (List Pt)) := e2
  have P2 := Lib.hid p2
  have E2 := Lib.hid e2
  have S2 := Lib.hid (S1.out.grow b2)
  obtain ⟨a2, k2, rfl⟩ : ∃ a k, v2 = .slice a 0 k := by
    have := polys_shape p2; rw [List.map_eq_nil_iff.1 e2] at this; exact this
  clear p2 e2 b2 S1 k0 k1
  have k0 := S2.out.box.cell 0
  simp only [List.getElem?_toArray, List.getElem?_cons_zero] at k0
  go_wp2_with fail
  refine (HSA.out _ w2 S2.out.below S2.out.was.row).mono ?_
  rintro e w3 ⟨rfl, hb3⟩
  have S3 := Lib.hid (S2.out.grow hb3)
  have P3 := Lib.hid (P2.out.grow hb3)
  clear hb3 k0 S2 P2
  go_wp2_with fail
  refine (HAW.out _).mono ?_
  rintro e w9 ⟨rfl, hb9⟩
  have B9 : Hid (Below w.heap.size w w9) := S3.out.below.trans (hb9.mono S3.out.below.size)
  clear hb9
  go_wp2_with fail
  go_ret
  exact ⟨rfl, B9.out⟩
set_option maxHeartbeats 4000000 in
set_option maxRecDepth 100000 in
theorem pens_high (ao : Option Addr) (n c : Nat) (cl : Bool) (h cap : Int) (w : World) (HAW : Hid (∀ w, Calls Tryd.prog 10 #[] w fun e w' => e = .returned (.bool true) ∧ Below w.heap.size w w')) (hn : ¬ n > 30) (l : List Pt) 
    (HRE : Hid (∀ w', Below w.heap.size w w' → Calls Tryd.prog 16 #[.slice ao n c] w' fun e w'' => ∃ u, e = .returned u ∧ Own w'' w'.heap.size 32 u l ∧ Below w'.heap.size w' w''))
    (HST : Hid (∀ w', Below w.heap.size w w' → Calls Tryd.prog 17 #[.agg #[.slice ao n c, .bool cl], .int .i64 h, .int .i64 cap] w' (ToldQ w'.heap.size w' (30, []))))
    (HSA : Hid (∀ u w', Below w.heap.size w w' → Row w' u l → Calls Tryd.prog 14 #[.slice ao n c, u] w' fun e w'' => e = .returned (.bool true) ∧ Below w'.heap.size w' w'')) (h1 : ¬ h < 1) (h2 : h > 32768) :
    Calls Tryd.prog 4 #[.agg #[.slice ao n c, .bool cl], .int .i64 h, .int .i64 cap] w fun e w' => e = .returned (.bool true) ∧ Below w.heap.size w w' := by
  go_enter Tryd.func4, Tryd.ntmps4
  go_wp2_with fail
  obtain ⟨w0, hw0⟩ : ∃ W, w.alloc (.cells #[.slice ao n c, .bool cl] 39) = W := ⟨_, rfl⟩
  have S0 : Hid (Below w.heap.size w w0 ∧ Blk w0 w.heap.size 39 #[.slice ao n c, .bool cl]) := by
    rw [← hw0]
    exact ⟨(Below.refl _ _).alloc (Nat.le_refl _) _, Blk.new _ _ _⟩
  rw [hw0]
  clear hw0
  refine (HRE.out _ S0.out.1).mono ?_
  rintro e w1 ⟨v1, rfl, ho1, hb1⟩
  obtain ⟨ra, rn, rc, rfl⟩ := own_shape' ho1
  have S1 : Hid (PenM w w1 ao n c cl ra rn rc l) := ⟨S0.out.1.trans (hb1.mono S0.out.1.size), S0.out.2.grow hb1, ho1.base S0.out.1.size⟩
  clear ho1 hb1 S0
  have k0 := S1.out.box.cell 0
  have k1 := S1.out.box.cell 1
  simp only [List.getElem?_toArray, List.getElem?_cons_zero, List.getElem?_cons_succ] at k0 k1
  go_wp2_with fail
  refine (HST.out _ S1.out.below).mono ?_
  rintro e w2 ⟨v2, S, rfl, p2, e2, b2⟩
  have e2 : S.map Prod.snd = ([] : List (List Pt)) := e2
  have P2 := Lib.hid p2
  have E2 := Lib.hid e2
  have S2 := Lib.hid (S1.out.grow b2)
  obtain ⟨a2, k2, rfl⟩ : ∃ a k, v2 = .slice a 0 k := by
    have := polys_shape p2; rw [List.map_eq_nil_iff.1 e2] at this; exact this
  clear p2 e2 b2 S1 k0 k1
  have k0 := S2.out.box.cell 0
  simp only [List.getElem?_toArray, List.getElem?_cons_zero] at k0
  go_wp2_with fail
  refine (HSA.out _ w2 S2.out.below S2.out.was.row).mono ?_
  rintro e w3 ⟨rfl, hb3⟩
  have S3 := Lib.hid (S2.out.grow hb3)
  have P3 := Lib.hid (P2.out.grow hb3)
  clear hb3 k0 S2 P2
  go_wp2_with fail
  refine (HAW.out _).mono ?_
  rintro e w9 ⟨rfl, hb9⟩
  have B9 : Hid (Below w.heap.size w w9) := S3.out.below.trans (hb9.mono S3.out.below.size)
  clear hb9
  go_wp2_with fail
  go_ret
  exact ⟨rfl, B9.out⟩
set_option maxHeartbeats 4000000 in
set_option maxRecDepth 100000 in
theorem pens_cap0 (ao : Option Addr) (n c : Nat) (cl : Bool) (h cap : Int) (w : World) (HAW : Hid (∀ w, Calls Tryd.prog 10 #[] w fun e w' => e = .returned (.bool true) ∧ Below w.heap.size w w')) (hn : ¬ n > 30) (l : List Pt) 
    (HRE : Hid (∀ w', Below w.heap.size w w' → Calls Tryd.prog 16 #[.slice ao n c] w' fun e w'' => ∃ u, e = .returned u ∧ Own w'' w'.heap.size 32 u l ∧ Below w'.heap.size w' w''))
    (HST : Hid (∀ w', Below w.heap.size w w' → Calls Tryd.prog 17 #[.agg #[.slice ao n c, .bool cl], .int .i64 h, .int .i64 cap] w' (ToldQ w'.heap.size w' (30, []))))
    (HSA : Hid (∀ u w', Below w.heap.size w w' → Row w' u l → Calls Tryd.prog 14 #[.slice ao n c, u] w' fun e w'' => e = .returned (.bool true) ∧ Below w'.heap.size w' w'')) (h1 : ¬ h < 1) (h2 : ¬ h > 32768) (h3 : cap < 0) :
    Calls Tryd.prog 4 #[.agg #[.slice ao n c, .bool cl], .int .i64 h, .int .i64 cap] w fun e w' => e = .returned (.bool true) ∧ Below w.heap.size w w' := by
  go_enter Tryd.func4, Tryd.ntmps4
  go_wp2_with fail
  obtain ⟨w0, hw0⟩ : ∃ W, w.alloc (.cells #[.slice ao n c, .bool cl] 39) = W := ⟨_, rfl⟩
  have S0 : Hid (Below w.heap.size w w0 ∧ Blk w0 w.heap.size 39 #[.slice ao n c, .bool cl]) := by
    rw [← hw0]
    exact ⟨(Below.refl _ _).alloc (Nat.le_refl _) _, Blk.new _ _ _⟩
  rw [hw0]
  clear hw0
  refine (HRE.out _ S0.out.1).mono ?_
  rintro e w1 ⟨v1, rfl, ho1, hb1⟩
  obtain ⟨ra, rn, rc, rfl⟩ := own_shape' ho1
  have S1 : Hid (PenM w w1 ao n c cl ra rn rc l) := ⟨S0.out.1.trans (hb1.mono S0.out.1.size), S0.out.2.grow hb1, ho1.base S0.out.1.size⟩
  clear ho1 hb1 S0
  have k0 := S1.out.box.cell 0
  have k1 := S1.out.box.cell 1
  simp only [List.getElem?_toArray, List.getElem?_cons_zero, List.getElem?_cons_succ] at k0 k1
  go_wp2_with fail
  refine (HST.out _ S1.out.below).mono ?_
  rintro e w2 ⟨v2, S, rfl, p2, e2, b2⟩
  have e2 : S.map Prod.snd = ([] : List (List Pt)) := e2
  have P2 := Lib.hid p2
  have E2 := Lib.hid e2
  have S2 := Lib.hid (S1.out.grow b2)
  obtain ⟨a2, k2, rfl⟩ : ∃ a k, v2 = .slice a 0 k := by
    have := polys_shape p2; rw [List.map_eq_nil_iff.1 e2] at this; exact this
  clear p2 e2 b2 S1 k0 k1
  have k0 := S2.out.box.cell 0
  simp only [List.getElem?_toArray, List.getElem?_cons_zero] at k0
  go_wp2_with fail
  refine (HSA.out _ w2 S2.out.below S2.out.was.row).mono ?_
  rintro e w3 ⟨rfl, hb3⟩
  have S3 := Lib.hid (S2.out.grow hb3)
  have P3 := Lib.hid (P2.out.grow hb3)
  clear hb3 k0 S2 P2
  go_wp2_with fail
  refine (HAW.out _).mono ?_
  rintro e w9 ⟨rfl, hb9⟩
  have B9 : Hid (Below w.heap.size w w9) := S3.out.below.trans (hb9.mono S3.out.below.size)
  clear hb9
  go_wp2_with fail
  go_ret
  exact ⟨rfl, B9.out⟩
set_option maxHeartbeats 4000000 in
set_option maxRecDepth 100000 in
theorem pens_cap3 (ao : Option Addr) (n c : Nat) (cl : Bool) (h cap : Int) (w : World) (HAW : Hid (∀ w, Calls Tryd.prog 10 #[] w fun e w' => e = .returned (.bool true) ∧ Below w.heap.size w w')) (hn : ¬ n > 30) (l : List Pt) 
    (HRE : Hid (∀ w', Below w.heap.size w w' → Calls Tryd.prog 16 #[.slice ao n c] w' fun e w'' => ∃ u, e = .returned u ∧ Own w'' w'.heap.size 32 u l ∧ Below w'.heap.size w' w''))
    (HST : Hid (∀ w', Below w.heap.size w w' → Calls Tryd.prog 17 #[.agg #[.slice ao n c, .bool cl], .int .i64 h, .int .i64 cap] w' (ToldQ w'.heap.size w' (30, []))))
    (HSA : Hid (∀ u w', Below w.heap.size w w' → Row w' u l → Calls Tryd.prog 14 #[.slice ao n c, u] w' fun e w'' => e = .returned (.bool true) ∧ Below w'.heap.size w' w'')) (h1 : ¬ h < 1) (h2 : ¬ h > 32768) (h3 : ¬ cap < 0) (h4 : cap > 2) :
    Calls Tryd.prog 4 #[.agg #[.slice ao n c, .bool cl], .int .i64 h, .int .i64 cap] w fun e w' => e = .returned (.bool true) ∧ Below w.heap.size w w' := by
  go_enter Tryd.func4, Tryd.ntmps4
  go_wp2_with fail
  obtain ⟨w0, hw0⟩ : ∃ W, w.alloc (.cells #[.slice ao n c, .bool cl] 39) = W := ⟨_, rfl⟩
  have S0 : Hid (Below w.heap.size w w0 ∧ Blk w0 w.heap.size 39 #[.slice ao n c, .bool cl]) := by
    rw [← hw0]
    exact ⟨(Below.refl _ _).alloc (Nat.le_refl _) _, Blk.new _ _ _⟩
  rw [hw0]
  clear hw0
  refine (HRE.out _ S0.out.1).mono ?_
  rintro e w1 ⟨v1, rfl, ho1, hb1⟩
  obtain ⟨ra, rn, rc, rfl⟩ := own_shape' ho1
  have S1 : Hid (PenM w w1 ao n c cl ra rn rc l) := ⟨S0.out.1.trans (hb1.mono S0.out.1.size), S0.out.2.grow hb1, ho1.base S0.out.1.size⟩
  clear ho1 hb1 S0
  have k0 := S1.out.box.cell 0
  have k1 := S1.out.box.cell 1
  simp only [List.getElem?_toArray, List.getElem?_cons_zero, List.getElem?_cons_succ] at k0 k1
  go_wp2_with fail
  refine (HST.out _ S1.out.below).mono ?_
  rintro e w2 ⟨v2, S, rfl, p2, e2, b2⟩
  have e2 : S.map Prod.snd = ([] : List (List Pt)) := e2
  have P2 := Lib.hid p2
  have E2 := Lib.hid e2
  have S2 := Lib.hid (S1.out.grow b2)
  obtain ⟨a2, k2, rfl⟩ : ∃ a k, v2 = .slice a 0 k := by
    have := polys_shape p2; rw [List.map_eq_nil_iff.1 e2] at this; exact this
  clear p2 e2 b2 S1 k0 k1
  have k0 := S2.out.box.cell 0
  simp only [List.getElem?_toArray, List.getElem?_cons_zero] at k0
  go_wp2_with fail
  refine (HSA.out _ w2 S2.out.below S2.out.was.row).mono ?_
  rintro e w3 ⟨rfl, hb3⟩
  have S3 := Lib.hid (S2.out.grow hb3)
  have P3 := Lib.hid (P2.out.grow hb3)
  clear hb3 k0 S2 P2
  go_wp2_with fail
  refine (HAW.out _).mono ?_
  rintro e w9 ⟨rfl, hb9⟩
  have B9 : Hid (Below w.heap.size w w9) := S3.out.below.trans (hb9.mono S3.out.below.size)
  clear hb9
  go_wp2_with fail
  go_ret
  exact ⟨rfl, B9.out⟩
set_option maxHeartbeats 4000000 in
set_option maxRecDepth 100000 in
theorem pens_out_ (ao : Option Addr) (n c : Nat) (cl : Bool) (h cap : Int) (w : World) (HAW : Hid (∀ w, Calls Tryd.prog 10 #[] w fun e w' => e = .returned (.bool true) ∧ Below w.heap.size w w')) (hn : ¬ n > 30) (l : List Pt) 
    (HRE : Hid (∀ w', Below w.heap.size w w' → Calls Tryd.prog 16 #[.slice ao n c] w' fun e w'' => ∃ u, e = .returned u ∧ Own w'' w'.heap.size 32 u l ∧ Below w'.heap.size w' w''))
    (HST : Hid (∀ w', Below w.heap.size w w' → Calls Tryd.prog 17 #[.agg #[.slice ao n c, .bool cl], .int .i64 h, .int .i64 cap] w' (ToldQ w'.heap.size w' (30, []))))
    (HSA : Hid (∀ u w', Below w.heap.size w w' → Row w' u l → Calls Tryd.prog 14 #[.slice ao n c, u] w' fun e w'' => e = .returned (.bool true) ∧ Below w'.heap.size w' w'')) (h1 : ¬ h < 1) (h2 : ¬ h > 32768) (h3 : ¬ cap < 0) (h4 : ¬ cap > 2) (HINQ : Hid (∀ u w', Row w' u l → Calls Tryd.prog 13 #[u] w' fun e w'' => e = .returned (.bool false) ∧ Below w'.heap.size w' w'')) :
    Calls Tryd.prog 4 #[.agg #[.slice ao n c, .bool cl], .int .i64 h, .int .i64 cap] w fun e w' => e = .returned (.bool true) ∧ Below w.heap.size w w' := by
  go_enter Tryd.func4, Tryd.ntmps4
  go_wp2_with fail
  obtain ⟨w0, hw0⟩ : ∃ W, w.alloc (.cells #[.slice ao n c, .bool cl] 39) = W := ⟨_, rfl⟩
  have S0 : Hid (Below w.heap.size w w0 ∧ Blk w0 w.heap.size 39 #[.slice ao n c, .bool cl]) := by
    rw [← hw0]
    exact ⟨(Below.refl _ _).alloc (Nat.le_refl _) _, Blk.new _ _ _⟩
  rw [hw0]
  clear hw0
  refine (HRE.out _ S0.out.1).mono ?_
  rintro e w1 ⟨v1, rfl, ho1, hb1⟩
  obtain ⟨ra, rn, rc, rfl⟩ := own_shape' ho1
  have S1 : Hid (PenM w w1 ao n c cl ra rn rc l) := ⟨S0.out.1.trans (hb1.mono S0.out.1.size), S0.out.2.grow hb1, ho1.base S0.out.1.size⟩
  clear ho1 hb1 S0
  have k0 := S1.out.box.cell 0
  have k1 := S1.out.box.cell 1
  simp only [List.getElem?_toArray, List.getElem?_cons_zero, List.getElem?_cons_succ] at k0 k1
  go_wp2_with fail
  refine (HST.out _ S1.out.below).mono ?_
  rintro e w2 ⟨v2, S, rfl, p2, e2, b2⟩
  have e2 : S.map Prod.snd = ([] : List (List Pt)) := e2
  have P2 := Lib.hid p2
  have E2 := Lib.hid e2
  have S2 := Lib.hid (S1.out.grow b2)
  obtain ⟨a2, k2, rfl⟩ : ∃ a k, v2 = .slice a 0 k := by
    have := polys_shape p2; rw [List.map_eq_nil_iff.1 e2] at this; exact this
  clear p2 e2 b2 S1 k0 k1
  have k0 := S2.out.box.cell 0
  simp only [List.getElem?_toArray, List.getElem?_cons_zero] at k0
  go_wp2_with fail
  refine (HSA.out _ w2 S2.out.below S2.out.was.row).mono ?_
  rintro e w3 ⟨rfl, hb3⟩
  have S3 := Lib.hid (S2.out.grow hb3)
  have P3 := Lib.hid (P2.out.grow hb3)
  clear hb3 k0 S2 P2
  go_wp2_with fail
  refine (HINQ.out _ w3 S3.out.was.row).mono ?_
  rintro e w4 ⟨rfl, hb4⟩
  have S4 := Lib.hid (S3.out.grow hb4)
  have P4 := Lib.hid (P3.out.grow hb4)
  clear hb4 S3 P3
  go_wp2_with fail
  refine (HAW.out _).mono ?_
  rintro e w9 ⟨rfl, hb9⟩
  have B9 : Hid (Below w.heap.size w w9) := S4.out.below.trans (hb9.mono S4.out.below.size)
  clear hb9
  go_wp2_with fail
  go_ret
  exact ⟨rfl, B9.out⟩
set_option maxHeartbeats 4000000 in
set_option maxRecDepth 100000 in
theorem pens_over (ao : Option Addr) (n c : Nat) (cl : Bool) (h cap : Int) (w : World) (HAW : Hid (∀ w, Calls Tryd.prog 10 #[] w fun e w' => e = .returned (.bool true) ∧ Below w.heap.size w w')) (hn : ¬ n > 30) (l : List Pt) (RR : List (List Pt))
    (HRE : Hid (∀ w', Below w.heap.size w w' → Calls Tryd.prog 16 #[.slice ao n c] w' fun e w'' => ∃ u, e = .returned u ∧ Own w'' w'.heap.size 32 u l ∧ Below w'.heap.size w' w''))
    (HST : Hid (∀ w', Below w.heap.size w w' → Calls Tryd.prog 17 #[.agg #[.slice ao n c, .bool cl], .int .i64 h, .int .i64 cap] w' (ToldQ w'.heap.size w' (10, []))))
    (HSA : Hid (∀ u w', Below w.heap.size w w' → Row w' u l → Calls Tryd.prog 14 #[.slice ao n c, u] w' fun e w'' => e = .returned (.bool true) ∧ Below w'.heap.size w' w'')) (h1 : ¬ h < 1) (h2 : ¬ h > 32768) (h3 : ¬ cap < 0) (h4 : ¬ cap > 2) (HINQ : Hid (∀ u w', Row w' u l → Calls Tryd.prog 13 #[u] w' fun e w'' => e = .returned (.bool true) ∧ Below w'.heap.size w' w'')) (HRF : Hid (∀ ra rn rc w', Row w' (.slice ra rn rc) l → Calls Tryd.prog 18 #[.slice ra rn rc, .bool cl, .int .i64 h, .int .i64 cap] w' (RPost w' false RR))) :
    Calls Tryd.prog 4 #[.agg #[.slice ao n c, .bool cl], .int .i64 h, .int .i64 cap] w fun e w' => e = .returned (.bool true) ∧ Below w.heap.size w w' := by
  go_enter Tryd.func4, Tryd.ntmps4
  go_wp2_with fail
  obtain ⟨w0, hw0⟩ : ∃ W, w.alloc (.cells #[.slice ao n c, .bool cl] 39) = W := ⟨_, rfl⟩
  have S0 : Hid (Below w.heap.size w w0 ∧ Blk w0 w.heap.size 39 #[.slice ao n c, .bool cl]) := by
    rw [← hw0]
    exact ⟨(Below.refl _ _).alloc (Nat.le_refl _) _, Blk.new _ _ _⟩
  rw [hw0]
  clear hw0
  refine (HRE.out _ S0.out.1).mono ?_
  rintro e w1 ⟨v1, rfl, ho1, hb1⟩
  obtain ⟨ra, rn, rc, rfl⟩ := own_shape' ho1
  have S1 : Hid (PenM w w1 ao n c cl ra rn rc l) := ⟨S0.out.1.trans (hb1.mono S0.out.1.size), S0.out.2.grow hb1, ho1.base S0.out.1.size⟩
  clear ho1 hb1 S0
  have k0 := S1.out.box.cell 0
  have k1 := S1.out.box.cell 1
  simp only [List.getElem?_toArray, List.getElem?_cons_zero, List.getElem?_cons_succ] at k0 k1
  go_wp2_with fail
  refine (HST.out _ S1.out.below).mono ?_
  rintro e w2 ⟨v2, S, rfl, p2, e2, b2⟩
  have e2 : S.map Prod.snd = ([] : List (List Pt)) := e2
  have P2 := Lib.hid p2
  have E2 := Lib.hid e2
  have S2 := Lib.hid (S1.out.grow b2)
  obtain ⟨a2, k2, rfl⟩ : ∃ a k, v2 = .slice a 0 k := by
    have := polys_shape p2; rw [List.map_eq_nil_iff.1 e2] at this; exact this
  clear p2 e2 b2 S1 k0 k1
  have k0 := S2.out.box.cell 0
  simp only [List.getElem?_toArray, List.getElem?_cons_zero] at k0
  go_wp2_with fail
  refine (HSA.out _ w2 S2.out.below S2.out.was.row).mono ?_
  rintro e w3 ⟨rfl, hb3⟩
  have S3 := Lib.hid (S2.out.grow hb3)
  have P3 := Lib.hid (P2.out.grow hb3)
  clear hb3 k0 S2 P2
  go_wp2_with fail
  refine (HINQ.out _ w3 S3.out.was.row).mono ?_
  rintro e w4 ⟨rfl, hb4⟩
  have S4 := Lib.hid (S3.out.grow hb4)
  have P4 := Lib.hid (P3.out.grow hb4)
  clear hb4 S3 P3
  have k1 := S4.out.box.cell 1
  simp only [List.getElem?_toArray, List.getElem?_cons_zero, List.getElem?_cons_succ] at k1
  go_wp2_with fail
  refine (HRF.out ra rn rc w4 S4.out.was.row).mono ?_
  rintro e w5 ⟨v5, rfl, hS5, hb5⟩
  have S5 := Lib.hid (S4.out.grow hb5)
  have P5 := Lib.hid (P4.out.grow hb5)
  have HS5 := Lib.hid hS5
  clear hS5 hb5 S4 P4 k1
  go_wp2_with fail
  refine (HAW.out _).mono ?_
  rintro e w9 ⟨rfl, hb9⟩
  have B9 : Hid (Below w.heap.size w w9) := S5.out.below.trans (hb9.mono S5.out.below.size)
  clear hb9
  go_wp2_with fail
  go_ret
  exact ⟨rfl, B9.out⟩
set_option maxHeartbeats 4000000 in
set_option maxRecDepth 100000 in
theorem pens_main (ao : Option Addr) (n c : Nat) (cl : Bool) (h cap : Int) (w : World) (HAW : Hid (∀ w, Calls Tryd.prog 10 #[] w fun e w' => e = .returned (.bool true) ∧ Below w.heap.size w w')) (hn : ¬ n > 30) (l : List Pt) (PP : List (List Pt))
    (HRE : Hid (∀ w', Below w.heap.size w w' → Calls Tryd.prog 16 #[.slice ao n c] w' fun e w'' => ∃ u, e = .returned u ∧ Own w'' w'.heap.size 32 u l ∧ Below w'.heap.size w' w''))
    (HST : Hid (∀ w', Below w.heap.size w w' → Calls Tryd.prog 17 #[.agg #[.slice ao n c, .bool cl], .int .i64 h, .int .i64 cap] w' (ToldQ w'.heap.size w' (0, PP))))
    (HSA : Hid (∀ u w', Below w.heap.size w w' → Row w' u l → Calls Tryd.prog 14 #[.slice ao n c, u] w' fun e w'' => e = .returned (.bool true) ∧ Below w'.heap.size w' w'')) (h1 : ¬ h < 1) (h2 : ¬ h > 32768) (h3 : ¬ cap < 0) (h4 : ¬ cap > 2) (HINQ : Hid (∀ u w', Row w' u l → Calls Tryd.prog 13 #[u] w' fun e w'' => e = .returned (.bool true) ∧ Below w'.heap.size w' w'')) (HRF : Hid (∀ ra rn rc w', Row w' (.slice ra rn rc) l → Calls Tryd.prog 18 #[.slice ra rn rc, .bool cl, .int .i64 h, .int .i64 cap] w' (RPost w' true PP))) (HLEN : Hid (∀ L ∈ PP, L.length ≤ 16)) :
    Calls Tryd.prog 4 #[.agg #[.slice ao n c, .bool cl], .int .i64 h, .int .i64 cap] w fun e w' => e = .returned (.bool true) ∧ Below w.heap.size w w' := by
  go_enter Tryd.func4, Tryd.ntmps4
  go_wp2_with fail
  obtain ⟨w0, hw0⟩ : ∃ W, w.alloc (.cells #[.slice ao n c, .bool cl] 39) = W := ⟨_, rfl⟩
  have S0 : Hid (Below w.heap.size w w0 ∧ Blk w0 w.heap.size 39 #[.slice ao n c, .bool cl]) := by
    rw [← hw0]
    exact ⟨(Below.refl _ _).alloc (Nat.le_refl _) _, Blk.new _ _ _⟩
  rw [hw0]
  clear hw0
  refine (HRE.out _ S0.out.1).mono ?_
  rintro e w1 ⟨v1, rfl, ho1, hb1⟩
  obtain ⟨ra, rn, rc, rfl⟩ := own_shape' ho1
  have S1 : Hid (PenM w w1 ao n c cl ra rn rc l) := ⟨S0.out.1.trans (hb1.mono S0.out.1.size), S0.out.2.grow hb1, ho1.base S0.out.1.size⟩
  clear ho1 hb1 S0
  have k0 := S1.out.box.cell 0
  have k1 := S1.out.box.cell 1
  simp only [List.getElem?_toArray, List.getElem?_cons_zero, List.getElem?_cons_succ] at k0 k1
  go_wp2_with fail
  refine (HST.out _ S1.out.below).mono ?_
  rintro e w2 ⟨v2, S, rfl, p2, e2, b2⟩
  have e2 : S.map Prod.snd = PP := e2
  have P2 := Lib.hid p2
  have E2 := Lib.hid e2
  have S2 := Lib.hid (S1.out.grow b2)
  obtain ⟨a2, k2, rfl⟩ : ∃ a k, v2 = .slice a PP.length k := by
    rw [← e2, List.length_map]; exact polys_shape p2
  clear p2 e2 b2 S1 k0 k1
  have k0 := S2.out.box.cell 0
  simp only [List.getElem?_toArray, List.getElem?_cons_zero] at k0
  go_wp2_with fail
  refine (HSA.out _ w2 S2.out.below S2.out.was.row).mono ?_
  rintro e w3 ⟨rfl, hb3⟩
  have S3 := Lib.hid (S2.out.grow hb3)
  have P3 := Lib.hid (P2.out.grow hb3)
  clear hb3 k0 S2 P2
  go_wp2_with fail
  refine (HINQ.out _ w3 S3.out.was.row).mono ?_
  rintro e w4 ⟨rfl, hb4⟩
  have S4 := Lib.hid (S3.out.grow hb4)
  have P4 := Lib.hid (P3.out.grow hb4)
  clear hb4 S3 P3
  have k1 := S4.out.box.cell 1
  simp only [List.getElem?_toArray, List.getElem?_cons_zero, List.getElem?_cons_succ] at k1
  go_wp2_with fail
  refine (HRF.out ra rn rc w4 S4.out.was.row).mono ?_
  rintro e w5 ⟨v5, rfl, hS5, hb5⟩
  have S5 := Lib.hid (S4.out.grow hb5)
  have P5 := Lib.hid (P4.out.grow hb5)
  have HS5 := Lib.hid hS5
  clear hS5 hb5 S4 P4 k1
  obtain ⟨SR, hSR, eSR⟩ := HS5.out rfl
  have PR := Lib.hid hSR
  have ER := Lib.hid eSR
  obtain ⟨a5, k5, rfl⟩ : ∃ a k, v5 = .slice a PP.length k := by
    rw [← eSR, List.length_map]; exact polys_shape hSR
  have HQ1 : Hid (S.length = PP.length) := by unfold Hid; rw [← E2.out, List.length_map]
  have HQ2 : Hid (SR.length = PP.length) := by unfold Hid; rw [← eSR, List.length_map]
  have hq3 : PP.length ≤ 9223372036854775807 := by have := (own_lim P5.out.row); have := HQ1.out; unfold maxLen at *; omega
  clear hSR eSR HS5
  obtain ⟨q, hq⟩ : ∃ q, PP.length = q := ⟨_, rfl⟩
  rw [hq] at HQ1 HQ2 hq3 P5 PR ⊢
  clear hq
  go_wp2_with fail
  go_loopw [94] (fun i wr => ∃ m : Nat, m ≤ q ∧ i = .int .i64 m ∧ Hid (Below w5.heap.size w5 wr)) (fun i _ => q - (intOf i).toNat)
  case atStart => exact ⟨0, by omega, rfl, Below.refl _ _⟩
  case round =>
    obtain ⟨m, hm, rfl, hv⟩ := hrel
    by_cases hlt2 : m < q
    · have hd2 : decide ((m : Int) < (q : Int)) = true := by simp; omega
      obtain ⟨⟨vA, LA⟩, hxA⟩ : ∃ x, S[m]? = some x := ⟨_, List.getElem?_eq_getElem (by rw [HQ1.out]; exact hlt2)⟩
      obtain ⟨⟨vB, LB⟩, hxB⟩ : ∃ x, SR[m]? = some x := ⟨_, List.getElem?_eq_getElem (by rw [HQ2.out]; exact hlt2)⟩
      have eA : PP[m]? = some LA := by rw [← E2.out, List.getElem?_map, hxA]; rfl
      have eB : PP[m]? = some LB := by rw [← ER.out, List.getElem?_map, hxB]; rfl
      obtain rfl : LA = LB := by rw [eA] at eB; exact Option.some.inj eB
      have HL16 : Hid (LA.length ≤ 16) := HLEN.out LA (List.mem_of_getElem? eA)
      have PA := Lib.hid (P5.out.grow hv.out)
      have PB := Lib.hid (PR.out.grow hv.out)
      obtain ⟨gA, rfl, hgA, cA⟩ := polys_cell PA.out HQ1.out hxA
      obtain ⟨gB, rfl, hgB, cB⟩ := polys_cell PB.out HQ2.out hxB
      have OA := Lib.hid (PA.out.own _ (List.mem_of_getElem? hxA))
      have OB := Lib.hid (PB.out.own _ (List.mem_of_getElem? hxB))
      simp only at OA OB cA cB
      obtain ⟨aA, nA, kA, rfl⟩ := own_shape' OA.out
      obtain ⟨aB, nB, kB, rfl⟩ := own_shape' OB.out
      have FW : Hid (PkM wr gA gB m aA nA kA aB nB kB LA) := ⟨cA, cB, OA.out.row, OB.out.row, hgA, hgB⟩
      clear eA eB hxA hxB cA cB hgA hgB
      go_wp2_with fail
      refine wp_region_put (by kernel_rfl) (by kernel_rfl) (by kernel_rfl) (fun b' vs w' => (b' 0 = true → vs 0 = .slice (some ⟨gA, 0, none⟩) q k2) ∧ (b' 1 = true → vs 1 = .int .i64 (m : Int)) ∧ (b' 2 = true → vs 2 = .pointer (some ⟨gA, m, none⟩)) ∧ (b' 3 = true → vs 3 = .slice aA nA kA) ∧ (b' 4 = true → vs 4 = .slice (some ⟨gB, 0, none⟩) q k5) ∧ (b' 5 = true → vs 5 = .int .i64 (m : Int)) ∧ (b' 6 = true → vs 6 = .pointer (some ⟨gB, m, none⟩)) ∧ (b' 7 = true → vs 7 = .slice aB nB kB) ∧ (b' 8 = true → vs 8 = .bool true) ∧ (b' 9 = true → vs 9 = .bool false) ∧ (Hid (Below wr.heap.size wr w' ∧ wr.heap.size ≤ w'.heap.size)) ∧ (Hid (PkM w' gA gB m aA nA kA aB nB kB LA))) ?_ ?_ ?_
      · intro vs
        exact ⟨fun h => Bool.noConfusion h, fun h => Bool.noConfusion h, fun h => Bool.noConfusion h, fun h => Bool.noConfusion h, fun h => Bool.noConfusion h, fun h => Bool.noConfusion h, fun h => Bool.noConfusion h, fun h => Bool.noConfusion h, fun h => Bool.noConfusion h, fun h => Bool.noConfusion h, Lib.hid ⟨below_drewN (Below.refl _ _) 1, Nat.le_refl _⟩, Lib.hid (FW.out.grow ⟨rfl, rfl, rfl, Nat.le_refl _, fun _ _ => rfl⟩)⟩
      · rintro b' vs w' i op hi hun hall ⟨h0, h1, h2, h3, h4, h5, h6, h7, h8, h9, hB, hF⟩
        have hil : i < 10 := (List.getElem?_eq_some_iff.1 hi).1
        rcases i with _ | _ | _ | _ | _ | _ | _ | _ | _ | _ | i
        · obtain rfl := Option.some.inj hi
          clear hi hil
          refine wpOp_step rfl (fun K hK => ?_)
          have HKK := Lib.hid hK; clear hK
          simp only [putAll, Act.put, List.setIfInBounds_toArray, List.set_cons_zero, List.set_cons_succ]
          go_simp
          exact HKK.out _ _ ⟨_, by simp only [putAll, Act.put, List.setIfInBounds_toArray, List.set_cons_zero, List.set_cons_succ] <;> rfl, fun _ => rfl, h1, h2, h3, h4, h5, h6, h7, h8, h9, hB, hF⟩
        · obtain rfl := Option.some.inj hi
          clear hi hil
          refine wpOp_step rfl (fun K hK => ?_)
          have HKK := Lib.hid hK; clear hK
          simp only [putAll, Act.put, List.setIfInBounds_toArray, List.set_cons_zero, List.set_cons_succ]
          go_simp
          exact HKK.out _ _ ⟨_, by simp only [putAll, Act.put, List.setIfInBounds_toArray, List.set_cons_zero, List.set_cons_succ] <;> rfl, h0, fun _ => rfl, h2, h3, h4, h5, h6, h7, h8, h9, hB, hF⟩
        · obtain rfl := Option.some.inj hi
          clear hi hil
          have d0 := h0 (hall ⟨0, .data⟩ (by simp) rfl)
          have d1 := h1 (hall ⟨1, .data⟩ (by simp) rfl)
          have hmq : m < q := hlt2
          refine wpOp_step rfl (fun K hK => ?_)
          have HKK := Lib.hid hK; clear hK
          simp only [putAll, Act.put, List.setIfInBounds_toArray, List.set_cons_zero, List.set_cons_succ]
          go_simp
          exact HKK.out _ _ ⟨_, by simp only [putAll, Act.put, List.setIfInBounds_toArray, List.set_cons_zero, List.set_cons_succ, d0, d1] <;> rfl, h0, h1, fun _ => rfl, h3, h4, h5, h6, h7, h8, h9, hB, hF⟩
        · obtain rfl := Option.some.inj hi
          clear hi hil
          have d2 := h2 (hall ⟨2, .data⟩ (by simp) rfl)
          have x0 := hF.out.cA
          refine wpOp_step rfl (fun K hK => ?_)
          have HKK := Lib.hid hK; clear hK
          simp only [putAll, Act.put, List.setIfInBounds_toArray, List.set_cons_zero, List.set_cons_succ]
          go_simp
          exact HKK.out _ _ ⟨_, by simp only [putAll, Act.put, List.setIfInBounds_toArray, List.set_cons_zero, List.set_cons_succ, d2] <;> rfl, h0, h1, h2, fun _ => rfl, h4, h5, h6, h7, h8, h9, hB, hF⟩
        · obtain rfl := Option.some.inj hi
          clear hi hil
          refine wpOp_step rfl (fun K hK => ?_)
          have HKK := Lib.hid hK; clear hK
          simp only [putAll, Act.put, List.setIfInBounds_toArray, List.set_cons_zero, List.set_cons_succ]
          go_simp
          exact HKK.out _ _ ⟨_, by simp only [putAll, Act.put, List.setIfInBounds_toArray, List.set_cons_zero, List.set_cons_succ] <;> rfl, h0, h1, h2, h3, fun _ => rfl, h5, h6, h7, h8, h9, hB, hF⟩
        · obtain rfl := Option.some.inj hi
          clear hi hil
          refine wpOp_step rfl (fun K hK => ?_)
          have HKK := Lib.hid hK; clear hK
          simp only [putAll, Act.put, List.setIfInBounds_toArray, List.set_cons_zero, List.set_cons_succ]
          go_simp
          exact HKK.out _ _ ⟨_, by simp only [putAll, Act.put, List.setIfInBounds_toArray, List.set_cons_zero, List.set_cons_succ] <;> rfl, h0, h1, h2, h3, h4, fun _ => rfl, h6, h7, h8, h9, hB, hF⟩
        · obtain rfl := Option.some.inj hi
          clear hi hil
          have d4 := h4 (hall ⟨4, .data⟩ (by simp) rfl)
          have d5 := h5 (hall ⟨5, .data⟩ (by simp) rfl)
          have hmq : m < q := hlt2
          refine wpOp_step rfl (fun K hK => ?_)
          have HKK := Lib.hid hK; clear hK
          simp only [putAll, Act.put, List.setIfInBounds_toArray, List.set_cons_zero, List.set_cons_succ]
          go_simp
          exact HKK.out _ _ ⟨_, by simp only [putAll, Act.put, List.setIfInBounds_toArray, List.set_cons_zero, List.set_cons_succ, d4, d5] <;> rfl, h0, h1, h2, h3, h4, h5, fun _ => rfl, h7, h8, h9, hB, hF⟩
        · obtain rfl := Option.some.inj hi
          clear hi hil
          have d6 := h6 (hall ⟨6, .data⟩ (by simp) rfl)
          have x0 := hF.out.cB
          refine wpOp_step rfl (fun K hK => ?_)
          have HKK := Lib.hid hK; clear hK
          simp only [putAll, Act.put, List.setIfInBounds_toArray, List.set_cons_zero, List.set_cons_succ]
          go_simp
          exact HKK.out _ _ ⟨_, by simp only [putAll, Act.put, List.setIfInBounds_toArray, List.set_cons_zero, List.set_cons_succ, d6] <;> rfl, h0, h1, h2, h3, h4, h5, h6, fun _ => rfl, h8, h9, hB, hF⟩
        · obtain rfl := Option.some.inj hi
          clear hi hil
          have d3 := h3 (hall ⟨3, .data⟩ (by simp) rfl)
          have d7 := h7 (hall ⟨7, .data⟩ (by simp) rfl)
          refine wpOp_step rfl (fun K hK => ?_)
          have HKK := Lib.hid hK; clear hK
          simp only [putAll, Act.put, List.setIfInBounds_toArray, List.set_cons_zero, List.set_cons_succ]
          go_simp
          refine (same_c _ _ LA w' (by have := HL16.out; omega) hF.out.rA hF.out.rB).mono ?_
          rintro e w2 ⟨rfl, hb2⟩
          exact HKK.out _ _ ⟨_, by simp only [putAll, Act.put, List.setIfInBounds_toArray, List.set_cons_zero, List.set_cons_succ, d3, d7] <;> rfl, h0, h1, h2, h3, h4, h5, h6, h7, fun _ => rfl, h9, Lib.hid ⟨(hB).out.1.trans (hb2.mono (hB).out.2), Nat.le_trans (hB).out.2 hb2.size⟩, Lib.hid ((hF).out.grow hb2)⟩
        · obtain rfl := Option.some.inj hi
          clear hi hil
          have d8 := h8 (hall ⟨8, .data⟩ (by simp) rfl)
          refine wpOp_step rfl (fun K hK => ?_)
          have HKK := Lib.hid hK; clear hK
          simp only [putAll, Act.put, List.setIfInBounds_toArray, List.set_cons_zero, List.set_cons_succ]
          go_simp
          exact HKK.out _ _ ⟨_, by simp only [putAll, Act.put, List.setIfInBounds_toArray, List.set_cons_zero, List.set_cons_succ, d8] <;> rfl, h0, h1, h2, h3, h4, h5, h6, h7, h8, fun _ => rfl, hB, hF⟩
        · omega
      · rintro b' vs w2 hall ⟨h0, h1, h2, h3, h4, h5, h6, h7, h8, h9, hB, hF⟩
        have d0 := h0 (hall 0 (by simp))
        have d1 := h1 (hall 1 (by simp))
        have d2 := h2 (hall 2 (by simp))
        have d3 := h3 (hall 3 (by simp))
        have d4 := h4 (hall 4 (by simp))
        have d5 := h5 (hall 5 (by simp))
        have d6 := h6 (hall 6 (by simp))
        have d7 := h7 (hall 7 (by simp))
        have d8 := h8 (hall 8 (by simp))
        have d9 := h9 (hall 9 (by simp))
        have BB := hB
        have FF := hF
        simp only [putAll, Act.put, List.setIfInBounds_toArray, List.set_cons_zero, List.set_cons_succ, d0, d1, d2, d3, d4, d5, d6, d7, d8, d9]
        clear hall h0 d0 h1 d1 h2 d2 h3 d3 h4 d4 h5 d5 h6 d6 h7 d7 h8 d8 h9 d9 hB hF
        have B8 : Hid (Below w5.heap.size w5 w2) := below_next hv.out BB.out.1
        go_wp2_with fail
        exact ⟨⟨m + 1, by omega, by go_num, B8.out⟩, by simp [intOf]; omega⟩
    · have hd2 : decide ((m : Int) < (q : Int)) = false := by simp; omega
      have M6 := Lib.hid (S5.out.grow hv.out)
      go_wp2_with fail
      refine (HAW.out _).mono ?_
      rintro e w9 ⟨rfl, hb9⟩
      have B9 : Hid (Below w.heap.size w w9) := M6.out.below.trans (hb9.mono M6.out.below.size)
      clear hb9
      go_wp2_with fail
      go_ret
      exact ⟨rfl, B9.out⟩
theorem strokePens_c (ao : Option Addr) (n c : Nat) (l : List Pt) (cl : Bool) (h cap : Int) (w : World) (hr : Rd w) (row : Row w (.slice ao n c) l) (_hnc : n ≤ c) :
    Calls Tryd.prog 4 #[.agg #[.slice ao n c, .bool cl], .int .i64 h, .int .i64 cap] w fun e w' => e = .returned (.bool true) ∧ Below w.heap.size w w' := by
  have HAW := Lib.hid (fun w => awake_c w)
  have hlen := row_len row
  by_cases hn : n > 30
  · exact pens_many ao n c cl h cap w HAW hn
  have HRE : Hid (∀ w', Below w.heap.size w w' → Calls Tryd.prog 16 #[.slice ao n c] w' fun e w'' => ∃ u, e = .returned u ∧ Own w'' w'.heap.size 32 u l ∧ Below w'.heap.size w' w'') := fun w' hb => refs_c w' _ l (by omega) (row.on hb)
  have HSA : Hid (∀ u w', Below w.heap.size w w' → Row w' u l → Calls Tryd.prog 14 #[.slice ao n c, u] w' fun e w'' => e = .returned (.bool true) ∧ Below w'.heap.size w' w'') := fun u w' hb hu => same_c _ u l w' (by omega) (row.on hb) hu
  have HST : ∀ w', Below w.heap.size w w' → Calls Tryd.prog 17 #[.agg #[.slice ao n c, .bool cl], .int .i64 h, .int .i64 cap] w' (ToldQ w'.heap.size w' (strokeOut l cl h cap)) := fun w' hb => stroke_c _ l cl h cap w' (row.on hb) (hr.on hb) (by omega)
  have bad : (penB h && capB cap && l.all roomP) = false → ∀ w', Below w.heap.size w w' → Calls Tryd.prog 17 #[.agg #[.slice ao n c, .bool cl], .int .i64 h, .int .i64 cap] w' (ToldQ w'.heap.size w' (30, [])) := fun e w' hb => by
    have k := HST w' hb
    rw [pens_bad l cl h cap e] at k
    exact k
  by_cases h1 : h < 1
  · exact pens_low ao n c cl h cap w HAW hn l HRE (bad (by unfold penB; rw [show decide (1 ≤ h) = false by simp; omega]; rfl)) HSA h1
  by_cases h2 : h > 32768
  · exact pens_high ao n c cl h cap w HAW hn l HRE (bad (by unfold penB; rw [show decide (h ≤ 32768) = false by simp; omega, Bool.and_false, Bool.false_and, Bool.false_and])) HSA h1 h2
  by_cases h3 : cap < 0
  · exact pens_cap0 ao n c cl h cap w HAW hn l HRE (bad (by unfold capB; rw [show decide (0 ≤ cap) = false by simp; omega, Bool.false_and, Bool.and_false, Bool.false_and])) HSA h1 h2 h3
  by_cases h4 : cap > 2
  · exact pens_cap3 ao n c cl h cap w HAW hn l HRE (bad (by unfold capB; rw [show decide (cap ≤ 2) = false by simp; omega, Bool.and_false, Bool.and_false, Bool.false_and])) HSA h1 h2 h3 h4
  have HIN : ∀ u w', Row w' u l → Calls Tryd.prog 13 #[u] w' fun e w'' => e = .returned (.bool (l.all roomP)) ∧ Below w'.heap.size w' w'' := fun u w' hu => refIn7_c u l w' (by omega) hu
  cases hrm : l.all roomP
  · rw [hrm] at HIN
    exact pens_out_ ao n c cl h cap w HAW hn l HRE (bad (by rw [hrm, Bool.and_false])) HSA h1 h2 h3 h4 HIN
  rw [hrm] at HIN
  have hh : penB h = true := penB_iff.2 ⟨by omega, by omega⟩
  have hc : capB cap = true := by unfold capB; rw [show decide (0 ≤ cap) = true by simp; omega, show decide (cap ≤ 2) = true by simp; omega]; rfl
  have hcap : cap = 0 ∨ cap = 1 ∨ cap = 2 := by omega
  have HRF : ∀ ra rn rc w', Row w' (.slice ra rn rc) l → Calls Tryd.prog 18 #[.slice ra rn rc, .bool cl, .int .i64 h, .int .i64 cap] w' (RPost w' (refOf (apartI l cl) cl h cap).1 (refOf (apartI l cl) cl h cap).2) := fun ra rn rc w' hu => rstroke_c ra rn rc l cl h cap w' hu (by omega) hh hcap hrm
  have HLE := len_all l cl h cap
  have ho := pens_out l cl h cap hh hc hrm
  rw [ho] at HST HLE
  cases hok : (refOf (apartI l cl) cl h cap).1
  · rw [hok] at HST HRF
    exact pens_over ao n c cl h cap w HAW hn l _ HRE HST HSA h1 h2 h3 h4 HIN HRF
  · rw [hok] at HST HRF HLE
    exact pens_main ao n c cl h cap w HAW hn l _ HRE HST HSA h1 h2 h3 h4 HIN HRF HLE
end Go.Proofs.YtdidbejinfkhbaaDoor
