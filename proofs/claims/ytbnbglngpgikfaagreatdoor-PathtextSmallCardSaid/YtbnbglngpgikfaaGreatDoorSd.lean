/- Layer 6: Check. -/
import Derived.Test.YtbnbglngpgikfaaGreatDoorSc
namespace Go.Proofs.YtbnbglngpgikfaaGreatDoor
open Go.RowKit Go.Shelf
attribute [local go_sem] Oper.semAt_some
/-- What is wrong with a path from a segment on. -/
def goI : Sg → List Sg → Int
  | _, [] => 0
  | x, s :: t => if faultI x s = 0 then goI s t else faultI x s
def checkI (l : List Sg) : Int := if l.length > 4096 then 36 else goI shut0 l
theorem drop_at {α : Type} {l : List α} {k : Nat} {s : α} (h : l[k]? = some s) : l.drop k = s :: l.drop (k + 1) := by
  obtain ⟨hlt, e⟩ := List.getElem?_eq_some_iff.1 h
  rw [← e]; exact List.drop_eq_getElem_cons hlt
set_option maxHeartbeats 1000000 in
theorem check_many (ao : Option Addr) (n c : Nat) (w : World) (hn : 4096 < n) : Calls Tryz.prog 18 #[.slice ao n c] w fun e w' => e = .returned (.int .i64 36) ∧ Below w.heap.size w w' := by
  have hd : decide ((n : Int) > 4096) = true := decide_eq_true (by omega)
  clear hn
  go_enter Tryz.func18, Tryz.ntmps18
  go_wp2_with fail
  go_returns
  exact ⟨rfl, by go_grown⟩
/-- What a round begins with, where both variables lie in boxes. -/
theorem round_two {l : List Sg} {k : Nat} {s x : Sg} {A B : World} {o : Obj} {N : Nat} (hN : N + 3 ≤ A.heap.size) (hB : B = (((A.alloc (.cells s.cells 53)).alloc (.cells (aheadL l k).cells 53)).alloc (.cells s.cells 53)).putObj (N + 1) o) (hx : aheadL l k = x) :
    Keep (fun j => j ≠ N + 1) A B ∧ Blk B (A.heap.size + 1) 53 x.cells ∧ Blk B (A.heap.size + 1 + 1) 53 s.cells ∧ B.heap.size = A.heap.size + 3 := by
  subst hx
  rw [hB]
  refine ⟨(((Keep.alloc _ _ _).trans (Keep.alloc _ _ _)).trans (Keep.alloc _ _ _)).trans (Keep.putObj _ _ _ (by simp)), ?_, ?_, by simp⟩
  · exact ((Blk.newAt _ _ _ (by simp)).alloc _).putOther _ (by omega)
  · exact (Blk.newAt _ _ _ (by simp)).putOther _ (by omega)
theorem RowS.len {w : World} {ao : Option Addr} {n c : Nat} {l : List Sg} (h : RowS w (.slice ao n c) l) : l.length = n := by
  rcases h with ⟨e, rfl⟩ | ⟨x, y, e, rfl⟩ | ⟨b, o, c', e, _, _⟩ <;> cases e <;> rfl
/-- The return of a function that ranges over segments. -/
theorem postM_ret {fn : Func} {R : Ending → World → Prop} {tmps : Array Value} {D : Nat} {W : World} (v : Value) (hD : W.heap[D]? = some (.deferred (some [])))
    (hres : (results fn tmps).run Tryz.prog (W.putObj D (.deferred none)) = .ok v (W.putObj D (.deferred none))) (h : R (.returned v) (W.putObj D (.deferred none))) :
    bodyPostM Fence.wide 9 Tryz.prog fn R .ret { tmps := tmps, defers := [{ target := .collected D, args := #[] }] } W :=
  ⟨by simp, .inl ⟨_, _, rfl, run_takeDeferred hD, ⟨_, hres, h⟩⟩⟩
theorem below_put {B : Nat} {w W : World} (h : Below B w W) {D : Nat} (o : Obj) (hD : B ≤ D) (hB : B ≤ W.heap.size) : Below B w (W.putObj D o) :=
  h.trans ((Keep.putObj (S := fun j => j < B) W D o (by omega)).below (fun _ h => h) hB)
set_option maxHeartbeats 2000000 in
set_option maxRecDepth 100000 in
theorem check_walk (ao : Option Addr) (n c : Nat) (l : List Sg) (w : World) (hn : n ≤ 4096) (hr : Rd w) (row : RowS w (.slice ao n c) l) :
    Calls Tryz.prog 18 #[.slice ao n c] w fun e w' => e = .returned (.int .i64 (goI shut0 l)) ∧ Below w.heap.size w w' := by
  have hd : decide ((n : Int) > 4096) = false := decide_eq_false (by omega)
  have HN := Lib.hid hn
  have HR := Lib.hid hr
  have HROW := Lib.hid row
  clear hn hr row
  refine callsIn_wide.1 (callsIn_of_wp_marks (n := 9) Tryz.func18 rfl trivial (wpIn_wide.2 ?_))
  simp only [Tryz.ntmps18, List.size_toArray, List.length_cons, List.length_nil, Nat.reduceAdd, Nat.reduceSub, Array.replicate_succ, Array.replicate_zero, List.push_toArray, List.append_toArray, List.nil_append, List.cons_append]
  go_wp2_with fail
  refine (segments_c ao n c _).mono ?_
  rintro e w1 ⟨rfl, rfl⟩
  go_wp2_with fail
  obtain ⟨W, hW⟩ : ∃ W, (w.alloc (.cells #[.int .i64 0] 24)).alloc (.cells #[.slice ao n c] 22) = W := ⟨_, rfl⟩
  have hz : W.heap.size = w.heap.size + 2 := by rw [← hW]; simp
  have hb0 : Below w.heap.size w W := by rw [← hW]; exact ((Below.refl _ _).alloc (Nat.le_refl _) _).alloc (by simp) _
  have hr0 : Blk W w.heap.size 24 #[.int .i64 0] := by rw [← hW]; exact (Blk.new _ _ _).alloc _
  have hx0 : Blk W (w.heap.size + 1) 22 #[.slice ao n c] := by rw [← hW]; exact Blk.newAt _ _ _ (by simp)
  rw [hW]
  clear hW
  have hI : ∀ A B, Below w.heap.size w A → Keep (fun j => ¬ (W.heap.size ≤ j ∧ j < W.heap.size + 3)) A B → Below w.heap.size w B := fun A B h k => h.trans (k.below (fun j hj => by omega) h.size)
  refine wp_segs (w0 := w) (bx := w.heap.size + 1) (l := l) (n := n) rfl rfl hb0 (by omega) (hx0.cell 0) HROW.out (by have := HN.out; omega)
    (fun k A => Below w.heap.size w A ∧ Blk A w.heap.size 24 #[.int .i64 0] ∧ goI shut0 l = goI (aheadL l k) (l.drop k))
    (fun k A B h hk => ⟨hI A B h.1 hk, hk.blk h.2.1 (by omega), h.2.2⟩)
    (fun A => Below w.heap.size w A ∧ Blk A w.heap.size 24 #[.int .i64 (goI shut0 l)])
    (fun A B h hk => ⟨hI A B h.1 hk, hk.blk h.2 (by omega)⟩)
    ⟨hb0, hr0, rfl⟩
    (fun x s g => #[.slice ao n c, undef, .pointer (some ⟨w.heap.size, 0, none⟩), .pointer (some ⟨g, 0, none⟩), .pointer (some ⟨g + 1, 0, none⟩), undef, .slice ao n c, .int .i64 n, .bool false, .slice ao n c, .func (.func 51) #[] #[.pointer (some ⟨w.heap.size + 1, 0, none⟩)], .agg x.cells, .agg s.cells, undef, undef, undef, undef, undef, undef])
    (fun x s A => (A.alloc (.cells x.cells 53)).alloc (.cells s.cells 53))
    (fun x s A => (Keep.alloc _ _ _).trans (Keep.alloc _ _ _))
    ?assign ?body ?done ?stop
  case assign =>
    intro L x s A K hK
    simp only [Sg.cells] at hK ⊢
    gi_wp2
    exact hK
  case body =>
    rintro L k s A o B hk ⟨hb, hr, hg⟩ hN hB
    obtain ⟨x, hx⟩ : ∃ x, aheadL l k = x := ⟨_, rfl⟩
    obtain ⟨kAB, bx, bs, zB⟩ := round_two hN hB hx
    rw [hx] at hg ⊢
    clear hB
    have HRB : Hid (Rd B) := HR.out.on (hb.trans (kAB.below (fun j hj => by omega) (by omega)))
    have HC := Lib.hid (fault_c x s B HRB.out)
    have KB := Lib.hid kAB
    have HB1 := Lib.hid (show Below w.heap.size w B ∧ Blk B w.heap.size 24 #[.int .i64 0] from ⟨hI A B hb (kAB.mono fun j hj => by omega), kAB.blk hr (by omega)⟩)
    have HG := Lib.hid hg
    have HK := Lib.hid hk
    have HX := Lib.hid hx
    have HZ := Lib.hid (show W.heap.size = w.heap.size + 2 ∧ W.heap.size + 3 ≤ A.heap.size ∧ B.heap.size = A.heap.size + 3 from ⟨hz, hN, zB⟩)
    have a0 := bx.s0
    have a1 := bx.s1
    have a2 := bx.s2
    have a3 := bx.s3
    have a4 := bx.s4
    have a5 := bx.s5
    have a6 := bx.s6
    have c0 := bs.s0
    have c1 := bs.s1
    have c2 := bs.s2
    have c3 := bs.s3
    have c4 := bs.s4
    have c5 := bs.s5
    have c6 := bs.s6
    simp only [Sg.cells] at HC
    clear hb hr hg hN hk hx kAB bx bs zB hz
    gi_wp2_with fail
    obtain ⟨z, hz⟩ : ∃ z, faultI x s = z := ⟨_, rfl⟩
    rw [hz] at HC
    have HZ2 := Lib.hid hz
    clear hz
    refine ⟨trivial, (CallsIn.inRound L (callsIn_wide.2 HC.out)).mono ?_⟩
    rintro e w2 ⟨rfl, hb⟩
    have KW : Hid (Keep (fun _ => True) B w2) := Keep.of_below hb
    have HW2 := Lib.hid (show Below w.heap.size w w2 ∧ Blk w2 w.heap.size 24 #[.int .i64 0] from ⟨hI B w2 HB1.out.1 (Keep.of_below hb), HB1.out.2.grow hb⟩)
    clear hb
    by_cases h0 : z = 0
    · have NX : Hid (goI shut0 l = goI (aheadL l (k + 1)) (l.drop (k + 1))) := by
        unfold Hid
        rw [HG.out, drop_at HK.out, aheadL_succ HK.out]
        simp only [goI]
        rw [if_pos (HZ2.out.trans h0)]
      subst h0
      gi_wp2_with fail
      exact ⟨KW.out.mono fun _ _ => trivial, HW2.out.1, HW2.out.2, NX.out⟩
    · have hne : (z != 0) = true := by simpa using h0
      have NX : Hid (goI shut0 l = z) := by
        unfold Hid
        rw [HG.out, drop_at HK.out]
        simp only [goI]
        rw [if_neg (by rw [HZ2.out]; exact h0), HZ2.out]
      have cr := HW2.out.2.cell 0
      have fr := HW2.out.2.free 0
      have lr := HW2.out.2.lt
      clear h0
      simp only [List.getElem?_toArray, List.getElem?_cons_zero] at cr
      gi_wp2_with fail
      refine ⟨(KW.out.mono fun _ _ => trivial).trans (Keep.setCell _ _ _ ?_), HW2.out.1.setCell (Nat.le_refl _) _, ?_⟩
      · have := HZ.out; unfold RoundS; simp; omega
      · rw [NX.out]; exact HW2.out.2.put 0 _ _ rfl
  case done =>
    rintro D ⟨hb, hr, hg⟩ hD
    have HE := Lib.hid hg
    have HD := Lib.hid hD
    have HB2 := Lib.hid hb
    have HR2 := Lib.hid hr
    have HZ := Lib.hid hz
    have cr := hr.cell 0
    have fr := hr.free 0
    have lr := hr.lt
    simp only [List.getElem?_toArray, List.getElem?_cons_zero] at cr
    clear hg hD hb hr hz
    dsimp only
    go_wp2_with fail
    have kS : Keep (fun j => j ≠ w.heap.size) D (D.setCell ⟨w.heap.size, 0, none⟩ (.int .i64 0)) := Keep.setCell _ _ _ (by simp)
    have hz2 := HZ.out
    refine postM_ret (.int .i64 0) ((kS.block _ (by omega) (Array.getElem?_eq_some_iff.1 HD.out).1).trans HD.out) ?_ ?_
    · have c := ((HR2.out.put 0 (.int .i64 0) #[.int .i64 0] rfl).putOther (l := W.heap.size) (.deferred none) (by omega)).cell 0
      simp only [List.getElem?_toArray, List.getElem?_cons_zero] at c
      simp [results, Tryz.f18, go_sem, c]
    · refine ⟨?_, below_put (HB2.out.setCell (Nat.le_refl _) _) _ (by omega) (by have := HB2.out.size; simp [World.setCell]; omega)⟩
      rw [HE.out, List.drop_of_length_le (Nat.le_of_eq HROW.out.len)]
      rfl
  case stop =>
    rintro D ⟨hb, hr⟩ hD
    refine postM_ret (.int .i64 (goI shut0 l)) hD ?_ ?_
    · have c := (hr.putOther (l := W.heap.size) (.deferred none) (by omega)).cell 0
      simp only [List.getElem?_toArray, List.getElem?_cons_zero] at c
      simp [results, Tryz.f18, go_sem, c]
    · exact ⟨rfl, below_put hb _ (by omega) hb.size⟩
theorem check_c (v : Value) (l : List Sg) (w : World) (hr : Rd w) (row : RowS w v l) : Calls Tryz.prog 18 #[v] w fun e w' => e = .returned (.int .i64 (checkI l)) ∧ Below w.heap.size w w' := by
  obtain ⟨ao, c, rfl⟩ := row.shape
  unfold checkI
  split
  · exact check_many ao _ c w (by omega)
  · exact check_walk ao _ c l w (by omega) hr row
end Go.Proofs.YtbnbglngpgikfaaGreatDoor

