/- Layer 6: what Flat refuses; awake. -/
import Derived.Test.YtffgpikhahpomaaDoorSl
namespace Go.Proofs.YtffgpikhahpomaaDoor
open Go.RowKit
theorem results_subs {fn : Func} {tmps : Array Value} {W : World} {g k : Nat} {v u : Value} (a b : Nat) (hres : fn.results = #[.cell a 32, .cell b 24]) (ha : tmps[a]? = some (.pointer (some ⟨g, 0, none⟩))) (hb : tmps[b]? = some (.pointer (some ⟨k, 0, none⟩))) (hg : Blk W g 32 #[v]) (hk : Blk W k 24 #[u]) :
    (results fn tmps).run Tryd.prog W = .ok (.tuple #[v, u]) W := by
  have h0 := hg.cell 0
  have h1 := hk.cell 0
  simp only [List.getElem?_toArray, List.getElem?_cons_zero] at h0 h1
  simp [results, hres, ha, hb, go_sem, h0, h1]
set_option maxHeartbeats 1000000 in
theorem pflat_bad (ao : Option Addr) (n c : Nat) (d z : Int) (w : World) (hz : (z != 0) = true)
    (HC : Hid (∀ w', Below w.heap.size w w' → Calls Tryd.prog 10 #[.slice ao n c] w' fun e w'' => e = .returned (.int .i64 z) ∧ Below w'.heap.size w' w'')) :
    Calls Tryd.prog 16 #[.slice ao n c, .int .i64 d] w fun e w' => e = .returned (.tuple #[.slice none 0 0, .int .i64 z]) ∧ Below w.heap.size w w' := by
  obtain ⟨w0, hw0⟩ : ∃ w0, ((w.alloc (.cells #[.int .i64 d] 3)).alloc (.cells #[.slice none 0 0] 32)).alloc (.cells #[.int .i64 0] 24) = w0 := ⟨_, rfl⟩
  have W0 : Hid (Below w.heap.size w w0 ∧ Blk w0 (w.heap.size + 1) 32 #[.slice none 0 0] ∧ Blk w0 (w.heap.size + 2) 24 #[.int .i64 0]) := by
    rw [← hw0]
    exact ⟨(((Below.refl _ _).alloc (Nat.le_refl _) _).alloc (by simp) _).alloc (by simp; omega) _, (Blk.newAt _ _ _ (by simp)).alloc _, Blk.newAt _ _ _ (by simp)⟩
  have HW0 := Lib.hid hw0
  clear hw0
  go_enter Tryd.func16, Tryd.ntmps16
  go_wp2_with fail
  rw [show ((w.alloc (.cells #[.int .i64 d] 3)).alloc (.cells #[.slice none 0 0] 32)).alloc (.cells #[.int .i64 0] 24) = w0 from HW0.out]
  refine (HC.out _ W0.out.1).mono ?_
  rintro e w1 ⟨rfl, hb⟩
  have B1 := Lib.hid (W0.out.1.trans (hb.mono W0.out.1.size))
  have R1 := Lib.hid (W0.out.2.1.grow hb)
  have R2 := Lib.hid (W0.out.2.2.grow hb)
  have c1 := R1.out.cell 0
  have c2 := R2.out.cell 0
  have f1 := R1.out.free 0
  have f2 := R2.out.free 0
  have l1 := R1.out.lt
  have l2 := R2.out.lt
  simp only [List.getElem?_toArray, List.getElem?_cons_zero] at c1 c2
  clear hb
  go_wp2_with fail
  exact bodyPost_ret (results_subs 4 5 rfl rfl rfl ((R1.out.put 0 (.slice none 0 0) #[.slice none 0 0] rfl).other _ _ (by simp)) ((R2.out.other ⟨w.heap.size + 1, 0, none⟩ (.slice none 0 0) (by simp)).put 0 (.int .i64 z) #[.int .i64 z] rfl)) rfl ⟨rfl, (B1.out.setCell (by simp) _).setCell (by simp; omega) _⟩
set_option maxHeartbeats 1000000 in
theorem pflat_depth (ao : Option Addr) (n c : Nat) (d : Int) (w : World) (hd : d < 0 ∨ 6 < d)
    (HC : Hid (∀ w', Below w.heap.size w w' → Calls Tryd.prog 10 #[.slice ao n c] w' fun e w'' => e = .returned (.int .i64 0) ∧ Below w'.heap.size w' w'')) :
    Calls Tryd.prog 16 #[.slice ao n c, .int .i64 d] w fun e w' => e = .returned (.tuple #[.slice none 0 0, .int .i64 30]) ∧ Below w.heap.size w w' := by
  obtain ⟨w0, hw0⟩ : ∃ w0, ((w.alloc (.cells #[.int .i64 d] 3)).alloc (.cells #[.slice none 0 0] 32)).alloc (.cells #[.int .i64 0] 24) = w0 := ⟨_, rfl⟩
  have W0 : Hid (Below w.heap.size w w0 ∧ Blk w0 w.heap.size 3 #[.int .i64 d] ∧ Blk w0 (w.heap.size + 1) 32 #[.slice none 0 0] ∧ Blk w0 (w.heap.size + 2) 24 #[.int .i64 0]) := by
    rw [← hw0]
    exact ⟨(((Below.refl _ _).alloc (Nat.le_refl _) _).alloc (by simp) _).alloc (by simp; omega) _, ((Blk.new _ _ _).alloc _).alloc _, (Blk.newAt _ _ _ (by simp)).alloc _, Blk.newAt _ _ _ (by simp)⟩
  have HW0 := Lib.hid hw0
  clear hw0
  by_cases h0 : d < 0
  · have e0 : decide (d < 0) = true := decide_eq_true h0
    clear h0 hd
    go_enter Tryd.func16, Tryd.ntmps16
    go_wp2_with fail
    rw [show ((w.alloc (.cells #[.int .i64 d] 3)).alloc (.cells #[.slice none 0 0] 32)).alloc (.cells #[.int .i64 0] 24) = w0 from HW0.out]
    refine (HC.out _ W0.out.1).mono ?_
    rintro e w1 ⟨rfl, hb⟩
    have B1 := Lib.hid (W0.out.1.trans (hb.mono W0.out.1.size))
    have R0 := Lib.hid (W0.out.2.1.grow hb)
    have R1 := Lib.hid (W0.out.2.2.1.grow hb)
    have R2 := Lib.hid (W0.out.2.2.2.grow hb)
    have c0 := R0.out.cell 0
    have c1 := R1.out.cell 0
    have c2 := R2.out.cell 0
    have f1 := R1.out.free 0
    have f2 := R2.out.free 0
    have l1 := R1.out.lt
    have l2 := R2.out.lt
    simp only [List.getElem?_toArray, List.getElem?_cons_zero] at c0 c1 c2
    clear hb
    go_wp2_with fail
    exact bodyPost_ret (results_subs 4 5 rfl rfl rfl ((R1.out.put 0 (.slice none 0 0) #[.slice none 0 0] rfl).other _ _ (by simp)) ((R2.out.other ⟨w.heap.size + 1, 0, none⟩ (.slice none 0 0) (by simp)).put 0 (.int .i64 30) #[.int .i64 30] rfl)) rfl ⟨rfl, (B1.out.setCell (by simp) _).setCell (by simp; omega) _⟩
  · have e0 : decide (d < 0) = false := decide_eq_false h0
    have e6 : decide (d > 6) = true := decide_eq_true (by omega)
    clear h0 hd
    go_enter Tryd.func16, Tryd.ntmps16
    go_wp2_with fail
    rw [show ((w.alloc (.cells #[.int .i64 d] 3)).alloc (.cells #[.slice none 0 0] 32)).alloc (.cells #[.int .i64 0] 24) = w0 from HW0.out]
    refine (HC.out _ W0.out.1).mono ?_
    rintro e w1 ⟨rfl, hb⟩
    have B1 := Lib.hid (W0.out.1.trans (hb.mono W0.out.1.size))
    have R0 := Lib.hid (W0.out.2.1.grow hb)
    have R1 := Lib.hid (W0.out.2.2.1.grow hb)
    have R2 := Lib.hid (W0.out.2.2.2.grow hb)
    have c0 := R0.out.cell 0
    have c1 := R1.out.cell 0
    have c2 := R2.out.cell 0
    have f1 := R1.out.free 0
    have f2 := R2.out.free 0
    have l1 := R1.out.lt
    have l2 := R2.out.lt
    simp only [List.getElem?_toArray, List.getElem?_cons_zero] at c0 c1 c2
    clear hb
    go_wp2_with fail
    exact bodyPost_ret (results_subs 4 5 rfl rfl rfl ((R1.out.put 0 (.slice none 0 0) #[.slice none 0 0] rfl).other _ _ (by simp)) ((R2.out.other ⟨w.heap.size + 1, 0, none⟩ (.slice none 0 0) (by simp)).put 0 (.int .i64 30) #[.int .i64 30] rfl)) rfl ⟨rfl, (B1.out.setCell (by simp) _).setCell (by simp; omega) _⟩
/-- Flat, of a path that is none. -/
theorem pflat_no (v : Value) (l : List Sg) (d : Int) (w : World) (hr : Rd w) (row : RowS w v l) (h : checkI l ≠ 0) : Calls Tryd.prog 16 #[v, .int .i64 d] w fun e w' => e = .returned (.tuple #[.slice none 0 0, .int .i64 (checkI l)]) ∧ Below w.heap.size w w' := by
  have HC : Hid (∀ w', Below w.heap.size w w' → Calls Tryd.prog 10 #[v] w' fun e w'' => e = .returned (.int .i64 (checkI l)) ∧ Below w'.heap.size w' w'') := fun w' hb => check_c _ l w' (hr.on hb) (row.on hb)
  obtain ⟨ao, c, rfl⟩ := row.shape
  exact pflat_bad ao _ c d (checkI l) w (by simpa using h) HC
theorem pflat_out (v : Value) (l : List Sg) (d : Int) (w : World) (hr : Rd w) (row : RowS w v l) (h : checkI l = 0) (hd : d < 0 ∨ 6 < d) : Calls Tryd.prog 16 #[v, .int .i64 d] w fun e w' => e = .returned (.tuple #[.slice none 0 0, .int .i64 30]) ∧ Below w.heap.size w w' := by
  have HC : Hid (∀ w', Below w.heap.size w w' → Calls Tryd.prog 10 #[v] w' fun e w'' => e = .returned (.int .i64 0) ∧ Below w'.heap.size w' w'') := fun w' hb => h ▸ check_c _ l w' (hr.on hb) (row.on hb)
  obtain ⟨ao, c, rfl⟩ := row.shape
  exact pflat_depth ao _ c d w hd HC
theorem pflat_c (v : Value) (l : List Sg) (d : Nat) (w : World) (hr : Rd w) (row : RowS w v l) (h : checkI l = 0) (hd : d ≤ 6) (hl : l.length ≤ 60) :
    Calls Tryd.prog 16 #[v, .int .i64 (d : Int)] w fun e w' => ∃ u S, e = .returned (.tuple #[u, .int .i64 0]) ∧ SubsAt w' w.heap.size 39 44 u S ∧ S.map Sb.plain = subsI d l ∧ Below w.heap.size w w' := by
  obtain ⟨ao, c, rfl⟩ := row.shape
  exact pflat_walk ao _ c d l w hl hd hr row h
set_option maxHeartbeats 1000000 in
theorem seg_c (k x y : Int) (w : World) : Calls Tryd.prog 32 #[.int .i64 k, .int .i64 x, .int .i64 y] w fun e w' => e = .returned (.agg (seven k (x, y) (0, 0) (0, 0))) ∧ Below w.heap.size w w' := by
  go_enter Tryd.func32, Tryd.ntmps32
  go_wp2_with fail
  go_returns
  exact ⟨rfl, by go_grown⟩
theorem RowS.new (w : World) (l : List Sg) (cs : Array Value) (n : Nat) (hcs : cs = (flatS l).toArray) (hn : n = l.length) : RowS (w.alloc (.cells cs 48)) (.slice (some ⟨w.heap.size, 0, none⟩) n n) l := by
  subst hcs hn
  refine .inr (.inr ⟨_, 0, _, rfl, by simp, SegsAt.of_flat fun j v hj => ?_⟩)
  rw [Nat.zero_add, (Blk.new w 48 (flatS l).toArray).cell]
  simpa using hj
theorem subs_cells {w : World} {base g cap n : Nat} {tS tP : TypeId} {S : List Sb} (h : SubsAt w base tS tP (.slice (some ⟨g, 0, none⟩) n cap) S) {m : Nat} {x : Sb} (hx : S[m]? = some x) : w.cell? ⟨g, m * 2, none⟩ = some x.v ∧ w.cell? ⟨g, m * 2 + 1, none⟩ = some (.bool x.c) := by
  obtain ⟨e0, e1⟩ := cellsB_at S m x hx
  have h0 := h.row.cells (g := g) rfl _ _ e0
  have h1 := h.row.cells (g := g) rfl _ _ e1
  rw [Addr.add_lit, Nat.zero_add] at h0 h1
  exact ⟨h0, h1⟩
def wakeL : List Sg := [⟨1, (0, 0), (0, 0), (0, 0)⟩, ⟨2, (4, 0), (0, 0), (0, 0)⟩, ⟨2, (4, 4), (0, 0), (0, 0)⟩, ⟨5, (0, 0), (0, 0), (0, 0)⟩]
theorem wake_check : checkI wakeL = 0 := by decide
theorem wake_subs : subsI 2 wakeL = [([(0, 0), (4, 0), (4, 4)], true)] := by decide
set_option maxHeartbeats 2000000 in
set_option maxRecDepth 100000 in
theorem awake_c (w : World) (hr : Rd w) : Calls Tryd.prog 9 #[] w fun e w' => e = .returned (.bool true) ∧ Below w.heap.size w w' := by
  have HR := Lib.hid hr
  clear hr
  go_enter Tryd.func9, Tryd.ntmps9
  go_wp2_with fail
  refine (seg_c 1 0 0 _).mono ?_
  rintro e w1 ⟨rfl, hb⟩
  have B1 := Lib.hid hb
  clear hb
  go_wp2_with fail
  refine (seg_c 2 4 0 _).mono ?_
  rintro e w2 ⟨rfl, hb⟩
  have B2 := Lib.hid (below_next B1.out hb)
  clear hb
  go_wp2_with fail
  refine (seg_c 2 4 4 _).mono ?_
  rintro e w3 ⟨rfl, hb⟩
  have B3 := Lib.hid (below_next B2.out hb)
  clear hb
  go_wp2_with fail
  have R4 := Lib.hid (RowS.new w3 wakeL _ 4 rfl rfl)
  have B4 := Lib.hid ((Below.refl w3.heap.size w3).alloc (Nat.le_refl _) (.cells (flatS wakeL).toArray 48))
  have HR4 : Hid (Rd (w3.alloc (.cells (flatS wakeL).toArray 48))) := (HR.out.on B3.out).on B4.out
  refine (pflat_c _ wakeL 2 _ HR4.out R4.out wake_check (by decide) (by decide)).mono ?_
  rintro e w5 ⟨u, S, rfl, hS, hmap, hb⟩
  have B5 := Lib.hid (below_next (below_next B3.out B4.out) hb)
  rw [wake_subs] at hmap
  obtain ⟨⟨v, L, c⟩, rfl⟩ : ∃ x, S = [x] := List.length_eq_one_iff.1 (by have := congrArg List.length hmap; simpa using this)
  simp only [List.map_cons, List.map_nil, Sb.plain, List.cons.injEq, Prod.mk.injEq, and_true] at hmap
  obtain ⟨rfl, rfl⟩ := hmap
  obtain ⟨a, cap, rfl⟩ := subs_shape hS
  obtain ⟨g, rfl, _, _, _⟩ := subs_addr hS (by simp)
  obtain ⟨c0, c1⟩ := subs_cells hS (m := 0) rfl
  obtain ⟨va, vc, hv⟩ : ∃ va vc, v = .slice va 3 vc := (hS.own 0 _ rfl).row.shape
  subst hv
  simp only [Nat.zero_mul, Nat.zero_add] at c0 c1
  clear hS hb R4 HR4
  simp only [List.length_cons, List.length_nil, Nat.reduceAdd]
  go_wp2_with fail
  go_ret
  exact ⟨rfl, B5.out⟩
end Go.Proofs.YtffgpikhahpomaaDoor
