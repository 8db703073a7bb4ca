/- Layer 6: Grow, Concat of three rows, replaced, hasSegment, checked. -/
import Derived.Test.YtffgpikhahpomaaDoorSf
import Derived.Test.YtffgpikhahpomaaDoorSe
import Derived.Test.YtffgpikhahpomaaDoorW
import Derived.Lib.AppendZerosOnto
import Derived.Lib.SliceRun
namespace Go.Proofs.YtffgpikhahpomaaDoor
open Go.RowKit
theorem hasSegment_c (ao : Option Addr) (n c : Nat) (i : Int) (w : World) : Calls Tryd.prog 40 #[.slice ao n c, .int .i64 i] w fun e w' => e = .returned (.bool (decide (0 ≤ i) && decide (i < (n : Int)))) ∧ w = w' := by
  by_cases h : 0 ≤ i
  · go_enter Tryd.func40, Tryd.ntmps40
    go_wp2
    go_ret
    exact ⟨by simp [h], rfl⟩
  · go_enter Tryd.func40, Tryd.ntmps40
    go_wp2
    go_ret
    exact ⟨by simp; omega, rfl⟩
theorem checked_walk (ao : Option Addr) (n c : Nat) (z : Int) (w : World) (HC : Hid (Calls Tryd.prog 10 #[.slice ao n c] w fun e w' => e = .returned (.int .i64 z) ∧ Below w.heap.size w w')) :
    Calls Tryd.prog 41 #[.slice ao n c] w fun e w' => e = .returned (if z = 0 then .tuple #[.slice ao n c, .int .i64 0] else .tuple #[.slice none 0 0, .int .i64 z]) ∧ Below w.heap.size w w' := by
  by_cases h : z = 0
  · subst h
    go_enter Tryd.func41, Tryd.ntmps41
    go_wp2_with fail
    refine HC.out.mono ?_
    rintro e w1 ⟨rfl, hb⟩
    go_wp2_with fail
    go_ret2
    exact ⟨rfl, hb⟩
  · have hz : (z != 0) = true := by simpa using h
    rw [if_neg h]
    clear h
    go_enter Tryd.func41, Tryd.ntmps41
    go_wp2_with fail
    refine HC.out.mono ?_
    rintro e w1 ⟨rfl, hb⟩
    go_wp2_with fail
    go_ret2
    exact ⟨rfl, hb⟩
theorem checked_c (v : Value) (l : List Sg) (w : World) (hr : Rd w) (row : RowS w v l) : Calls Tryd.prog 41 #[v] w fun e w' => e = .returned (if checkI l = 0 then .tuple #[v, .int .i64 0] else .tuple #[.slice none 0 0, .int .i64 (checkI l)]) ∧ Below w.heap.size w w' := by
  have HC := Lib.hid (check_c v l w hr row)
  obtain ⟨ao, c, rfl⟩ := row.shape
  exact checked_walk ao _ c _ w HC
set_option maxHeartbeats 2000000 in
set_option maxRecDepth 100000 in
theorem grow_c (n : Nat) (hn : n ≤ 100000) (w : World) : Calls Tryd.prog 67 #[.slice none 0 0, .int .i64 (n : Int)] w fun e w' => ∃ v, e = .returned v ∧ OwnS w' w.heap.size 48 v [] ∧ Below w.heap.size w w' := by
  by_cases h0 : n = 0
  · subst h0
    go_enter Tryd.func67, Tryd.ntmps67
    go_wp2
    go_ret
    exact ⟨_, rfl, OwnS.nil _ _ _, Below.refl _ _⟩
  · obtain ⟨i0, hi, hz0, hz1, hz2⟩ := info_parts infoS
    have hold : (Builtin.firstCells i0.size 0 (.slice none 0 0)).run Tryd.prog w.drew = .ok ([] : List Value).toArray w.drew := run_firstCells_none w.drew i0.size 0 0 0
    have hrz := fun ty => Lib.run_append_grow_zeros (P := Tryd.prog) w 22 3 ty 48 i0 _ .i64 .i64 Tryd.underlying22 Tryd.underlying3 hi hz0 none 0 0 [] hold n (by omega) (by omega) (by omega) (by omega) (by rw [hz2]; omega) (by rw [hz2]; exact growslice_fits (by omega) (by omega))
    have hge := grownCap_ge w (0 + n) 0 48
    have hle := grownCap_le_maxLen w (0 + n) 0 48 (by unfold maxLen; omega)
    rw [Nat.zero_add] at hrz hge hle
    obtain ⟨C, hC⟩ : ∃ C, grownCap w n 0 48 = C := ⟨_, rfl⟩
    obtain ⟨X, hX⟩ : ∃ X, (([] : List Value).toArray ++ Builtin.zeroCells (Value.agg zSeven).cells n ++ Builtin.zeroCells (Value.agg zSeven).cells (C - n)) = X := ⟨_, rfl⟩
    rw [hC] at hrz hge hle
    simp only [hX] at hrz
    have hXs : X.size = C * 7 := by
      rw [← hX]
      simp only [Array.size_append, size_zeroCells, List.size_toArray, List.length_nil]
      have e : (Value.agg zSeven).cells.size = 7 := rfl
      rw [e]; omega
    have HG : Hid (OwnS (w.drew.alloc (.cells X 48)) w.heap.size 48 (.slice (some ⟨w.heap.size, 0, none⟩) 0 C) [] ∧ Below w.heap.size w (w.drew.alloc (.cells X 48))) :=
      ⟨World.ownsRow_made w.drew X C (Nat.le_refl _) hle hXs, (Below.drew (Below.refl _ w)).alloc (Nat.le_refl _) _⟩
    have h4 : decide ((n : Int) > 0) = true := decide_eq_true (by omega)
    have h1 : decide ((n : Int) < 0) = false := decide_eq_false (by omega)
    have hC63 : C ≤ 9223372036854775807 := by unfold maxLen at hle; omega
    have HRZ := Lib.hid hrz
    clear hold hC hX hXs hle hi hz0 hz1 hz2 hrz
    go_enter Tryd.func67, Tryd.ntmps67
    go_wp2_with (at_builtin; refine Lib.wpList_append_run _ rfl _ _ _ _ rfl _ _ rfl rfl _ _ (HRZ.out _) ?_)
    all_goals (go_ret; exact ⟨_, rfl, HG.out.1, HG.out.2⟩)
theorem run_append_segs (w : World) (ty : TypeId) (base : Nat) (v : Value) (X : List Sg) (hown : OwnS w base 48 v X) (u : Value) (Y : List Sg) (row : RowS w u Y) (hl : X.length + Y.length ≤ 100000) (hbase : base ≤ w.heap.size) :
    ∃ v' w', (Builtin.append_ #[22, 22] ty #[v, u]).run Tryd.prog w = .ok v' w' ∧ OwnS w' base 48 v' (X ++ Y) ∧ w.grownBy w' v.ownBlock := by
  obtain ⟨i, hi, hz0, hz1, hz2⟩ := info_parts infoS
  have some_case : ∀ (ad : Addr) (c : Nat), (∀ j u, (flatS Y)[j]? = some u → w.cell? (ad.add j) = some u) → u = .slice (some ad) Y.length c →
      ∃ v' w', (Builtin.append_ #[22, 22] ty #[v, u]).run Tryd.prog w = .ok v' w' ∧ OwnS w' base 48 v' (X ++ Y) ∧ w.grownBy w' v.ownBlock := by
    intro ad c hn hu
    subst hu
    obtain ⟨v', w', hr, ho, hg, _⟩ := run_append_own (P := Tryd.prog) w base 22 ty 48 i (.agg zSeven) 7 56 Tryd.underlying22 hi hz0 hz1 hz2 rfl (by decide) v X.length (flatS X) hown ad Y.length c (flatS Y) (flatS_length Y) hn (flatS_one Y) (by unfold maxLen; omega) (by omega) hbase
    exact ⟨v', w', hr, by unfold OwnS; rw [List.length_append, flatS_append]; exact ho, hg⟩
  rcases row with ⟨rfl, rfl⟩ | ⟨a, c, rfl, rfl⟩ | ⟨b, o, c, rfl, hb, hp⟩
  · refine ⟨v, w, run_append_owned_none (P := Tryd.prog) (w := w) base 22 ty 48 i 7 Tryd.underlying22 hi v X.length (flatS X) hown, by rw [List.append_nil]; exact hown, ⟨rfl, rfl, rfl, Nat.le_refl _, fun _ _ _ => rfl⟩⟩
  · exact some_case a c (fun j u hj => by simp [flatS] at hj) rfl
  · refine some_case ⟨b, o, none⟩ c (fun j u hj => ?_) rfl
    have hlt : j < Y.length * 7 := by have := (List.getElem?_eq_some_iff.1 hj).1; rwa [flatS_length] at this
    obtain ⟨s, hs⟩ : ∃ s, Y[j / 7]? = some s := ⟨_, List.getElem?_eq_getElem (by omega)⟩
    obtain ⟨x, hx⟩ : ∃ x, s.cells[j % 7]? = some x := ⟨_, Array.getElem?_eq_getElem (by simp [Sg.cells]; omega)⟩
    have h1 := flatS_at Y (j / 7) s hs (j % 7) x hx
    have h2 := hp (j / 7) s hs (j % 7) x hx
    rw [show j / 7 * 7 + j % 7 = j by omega] at h1
    rw [h1] at hj
    rw [Addr.add_lit, show o + j = o + j / 7 * 7 + j % 7 by omega, h2]
    exact hj
theorem wpList_append_segs {w : World} {ops : Array Oper} {rest : List Oper} {o : Oper} {a : Act} {Q : Exit → Act → World → Prop} (hgd : o.guard = none) (s x : Operand)
    (ho : o.op = .call { callee := .builtin .append, args := #[s, x], argTypes := #[22, 22] })
    (base : Nat) (v : Value) (X : List Sg) (hs : a.eval s = v) (hown : OwnS w base 48 v X) (u : Value) (Y : List Sg) (hx : a.eval x = u) (row : RowS w u Y) (hl : X.length + Y.length ≤ 100000) (hbase : base ≤ w.heap.size)
    (h : ∀ v' w', OwnS w' base 48 v' (X ++ Y) → w.grownBy w' v.ownBlock → wpList Tryd.prog ops Q rest (a.put o.dst v') w') : wpList Tryd.prog ops Q (o :: rest) a w := by
  refine wpList_plain hgd fun K hK => ?_
  obtain ⟨v', w', hr, h1, h2⟩ := run_append_segs w o.type base v X hown u Y row hl hbase
  unfold Oper.wp
  simp [execOp, ho, resolve, invoke, builtin, hs, hx, hr, Result.andThen]
  exact hK _ _ (h v' w' h1 h2)
end Go.Proofs.YtffgpikhahpomaaDoor
