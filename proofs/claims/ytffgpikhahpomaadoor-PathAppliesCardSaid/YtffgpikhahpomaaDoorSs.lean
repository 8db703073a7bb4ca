/- Layer 6: Put, Insert, Delete. -/
import Derived.Test.YtffgpikhahpomaaDoorSr
import Derived.Test.YtffgpikhahpomaaDoorSm
namespace Go.Proofs.YtffgpikhahpomaaDoor
open Go.RowKit
def Sg.put (s : Sg) (j : Nat) (p : Pt) : Sg := if j = 0 then { s with p := p } else if j = 1 then { s with q := p } else { s with r := p }
def outI (M : List Sg) : Int × List Sg := (checkI M, if checkI M = 0 then M else [])
def atS (l : List Sg) (i : Int) : Sg := (l[i.toNat]?).getD ⟨0, (0, 0), (0, 0), (0, 0)⟩
def putL (l : List Sg) (i j : Int) (p : Pt) : List Sg := l.take i.toNat ++ [(atS l i).put j.toNat p] ++ l.drop (i.toNat + 1)
def insL (l : List Sg) (i : Int) (s : Sg) : List Sg := l.take i.toNat ++ [s] ++ l.drop i.toNat
def delL (l : List Sg) (i : Int) : List Sg := l.take i.toNat ++ [] ++ l.drop (i.toNat + 1)
def hasB (l : List Sg) (i : Int) : Bool := decide (0 ≤ i) && decide (i < (l.length : Int))
def putI (l : List Sg) (i j : Int) (p : Pt) : Int × List Sg := if checkI l ≠ 0 then (checkI l, []) else if (!hasB l i || (decide (j < 0) || decide (j ≥ (needI (atS l i).k : Int)))) = true then (30, []) else outI (putL l i j p)
def insI (l : List Sg) (i : Int) (s : Sg) : Int × List Sg := if checkI l ≠ 0 then (checkI l, []) else if (decide (i < 0) || decide (i > (l.length : Int))) = true then (30, []) else outI (insL l i s)
def delI (l : List Sg) (i : Int) : Int × List Sg := if checkI l ≠ 0 then (checkI l, []) else if hasB l i = false then (30, []) else outI (delL l i)
/-- What an edit gives. -/
def Edited (w : World) (X : Int × List Sg) (e : Ending) (w' : World) : Prop := ∃ u, e = .returned (.tuple #[u, .int .i64 X.1]) ∧ OwnS w' w.heap.size 48 u X.2 ∧ Below w.heap.size w w'
theorem OwnS.cap {w : World} {base : Nat} {t : TypeId} {v : Value} {l : List Sg} (h : OwnS w base t v l) : ∃ ao c, v = .slice ao l.length c ∧ l.length ≤ c := by
  obtain ⟨_, ⟨rfl, h0⟩ | ⟨g, cap, cur, rfl, _, _, h3, _⟩⟩ := h
  · exact ⟨none, 0, by rw [h0], by omega⟩
  · exact ⟨_, _, rfl, h3⟩
theorem checked_own {base : Nat} {v : Value} {M : List Sg} {w : World} (hr : Rd w) (ho : OwnS w base 48 v M) : Calls Tryd.prog 41 #[v] w fun e w' => ∃ u, e = .returned (.tuple #[u, .int .i64 (outI M).1]) ∧ OwnS w' base 48 u (outI M).2 ∧ Below w.heap.size w w' := by
  refine (checked_c v M w hr ho.row).mono ?_
  rintro e w1 ⟨rfl, hb⟩
  unfold outI
  by_cases h : checkI M = 0
  · simp only [h, if_true]
    exact ⟨_, rfl, ho.grow hb, hb⟩
  · simp only [h, if_false]
    exact ⟨_, rfl, OwnS.nil _ _ _, hb⟩
set_option maxHeartbeats 2000000 in
set_option maxRecDepth 100000 in
theorem delete_c (ao : Option Addr) (n c : Nat) (l : List Sg) (i : Int) (w : World) (hr : Rd w) (row : RowS w (.slice ao n c) l) (hc : n ≤ c) (hl : n ≤ 5000) :
    Calls Tryd.prog 20 #[.slice ao n c, .int .i64 i] w (Edited w (delI l i)) := by
  have hn := row.len
  have HC := Lib.hid (check_c _ l w hr row)
  have HH : Hid (∀ W, Calls Tryd.prog 40 #[.slice ao n c, .int .i64 i] W fun e w' => e = .returned (.bool (hasB l i)) ∧ W = w') := fun W => by unfold hasB; rw [hn]; exact hasSegment_c ao n c i W
  obtain ⟨z, hz⟩ : ∃ z, checkI l = z := ⟨_, rfl⟩
  obtain ⟨b, hb⟩ : ∃ b, hasB l i = b := ⟨_, rfl⟩
  have HZ := Lib.hid (And.intro hz hb)
  rw [hz] at HC
  rw [hb] at HH
  by_cases h0 : z = 0
  · subst h0
    cases b with
    | false =>
      have hX : delI l i = (30, []) := by unfold delI; rw [HZ.out.1, HZ.out.2]; rfl
      rw [hX]
      clear hz hb hX row
      go_enter Tryd.func20, Tryd.ntmps20
      go_wp2_with fail
      refine HC.out.mono ?_
      rintro e w1 ⟨rfl, hb⟩
      have HB := Lib.hid hb; clear hb
      go_wp2_with fail
      refine (HH.out _).mono ?_
      rintro e w2 ⟨rfl, rfl⟩
      go_wp2_with fail
      go_ret2
      exact ⟨_, rfl, OwnS.nil _ _ _, HB.out⟩
    | true =>
      have hX : delI l i = outI (delL l i) := by unfold delI; rw [HZ.out.1, HZ.out.2]; rfl
      rw [hX]
      have hi : 0 ≤ i ∧ i < (n : Int) := by unfold hasB at hb; rw [hn] at hb; simpa using hb
      obtain ⟨k, rfl⟩ : ∃ k : Nat, i = (k : Int) := ⟨i.toNat, by omega⟩
      have hk : k < n := by omega
      have HREP : Hid (∀ W, Below w.heap.size w W → Calls Tryd.prog 42 #[.slice ao n c, .int .i64 (k : Int), .int .i64 ((k + 1 : Nat) : Int), .slice none 0 0] W fun e w' => ∃ v, e = .returned v ∧ OwnS w' W.heap.size 48 v (delL l (k : Int)) ∧ Below W.heap.size W w') := fun W hW => replaced_c ao n c k (k + 1) l _ [] W (row.on hW) hc (by omega) hk (.inl ⟨rfl, rfl⟩) (by simp; omega)
      have HR := Lib.hid hr
      have w1 : wrap64 ((k : Int) + 1) = ((k + 1 : Nat) : Int) := by rw [wrapR _ (by omega) (by omega)]; omega
      have w2 : IntKind.i64.wrap ((k : Int) + 1) = ((k + 1 : Nat) : Int) := (wrap_is _).trans w1
      clear hz hb hX row hr hi
      go_enter Tryd.func20, Tryd.ntmps20
      go_wp2_with fail
      refine HC.out.mono ?_
      rintro e w1 ⟨rfl, hb⟩
      have HB := Lib.hid hb; clear hb
      go_wp2_with fail
      refine (HH.out _).mono ?_
      rintro e w2 ⟨rfl, rfl⟩
      go_wp2_with fail
      refine (HREP.out _ HB.out).mono ?_
      rintro e w2 ⟨v, rfl, ho, hb⟩
      have HO := Lib.hid (And.intro (owns_base ho HB.out.size) (below_next HB.out hb)); clear ho hb
      go_wp2_with fail
      refine (checked_own (HR.out.on HO.out.2) HO.out.1).mono ?_
      rintro e w3 ⟨u, rfl, ho, hb⟩
      have HP := Lib.hid (And.intro ho (below_next HO.out.2 hb)); clear ho hb
      go_wp2_with fail
      go_ret2
      exact ⟨_, rfl, HP.out⟩
  · have hX : delI l i = (z, []) := by unfold delI; rw [HZ.out.1, if_pos h0]
    rw [hX]
    have hz1 : (z != 0) = true := by simpa using h0
    clear hz hb hX row h0
    go_enter Tryd.func20, Tryd.ntmps20
    go_wp2_with fail
    refine HC.out.mono ?_
    rintro e w1 ⟨rfl, hb⟩
    have HB := Lib.hid hb; clear hb
    go_wp2_with fail
    go_ret2
    exact ⟨_, rfl, OwnS.nil _ _ _, HB.out⟩
set_option maxHeartbeats 2000000 in
set_option maxRecDepth 100000 in
theorem insert_c (ao : Option Addr) (n c : Nat) (l : List Sg) (i : Int) (s : Sg) (w : World) (hr : Rd w) (row : RowS w (.slice ao n c) l) (hc : n ≤ c) (hl : n ≤ 5000) :
    Calls Tryd.prog 19 #[.slice ao n c, .int .i64 i, .agg (seven s.k s.p s.q s.r)] w (Edited w (insI l i s)) := by
  have hn := row.len
  obtain ⟨w0, hw0⟩ : ∃ w0, w.alloc (.cells s.cells 48) = w0 := ⟨_, rfl⟩
  have HB0 : Hid (Below w.heap.size w w0) := by rw [← hw0]; exact (Below.refl _ _).alloc (Nat.le_refl _) _
  have HK : Hid (Blk w0 w.heap.size 48 s.cells) := by rw [← hw0]; exact Blk.new _ _ _
  have HC := Lib.hid (check_c _ l w0 (hr.on HB0.out) (row.on HB0.out))
  obtain ⟨z, hz⟩ : ∃ z, checkI l = z := ⟨_, rfl⟩
  have HZ := Lib.hid hz
  have HW0 := Lib.hid hw0
  have HROW := Lib.hid row
  have HR := Lib.hid hr
  have HN := Lib.hid hn
  rw [hz] at HC
  clear hz hw0 row hr hn
  by_cases h0 : z = 0
  · subst h0
    by_cases hi0 : i < 0
    · have hX : insI l i s = (30, []) := by unfold insI; rw [HZ.out]; simp [hi0]
      rw [hX]
      have d1 : decide (i < 0) = true := by simpa using hi0
      clear hX
      go_enter Tryd.func19, Tryd.ntmps19
      go_wp2_with fail
      rw [show w.alloc (.cells (seven s.k s.p s.q s.r) 48) = w0 from HW0.out]
      refine HC.out.mono ?_
      rintro e w1 ⟨rfl, hb⟩
      have HB := Lib.hid (below_next HB0.out hb); clear hb
      go_wp2_with fail
      go_ret2
      exact ⟨_, rfl, OwnS.nil _ _ _, HB.out⟩
    · by_cases hi1 : i > (n : Int)
      · have hX : insI l i s = (30, []) := by unfold insI; rw [HZ.out, HN.out]; simp [hi1]
        rw [hX]
        have d1 : decide (i < 0) = false := by simpa using hi0
        have d2 : decide (i > (n : Int)) = true := by simpa using hi1
        have d3 : decide ((n : Int) < i) = true := d2
        clear hX
        go_enter Tryd.func19, Tryd.ntmps19
        go_wp2_with fail
        rw [show w.alloc (.cells (seven s.k s.p s.q s.r) 48) = w0 from HW0.out]
        refine HC.out.mono ?_
        rintro e w1 ⟨rfl, hb⟩
        have HB := Lib.hid (below_next HB0.out hb); clear hb
        go_wp2_with fail
        go_ret2
        exact ⟨_, rfl, OwnS.nil _ _ _, HB.out⟩
      · have hX : insI l i s = outI (insL l i s) := by unfold insI; rw [HZ.out, HN.out]; simp [hi0, hi1]
        rw [hX]
        obtain ⟨k, rfl⟩ : ∃ k : Nat, i = (k : Int) := ⟨i.toNat, by omega⟩
        have hk : k ≤ n := by omega
        have HREP : Hid (∀ W u, Below w.heap.size w W → RowS W u [s] → Calls Tryd.prog 42 #[.slice ao n c, .int .i64 (k : Int), .int .i64 (k : Int), u] W fun e w' => ∃ v, e = .returned v ∧ OwnS w' W.heap.size 48 v (insL l (k : Int) s) ∧ Below W.heap.size W w') := fun W u hW hu => replaced_c ao n c k k l _ [s] W (HROW.out.on hW) hc (Nat.le_refl _) hk hu (by simp; omega)
        have d1 : decide ((k : Int) < 0) = false := by simp
        have d2 : decide ((k : Int) > (n : Int)) = false := decide_eq_false (by omega)
        have d3 : decide ((n : Int) < (k : Int)) = false := d2
        clear hX hi0 hi1
        go_enter Tryd.func19, Tryd.ntmps19
        go_wp2_with fail
        rw [show w.alloc (.cells (seven s.k s.p s.q s.r) 48) = w0 from HW0.out]
        refine HC.out.mono ?_
        rintro e w1 ⟨rfl, hb⟩
        have HB := Lib.hid (below_next HB0.out hb)
        have kb := HK.out.on hb HK.out.lt
        clear hb
        have c0 := kb.s0
        have c1 := kb.s1
        have c2 := kb.s2
        have c3 := kb.s3
        have c4 := kb.s4
        have c5 := kb.s5
        have c6 := kb.s6
        go_wp2_with fail
        have HNEW := Lib.hid (RowS.new w1 [s] s.cells 1 rfl rfl)
        have HB2 := Lib.hid (HB.out.alloc HB.out.size (.cells s.cells 48))
        refine (HREP.out _ _ HB2.out HNEW.out).mono ?_
        rintro e w2 ⟨v, rfl, ho, hb⟩
        have HO := Lib.hid (And.intro (owns_base ho HB2.out.size) (below_next HB2.out hb)); clear ho hb
        go_wp2_with fail
        refine (checked_own (HR.out.on HO.out.2) HO.out.1).mono ?_
        rintro e w3 ⟨u, rfl, ho, hb⟩
        have HP := Lib.hid (And.intro ho (below_next HO.out.2 hb)); clear ho hb
        go_wp2_with fail
        go_ret2
        exact ⟨_, rfl, HP.out⟩
  · have hX : insI l i s = (z, []) := by unfold insI; rw [HZ.out, if_pos h0]
    rw [hX]
    have hz1 : (z != 0) = true := by simpa using h0
    clear hX h0
    go_enter Tryd.func19, Tryd.ntmps19
    go_wp2_with fail
    rw [show w.alloc (.cells (seven s.k s.p s.q s.r) 48) = w0 from HW0.out]
    refine HC.out.mono ?_
    rintro e w1 ⟨rfl, hb⟩
    have HB := Lib.hid (below_next HB0.out hb); clear hb
    go_wp2_with fail
    go_ret2
    exact ⟨_, rfl, OwnS.nil _ _ _, HB.out⟩
end Go.Proofs.YtffgpikhahpomaaDoor
