/- Layer 7: Stroke. -/
import Derived.Test.YtdidbejinfkhbaaDoorTd
namespace Go.Proofs.YtdidbejinfkhbaaDoor
open Go.RowKit
/-- What append leaves of the old row. -/
theorem append_old (w : World) (ty : TypeId) (base : Nat) (g n cap : Nat) (X : List Pt) (hown : Own w base 23 (.slice (some ⟨g, 0, none⟩) n cap) X) (hn : X.length = n) (ad : Addr) (m c : Nat) (Y : List Pt) (hm : m = Y.length) (hnews : ∀ j u, (flatL Y)[j]? = some u → w.cell? (ad.add j) = some u) (hl : X.length + Y.length ≤ 100000) (hbase : base ≤ w.heap.size) :
    ∃ v' w', (Builtin.append_ #[24, 24] ty #[.slice (some ⟨g, 0, none⟩) n cap, .slice (some ad) m c]).run Tryd.prog w = .ok v' w' ∧ Own w' base 23 v' (X ++ Y) ∧ w.grownBy w' (some g) ∧ Row w' (.slice (some ⟨g, 0, none⟩) n cap) X := by
  subst hm hn
  obtain ⟨i, hi, hz0, hz1, hz2⟩ := info_parts infoP
  obtain ⟨v', w', hr, ho, hg, _⟩ := run_append_own (P := Tryd.prog) w base 24 ty 23 i (.agg (two (0, 0))) 2 16 Tryd.underlying24 hi hz0 hz1 hz2 rfl (by decide) _ X.length (flatL X) hown ad Y.length c (flatL Y) (flatL_length Y) hnews (flatL_one Y) (by unfold maxLen; omega) (by omega) hbase
  have ho' : Own w' base 23 v' (X ++ Y) := by unfold Own; rw [List.length_append, flatL_append]; exact ho
  refine ⟨v', w', hr, ho', hg, ?_⟩
  by_cases hroom : X.length + Y.length ≤ cap
  · obtain ⟨w2, hr2, _⟩ := run_append_fits (P := Tryd.prog) w base 24 ty 23 i 2 Tryd.underlying24 hi hz1 g X.length cap (flatL X) hown ad Y.length c (flatL Y) (flatL_length Y) hnews (flatL_one Y) hroom
    obtain ⟨rfl, _⟩ := ok_inj hr hr2
    have k := (ho'.cut (m := X.length) (by omega)).row
    rw [List.take_left' rfl] at k
    exact k
  · have hr2 := run_append_grow (P := Tryd.prog) w 24 ty 23 i _ Tryd.underlying24 hi hz0 ⟨g, 0, none⟩ X.length cap (flatL X) (by rw [flatL_length, hz1]) (fun j u hj => by have := hown.cells (g := g) rfl j u hj; exact this) ad Y.length c (flatL Y) (by rw [flatL_length, hz1]) hnews (by omega) (by omega) (by rw [hz2]; exact growslice_fits (by omega) (by omega))
    obtain ⟨_, rfl⟩ := ok_inj hr hr2
    exact hown.row.on (below_drewN (Below.refl _ _) 1 |>.alloc (Nat.le_refl _) _)
theorem wpList_append_old {w : World} {ops : Array Oper} {rest : List Oper} {o : Oper} {a : Act} {Q : Exit → Act → World → Prop} (hgd : o.guard = none) (s x : Operand)
    (ho : o.op = .call { callee := .builtin .append, args := #[s, x], argTypes := #[24, 24] })
    (base : Nat) (g n cap : Nat) (X : List Pt) (hs : a.eval s = .slice (some ⟨g, 0, none⟩) n cap) (hown : Own w base 23 (.slice (some ⟨g, 0, none⟩) n cap) X) (hn : X.length = n) (ad : Addr) (m c : Nat) (Y : List Pt) (hx : a.eval x = .slice (some ad) m c) (hm : m = Y.length) (hnews : ∀ j u, (flatL Y)[j]? = some u → w.cell? (ad.add j) = some u) (hl : X.length + Y.length ≤ 100000) (hbase : base ≤ w.heap.size)
    (h : ∀ v' w', Own w' base 23 v' (X ++ Y) → w.grownBy w' (some g) → Row w' (.slice (some ⟨g, 0, none⟩) n cap) X → wpList Tryd.prog ops Q rest (a.put o.dst v') w') : wpList Tryd.prog ops Q (o :: rest) a w := by
  refine wpList_plain hgd fun K hK => ?_
  obtain ⟨v', w', hr, h1, h2, h3⟩ := append_old w o.type base g n cap X hown hn ad m c Y hm hnews hl hbase
  unfold Oper.wp
  simp [execOp, ho, resolve, invoke, builtin, hs, hx, hr, Result.andThen]
  exact hK _ _ (h v' w' h1 h2 h3)
theorem compUp_mem (l : List Pt) : ∀ k p, p ∈ compUp l k → p ∈ l
  | 0, p, h => by cases h
  | k + 1, p, h => by
    rw [compUp] at h
    rcases List.mem_append.1 h with h | h
    · exact compUp_mem l k p h
    · split at h
      · cases hq : l[k]? with
        | none => rw [hq] at h; cases h
        | some q =>
          rw [hq] at h
          obtain rfl : p = q := by simpa using h
          exact List.mem_of_getElem? hq
      · cases h
theorem compUp_last (l : List Pt) : ∀ k, 1 ≤ k → k ≤ l.length → (compUp l k).getLast? = l[k - 1]?
  | 0, h, _ => by omega
  | k + 1, _, hl => by
    rw [compUp]
    have hq : ∃ q, l[k]? = some q := ⟨_, List.getElem?_eq_getElem (by omega)⟩
    obtain ⟨q, hq⟩ := hq
    cases hk : keepsB l k with
    | true =>
      rw [if_pos rfl, hq, Nat.add_sub_cancel, hq]
      simp
    | false =>
      have h0 : k ≠ 0 := fun e => by rw [e] at hk; cases hk
      have := compUp_last l k (by omega) (by omega)
      unfold keepsB at hk
      simp [h0] at hk
      simp [this, hk]
theorem compUp_adj (l : List Pt) : ∀ k, k ≤ l.length → ∀ i p q, (compUp l k)[i]? = some p → (compUp l k)[i + 1]? = some q → p ≠ q
  | 0, _, i, p, q, h, _ => by simp [compUp] at h
  | k + 1, hk, i, p, q, h1, h2 => by
    have ih := compUp_adj l k (by omega) i
    obtain ⟨r, hr⟩ : ∃ r, l[k]? = some r := ⟨_, List.getElem?_eq_getElem (by omega)⟩
    rw [compUp] at h1 h2
    cases hkb : keepsB l k with
    | false =>
      rw [hkb] at h1 h2
      simp only [Bool.false_eq_true, if_false, List.append_nil] at h1 h2
      exact ih p q h1 h2
    | true =>
      rw [hkb, if_pos rfl, hr] at h1 h2
      simp only [Option.toList] at h1 h2
      rcases Nat.lt_trichotomy (i + 1) (compUp l k).length with hlt | heq | hgt
      · rw [List.getElem?_append_left (by omega)] at h1 h2
        exact ih p q h1 h2
      · rw [List.getElem?_append_left (by omega)] at h1
        rw [List.getElem?_append_right (by omega), heq, Nat.sub_self] at h2
        obtain rfl : r = q := by simpa using h2
        have hlast : (compUp l k).getLast? = some p := by rw [List.getLast?_eq_getElem?, ← heq, Nat.add_sub_cancel]; exact h1
        have h0 : k ≠ 0 := fun e => by subst e; simp [compUp] at heq
        rw [compUp_last l k (by omega) (by omega)] at hlast
        unfold keepsB at hkb
        rw [hr, hlast] at hkb
        simp [h0] at hkb
        exact fun e => hkb e.symm
      · rw [List.getElem?_append_right (by omega)] at h2
        have : 1 ≤ i + 1 - (compUp l k).length := by omega
        obtain ⟨d, hd⟩ : ∃ d, i + 1 - (compUp l k).length = d + 1 := ⟨i - (compUp l k).length, by omega⟩
        rw [hd] at h2
        simp at h2
theorem apartI_mem {l : List Pt} {cl : Bool} {p : Pt} (h : p ∈ apartI l cl) : p ∈ l := by
  unfold apartI apartF at h
  split at h
  · exact compUp_mem l _ p (List.mem_of_mem_take h)
  · exact compUp_mem l _ p h
theorem apartI_adj (l : List Pt) (cl : Bool) (i : Nat) (p q : Pt) (h1 : (apartI l cl)[i]? = some p) (h2 : (apartI l cl)[i + 1]? = some q) : p ≠ q := by
  unfold apartI apartF at h1 h2
  split at h1
  · rename_i hc
    rw [if_pos hc] at h2
    rw [List.getElem?_take] at h1 h2
    split at h1
    · split at h2
      · exact compUp_adj l _ (Nat.le_refl _) i p q h1 h2
      · cases h2
    · cases h1
  · rename_i hc
    rw [if_neg hc] at h2
    exact compUp_adj l _ (Nat.le_refl _) i p q h1 h2
def capB (c : Int) : Bool := decide (0 ≤ c) && decide (c ≤ 2)
def midL (l : List Pt) : List Pt := (l.drop 1).take (l.length - 2)
/-- What a pen has left of points that are told apart. -/
noncomputable def strokeT (c : List Pt) (cl : Bool) (h cap : Int) : Tr :=
  if c.length = 0 then (0, [])
  else if c.length = 1 then dotT (c.getD 0 (0, 0)) h cap (0, [])
  else if cl then discsT c h c.length (barsT (c ++ [c.getD 0 (0, 0)]) h c.length (0, []))
  else capsT c h cap (discsT (midL c) h (c.length - 2) (barsT c h (c.length - 1) (0, [])))
noncomputable def strokeOut (l : List Pt) (cl : Bool) (h cap : Int) : Int × List (List Pt) := if penB h && capB cap && l.all roomP then toldT (strokeT (apartI l cl) cl h cap) else (30, [])
theorem row_mid {w : World} {b o n c : Nat} {l : List Pt} (h : Row w (.slice (some ⟨b, o, none⟩) n c) l) (hn : l.length = n) (h2 : 2 ≤ n) (c' : Nat) : Row w (.slice (some ⟨b, o + 2, none⟩) (n - 2) c') (midL l) := by
  rcases h with ⟨e, _⟩ | ⟨a, c'', e, rfl⟩ | ⟨b', o', c'', e, hb, hpa⟩
  · cases e
  · simp at hn; omega
  · cases e
    have hl : (midL l).length = l.length - 2 := by unfold midL; rw [List.length_take, List.length_drop]; omega
    refine .inr (.inr ⟨b, o + 2, c', by rw [hl], hb, fun i p hp => ?_⟩)
    have hi : i < l.length - 2 := by rw [← hl]; exact (List.getElem?_eq_some_iff.1 hp).1
    have hq : l[i + 1]? = some p := by
      unfold midL at hp
      rw [List.getElem?_take, if_pos (by omega), List.getElem?_drop, Nat.add_comm] at hp
      exact hp
    have := hpa (i + 1) p hq
    rw [show o + (i + 1) * 2 = o + 2 + i * 2 by omega] at this
    exact this
set_option maxHeartbeats 1000000 in
set_option maxRecDepth 100000 in
theorem stroke_pen (ao : Option Addr) (n c : Nat) (cl : Bool) (h cap : Int) (w : World) (HPEN : Hid (∀ w, Calls Tryd.prog 25 #[.int .i64 h] w fun e w' => e = .returned (.bool false) ∧ w = w')) :
    Calls Tryd.prog 17 #[.agg #[.slice ao n c, .bool cl], .int .i64 h, .int .i64 cap] w (ToldQ w.heap.size w (30, [])) := by
  go_enter Tryd.func17, Tryd.ntmps17
  go_wp2_with fail
  obtain ⟨w0, hw0⟩ : ∃ W, w.alloc (.cells #[.slice ao n c, .bool cl] 39) = W := ⟨_, rfl⟩
  have S0 : Hid (Below w.heap.size w w0 ∧ Blk w0 w.heap.size 39 #[.slice ao n c, .bool cl]) := by
    rw [← hw0]
    exact ⟨(Below.refl _ _).alloc (Nat.le_refl _) _, Blk.new _ _ _⟩
  rw [hw0]
  clear hw0
  refine (HPEN.out _).mono ?_
  rintro e w' ⟨rfl, rfl⟩
  go_wp2_with fail
  go_ret2
  exact ⟨_, [], rfl, Polys.nil _ _ _ _, rfl, S0.out.1⟩
set_option maxHeartbeats 1000000 in
set_option maxRecDepth 100000 in
theorem stroke_cap0 (ao : Option Addr) (n c : Nat) (cl : Bool) (h cap : Int) (w : World) (HPEN : Hid (∀ w, Calls Tryd.prog 25 #[.int .i64 h] w fun e w' => e = .returned (.bool true) ∧ w = w')) (h0 : cap < 0) :
    Calls Tryd.prog 17 #[.agg #[.slice ao n c, .bool cl], .int .i64 h, .int .i64 cap] w (ToldQ w.heap.size w (30, [])) := by
  go_enter Tryd.func17, Tryd.ntmps17
  go_wp2_with fail
  obtain ⟨w0, hw0⟩ : ∃ W, w.alloc (.cells #[.slice ao n c, .bool cl] 39) = W := ⟨_, rfl⟩
  have S0 : Hid (Below w.heap.size w w0 ∧ Blk w0 w.heap.size 39 #[.slice ao n c, .bool cl]) := by
    rw [← hw0]
    exact ⟨(Below.refl _ _).alloc (Nat.le_refl _) _, Blk.new _ _ _⟩
  rw [hw0]
  clear hw0
  refine (HPEN.out _).mono ?_
  rintro e w' ⟨rfl, rfl⟩
  go_wp2_with fail
  go_ret2
  exact ⟨_, [], rfl, Polys.nil _ _ _ _, rfl, S0.out.1⟩
set_option maxHeartbeats 1000000 in
set_option maxRecDepth 100000 in
theorem stroke_cap3 (ao : Option Addr) (n c : Nat) (cl : Bool) (h cap : Int) (w : World) (HPEN : Hid (∀ w, Calls Tryd.prog 25 #[.int .i64 h] w fun e w' => e = .returned (.bool true) ∧ w = w')) (h0 : ¬ cap < 0) (h3 : cap > 2) :
    Calls Tryd.prog 17 #[.agg #[.slice ao n c, .bool cl], .int .i64 h, .int .i64 cap] w (ToldQ w.heap.size w (30, [])) := by
  go_enter Tryd.func17, Tryd.ntmps17
  go_wp2_with fail
  obtain ⟨w0, hw0⟩ : ∃ W, w.alloc (.cells #[.slice ao n c, .bool cl] 39) = W := ⟨_, rfl⟩
  have S0 : Hid (Below w.heap.size w w0 ∧ Blk w0 w.heap.size 39 #[.slice ao n c, .bool cl]) := by
    rw [← hw0]
    exact ⟨(Below.refl _ _).alloc (Nat.le_refl _) _, Blk.new _ _ _⟩
  rw [hw0]
  clear hw0
  refine (HPEN.out _).mono ?_
  rintro e w' ⟨rfl, rfl⟩
  go_wp2_with fail
  go_ret2
  exact ⟨_, [], rfl, Polys.nil _ _ _ _, rfl, S0.out.1⟩
set_option maxHeartbeats 1000000 in
set_option maxRecDepth 100000 in
theorem stroke_all (ao : Option Addr) (n c : Nat) (cl : Bool) (h cap : Int) (w : World) (HPEN : Hid (∀ w, Calls Tryd.prog 25 #[.int .i64 h] w fun e w' => e = .returned (.bool true) ∧ w = w')) (h0 : ¬ cap < 0) (h3 : ¬ cap > 2) (HALL : Hid (∀ w', Below w.heap.size w w' → Calls Tryd.prog 35 #[.slice ao n c] w' fun e w'' => e = .returned (.bool false) ∧ Below w'.heap.size w' w'')) :
    Calls Tryd.prog 17 #[.agg #[.slice ao n c, .bool cl], .int .i64 h, .int .i64 cap] w (ToldQ w.heap.size w (30, [])) := by
  go_enter Tryd.func17, Tryd.ntmps17
  go_wp2_with fail
  obtain ⟨w0, hw0⟩ : ∃ W, w.alloc (.cells #[.slice ao n c, .bool cl] 39) = W := ⟨_, rfl⟩
  have S0 : Hid (Below w.heap.size w w0 ∧ Blk w0 w.heap.size 39 #[.slice ao n c, .bool cl]) := by
    rw [← hw0]
    exact ⟨(Below.refl _ _).alloc (Nat.le_refl _) _, Blk.new _ _ _⟩
  rw [hw0]
  clear hw0
  refine (HPEN.out _).mono ?_
  rintro e w' ⟨rfl, rfl⟩
  have k0 := S0.out.2.cell 0
  simp only [List.getElem?_toArray, List.getElem?_cons_zero] at k0
  go_wp2_with fail
  refine (HALL.out _ S0.out.1).mono ?_
  rintro e w1 ⟨rfl, hb⟩
  have S1 : Hid (Below w.heap.size w w1 ∧ Blk w1 w.heap.size 39 #[.slice ao n c, .bool cl]) := ⟨S0.out.1.trans (hb.mono S0.out.1.size), S0.out.2.grow hb⟩
  clear hb k0 S0
  go_wp2_with fail
  go_ret2
  exact ⟨_, [], rfl, Polys.nil _ _ _ _, rfl, S1.out.1⟩
set_option maxHeartbeats 4000000 in
set_option maxRecDepth 100000 in
theorem stroke_none (ao : Option Addr) (n c : Nat) (cl : Bool) (h cap : Int) (w : World) (q : List Pt) (HPEN : Hid (∀ w, Calls Tryd.prog 25 #[.int .i64 h] w fun e w' => e = .returned (.bool true) ∧ w = w')) (h0 : ¬ cap < 0) (h3 : ¬ cap > 2) (HALL : Hid (∀ w', Below w.heap.size w w' → Calls Tryd.prog 35 #[.slice ao n c] w' fun e w'' => e = .returned (.bool true) ∧ Below w'.heap.size w' w'')) (HAP : Hid (∀ w', Below w.heap.size w w' → Calls Tryd.prog 36 #[.agg #[.slice ao n c, .bool cl]] w' fun e w'' => ∃ v, e = .returned v ∧ Own w'' w'.heap.size 23 v q ∧ Below w'.heap.size w' w'')) (hq : q = []) :
    Calls Tryd.prog 17 #[.agg #[.slice ao n c, .bool cl], .int .i64 h, .int .i64 cap] w (ToldQ w.heap.size w (0, [])) := by
  go_enter Tryd.func17, Tryd.ntmps17
  go_wp2_with fail
  obtain ⟨w0, hw0⟩ : ∃ W, w.alloc (.cells #[.slice ao n c, .bool cl] 39) = W := ⟨_, rfl⟩
  have S0 : Hid (Below w.heap.size w w0 ∧ Blk w0 w.heap.size 39 #[.slice ao n c, .bool cl]) := by
    rw [← hw0]
    exact ⟨(Below.refl _ _).alloc (Nat.le_refl _) _, Blk.new _ _ _⟩
  rw [hw0]
  clear hw0
  refine (HPEN.out _).mono ?_
  rintro e w' ⟨rfl, rfl⟩
  have k0 := S0.out.2.cell 0
  simp only [List.getElem?_toArray, List.getElem?_cons_zero] at k0
  go_wp2_with fail
  refine (HALL.out _ S0.out.1).mono ?_
  rintro e w1 ⟨rfl, hb⟩
  have S1 : Hid (Below w.heap.size w w1 ∧ Blk w1 w.heap.size 39 #[.slice ao n c, .bool cl]) := ⟨S0.out.1.trans (hb.mono S0.out.1.size), S0.out.2.grow hb⟩
  clear hb k0 S0
  have k0 := S1.out.2.cell 0
  have k1 := S1.out.2.cell 1
  simp only [List.getElem?_toArray, List.getElem?_cons_zero, List.getElem?_cons_succ] at k0 k1
  go_wp2_with fail
  refine (HAP.out _ S1.out.1).mono ?_
  rintro e w2 ⟨v2, rfl, ho2, hb⟩
  have S2 : Hid (Below w.heap.size w w2 ∧ Blk w2 w.heap.size 39 #[.slice ao n c, .bool cl] ∧ Own w2 w.heap.size 23 v2 q) := ⟨S1.out.1.trans (hb.mono S1.out.1.size), S1.out.2.grow hb, ho2.base S1.out.1.size⟩
  clear hb k0 k1 S1 ho2
  obtain ⟨ae, ce, rfl⟩ : ∃ a c, v2 = .slice a 0 c := by
    rcases own_some S2.out.2.2 with ⟨e, _⟩ | ⟨g, cp, e⟩
    · exact ⟨_, _, e⟩
    · rw [hq] at e; exact ⟨_, _, e⟩
  clear hq
  go_wp2_with fail
  go_ret2
  exact ⟨_, [], rfl, Polys.nil _ _ _ _, rfl, S2.out.1.alloc S2.out.1.size _⟩
set_option maxHeartbeats 4000000 in
set_option maxRecDepth 100000 in
theorem stroke_dot (ao : Option Addr) (n c : Nat) (cl : Bool) (h cap : Int) (w : World) (q : List Pt) (HPEN : Hid (∀ w, Calls Tryd.prog 25 #[.int .i64 h] w fun e w' => e = .returned (.bool true) ∧ w = w')) (h0 : ¬ cap < 0) (h3 : ¬ cap > 2) (HALL : Hid (∀ w', Below w.heap.size w w' → Calls Tryd.prog 35 #[.slice ao n c] w' fun e w'' => e = .returned (.bool true) ∧ Below w'.heap.size w' w'')) (HAP : Hid (∀ w', Below w.heap.size w w' → Calls Tryd.prog 36 #[.agg #[.slice ao n c, .bool cl]] w' fun e w'' => ∃ v, e = .returned v ∧ Own w'' w'.heap.size 23 v q ∧ Below w'.heap.size w' w'')) (p : Pt) (hp : q[0]? = some p) (hm : q.length = 1) (HDOT : Hid (∀ g u w', TraceAt w' w.heap.size g u (0, []) → Below w.heap.size w w' → Calls Tryd.prog 37 #[.pointer (some ⟨g, 0, none⟩), .agg #[.int .i64 p.1, .int .i64 p.2], .int .i64 h, .int .i64 cap] w' (TrPost g w.heap.size u w' (dotT p h cap (0, []))))) :
    Calls Tryd.prog 17 #[.agg #[.slice ao n c, .bool cl], .int .i64 h, .int .i64 cap] w (ToldQ w.heap.size w (toldT (dotT p h cap (0, [])))) := by
  go_enter Tryd.func17, Tryd.ntmps17
  go_wp2_with fail
  obtain ⟨w0, hw0⟩ : ∃ W, w.alloc (.cells #[.slice ao n c, .bool cl] 39) = W := ⟨_, rfl⟩
  have S0 : Hid (Below w.heap.size w w0 ∧ Blk w0 w.heap.size 39 #[.slice ao n c, .bool cl]) := by
    rw [← hw0]
    exact ⟨(Below.refl _ _).alloc (Nat.le_refl _) _, Blk.new _ _ _⟩
  rw [hw0]
  clear hw0
  refine (HPEN.out _).mono ?_
  rintro e w' ⟨rfl, rfl⟩
  have k0 := S0.out.2.cell 0
  simp only [List.getElem?_toArray, List.getElem?_cons_zero] at k0
  go_wp2_with fail
  refine (HALL.out _ S0.out.1).mono ?_
  rintro e w1 ⟨rfl, hb⟩
  have S1 : Hid (Below w.heap.size w w1 ∧ Blk w1 w.heap.size 39 #[.slice ao n c, .bool cl]) := ⟨S0.out.1.trans (hb.mono S0.out.1.size), S0.out.2.grow hb⟩
  clear hb k0 S0
  have k0 := S1.out.2.cell 0
  have k1 := S1.out.2.cell 1
  simp only [List.getElem?_toArray, List.getElem?_cons_zero, List.getElem?_cons_succ] at k0 k1
  go_wp2_with fail
  refine (HAP.out _ S1.out.1).mono ?_
  rintro e w2 ⟨v2, rfl, ho2, hb⟩
  have S2 : Hid (Below w.heap.size w w2 ∧ Blk w2 w.heap.size 39 #[.slice ao n c, .bool cl] ∧ Own w2 w.heap.size 23 v2 q) := ⟨S1.out.1.trans (hb.mono S1.out.1.size), S1.out.2.grow hb, ho2.base S1.out.1.size⟩
  clear hb k0 k1 S1 ho2
  obtain ⟨b, cp, hv⟩ : ∃ b cp, v2 = .slice (some ⟨b, 0, none⟩) q.length cp := by
    rcases own_some S2.out.2.2 with ⟨_, e⟩ | ⟨g, cp, e⟩
    · rw [e] at hm; simp at hm
    · exact ⟨_, _, e⟩
  subst hv
  rw [hm] at S2 ⊢
  have HM := Lib.hid hm
  clear hm
  obtain ⟨m, hm1⟩ : ∃ m, m = 1 := ⟨_, rfl⟩
  obtain ⟨c0, c1⟩ := S2.out.2.2.pts (HM.out) hp
  rw [Nat.zero_mul] at c0 c1
  simp only [Nat.zero_add] at c1
  have lb := (own_cap S2.out.2.2).2.2.1
  rw [← hm1] at S2
  go_wp2_with fail
  clear c0 c1 lb
  obtain ⟨g, hg⟩ : ∃ g, w2.heap.size = g := ⟨_, rfl⟩
  obtain ⟨w3, hw3⟩ : ∃ W, w2.alloc (.cells #[.slice none 0 0, .int .i64 0] 67) = W := ⟨_, rfl⟩
  have A3 : Hid (Below w2.heap.size w2 w3) := by rw [← hw3]; exact (Below.refl _ _).alloc (Nat.le_refl _) _
  have T3 : Hid (TraceAt w3 w.heap.size g (.slice none 0 0) (0, [])) := ⟨by rw [← hw3]; exact Blk.newAt _ _ _ hg, [], Polys.nil _ _ _ _, rfl⟩
  have S3 : Hid (Below w.heap.size w w3 ∧ Blk w3 w.heap.size 39 #[.slice ao n c, .bool cl] ∧ Own w3 w.heap.size 23 (.slice (some ⟨b, 0, none⟩) m cp) q) := ⟨S2.out.1.trans (A3.out.mono S2.out.1.size), S2.out.2.1.grow A3.out, S2.out.2.2.grow A3.out⟩
  have G3 : Hid (w.heap.size ≤ g ∧ b ≠ g ∧ w.heap.size ≠ g) := ⟨hg ▸ S2.out.1.size, by have := (own_cap S2.out.2.2).2.2.1; omega, by have := S2.out.2.1.lt; omega⟩
  rw [hw3, hg]
  clear hw3 hg S2
  rw [hm1] at S3
  have HD := Lib.hid (HDOT.out g _ w3 T3.out S3.out.1)
  clear hp hm1
  refine HD.out.mono ?_
  rintro e w4 ⟨rfl, u4, hT4, hG4⟩
  have T4 := Lib.hid hT4
  have B4 : Hid (Below w.heap.size w w4) := S3.out.1.trans (hG4.below T3.out G3.out.1 S3.out.1.size)
  clear hT4 hG4
  have HTO := Lib.hid (told_c g w.heap.size _ _ _ T4.out)
  go_wp2_with fail
  refine HTO.out.mono ?_
  rintro e w9 ⟨v9, S9, rfl, p9, e9, b9⟩
  have P9 := Lib.hid (show _ ∧ _ ∧ _ from ⟨p9, e9, b9⟩)
  obtain ⟨a9, n9, c9, rfl⟩ : ∃ a n c, v9 = .slice a n c := by obtain ⟨b2, cap2, hv2⟩ := polys_shape p9; exact ⟨_, _, _, hv2⟩
  clear p9 e9 b9
  go_wp2_with fail
  go_ret2
  exact ⟨_, S9, rfl, P9.out.1, P9.out.2.1, B4.out.trans (P9.out.2.2.mono B4.out.size)⟩
set_option maxHeartbeats 4000000 in
set_option maxRecDepth 100000 in
theorem stroke_open (ao : Option Addr) (n c : Nat) (h cap : Int) (w : World) (q : List Pt) (HPEN : Hid (∀ w, Calls Tryd.prog 25 #[.int .i64 h] w fun e w' => e = .returned (.bool true) ∧ w = w')) (h0 : ¬ cap < 0) (h3 : ¬ cap > 2) (HALL : Hid (∀ w', Below w.heap.size w w' → Calls Tryd.prog 35 #[.slice ao n c] w' fun e w'' => e = .returned (.bool true) ∧ Below w'.heap.size w' w'')) (HAP : Hid (∀ w', Below w.heap.size w w' → Calls Tryd.prog 36 #[.agg #[.slice ao n c, .bool false]] w' fun e w'' => ∃ v, e = .returned v ∧ Own w'' w'.heap.size 23 v q ∧ Below w'.heap.size w' w'')) (j : Nat) (hm : q.length = j + 2) (hj : j ≤ 200) (HR : Hid (Rd w)) (HCAPS : Hid (∀ g b cp u st w', TraceAt w' w.heap.size g u st → Row w' (.slice (some ⟨b, 0, none⟩) (j + 2) cp) q → (b ≠ g ∧ u.ownBlock ≠ some b) → Below w.heap.size w w' → w.heap.size ≤ g → st.2.length ≤ 900 → Calls Tryd.prog 40 #[.pointer (some ⟨g, 0, none⟩), .slice (some ⟨b, 0, none⟩) (j + 2) cp, .int .i64 h, .int .i64 cap] w' (TrPost g w.heap.size u w' (capsT q h cap st)))) :
    Calls Tryd.prog 17 #[.agg #[.slice ao n c, .bool false], .int .i64 h, .int .i64 cap] w (ToldQ w.heap.size w (toldT (capsT q h cap (discsT (midL q) h j (barsT q h (j + 1) (0, [])))))) := by
  go_enter Tryd.func17, Tryd.ntmps17
  go_wp2_with fail
  obtain ⟨w0, hw0⟩ : ∃ W, w.alloc (.cells #[.slice ao n c, .bool false] 39) = W := ⟨_, rfl⟩
  have S0 : Hid (Below w.heap.size w w0 ∧ Blk w0 w.heap.size 39 #[.slice ao n c, .bool false]) := by
    rw [← hw0]
    exact ⟨(Below.refl _ _).alloc (Nat.le_refl _) _, Blk.new _ _ _⟩
  rw [hw0]
  clear hw0
  refine (HPEN.out _).mono ?_
  rintro e w' ⟨rfl, rfl⟩
  have k0 := S0.out.2.cell 0
  simp only [List.getElem?_toArray, List.getElem?_cons_zero] at k0
  go_wp2_with fail
  refine (HALL.out _ S0.out.1).mono ?_
  rintro e w1 ⟨rfl, hb⟩
  have S1 : Hid (Below w.heap.size w w1 ∧ Blk w1 w.heap.size 39 #[.slice ao n c, .bool false]) := ⟨S0.out.1.trans (hb.mono S0.out.1.size), S0.out.2.grow hb⟩
  clear hb k0 S0
  have k0 := S1.out.2.cell 0
  have k1 := S1.out.2.cell 1
  simp only [List.getElem?_toArray, List.getElem?_cons_zero, List.getElem?_cons_succ] at k0 k1
  go_wp2_with fail
  refine (HAP.out _ S1.out.1).mono ?_
  rintro e w2 ⟨v2, rfl, ho2, hb⟩
  have S2 : Hid (Below w.heap.size w w2 ∧ Blk w2 w.heap.size 39 #[.slice ao n c, .bool false] ∧ Own w2 w.heap.size 23 v2 q) := ⟨S1.out.1.trans (hb.mono S1.out.1.size), S1.out.2.grow hb, ho2.base S1.out.1.size⟩
  clear hb k0 k1 S1 ho2
  obtain ⟨b, cp, hv⟩ : ∃ b cp, v2 = .slice (some ⟨b, 0, none⟩) q.length cp := by
    rcases own_some S2.out.2.2 with ⟨_, e⟩ | ⟨g, cp, e⟩
    · rw [e] at hm; simp at hm
    · exact ⟨_, _, e⟩
  subst hv
  rw [hm] at S2 ⊢
  have HM := Lib.hid hm
  clear hm
  have k1 := S2.out.2.1.cell 1
  have lk := S2.out.2.1.lt
  simp only [List.getElem?_toArray, List.getElem?_cons_zero, List.getElem?_cons_succ] at k1
  have hcp := (own_cap S2.out.2.2).1
  go_wp2_with fail
  clear k1 lk
  obtain ⟨g, hg⟩ : ∃ g, w2.heap.size = g := ⟨_, rfl⟩
  obtain ⟨w3, hw3⟩ : ∃ W, w2.alloc (.cells #[.slice none 0 0, .int .i64 0] 67) = W := ⟨_, rfl⟩
  have A3 : Hid (Below w2.heap.size w2 w3) := by rw [← hw3]; exact (Below.refl _ _).alloc (Nat.le_refl _) _
  have T3 : Hid (TraceAt w3 w.heap.size g (.slice none 0 0) (0, [])) := ⟨by rw [← hw3]; exact Blk.newAt _ _ _ hg, [], Polys.nil _ _ _ _, rfl⟩
  have S3 : Hid (Below w.heap.size w w3 ∧ Blk w3 w.heap.size 39 #[.slice ao n c, .bool false] ∧ Own w3 w.heap.size 23 (.slice (some ⟨b, 0, none⟩) (j + 2) cp) q) := ⟨S2.out.1.trans (A3.out.mono S2.out.1.size), S2.out.2.1.grow A3.out, S2.out.2.2.grow A3.out⟩
  have G3 : Hid (w.heap.size ≤ g ∧ b ≠ g ∧ w.heap.size ≠ g) := ⟨hg ▸ S2.out.1.size, by have := (own_cap S2.out.2.2).2.2.1; omega, by have := S2.out.2.1.lt; omega⟩
  rw [hw3, hg]
  clear hw3 hg S2
  have R3 : Hid (Row w3 (.slice (some ⟨b, 0, none⟩) (j + 2) cp) q) := by have := S3.out.2.2.row; exact this
  have HB := Lib.hid (bars_some g w.heap.size (.slice none 0 0) b 0 (j + 1) cp q h (0, []) w3 T3.out R3.out HM.out (by omega) (by omega) ⟨G3.out.2.1, by simp [Value.ownBlock]⟩ G3.out.1 S3.out.1.size (by rw [HM.out]; simp; omega))
  refine HB.out.mono ?_
  rintro e w4 ⟨rfl, u4, hT4, hG4⟩
  have T4 : Hid (TraceAt w4 w.heap.size g u4 (barsT q h (j + 1) (0, []))) := hT4
  have B4 : Hid (Below w.heap.size w w4) := S3.out.1.trans (hG4.below T3.out G3.out.1 S3.out.1.size)
  have R4 : Hid (Row w4 (.slice (some ⟨b, 0, none⟩) (j + 2) cp) q) := R3.out.keep hG4.keep (fun k hk => by simp [Value.ownBlock] at hk ⊢; subst hk; exact G3.out.2.1)
  have N4 : Hid (u4.ownBlock ≠ some b) := by
    rcases hG4.moved with e | ⟨k, e, hk⟩
    · unfold Hid; rw [e]; simp [Value.ownBlock]
    · unfold Hid; rw [e]; intro e2; simp at e2; have := (own_cap S3.out.2.2).2.2.1; omega
  have B43 : Hid (w3.heap.size ≤ w4.heap.size) := hG4.keep.size
  have G4 := Lib.hid hG4
  clear hT4 hG4
  have HL4 : Hid ((barsT q h (j + 1) (0, [])).2.length ≤ 600) := by have := barsT_len q h (j + 1) (0, []); unfold Hid; simp at this; omega
  have HD := Lib.hid (discs_c g w.heap.size u4 (.slice (some ⟨b, 2, none⟩) j (cp - 1)) (midL q) h _ w4 T4.out (by have := row_mid R4.out HM.out (by omega) (cp - 1); exact this) (fun k hk => by simp [Value.ownBlock] at hk; subst hk; exact ⟨G3.out.2.1, N4.out⟩)
    (HR.out.on B4.out) HR.out.lt G3.out.1 B4.out.size (by have := HL4.out; have : (midL q).length = j := by { unfold midL; rw [List.length_take, List.length_drop, HM.out]; omega }; omega))
  rw [show (midL q).length = j by unfold midL; rw [List.length_take, List.length_drop, HM.out]; omega] at HD
  go_wp2_with fail
  refine HD.out.mono ?_
  rintro e w5 ⟨rfl, u5, hT5, hG5⟩
  have T5 : Hid (TraceAt w5 w.heap.size g u5 (discsT (midL q) h j (barsT q h (j + 1) (0, [])))) := hT5
  have B5 : Hid (Below w.heap.size w w5) := B4.out.trans (hG5.below T4.out G3.out.1 B4.out.size)
  have R5 : Hid (Row w5 (.slice (some ⟨b, 0, none⟩) (j + 2) cp) q) := R4.out.keep hG5.keep (fun k hk => by simp [Value.ownBlock] at hk; subst hk; exact ⟨G3.out.2.1, N4.out⟩)
  have N5 : Hid (u5.ownBlock ≠ some b) := by
    rcases hG5.moved with e | ⟨k, e, hk⟩
    · unfold Hid; rw [e]; exact N4.out
    · unfold Hid; rw [e]; intro e2; simp at e2; have := (own_cap S3.out.2.2).2.2.1; have := B43.out; omega
  clear hT5 hG5
  have HL5 : Hid ((discsT (midL q) h j (barsT q h (j + 1) (0, []))).2.length ≤ 900) := by have := discsT_len (midL q) h j (barsT q h (j + 1) (0, [])); have := HL4.out; unfold Hid; omega
  have HC := Lib.hid (HCAPS.out g b cp u5 _ w5 T5.out R5.out ⟨G3.out.2.1, N5.out⟩ B5.out G3.out.1 HL5.out)
  go_wp2_with fail
  refine HC.out.mono ?_
  rintro e w6 ⟨rfl, u6, hT6, hG6⟩
  have T6 := Lib.hid hT6
  have B6 : Hid (Below w.heap.size w w6) := B5.out.trans (hG6.below T5.out G3.out.1 B5.out.size)
  clear hT6 hG6
  have HTO := Lib.hid (told_c g w.heap.size _ _ _ T6.out)
  go_wp2_with fail
  refine HTO.out.mono ?_
  rintro e w9 ⟨v9, S9, rfl, p9, e9, b9⟩
  have P9 := Lib.hid (show _ ∧ _ ∧ _ from ⟨p9, e9, b9⟩)
  obtain ⟨a9, n9, c9, rfl⟩ : ∃ a n c, v9 = .slice a n c := by obtain ⟨b2, cap2, hv2⟩ := polys_shape p9; exact ⟨_, _, _, hv2⟩
  clear p9 e9 b9
  go_wp2_with fail
  go_ret2
  exact ⟨_, S9, rfl, P9.out.1, P9.out.2.1, B6.out.trans (P9.out.2.2.mono B6.out.size)⟩
set_option maxHeartbeats 4000000 in
set_option maxRecDepth 100000 in
theorem stroke_closed (ao : Option Addr) (n c : Nat) (h cap : Int) (w : World) (q : List Pt) (HPEN : Hid (∀ w, Calls Tryd.prog 25 #[.int .i64 h] w fun e w' => e = .returned (.bool true) ∧ w = w')) (h0 : ¬ cap < 0) (h3 : ¬ cap > 2) (HALL : Hid (∀ w', Below w.heap.size w w' → Calls Tryd.prog 35 #[.slice ao n c] w' fun e w'' => e = .returned (.bool true) ∧ Below w'.heap.size w' w'')) (HAP : Hid (∀ w', Below w.heap.size w w' → Calls Tryd.prog 36 #[.agg #[.slice ao n c, .bool true]] w' fun e w'' => ∃ v, e = .returned v ∧ Own w'' w'.heap.size 23 v q ∧ Below w'.heap.size w' w'')) (j : Nat) (p : Pt) (hm : q.length = j + 2) (hj : j ≤ 200) (hp : q[0]? = some p) (HR : Hid (Rd w)) :
    Calls Tryd.prog 17 #[.agg #[.slice ao n c, .bool true], .int .i64 h, .int .i64 cap] w (ToldQ w.heap.size w (toldT (discsT q h (j + 2) (barsT (q ++ [p]) h (j + 2) (0, []))))) := by
  go_enter Tryd.func17, Tryd.ntmps17
  go_wp2_with fail
  obtain ⟨w0, hw0⟩ : ∃ W, w.alloc (.cells #[.slice ao n c, .bool true] 39) = W := ⟨_, rfl⟩
  have S0 : Hid (Below w.heap.size w w0 ∧ Blk w0 w.heap.size 39 #[.slice ao n c, .bool true]) := by
    rw [← hw0]
    exact ⟨(Below.refl _ _).alloc (Nat.le_refl _) _, Blk.new _ _ _⟩
  rw [hw0]
  clear hw0
  refine (HPEN.out _).mono ?_
  rintro e w' ⟨rfl, rfl⟩
  have k0 := S0.out.2.cell 0
  simp only [List.getElem?_toArray, List.getElem?_cons_zero] at k0
  go_wp2_with fail
  refine (HALL.out _ S0.out.1).mono ?_
  rintro e w1 ⟨rfl, hb⟩
  have S1 : Hid (Below w.heap.size w w1 ∧ Blk w1 w.heap.size 39 #[.slice ao n c, .bool true]) := ⟨S0.out.1.trans (hb.mono S0.out.1.size), S0.out.2.grow hb⟩
  clear hb k0 S0
  have k0 := S1.out.2.cell 0
  have k1 := S1.out.2.cell 1
  simp only [List.getElem?_toArray, List.getElem?_cons_zero, List.getElem?_cons_succ] at k0 k1
  go_wp2_with fail
  refine (HAP.out _ S1.out.1).mono ?_
  rintro e w2 ⟨v2, rfl, ho2, hb⟩
  have S2 : Hid (Below w.heap.size w w2 ∧ Blk w2 w.heap.size 39 #[.slice ao n c, .bool true] ∧ Own w2 w.heap.size 23 v2 q) := ⟨S1.out.1.trans (hb.mono S1.out.1.size), S1.out.2.grow hb, ho2.base S1.out.1.size⟩
  clear hb k0 k1 S1 ho2
  obtain ⟨b, cp, hv⟩ : ∃ b cp, v2 = .slice (some ⟨b, 0, none⟩) q.length cp := by
    rcases own_some S2.out.2.2 with ⟨_, e⟩ | ⟨g, cp, e⟩
    · rw [e] at hm; simp at hm
    · exact ⟨_, _, e⟩
  subst hv
  rw [hm] at S2 ⊢
  have HM := Lib.hid hm
  clear hm
  have k1 := S2.out.2.1.cell 1
  have lk := S2.out.2.1.lt
  simp only [List.getElem?_toArray, List.getElem?_cons_zero, List.getElem?_cons_succ] at k1
  have hcp := (own_cap S2.out.2.2).1
  have lb := (own_cap S2.out.2.2).2.2.1
  obtain ⟨c0, c1⟩ := S2.out.2.2.pts HM.out hp
  rw [Nat.zero_mul] at c0 c1
  simp only [Nat.zero_add] at c1
  have AW : Hid (Below w2.heap.size w2 ((w2.alloc (.cells #[.slice none 0 0, .int .i64 0] 67)).alloc (.cells #[.int .i64 p.1, .int .i64 p.2] 23))) := ((Below.refl _ _).alloc (Nat.le_refl _) _).alloc (by simp) _
  have HOW : Hid (Own ((w2.alloc (.cells #[.slice none 0 0, .int .i64 0] 67)).alloc (.cells #[.int .i64 p.1, .int .i64 p.2] 23)) w.heap.size 23 (.slice (some ⟨b, 0, none⟩) (j + 2) cp) q) := S2.out.2.2.grow AW.out
  have HBG : Hid (Blk ((w2.alloc (.cells #[.slice none 0 0, .int .i64 0] 67)).alloc (.cells #[.int .i64 p.1, .int .i64 p.2] 23)) w2.heap.size 67 #[.slice none 0 0, .int .i64 0]) := (Blk.new _ _ _).alloc _
  have HNW : Hid (Blk ((w2.alloc (.cells #[.slice none 0 0, .int .i64 0] 67)).alloc (.cells #[.int .i64 p.1, .int .i64 p.2] 23)) (w2.heap.size + 1) 23 #[.int .i64 p.1, .int .i64 p.2]) := Blk.newAt _ _ _ (by simp)
  have HN1 : Hid (∀ k u, (flatL [p])[k]? = some u → ((w2.alloc (.cells #[.slice none 0 0, .int .i64 0] 67)).alloc (.cells #[.int .i64 p.1, .int .i64 p.2] 23)).cell? ((⟨w2.heap.size + 1, 0, none⟩ : Addr).add k) = some u) := fun k u hk => by
    rw [Addr.add_lit, Nat.zero_add, HNW.out.cell k]
    simpa [flatL] using hk
  have HN2 : Hid (q.length + [p].length ≤ 100000) := by unfold Hid; rw [HM.out]; simp; omega
  have HN3 : Hid (w.heap.size ≤ ((w2.alloc (.cells #[.slice none 0 0, .int .i64 0] 67)).alloc (.cells #[.int .i64 p.1, .int .i64 p.2] 23)).heap.size) := Nat.le_trans S2.out.1.size AW.out.size
  have HP := Lib.hid hp
  clear hp
  go_wp2_with (at_builtin; refine wpList_append_old rfl _ _ rfl w.heap.size b (j + 2) cp q rfl HOW.out HM.out ⟨w2.heap.size + 1, 0, none⟩ 1 1 [p] rfl rfl HN1.out HN2.out HN3.out ?_)
  intro v4 w4 hown hgrow hrow
  obtain ⟨g, hg⟩ : ∃ g, w2.heap.size = g := ⟨_, rfl⟩
  have K24 : Hid (Keep (fun k => k ≠ b) w2 w4) := (Keep.of_below AW.out).trans ((Keep.of_grown hgrow).mono fun k hk e => hk (by simpa using e.symm))
  have B4 : Hid (Below w.heap.size w w4) := S2.out.1.trans (K24.out.below (fun k hk e => by have := (own_cap S2.out.2.2).2.2.2.1; omega) S2.out.1.size)
  have G3 : Hid (w.heap.size ≤ g ∧ b ≠ g) := ⟨hg ▸ S2.out.1.size, by have := (own_cap S2.out.2.2).2.2.1; omega⟩
  have T4 : Hid (TraceAt w4 w.heap.size g (.slice none 0 0) (0, [])) := ⟨by have := (Keep.of_grown hgrow).blk HBG.out (fun e => by simp at e; have := G3.out.2; omega); rw [hg] at this; exact this, [], Polys.nil _ _ _ _, rfl⟩
  have KC : Hid (Blk w4 w.heap.size 39 #[.slice ao n c, .bool true]) := K24.out.blk S2.out.2.1 (fun e => owns_off S2.out.2.2 S2.out.2.1 (by decide) (by rw [e]; rfl))
  have O4 := Lib.hid hown
  have R4 := Lib.hid hrow
  have ML : Hid ((q ++ [p]).length = j + 2 + 1) := by unfold Hid; rw [List.length_append, HM.out]; rfl
  rw [hg]
  clear hown hgrow hrow k1 lk c0 c1 lb hcp
  obtain ⟨b4, c4, rfl⟩ : ∃ b4 c4, v4 = .slice (some ⟨b4, 0, none⟩) (j + 2 + 1) c4 := by
    rcases own_some O4.out with ⟨_, e⟩ | ⟨b4, c4, e⟩
    · simp at e
    · rw [ML.out] at e; exact ⟨_, _, e⟩
  have G4 : Hid (b4 ≠ g) := fun e => owns_off O4.out T4.out.blk (by decide) (by rw [e]; rfl)
  have hc4 := (own_cap O4.out).1
  have HB := Lib.hid (bars_some g w.heap.size (.slice none 0 0) b4 0 (j + 2) c4 (q ++ [p]) h (0, []) w4 T4.out O4.out.row ML.out hc4 (by omega) ⟨G4.out, by simp [Value.ownBlock]⟩ G3.out.1 B4.out.size (by rw [ML.out]; simp; omega))
  go_wp2_with fail
  refine HB.out.mono ?_
  rintro e w5 ⟨rfl, u5, hT5, hG5⟩
  have T5 : Hid (TraceAt w5 w.heap.size g u5 (barsT (q ++ [p]) h (j + 2) (0, []))) := hT5
  have B5 : Hid (Below w.heap.size w w5) := B4.out.trans (hG5.below T4.out G3.out.1 B4.out.size)
  have R5 : Hid (Row w5 (.slice (some ⟨b, 0, none⟩) (j + 2) cp) q) := R4.out.keep hG5.keep (fun k hk => by simp [Value.ownBlock] at hk ⊢; subst hk; exact G3.out.2)
  have N5 : Hid (u5.ownBlock ≠ some b) := by
    rcases hG5.moved with e | ⟨k, e, hk⟩
    · unfold Hid; rw [e]; simp [Value.ownBlock]
    · unfold Hid; rw [e]; intro e2; simp at e2; have := R4.out.lt (fun e => by have := HM.out; rw [e] at this; simp at this) b rfl; omega
  clear hT5 hG5 hc4
  have HL5 : Hid ((barsT (q ++ [p]) h (j + 2) (0, [])).2.length ≤ 600) := by have := barsT_len (q ++ [p]) h (j + 2) (0, []); unfold Hid; simp at this; omega
  have HD := Lib.hid (discs_c g w.heap.size u5 (.slice (some ⟨b, 0, none⟩) (j + 2) cp) q h _ w5 T5.out R5.out (fun k hk => by simp [Value.ownBlock] at hk; subst hk; exact ⟨G3.out.2, N5.out⟩)
    (HR.out.on B5.out) HR.out.lt G3.out.1 B5.out.size (by have := HL5.out; rw [HM.out]; omega))
  rw [HM.out] at HD
  go_wp2_with fail
  refine HD.out.mono ?_
  rintro e w6 ⟨rfl, u6, hT6, hG6⟩
  have T6 := Lib.hid hT6
  have B6 : Hid (Below w.heap.size w w6) := B5.out.trans (hG6.below T5.out G3.out.1 B5.out.size)
  clear hT6 hG6
  have HTO := Lib.hid (told_c g w.heap.size _ _ _ T6.out)
  go_wp2_with fail
  refine HTO.out.mono ?_
  rintro e w9 ⟨v9, S9, rfl, p9, e9, b9⟩
  have P9 := Lib.hid (show _ ∧ _ ∧ _ from ⟨p9, e9, b9⟩)
  obtain ⟨a9, n9, c9, rfl⟩ : ∃ a n c, v9 = .slice a n c := by obtain ⟨b2, cap2, hv2⟩ := polys_shape p9; exact ⟨_, _, _, hv2⟩
  clear p9 e9 b9
  go_wp2_with fail
  go_ret2
  exact ⟨_, S9, rfl, P9.out.1, P9.out.2.1, B6.out.trans (P9.out.2.2.mono B6.out.size)⟩
theorem stroke_c (s : Value) (l : List Pt) (cl : Bool) (h cap : Int) (w : World) (row : Row w s l) (hr : Rd w) (hl : l.length ≤ 100) :
    Calls Tryd.prog 17 #[.agg #[s, .bool cl], .int .i64 h, .int .i64 cap] w (ToldQ w.heap.size w (strokeOut l cl h cap)) := by
  obtain ⟨ao, c, rfl⟩ := row.shape
  generalize l.length = n at row
  have HPEN := Lib.hid (pen_c h)
  unfold strokeOut capB
  cases hp : penB h
  · rw [hp] at HPEN
    exact stroke_pen ao n c cl h cap w HPEN
  rw [hp] at HPEN
  by_cases h0 : cap < 0
  · rw [show decide (0 ≤ cap) = false by simp; omega]
    exact stroke_cap0 ao n c cl h cap w HPEN h0
  by_cases h3 : cap > 2
  · rw [show decide (cap ≤ 2) = false by simp; omega]
    rw [Bool.and_false, Bool.and_false, Bool.false_and]
    exact stroke_cap3 ao n c cl h cap w HPEN h0 h3
  rw [show decide (0 ≤ cap) = true by simp; omega, show decide (cap ≤ 2) = true by simp; omega]
  have HALL : Hid (∀ w', Below w.heap.size w w' → Calls Tryd.prog 35 #[.slice ao n c] w' fun e w'' => e = .returned (.bool (l.all roomP)) ∧ Below w'.heap.size w' w'') := fun w' hb => allIn_c _ l w' (by omega) (row.on hb)
  cases ha : l.all roomP
  · rw [ha] at HALL
    exact stroke_all ao n c cl h cap w HPEN h0 h3 HALL
  rw [ha] at HALL
  have HAP : Hid (∀ w', Below w.heap.size w w' → Calls Tryd.prog 36 #[.agg #[.slice ao n c, .bool cl]] w' fun e w'' => ∃ v, e = .returned v ∧ Own w'' w'.heap.size 23 v (apartI l cl) ∧ Below w'.heap.size w' w'') := fun w' hb => apart_c _ l cl w' (row.on hb) (by omega)
  have hlen := apartI_len l cl
  have hroom : ∀ p ∈ apartI l cl, roomP p = true := fun p hp => List.all_eq_true.1 ha p (apartI_mem hp)
  have hadj := apartI_adj l cl
  generalize apartI l cl = q at HAP hlen hroom hadj
  have hcap : cap = 0 ∨ cap = 1 ∨ cap = 2 := by omega
  simp only [Bool.and_true, if_true]
  unfold strokeT
  by_cases hq0 : q.length = 0
  · rw [if_pos hq0]
    exact stroke_none ao n c cl h cap w q HPEN h0 h3 HALL HAP (List.eq_nil_of_length_eq_zero hq0)
  rw [if_neg hq0]
  obtain ⟨p, hp0⟩ : ∃ p, q[0]? = some p := ⟨_, List.getElem?_eq_getElem (by omega)⟩
  have hg0 : q.getD 0 (0, 0) = p := by rw [List.getD_eq_getElem?_getD, hp0]; rfl
  rw [hg0]
  by_cases hq1 : q.length = 1
  · rw [if_pos hq1]
    exact stroke_dot ao n c cl h cap w q HPEN h0 h3 HALL HAP p hp0 hq1 (Lib.hid fun g u w' hT hb => dot_c g w.heap.size u p h cap (0, []) w' hT (hr.on hb) hb.size (by simp) (hroom p (List.mem_of_getElem? hp0)) hp hcap)
  rw [if_neg hq1]
  obtain ⟨j, hj⟩ : ∃ j, q.length = j + 2 := ⟨q.length - 2, by omega⟩
  cases cl
  · rw [if_neg (by decide), hj, show j + 2 - 2 = j by omega, show j + 2 - 1 = j + 1 by omega]
    exact stroke_open ao n c h cap w q HPEN h0 h3 HALL HAP j hj (by omega) hr (Lib.hid fun g b cp u st w' hT hrow hoff hb hg hst => caps_c g w.heap.size u b 0 j cp q h cap st w' hT hrow hj hoff (hr.on hb) hr.lt hg hb.size hst (by omega) hroom (fun k a b h1 h2 => hadj k a b h1 h2) hp hcap)
  · rw [if_pos rfl, hj]
    exact stroke_closed ao n c h cap w q HPEN h0 h3 HALL HAP j p hj (by omega) hp0 hr
end Go.Proofs.YtdidbejinfkhbaaDoor
