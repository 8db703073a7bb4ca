/- Layer 6: variables laid in a drawn region, each of its own type. Layer 6: Split. Layer 6: Split, whatever the path and the place. -/
import Derived.Test.YtffgpikhahpomaaDoorSb
import Derived.Test.YtffgpikhahpomaaDoorHs
import Derived.Test.YtffgpikhahpomaaDoorSs
import Derived.Test.YtffgpikhahpomaaDoorSw
import Derived.Test.YtffgpikhahpomaaDoorSk
namespace Go.Proofs.YtffgpikhahpomaaDoor
open Go.RowKit
/-- A variable of such a region: the operation that makes it, the one that stores into it, what is stored. -/
structure LaidT where
  al : Nat
  st : Nat
  t : TypeId
  z : Array Value
  cs : Array Value
/-- What holds, whichever operations have come up. -/
def LayG (w1 : World) (A : List LaidT) (b : Nat → Bool) (vs : Nat → Value) (w : World) : Prop :=
  Below w1.heap.size w1 w ∧ (∀ x ∈ A, b x.al = true → ∃ g, vs x.al = .pointer (some ⟨g, 0, none⟩) ∧ w1.heap.size ≤ g ∧ Blk w g x.t (if b x.st = true then x.cs else x.z)) ∧
    (∀ x ∈ A, ∀ y ∈ A, x.al ≠ y.al → b x.al = true → b y.al = true → vs x.al ≠ vs y.al) ∧ (∀ x ∈ A, b x.st = true → b x.al = true)
section
variable {w1 w w' : World} {A : List LaidT} {b : Nat → Bool} {vs : Nat → Value}
theorem LayG.start (vs : Nat → Value) : LayG w1 A (fun _ => false) vs w1.drew :=
  ⟨⟨rfl, rfl, rfl, Nat.le_refl _, fun _ _ => rfl⟩, fun _ _ h => (Bool.noConfusion h), fun _ _ _ _ _ h => (Bool.noConfusion h), fun _ _ h => (Bool.noConfusion h)⟩
theorem LayG.below (h : LayG w1 A b vs w) : Below w1.heap.size w1 w := h.1
theorem LayG.grow (h : LayG w1 A b vs w) (hb : Below w.heap.size w w') : LayG w1 A b vs w' :=
  ⟨below_next h.1 hb, fun x hx hbx => by
    obtain ⟨g, e, l, k⟩ := h.2.1 x hx hbx
    exact ⟨g, e, l, k.grow hb⟩, h.2.2.1, h.2.2.2⟩
/-- An operation that is none of these. -/
theorem LayG.other (h : LayG w1 A b vs w) (i : Nat) (v : Value) (hi : (A.all fun x => decide (x.al ≠ i) && decide (x.st ≠ i)) = true) : LayG w1 A (upd b i true) (upd vs i v) w := by
  have hm : ∀ x ∈ A, x.al ≠ i ∧ x.st ≠ i := fun x hx => by
    have := List.all_eq_true.1 hi x hx
    simpa using this
  refine ⟨h.1, fun x hx hbx => ?_, fun x hx y hy hxy hbx hby => ?_, fun x hx hbx => ?_⟩
  · rw [upd_other _ _ _ _ (hm x hx).1] at hbx
    rw [upd_other _ _ _ _ (hm x hx).1, upd_other _ _ _ _ (hm x hx).2]
    exact h.2.1 x hx hbx
  · rw [upd_other _ _ _ _ (hm x hx).1] at hbx ⊢
    rw [upd_other _ _ _ _ (hm y hy).1] at hby ⊢
    exact h.2.2.1 x hx y hy hxy hbx hby
  · rw [upd_other _ _ _ _ (hm x hx).2] at hbx
    rw [upd_other _ _ _ _ (hm x hx).1]
    exact h.2.2.2 x hx hbx
/-- The numbers are all different. -/
def numsOkT : List LaidT → Bool
  | [] => true
  | x :: l => decide (x.al ≠ x.st) && (l.all fun y => decide (x.al ≠ y.al) && decide (x.al ≠ y.st) && decide (x.st ≠ y.al) && decide (x.st ≠ y.st)) && numsOkT l
theorem numsT_at : ∀ {A : List LaidT}, numsOkT A = true → ∀ x ∈ A, ∀ y ∈ A, x = y ∨ (x.al ≠ y.al ∧ x.al ≠ y.st ∧ x.st ≠ y.al ∧ x.st ≠ y.st)
  | [], _, _, h, _, _ => by cases h
  | a :: l, h, x, hx, y, hy => by
    unfold numsOkT at h
    simp only [Bool.and_eq_true, decide_eq_true_eq, List.all_eq_true] at h
    rcases List.mem_cons.1 hx with hxa | hxl
    · subst hxa
      rcases List.mem_cons.1 hy with hya | hyl
      · exact .inl hya.symm
      · have := h.1.2 y hyl
        exact .inr ⟨this.1.1.1, this.1.1.2, this.1.2, this.2⟩
    · rcases List.mem_cons.1 hy with hya | hyl
      · subst hya
        have := h.1.2 x hxl
        exact .inr ⟨Ne.symm this.1.1.1, Ne.symm this.1.2, Ne.symm this.1.1.2, Ne.symm this.2⟩
      · exact numsT_at h.2 x hxl y hyl
theorem numsT_self : ∀ {A : List LaidT}, numsOkT A = true → ∀ x ∈ A, x.al ≠ x.st
  | [], _, _, h => by cases h
  | a :: l, h, x, hx => by
    unfold numsOkT at h
    simp only [Bool.and_eq_true, decide_eq_true_eq] at h
    rcases List.mem_cons.1 hx with rfl | hx
    · exact h.1.1
    · exact numsT_self h.2 x hx
/-- The variable is made. -/
theorem LayG.made (h : LayG w1 A b vs w) (hA : numsOkT A = true) (x : LaidT) (hx : x ∈ A) (hun : b x.al = false) :
    LayG w1 A (upd b x.al true) (upd vs x.al (.pointer (some ⟨w.heap.size, 0, none⟩))) (w.alloc (.cells x.z x.t)) := by
  have hself := numsT_self hA
  have hno : b x.st = false := by
    cases hb : b x.st
    · rfl
    · rw [h.2.2.2 x hx hb] at hun; cases hun
  refine ⟨h.1.alloc h.1.size _, fun y hy hby => ?_, fun y hy u hu hyu hby hbu => ?_, fun y hy hby => ?_⟩
  · rcases numsT_at hA x hx y hy with rfl | ⟨d1, d2, d3, d4⟩
    · rw [upd_same, upd_other _ _ _ _ (Ne.symm (hself x hx)), hno]
      exact ⟨_, rfl, h.1.size, Blk.new _ _ _⟩
    · rw [upd_other _ _ _ _ (Ne.symm d1)] at hby ⊢
      rw [upd_other _ _ _ _ (Ne.symm d2)]
      obtain ⟨g, e, l, k⟩ := h.2.1 y hy hby
      exact ⟨g, e, l, k.alloc _⟩
  · have key : ∀ y ∈ A, y.al ≠ x.al → b y.al = true → vs y.al ≠ .pointer (some ⟨w.heap.size, 0, none⟩) := fun y hy _ hby e => by
      obtain ⟨g, e', _, k⟩ := h.2.1 y hy hby
      rw [e'] at e
      have := k.lt
      simp at e
      try omega
    by_cases e1 : y.al = x.al
    · have e2 : u.al ≠ x.al := fun e => hyu (e1.trans e.symm)
      rw [e1, upd_same, upd_other _ _ _ _ e2]
      rw [upd_other _ _ _ _ e2] at hbu
      exact (key u hu e2 hbu).symm
    · rw [upd_other _ _ _ _ e1] at hby ⊢
      by_cases e2 : u.al = x.al
      · rw [e2, upd_same]; exact key y hy e1 hby
      · rw [upd_other _ _ _ _ e2] at hbu ⊢
        exact h.2.2.1 y hy u hu hyu hby hbu
  · rcases numsT_at hA x hx y hy with rfl | ⟨d1, d2, d3, d4⟩
    · exact upd_same _ _ _
    · rw [upd_other _ _ _ _ (Ne.symm d2)] at hby
      rw [upd_other _ _ _ _ (Ne.symm d1)]
      exact h.2.2.2 y hy hby
/-- It is stored into. -/
theorem LayG.stored (h : LayG w1 A b vs w) (hA : numsOkT A = true) (x : LaidT) (hx : x ∈ A) (v : Value) {g : Nat} (hal : b x.al = true) (hg : vs x.al = .pointer (some ⟨g, 0, none⟩)) (hB : Below w1.heap.size w1 w')
    (hblk : Blk w' g x.t x.cs) (hoth : ∀ g' t' cs, g' ≠ g → Blk w g' t' cs → Blk w' g' t' cs) : LayG w1 A (upd b x.st true) (upd vs x.st v) w' := by
  have hself := numsT_self hA
  refine ⟨hB, fun y hy hby => ?_, fun y hy u hu hyu hby hbu => ?_, fun y hy hby => ?_⟩
  · rcases numsT_at hA x hx y hy with rfl | ⟨d1, d2, d3, d4⟩
    · rw [upd_other _ _ _ _ (hself x hx), upd_same, hg]
      obtain ⟨g2, e, l, _⟩ := h.2.1 x hx hal
      rw [hg] at e
      simp at e
      subst e
      exact ⟨g, rfl, l, hblk⟩
    · rw [upd_other _ _ _ _ (Ne.symm d3)] at hby ⊢
      rw [upd_other _ _ _ _ (Ne.symm d4)]
      obtain ⟨g2, e, l, k⟩ := h.2.1 y hy hby
      refine ⟨g2, e, l, hoth g2 _ _ (fun e' => ?_) k⟩
      refine h.2.2.1 x hx y hy d1 hal hby ?_
      rw [hg, e, e']
  · have d : ∀ y ∈ A, y.al ≠ x.st := fun y hy => by
      rcases numsT_at hA x hx y hy with rfl | ⟨_, _, d3, _⟩
      · exact hself x hx
      · exact Ne.symm d3
    rw [upd_other _ _ _ _ (d y hy)] at hby ⊢
    rw [upd_other _ _ _ _ (d u hu)] at hbu ⊢
    exact h.2.2.1 y hy u hu hyu hby hbu
  · rcases numsT_at hA x hx y hy with rfl | ⟨d1, d2, d3, d4⟩
    · rw [upd_other _ _ _ _ (hself x hx)]; exact hal
    · rw [upd_other _ _ _ _ (Ne.symm d4)] at hby
      rw [upd_other _ _ _ _ (Ne.symm d3)]
      exact h.2.2.2 y hy hby
/-- At hand, ahead of the store. -/
theorem LayG.at (h : LayG w1 A b vs w) (x : LaidT) (hx : x ∈ A) (hal : b x.al = true) (hun : b x.st = false) : ∃ g, vs x.al = .pointer (some ⟨g, 0, none⟩) ∧ w1.heap.size ≤ g ∧ Blk w g x.t x.z := by
  obtain ⟨g, e, l, k⟩ := h.2.1 x hx hal
  rw [hun] at k
  exact ⟨g, e, l, k⟩
/-- At the end. -/
theorem LayG.done (h : LayG w1 A b vs w) (x : LaidT) (hx : x ∈ A) (hal : b x.al = true) (hst : b x.st = true) : ∃ g, vs x.al = .pointer (some ⟨g, 0, none⟩) ∧ w1.heap.size ≤ g ∧ Blk w g x.t x.cs := by
  obtain ⟨g, e, l, k⟩ := h.2.1 x hx hal
  rw [hst] at k
  exact ⟨g, e, l, k⟩
theorem LayG.ne (h : LayG w1 A b vs w) (x y : LaidT) (hx : x ∈ A) (hy : y ∈ A) (hxy : x.al ≠ y.al) (hbx : b x.al = true) (hby : b y.al = true) {g k : Nat} (ex : vs x.al = .pointer (some ⟨g, 0, none⟩)) (ey : vs y.al = .pointer (some ⟨k, 0, none⟩)) : g ≠ k := fun e => by
  subst e
  exact h.2.2.1 x hx y hy hxy hbx hby (ex.trans ey.symm)
end
theorem Blk.other7 {w : World} {g g' : Nat} {t : TypeId} {cs : Array Value} (h : Blk w g t cs) (hne : g ≠ g') (a b c d e f i : Value) : Blk (((((((w.setCell ⟨g', 0, none⟩ a).setCell ⟨g', 1, none⟩ b).setCell ⟨g', 2, none⟩ c).setCell ⟨g', 3, none⟩ d).setCell ⟨g', 4, none⟩ e).setCell ⟨g', 5, none⟩ f).setCell ⟨g', 6, none⟩ i) g t cs :=
  ((((((h.other _ _ hne).other _ _ hne).other _ _ hne).other _ _ hne).other _ _ hne).other _ _ hne).other _ _ hne
theorem below_seven {w w' : World} {B g : Nat} (h : Below B w w') (hg : B ≤ g) (a b c d e f i : Value) : Below B w (((((((w'.setCell ⟨g, 0, none⟩ a).setCell ⟨g, 1, none⟩ b).setCell ⟨g, 2, none⟩ c).setCell ⟨g, 3, none⟩ d).setCell ⟨g, 4, none⟩ e).setCell ⟨g, 5, none⟩ f).setCell ⟨g, 6, none⟩ i) :=
  ((((((h.setCell hg _).setCell hg _).setCell hg _).setCell hg _).setCell hg _).setCell hg _).setCell hg _
abbrev zSg : Sg := ⟨0, (0, 0), (0, 0), (0, 0)⟩
end Go.Proofs.YtffgpikhahpomaaDoor
namespace Go.Proofs.YtffgpikhahpomaaDoor
open Go.RowKit
set_option maxHeartbeats 4000000 in
set_option maxRecDepth 100000 in
theorem split_walk (b o n c I J : Nat) (l : List Sg) (s x A B : Sg) (f : Pt) (M : List Sg) (w : World) (hIJ : I = J + 1) (hI : I < n) (hn : n ≤ 4000) (HR : Hid (Rd w)) (HSG : Hid (SegsAt w b o l ∧ b < w.heap.size ∧ l[I]? = some s ∧ l[J]? = some x))
    (h1 : (s.k == 1) = false) (h5 : (s.k == 5) = false)
    (HC : Hid (Calls Tryd.prog 10 #[.slice (some ⟨b, o, none⟩) n c] w fun e w' => e = .returned (.int .i64 0) ∧ Below w.heap.size w w'))
    (HE : Hid (∀ W, Rd W → Calls Tryd.prog 44 #[.agg (seven x.k x.p x.q x.r)] W fun e w' => e = .returned (.agg #[.int .i64 f.1, .int .i64 f.2]) ∧ Below W.heap.size W w'))
    (HHV : Hid (∀ W, Rd W → Calls Tryd.prog 43 #[.agg (seven s.k s.p s.q s.r), .agg #[.int .i64 f.1, .int .i64 f.2]] W fun e w' => e = .returned (.tuple #[.agg (seven A.k A.p A.q A.r), .agg (seven B.k B.p B.q B.r), .int .i64 0]) ∧ Below W.heap.size W w'))
    (HREP : Hid (∀ W u, Below w.heap.size w W → RowS W u [A, B] → Calls Tryd.prog 42 #[.slice (some ⟨b, o, none⟩) n c, .int .i64 (I : Int), .int .i64 ((I + 1 : Nat) : Int), u] W fun e w' => ∃ v, e = .returned v ∧ OwnS w' W.heap.size 48 v M ∧ Below W.heap.size W w')) :
    Calls Tryd.prog 24 #[.slice (some ⟨b, o, none⟩) n c, .int .i64 (I : Int)] w (Edited w (0, M)) := by
  have hIn : (I : Int) < (n : Int) := by omega
  have hJn : (J : Int) < (n : Int) := by omega
  have hJ2 : J < n := by omega
  have w1 : wrap64 ((I : Int) + 1) = ((I + 1 : Nat) : Int) := by rw [wrapR _ (by omega) (by omega)]; omega
  have w2 : IntKind.i64.wrap ((I : Int) + 1) = ((I + 1 : Nat) : Int) := (wrap_is _).trans w1
  have w3 : wrap64 ((I : Int) - 1) = (J : Int) := by rw [wrapR _ (by omega) (by omega)]; omega
  have w4 : IntKind.i64.wrap ((I : Int) - 1) = (J : Int) := (wrap_is _).trans w3
  have e4 : ((n : Int) == 4096) = false := by simp; omega
  have HH : Hid (∀ W, Calls Tryd.prog 40 #[.slice (some ⟨b, o, none⟩) n c, .int .i64 (I : Int)] W fun e w' => e = .returned (.bool true) ∧ W = w') := fun W => by
    have h := hasSegment_c (some ⟨b, o, none⟩) n c (I : Int) W
    rw [show (decide (0 ≤ (I : Int)) && decide ((I : Int) < (n : Int))) = true by simp; omega] at h
    exact h
  have HN := Lib.hid hn
  clear hIJ hn
  go_enter Tryd.func24, Tryd.ntmps24
  go_wp2_with fail
  refine HC.out.mono ?_
  rintro e w2 ⟨rfl, hb⟩
  have HB := Lib.hid hb; clear hb
  go_wp2_with fail
  refine (HH.out _).mono ?_
  rintro e w3 ⟨rfl, rfl⟩
  have hs := HSG.out.1.on HB.out HSG.out.2.1
  have c0 := hs.c0 HSG.out.2.2.1
  clear hs
  go_wp2_with fail
  clear c0
  refine wp_region_put2 (by kernel_rfl) (by kernel_rfl) (by kernel_rfl) (fun b' vs w' => (b' 0 = true → vs 0 = .slice (some ⟨b, o, none⟩) n c) ∧ (b' 1 = true → vs 1 = .int .i64 (I : Int)) ∧ (b' 2 = true → vs 2 = .pointer (some ⟨b, o + I * 7, none⟩)) ∧ (b' 3 = true → vs 3 = .agg (seven s.k s.p s.q s.r)) ∧ (b' 4 = true → vs 4 = .slice (some ⟨b, o, none⟩) n c) ∧ (b' 5 = true → vs 5 = .int .i64 (I : Int)) ∧ (b' 6 = true → vs 6 = .int .i64 (J : Int)) ∧ (b' 7 = true → vs 7 = .pointer (some ⟨b, o + J * 7, none⟩)) ∧ (b' 8 = true → vs 8 = .agg (seven x.k x.p x.q x.r)) ∧ (b' 9 = true → vs 9 = .agg #[.int .i64 f.1, .int .i64 f.2]) ∧ (b' 10 = true → vs 10 = .tuple #[.agg (seven A.k A.p A.q A.r), .agg (seven B.k B.p B.q B.r), .int .i64 0]) ∧ (b' 11 = true → vs 11 = .tuple #[.agg (seven A.k A.p A.q A.r), .agg (seven B.k B.p B.q B.r), .int .i64 0]) ∧ (b' 12 = true → vs 12 = .agg (seven A.k A.p A.q A.r)) ∧ (b' 13 = true → vs 13 = .agg (seven B.k B.p B.q B.r)) ∧ (b' 14 = true → vs 14 = .int .i64 0) ∧ (b' 19 = true → vs 19 = .int .i64 0) ∧ Hid (LayG w2 [⟨15, 17, 48, zSeven, A.cells⟩, ⟨16, 18, 48, zSeven, B.cells⟩] b' vs w')) ?_ ?_ ?_
  · intro vs hvs
    exact ⟨fun h => Bool.noConfusion h, fun h => Bool.noConfusion h, fun h => Bool.noConfusion h, fun h => Bool.noConfusion h, fun h => Bool.noConfusion h, fun h => Bool.noConfusion h, fun h => Bool.noConfusion h, fun h => Bool.noConfusion h, fun h => Bool.noConfusion h, fun h => Bool.noConfusion h, fun h => Bool.noConfusion h, fun h => Bool.noConfusion h, fun h => Bool.noConfusion h, fun h => Bool.noConfusion h, fun h => Bool.noConfusion h, fun h => Bool.noConfusion h, LayG.start vs⟩
  · rintro b' vs w' i op hi hun hall ⟨h0, h1, h2, h3, h4, h5, h6, h7, h8, h9, h10, h11, h12, h13, h14, h19, hM⟩
    have hil : i < 20 := (List.getElem?_eq_some_iff.1 hi).1
    rcases i with _ | _ | _ | _ | _ | _ | _ | _ | _ | _ | _ | _ | _ | _ | _ | _ | _ | _ | _ | _ | i
    · obtain rfl := Option.some.inj hi
      refine wpOp_step rfl (fun K hK => ?_)
      have HKK := Lib.hid hK; clear hK
      simp only [putAll, Act.put, List.setIfInBounds_toArray, List.set_cons_zero, List.set_cons_succ]
      go_simp
      exact HKK.out _ _ ⟨_, by simp only [putAll, Act.put, List.setIfInBounds_toArray, List.set_cons_zero, List.set_cons_succ] <;> rfl, fun _ => rfl, h1, h2, h3, h4, h5, h6, h7, h8, h9, h10, h11, h12, h13, h14, h19, LayG.other hM.out 0 _ rfl⟩
    · obtain rfl := Option.some.inj hi
      refine wpOp_step rfl (fun K hK => ?_)
      have HKK := Lib.hid hK; clear hK
      simp only [putAll, Act.put, List.setIfInBounds_toArray, List.set_cons_zero, List.set_cons_succ]
      go_simp
      exact HKK.out _ _ ⟨_, by simp only [putAll, Act.put, List.setIfInBounds_toArray, List.set_cons_zero, List.set_cons_succ] <;> rfl, h0, fun _ => rfl, h2, h3, h4, h5, h6, h7, h8, h9, h10, h11, h12, h13, h14, h19, LayG.other hM.out 1 _ rfl⟩
    · obtain rfl := Option.some.inj hi
      have d0 := h0 (hall ⟨0, .data⟩ (by simp) rfl)
      have d1 := h1 (hall ⟨1, .data⟩ (by simp) rfl)
      refine wpOp_step rfl (fun K hK => ?_)
      have HKK := Lib.hid hK; clear hK
      simp only [putAll, Act.put, List.setIfInBounds_toArray, List.set_cons_zero, List.set_cons_succ, d0, d1]
      go_simp
      exact HKK.out _ _ ⟨_, by simp only [putAll, Act.put, List.setIfInBounds_toArray, List.set_cons_zero, List.set_cons_succ, d0, d1] <;> rfl, h0, h1, fun _ => rfl, h3, h4, h5, h6, h7, h8, h9, h10, h11, h12, h13, h14, h19, LayG.other hM.out 2 _ rfl⟩
    · obtain rfl := Option.some.inj hi
      have d2 := h2 (hall ⟨2, .data⟩ (by simp) rfl)
      have hs := HSG.out.1.on (below_next HB.out (LayG.below hM.out)) HSG.out.2.1
      have c0 := hs.c0 HSG.out.2.2.1
      have c1 := hs.c1 HSG.out.2.2.1
      have c2 := hs.c2 HSG.out.2.2.1
      have c3 := hs.c3 HSG.out.2.2.1
      have c4 := hs.c4 HSG.out.2.2.1
      have c5 := hs.c5 HSG.out.2.2.1
      have c6 := hs.c6 HSG.out.2.2.1
      clear hs
      refine wpOp_step rfl (fun K hK => ?_)
      have HKK := Lib.hid hK; clear hK
      simp only [putAll, Act.put, List.setIfInBounds_toArray, List.set_cons_zero, List.set_cons_succ, d2]
      go_simp
      exact HKK.out _ _ ⟨_, by simp only [putAll, Act.put, List.setIfInBounds_toArray, List.set_cons_zero, List.set_cons_succ, d2] <;> rfl, h0, h1, h2, fun _ => rfl, h4, h5, h6, h7, h8, h9, h10, h11, h12, h13, h14, h19, LayG.other hM.out 3 _ rfl⟩
    · obtain rfl := Option.some.inj hi
      refine wpOp_step rfl (fun K hK => ?_)
      have HKK := Lib.hid hK; clear hK
      simp only [putAll, Act.put, List.setIfInBounds_toArray, List.set_cons_zero, List.set_cons_succ]
      go_simp
      exact HKK.out _ _ ⟨_, by simp only [putAll, Act.put, List.setIfInBounds_toArray, List.set_cons_zero, List.set_cons_succ] <;> rfl, h0, h1, h2, h3, fun _ => rfl, h5, h6, h7, h8, h9, h10, h11, h12, h13, h14, h19, LayG.other hM.out 4 _ rfl⟩
    · obtain rfl := Option.some.inj hi
      refine wpOp_step rfl (fun K hK => ?_)
      have HKK := Lib.hid hK; clear hK
      simp only [putAll, Act.put, List.setIfInBounds_toArray, List.set_cons_zero, List.set_cons_succ]
      go_simp
      exact HKK.out _ _ ⟨_, by simp only [putAll, Act.put, List.setIfInBounds_toArray, List.set_cons_zero, List.set_cons_succ] <;> rfl, h0, h1, h2, h3, h4, fun _ => rfl, h6, h7, h8, h9, h10, h11, h12, h13, h14, h19, LayG.other hM.out 5 _ rfl⟩
    · obtain rfl := Option.some.inj hi
      have d5 := h5 (hall ⟨5, .data⟩ (by simp) rfl)
      refine wpOp_step rfl (fun K hK => ?_)
      have HKK := Lib.hid hK; clear hK
      simp only [putAll, Act.put, List.setIfInBounds_toArray, List.set_cons_zero, List.set_cons_succ, d5]
      go_simp
      exact HKK.out _ _ ⟨_, by simp only [putAll, Act.put, List.setIfInBounds_toArray, List.set_cons_zero, List.set_cons_succ, d5] <;> rfl, h0, h1, h2, h3, h4, h5, fun _ => rfl, h7, h8, h9, h10, h11, h12, h13, h14, h19, LayG.other hM.out 6 _ rfl⟩
    · obtain rfl := Option.some.inj hi
      have d4 := h4 (hall ⟨4, .data⟩ (by simp) rfl)
      have d6 := h6 (hall ⟨6, .data⟩ (by simp) rfl)
      refine wpOp_step rfl (fun K hK => ?_)
      have HKK := Lib.hid hK; clear hK
      simp only [putAll, Act.put, List.setIfInBounds_toArray, List.set_cons_zero, List.set_cons_succ, d4, d6]
      go_simp
      exact HKK.out _ _ ⟨_, by simp only [putAll, Act.put, List.setIfInBounds_toArray, List.set_cons_zero, List.set_cons_succ, d4, d6] <;> rfl, h0, h1, h2, h3, h4, h5, h6, fun _ => rfl, h8, h9, h10, h11, h12, h13, h14, h19, LayG.other hM.out 7 _ rfl⟩
    · obtain rfl := Option.some.inj hi
      have d7 := h7 (hall ⟨7, .data⟩ (by simp) rfl)
      have hs := HSG.out.1.on (below_next HB.out (LayG.below hM.out)) HSG.out.2.1
      have c0 := hs.c0 HSG.out.2.2.2
      have c1 := hs.c1 HSG.out.2.2.2
      have c2 := hs.c2 HSG.out.2.2.2
      have c3 := hs.c3 HSG.out.2.2.2
      have c4 := hs.c4 HSG.out.2.2.2
      have c5 := hs.c5 HSG.out.2.2.2
      have c6 := hs.c6 HSG.out.2.2.2
      clear hs
      refine wpOp_step rfl (fun K hK => ?_)
      have HKK := Lib.hid hK; clear hK
      simp only [putAll, Act.put, List.setIfInBounds_toArray, List.set_cons_zero, List.set_cons_succ, d7]
      go_simp
      exact HKK.out _ _ ⟨_, by simp only [putAll, Act.put, List.setIfInBounds_toArray, List.set_cons_zero, List.set_cons_succ, d7] <;> rfl, h0, h1, h2, h3, h4, h5, h6, h7, fun _ => rfl, h9, h10, h11, h12, h13, h14, h19, LayG.other hM.out 8 _ rfl⟩
    · obtain rfl := Option.some.inj hi
      have d8 := h8 (hall ⟨8, .data⟩ (by simp) rfl)
      refine wpOp_step rfl (fun K hK => ?_)
      have HKK := Lib.hid hK; clear hK
      simp only [putAll, Act.put, List.setIfInBounds_toArray, List.set_cons_zero, List.set_cons_succ, d8]
      go_simp
      refine (HE.out _ (HR.out.on (below_next HB.out (LayG.below hM.out)))).mono ?_
      rintro e w9 ⟨rfl, hb9⟩
      exact HKK.out _ _ ⟨_, by simp only [putAll, Act.put, List.setIfInBounds_toArray, List.set_cons_zero, List.set_cons_succ, d8] <;> rfl, h0, h1, h2, h3, h4, h5, h6, h7, h8, fun _ => rfl, h10, h11, h12, h13, h14, h19, (LayG.other hM.out 9 _ rfl).grow hb9⟩
    · obtain rfl := Option.some.inj hi
      have d3 := h3 (hall ⟨3, .data⟩ (by simp) rfl)
      have d9 := h9 (hall ⟨9, .data⟩ (by simp) rfl)
      refine wpOp_step rfl (fun K hK => ?_)
      have HKK := Lib.hid hK; clear hK
      simp only [putAll, Act.put, List.setIfInBounds_toArray, List.set_cons_zero, List.set_cons_succ, d3, d9]
      go_simp
      refine (HHV.out _ (HR.out.on (below_next HB.out (LayG.below hM.out)))).mono ?_
      rintro e w9 ⟨rfl, hb9⟩
      exact HKK.out _ _ ⟨_, by simp only [putAll, Act.put, List.setIfInBounds_toArray, List.set_cons_zero, List.set_cons_succ, d3, d9] <;> rfl, h0, h1, h2, h3, h4, h5, h6, h7, h8, h9, fun _ => rfl, h11, h12, h13, h14, h19, (LayG.other hM.out 10 _ rfl).grow hb9⟩
    · obtain rfl := Option.some.inj hi
      have d10 := h10 (hall ⟨10, .data⟩ (by simp) rfl)
      refine wpOp_step rfl (fun K hK => ?_)
      have HKK := Lib.hid hK; clear hK
      simp only [putAll, Act.put, List.setIfInBounds_toArray, List.set_cons_zero, List.set_cons_succ, d10]
      go_simp
      exact HKK.out _ _ ⟨_, by simp only [putAll, Act.put, List.setIfInBounds_toArray, List.set_cons_zero, List.set_cons_succ, d10] <;> rfl, h0, h1, h2, h3, h4, h5, h6, h7, h8, h9, h10, fun _ => rfl, h12, h13, h14, h19, LayG.other hM.out 11 _ rfl⟩
    · obtain rfl := Option.some.inj hi
      have d11 := h11 (hall ⟨11, .data⟩ (by simp) rfl)
      refine wpOp_step rfl (fun K hK => ?_)
      have HKK := Lib.hid hK; clear hK
      simp only [putAll, Act.put, List.setIfInBounds_toArray, List.set_cons_zero, List.set_cons_succ, d11]
      go_simp
      exact HKK.out _ _ ⟨_, by simp only [putAll, Act.put, List.setIfInBounds_toArray, List.set_cons_zero, List.set_cons_succ, d11] <;> rfl, h0, h1, h2, h3, h4, h5, h6, h7, h8, h9, h10, h11, fun _ => rfl, h13, h14, h19, LayG.other hM.out 12 _ rfl⟩
    · obtain rfl := Option.some.inj hi
      have d11 := h11 (hall ⟨11, .data⟩ (by simp) rfl)
      refine wpOp_step rfl (fun K hK => ?_)
      have HKK := Lib.hid hK; clear hK
      simp only [putAll, Act.put, List.setIfInBounds_toArray, List.set_cons_zero, List.set_cons_succ, d11]
      go_simp
      exact HKK.out _ _ ⟨_, by simp only [putAll, Act.put, List.setIfInBounds_toArray, List.set_cons_zero, List.set_cons_succ, d11] <;> rfl, h0, h1, h2, h3, h4, h5, h6, h7, h8, h9, h10, h11, h12, fun _ => rfl, h14, h19, LayG.other hM.out 13 _ rfl⟩
    · obtain rfl := Option.some.inj hi
      have d11 := h11 (hall ⟨11, .data⟩ (by simp) rfl)
      refine wpOp_step rfl (fun K hK => ?_)
      have HKK := Lib.hid hK; clear hK
      simp only [putAll, Act.put, List.setIfInBounds_toArray, List.set_cons_zero, List.set_cons_succ, d11]
      go_simp
      exact HKK.out _ _ ⟨_, by simp only [putAll, Act.put, List.setIfInBounds_toArray, List.set_cons_zero, List.set_cons_succ, d11] <;> rfl, h0, h1, h2, h3, h4, h5, h6, h7, h8, h9, h10, h11, h12, h13, fun _ => rfl, h19, LayG.other hM.out 14 _ rfl⟩
    · obtain rfl := Option.some.inj hi
      refine wpOp_step rfl (fun K hK => ?_)
      have HKK := Lib.hid hK; clear hK
      simp only [putAll, Act.put, List.setIfInBounds_toArray, List.set_cons_zero, List.set_cons_succ]
      go_simp
      exact HKK.out _ _ ⟨_, by simp only [putAll, Act.put, List.setIfInBounds_toArray, List.set_cons_zero, List.set_cons_succ] <;> rfl, h0, h1, h2, h3, h4, h5, h6, h7, h8, h9, h10, h11, h12, h13, h14, h19, LayG.made hM.out rfl ⟨15, 17, 48, zSeven, A.cells⟩ (by simp) hun⟩
    · obtain rfl := Option.some.inj hi
      refine wpOp_step rfl (fun K hK => ?_)
      have HKK := Lib.hid hK; clear hK
      simp only [putAll, Act.put, List.setIfInBounds_toArray, List.set_cons_zero, List.set_cons_succ]
      go_simp
      exact HKK.out _ _ ⟨_, by simp only [putAll, Act.put, List.setIfInBounds_toArray, List.set_cons_zero, List.set_cons_succ] <;> rfl, h0, h1, h2, h3, h4, h5, h6, h7, h8, h9, h10, h11, h12, h13, h14, h19, LayG.made hM.out rfl ⟨16, 18, 48, zSeven, B.cells⟩ (by simp) hun⟩
    · obtain rfl := Option.some.inj hi
      have d12 := h12 (hall ⟨12, .data⟩ (by simp) rfl)
      have dal := hall ⟨15, .data⟩ (by simp) rfl
      obtain ⟨g, eg, lg, kg⟩ := LayG.at hM.out ⟨15, 17, 48, zSeven, A.cells⟩ (by simp) dal hun
      have kz : Blk w' g 48 zSg.cells := kg
      have c0 := kz.s0
      have c1 := kz.s1
      have c2 := kz.s2
      have c3 := kz.s3
      have c4 := kz.s4
      have c5 := kz.s5
      have c6 := kz.s6
      have f0 := kg.free 0
      have f1 := kg.free 1
      have f2 := kg.free 2
      have f3 := kg.free 3
      have f4 := kg.free 4
      have f5 := kg.free 5
      have f6 := kg.free 6
      have lgw := kg.lt
      refine wpOp_step rfl (fun K hK => ?_)
      have HKK := Lib.hid hK; clear hK
      simp only [putAll, Act.put, List.setIfInBounds_toArray, List.set_cons_zero, List.set_cons_succ, d12, eg]
      go_simp
      exact HKK.out _ _ ⟨undef, by simp only [putAll, Act.put, List.setIfInBounds_toArray, List.set_cons_zero, List.set_cons_succ, d12, eg] <;> rfl, h0, h1, h2, h3, h4, h5, h6, h7, h8, h9, h10, h11, h12, h13, h14, h19, LayG.stored hM.out rfl ⟨15, 17, 48, zSeven, A.cells⟩ (by simp) undef dal eg (below_seven (LayG.below hM.out) lg _ _ _ _ _ _ _) (kz.setS A) (fun _ _ _ hne k => k.other7 hne _ _ _ _ _ _ _)⟩
    · obtain rfl := Option.some.inj hi
      have d13 := h13 (hall ⟨13, .data⟩ (by simp) rfl)
      have dal := hall ⟨16, .data⟩ (by simp) rfl
      obtain ⟨g, eg, lg, kg⟩ := LayG.at hM.out ⟨16, 18, 48, zSeven, B.cells⟩ (by simp) dal hun
      have kz : Blk w' g 48 zSg.cells := kg
      have c0 := kz.s0
      have c1 := kz.s1
      have c2 := kz.s2
      have c3 := kz.s3
      have c4 := kz.s4
      have c5 := kz.s5
      have c6 := kz.s6
      have f0 := kg.free 0
      have f1 := kg.free 1
      have f2 := kg.free 2
      have f3 := kg.free 3
      have f4 := kg.free 4
      have f5 := kg.free 5
      have f6 := kg.free 6
      have lgw := kg.lt
      refine wpOp_step rfl (fun K hK => ?_)
      have HKK := Lib.hid hK; clear hK
      simp only [putAll, Act.put, List.setIfInBounds_toArray, List.set_cons_zero, List.set_cons_succ, d13, eg]
      go_simp
      exact HKK.out _ _ ⟨undef, by simp only [putAll, Act.put, List.setIfInBounds_toArray, List.set_cons_zero, List.set_cons_succ, d13, eg] <;> rfl, h0, h1, h2, h3, h4, h5, h6, h7, h8, h9, h10, h11, h12, h13, h14, h19, LayG.stored hM.out rfl ⟨16, 18, 48, zSeven, B.cells⟩ (by simp) undef dal eg (below_seven (LayG.below hM.out) lg _ _ _ _ _ _ _) (kz.setS B) (fun _ _ _ hne k => k.other7 hne _ _ _ _ _ _ _)⟩
    · obtain rfl := Option.some.inj hi
      have d14 := h14 (hall ⟨14, .data⟩ (by simp) rfl)
      refine wpOp_step rfl (fun K hK => ?_)
      have HKK := Lib.hid hK; clear hK
      simp only [putAll, Act.put, List.setIfInBounds_toArray, List.set_cons_zero, List.set_cons_succ, d14]
      go_simp
      exact HKK.out _ _ ⟨_, by simp only [putAll, Act.put, List.setIfInBounds_toArray, List.set_cons_zero, List.set_cons_succ, d14] <;> rfl, h0, h1, h2, h3, h4, h5, h6, h7, h8, h9, h10, h11, h12, h13, h14, fun _ => rfl, LayG.other hM.out 19 _ rfl⟩
    · exact absurd hil (by omega)
  · rintro b' vs w' hb ⟨h0, h1, h2, h3, h4, h5, h6, h7, h8, h9, h10, h11, h12, h13, h14, h19, hM⟩
    obtain ⟨gA, e15, lA, kA⟩ := LayG.done hM.out ⟨15, 17, 48, zSeven, A.cells⟩ (by simp) (hb 15 (by decide)) (hb 17 (by decide))
    obtain ⟨gB, e16, lB, kB⟩ := LayG.done hM.out ⟨16, 18, 48, zSeven, B.cells⟩ (by simp) (hb 16 (by decide)) (hb 18 (by decide))
    have d14 := h14 (hb 14 (by decide))
    have d19 := h19 (hb 19 (by decide))
    have HB3 := Lib.hid (below_next HB.out (LayG.below hM.out))
    have HAB := Lib.hid (And.intro kA kB)
    simp only [putAll, Act.put, List.setIfInBounds_toArray, List.set_cons_zero, List.set_cons_succ, e15, e16, d14, d19]
    clear h0 h1 h2 h3 h4 h5 h6 h7 h8 h9 h10 h11 h12 h13 h14 h19 hM hb e15 e16 d14 d19 kA kB lA lB
    have ka : Blk w' gA 48 A.cells := HAB.out.1
    have kb : Blk w' gB 48 B.cells := HAB.out.2
    have a0 := ka.s0
    have a1 := ka.s1
    have a2 := ka.s2
    have a3 := ka.s3
    have a4 := ka.s4
    have a5 := ka.s5
    have a6 := ka.s6
    have b0 := kb.s0
    have b1 := kb.s1
    have b2 := kb.s2
    have b3 := kb.s3
    have b4 := kb.s4
    have b5 := kb.s5
    have b6 := kb.s6
    clear ka kb
    go_wp2_with fail
    have HNEW := Lib.hid (RowS.new w' [A, B] (seven A.k A.p A.q A.r ++ seven B.k B.p B.q B.r) 2 rfl rfl)
    have HB4 := Lib.hid (HB3.out.alloc HB3.out.size (.cells (seven A.k A.p A.q A.r ++ seven B.k B.p B.q B.r) 48))
    refine (HREP.out _ _ HB4.out HNEW.out).mono ?_
    rintro e w5 ⟨v, rfl, ho, hb5⟩
    have HO := Lib.hid (And.intro (owns_base ho HB4.out.size) (below_next HB4.out hb5)); clear ho hb5
    go_wp2_with fail
    go_ret2
    exact ⟨_, rfl, HO.out⟩
end Go.Proofs.YtffgpikhahpomaaDoor
namespace Go.Proofs.YtffgpikhahpomaaDoor
open Go.RowKit
def splitI (l : List Sg) (i : Int) : Int × List Sg := if checkI l ≠ 0 then (checkI l, []) else if hasB l i = false then (30, []) else if (atS l i).k = 1 ∨ (atS l i).k = 5 then (33, []) else (0, splitL l i.toNat (endI (aheadL l i.toNat)) (atS l i))
set_option maxHeartbeats 1000000 in
theorem split_bad (ao : Option Addr) (n c : Nat) (i z : Int) (w : World) (hz : (z != 0) = true)
    (HC : Hid (Calls Tryd.prog 10 #[.slice ao n c] w fun e w' => e = .returned (.int .i64 z) ∧ Below w.heap.size w w')) :
    Calls Tryd.prog 24 #[.slice ao n c, .int .i64 i] w (Edited w (z, [])) := by
  go_enter Tryd.func24, Tryd.ntmps24
  go_wp2_with fail
  refine HC.out.mono ?_
  rintro e w2 ⟨rfl, hb⟩
  have HB := Lib.hid hb; clear hb
  go_wp2_with fail
  go_ret2
  exact ⟨_, rfl, OwnS.nil _ _ _, HB.out⟩
set_option maxHeartbeats 1000000 in
theorem split_out (ao : Option Addr) (n c : Nat) (i : Int) (w : World)
    (HC : Hid (Calls Tryd.prog 10 #[.slice ao n c] w fun e w' => e = .returned (.int .i64 0) ∧ Below w.heap.size w w'))
    (HH : Hid (∀ W, Calls Tryd.prog 40 #[.slice ao n c, .int .i64 i] W fun e w' => e = .returned (.bool false) ∧ W = w')) :
    Calls Tryd.prog 24 #[.slice ao n c, .int .i64 i] w (Edited w (30, [])) := by
  go_enter Tryd.func24, Tryd.ntmps24
  go_wp2_with fail
  refine HC.out.mono ?_
  rintro e w2 ⟨rfl, hb⟩
  have HB := Lib.hid hb; clear hb
  go_wp2_with fail
  refine (HH.out _).mono ?_
  rintro e w3 ⟨rfl, rfl⟩
  go_wp2_with fail
  go_ret2
  exact ⟨_, rfl, OwnS.nil _ _ _, HB.out⟩
set_option maxHeartbeats 1000000 in
theorem split_kind (b o n c I : Nat) (k : Int) (w : World) (hk : k = 1 ∨ k = 5) (hIn : (I : Int) < (n : Int)) (hbw : b < w.heap.size) (hcell : w.cell? ⟨b, o + I * 7, none⟩ = some (.int .i64 k))
    (HC : Hid (Calls Tryd.prog 10 #[.slice (some ⟨b, o, none⟩) n c] w fun e w' => e = .returned (.int .i64 0) ∧ Below w.heap.size w w'))
    (HH : Hid (∀ W, Calls Tryd.prog 40 #[.slice (some ⟨b, o, none⟩) n c, .int .i64 (I : Int)] W fun e w' => e = .returned (.bool true) ∧ W = w')) :
    Calls Tryd.prog 24 #[.slice (some ⟨b, o, none⟩) n c, .int .i64 (I : Int)] w (Edited w (33, [])) := by
  have HK := Lib.hid hcell
  have HBW := Lib.hid hbw
  clear hcell hbw
  have hI2 : I < n := by omega
  rcases hk with rfl | rfl
  · go_enter Tryd.func24, Tryd.ntmps24
    go_wp2_with fail
    refine HC.out.mono ?_
    rintro e w2 ⟨rfl, hb⟩
    have c0 := (cell_below hb HBW.out).trans HK.out
    have HB := Lib.hid hb; clear hb
    go_wp2_with fail
    refine (HH.out _).mono ?_
    rintro e w3 ⟨rfl, rfl⟩
    go_wp2_with fail
    go_ret2
    exact ⟨_, rfl, OwnS.nil _ _ _, HB.out⟩
  · go_enter Tryd.func24, Tryd.ntmps24
    go_wp2_with fail
    refine HC.out.mono ?_
    rintro e w2 ⟨rfl, hb⟩
    have c0 := (cell_below hb HBW.out).trans HK.out
    have HB := Lib.hid hb; clear hb
    go_wp2_with fail
    refine (HH.out _).mono ?_
    rintro e w3 ⟨rfl, rfl⟩
    go_wp2_with fail
    go_ret2
    exact ⟨_, rfl, OwnS.nil _ _ _, HB.out⟩
/-- Of a right path: what stands ahead of a segment that is no move needs a point, and all points are in room. -/
theorem split_facts {l : List Sg} (hz : checkI l = 0) {J : Nat} {s x : Sg} (hs : l[J + 1]? = some s) (hx : l[J]? = some x) (h1 : s.k ≠ 1) (h5 : s.k ≠ 5) :
    (s.k = 2 ∨ s.k = 3 ∨ s.k = 4) ∧ 1 ≤ needI x.k ∧ roomP (endI x) = true ∧ (∀ p ∈ needPts s, roomP p = true) := by
  obtain ⟨hg, _⟩ := check_good hz
  have hf := hg (J + 1) s hs
  rw [aheadL_succ hx] at hf
  have fs := fine_of hf
  have fx := fine_of (hg J x hx)
  have hn := need_pos fx.kind (fs.ahead h1)
  refine ⟨?_, hn, fx.room _ (endI_mem hn), fs.room⟩
  have := isKind_cases fs.kind
  omega
theorem first_move {l : List Sg} (hz : checkI l = 0) {s : Sg} (hs : l[0]? = some s) : s.k = 1 := by
  obtain ⟨hg, _⟩ := check_good hz
  have hf := fine_of (hg 0 s hs)
  by_cases h : s.k = 1
  · exact h
  · exact absurd rfl (hf.ahead h)
theorem split_c (ao : Option Addr) (n c : Nat) (l : List Sg) (i : Int) (w : World) (hr : Rd w) (row : RowS w (.slice ao n c) l) (hc : n ≤ c) (hl : n ≤ 4000) :
    Calls Tryd.prog 24 #[.slice ao n c, .int .i64 i] w (Edited w (splitI l i)) := by
  have hn := row.len
  have HC := Lib.hid (check_c _ l w hr row)
  have HH : Hid (∀ W, Calls Tryd.prog 40 #[.slice ao n c, .int .i64 i] W fun e w' => e = .returned (.bool (hasB l i)) ∧ W = w') := fun W => by unfold hasB; rw [hn]; exact hasSegment_c ao n c i W
  by_cases h0 : checkI l = 0
  · rw [h0] at HC
    cases hb : hasB l i with
    | false =>
      rw [hb] at HH
      have hX : splitI l i = (30, []) := by unfold splitI; simp [h0, hb]
      rw [hX]
      exact split_out ao n c i w HC HH
    | true =>
      rw [hb] at HH
      have hb' := hb
      unfold hasB at hb'
      rw [hn] at hb'
      simp at hb'
      obtain ⟨I, rfl⟩ : ∃ I : Nat, i = (I : Int) := ⟨i.toNat, by omega⟩
      have hI : I < n := by omega
      obtain ⟨b, o, rfl, hbs, hpa⟩ := row.addr (k := I) (by rw [hn]; exact hI)
      obtain ⟨s, hq⟩ : ∃ s, l[I]? = some s := ⟨_, List.getElem?_eq_getElem (by rw [hn]; exact hI)⟩
      have hat : atS l (I : Int) = s := by unfold atS; simp [hq]
      by_cases hk : s.k = 1 ∨ s.k = 5
      · have hX : splitI l (I : Int) = (33, []) := by unfold splitI; rw [hat]; simp [h0, hb, hk]
        rw [hX]
        exact split_kind b o n c I s.k w hk (by omega) hbs (hpa.c0 hq) HC HH
      · have h1 : s.k ≠ 1 := fun e => hk (.inl e)
        have h5 : s.k ≠ 5 := fun e => hk (.inr e)
        obtain ⟨J, rfl⟩ : ∃ J, I = J + 1 := by
          cases I with
          | zero => exact absurd (first_move h0 hq) h1
          | succ J => exact ⟨J, rfl⟩
        obtain ⟨x, hx⟩ : ∃ x, l[J]? = some x := ⟨_, List.getElem?_eq_getElem (by omega)⟩
        obtain ⟨hk3, hnx, hrx, hrs⟩ := split_facts h0 hq hx h1 h5
        have hX : splitI l ((J + 1 : Nat) : Int) = (0, splitL l (J + 1) (endI x) s) := by
          unfold splitI
          rw [hat, if_neg (by rw [h0]; simp), if_neg (by rw [hb]; simp), if_neg hk]
          rw [show ((J + 1 : Nat) : Int).toNat = J + 1 from rfl, aheadL_succ hx]
        rw [hX]
        refine split_walk b o n c (J + 1) J l s x (halfA (endI x) s) (halfB s) (endI x) _ w rfl hI hl hr ⟨hpa, hbs, hq, hx⟩ (by simpa using h1) (by simpa using h5) HC (fun W hW => end_c2 x W hW hnx) (fun W hW => halves_s s (endI x) W hW hk3 hrx hrs) (fun W u hW hu => ?_)
        exact replaced_c (some ⟨b, o, none⟩) n c (J + 1) (J + 1 + 1) l u [halfA (endI x) s, halfB s] W (row.on hW) hc (by omega) hI hu (by simp; omega)
  · have hX : splitI l i = (checkI l, []) := by unfold splitI; rw [if_pos h0]
    rw [hX]
    exact split_bad ao n c i (checkI l) w (by simpa using h0) HC
end Go.Proofs.YtffgpikhahpomaaDoor
