/- The law PathFlats. -/
import Derived.Test.YtffgpikhahpomaaDoorSo
import Derived.Test.YtffgpikhahpomaaDoorSm
import Derived.Test.YtffgpikhahpomaaDoorSe
import Derived.Deep.QuietTactic
namespace Go.Proofs.YtffgpikhahpomaaDoor
open Go.RowKit
theorem lastI_length (f : List Pt × Bool → List Pt × Bool) : ∀ S, (lastI f S).length = S.length
  | [] => rfl
  | [_] => rfl
  | a :: b :: S => by simp only [lastI, List.length_cons]; rw [lastI_length f (b :: S)]; rfl
theorem lastI_mem (f : List Pt × Bool → List Pt × Bool) : ∀ S e, e ∈ lastI f S → e ∈ S ∨ ∃ e0 ∈ S, e = f e0
  | [], _, h => by cases h
  | [a], e, h => .inr ⟨a, by simp, by simpa [lastI] using h⟩
  | a :: b :: S, e, h => by
    simp only [lastI, List.mem_cons] at h
    rcases h with rfl | h
    · exact .inl (by simp)
    · rcases lastI_mem f (b :: S) e (by simpa using h) with h | ⟨e0, h, he⟩
      · exact .inl (List.mem_cons_of_mem _ h)
      · exact .inr ⟨e0, List.mem_cons_of_mem _ h, he⟩
theorem foldI_bound {d : Nat} (hd : d ≤ 6) : ∀ (l : List Sg) (x : Sg) (S : List (List Pt × Bool)) (B : Nat), (∀ e ∈ S, e.1.length ≤ B) → (foldI d x l S).length ≤ S.length + l.length ∧ ∀ e ∈ foldI d x l S, e.1.length ≤ B + 64 * l.length
  | [], _, S, B, h => ⟨by simp [foldI], fun e he => by have := h e he; simp; omega⟩
  | s :: t, x, S, B, h => by
    have h1 : (stepI d x s S).length ≤ S.length + 1 := by
      unfold stepI
      rw [lastI_length]
      split <;> simp
    have h2 : ∀ e ∈ stepI d x s S, e.1.length ≤ B + 64 := fun e he => by
      have hS : ∀ e ∈ (if s.k = 1 then S ++ [([], false)] else S), e.1.length ≤ B := fun e he => by
        split at he
        · rcases List.mem_append.1 he with he | he
          · exact h e he
          · simp at he; subst he; simp
        · exact h e he
      rcases lastI_mem _ _ e he with he | ⟨e0, he0, rfl⟩
      · have := hS e he; omega
      · have h3 := addI_len hd x s e0
        have h4 := hS e0 he0
        omega
    obtain ⟨h3, h4⟩ := foldI_bound hd t s (stepI d x s S) (B + 64) h2
    refine ⟨by simp only [foldI, List.length_cons]; omega, fun e he => ?_⟩
    have := h4 e he
    simp only [List.length_cons]
    omega
theorem subsI_few {d : Nat} (hd : d ≤ 6) (l : List Sg) : (subsI d l).length ≤ l.length ∧ ∀ e ∈ subsI d l, e.1.length ≤ 64 * l.length := by
  obtain ⟨h1, h2⟩ := foldI_bound hd l shut0 [] 0 (fun e h => by cases h)
  exact ⟨by simpa [subsI] using h1, fun e he => by have := h2 e he; omega⟩
set_option maxHeartbeats 2000000 in
set_option maxRecDepth 100000 in
theorem flats_long (ao : Option Addr) (n c : Nat) (d : Int) (w : World) (hr : Rd w) (hl : 60 < n) : Calls Tryd.prog 4 #[.slice ao n c, .int .i64 d] w fun e w' => e = .returned (.bool true) ∧ Below w.heap.size w w' := by
  have HR := Lib.hid hr
  have hd : decide ((n : Int) > 60) = true := decide_eq_true (by omega)
  clear hl hr
  go_enter Tryd.func4, Tryd.ntmps4
  go_wp2_with fail
  refine (awake_c _ HR.out).mono ?_
  rintro e w1 ⟨rfl, hb⟩
  go_wp2_with fail
  go_ret
  exact ⟨rfl, hb⟩
set_option maxHeartbeats 2000000 in
set_option maxRecDepth 100000 in
theorem flats_bad (ao : Option Addr) (n c : Nat) (d z : Int) (l : List Sg) (w : World) (hr : Rd w) (row : RowS w (.slice ao n c) l) (hl : n ≤ 60) (hz : checkI l = z) (h0 : z ≠ 0) : Calls Tryd.prog 4 #[.slice ao n c, .int .i64 d] w fun e w' => e = .returned (.bool true) ∧ Below w.heap.size w w' := by
  have HR := Lib.hid hr
  have HROW := Lib.hid row
  have HF := Lib.hid (pflat_no (.slice ao n c) l d w hr row (by rw [hz]; exact h0))
  rw [hz] at HF
  have HL : Hid (l.length ≤ 5000) := by have := row.len; unfold Hid; omega
  have HC : Hid (∀ v w, RowS w v l → Calls Tryd.prog 11 #[v] w fun e w' => e = .returned (.int .i64 z) ∧ Below w.heap.size w w') := fun v w h => hz ▸ rcheck_c v l w h
  have hd : decide ((n : Int) > 60) = false := decide_eq_false (by omega)
  have hz0 : (z != 0) = true := by simpa using h0
  have ez : (z == z) = true := by simp
  clear hl hr row hz h0
  go_enter Tryd.func4, Tryd.ntmps4
  go_wp2_with fail
  refine HF.out.mono ?_
  rintro e w1 ⟨rfl, hb⟩
  have B1 := Lib.hid hb
  clear hb
  go_wp2_with fail
  refine (ref_c _ _ l HL.out (HROW.out.on B1.out)).mono ?_
  rintro e w2 ⟨u, rfl, ho, hb⟩
  have B2 := Lib.hid (below_next B1.out hb)
  have O2 := Lib.hid ho.row
  clear hb ho
  go_wp2_with fail
  refine (HC.out _ _ O2.out).mono ?_
  rintro e w3 ⟨rfl, hb⟩
  have B3 := Lib.hid (below_next B2.out hb)
  clear hb
  go_wp2_with fail
  refine (awake_c _ (HR.out.on B3.out)).mono ?_
  rintro e w4 ⟨rfl, hb⟩
  have B4 := Lib.hid (below_next B3.out hb)
  clear hb
  go_wp2_with fail
  go_ret
  exact ⟨rfl, B4.out⟩
set_option maxHeartbeats 2000000 in
set_option maxRecDepth 100000 in
theorem flats_out (ao : Option Addr) (n c : Nat) (d : Int) (l : List Sg) (w : World) (hr : Rd w) (row : RowS w (.slice ao n c) l) (hl : n ≤ 60) (hz : checkI l = 0) (h0 : d < 0 ∨ 6 < d) : Calls Tryd.prog 4 #[.slice ao n c, .int .i64 d] w fun e w' => e = .returned (.bool true) ∧ Below w.heap.size w w' := by
  have HR := Lib.hid hr
  have HROW := Lib.hid row
  have HF := Lib.hid (pflat_out (.slice ao n c) l d w hr row hz h0)
  have HL : Hid (l.length ≤ 5000) := by have := row.len; unfold Hid; omega
  have HC : Hid (∀ v w, RowS w v l → Calls Tryd.prog 11 #[v] w fun e w' => e = .returned (.int .i64 0) ∧ Below w.heap.size w w') := fun v w h => hz ▸ rcheck_c v l w h
  have hd : decide ((n : Int) > 60) = false := decide_eq_false (by omega)
  by_cases hd0 : d < 0
  · have e0 : decide (d < 0) = true := decide_eq_true hd0
    clear hl hr row hz h0 hd0
    go_enter Tryd.func4, Tryd.ntmps4
    go_wp2_with fail
    refine HF.out.mono ?_
    rintro e w1 ⟨rfl, hb⟩
    have B1 := Lib.hid hb
    clear hb
    go_wp2_with fail
    refine (ref_c _ _ l HL.out (HROW.out.on B1.out)).mono ?_
    rintro e w2 ⟨u, rfl, ho, hb⟩
    have B2 := Lib.hid (below_next B1.out hb)
    have O2 := Lib.hid ho.row
    clear hb ho
    go_wp2_with fail
    refine (HC.out _ _ O2.out).mono ?_
    rintro e w3 ⟨rfl, hb⟩
    have B3 := Lib.hid (below_next B2.out hb)
    clear hb
    go_wp2_with fail
    refine (awake_c _ (HR.out.on B3.out)).mono ?_
    rintro e w4 ⟨rfl, hb⟩
    have B4 := Lib.hid (below_next B3.out hb)
    clear hb
    go_wp2_with fail
    go_ret
    exact ⟨rfl, B4.out⟩
  · have e0 : decide (d < 0) = false := decide_eq_false hd0
    have e6 : decide (d > 6) = true := decide_eq_true (by omega)
    clear hl hr row hz h0 hd0
    go_enter Tryd.func4, Tryd.ntmps4
    go_wp2_with fail
    refine HF.out.mono ?_
    rintro e w1 ⟨rfl, hb⟩
    have B1 := Lib.hid hb
    clear hb
    go_wp2_with fail
    refine (ref_c _ _ l HL.out (HROW.out.on B1.out)).mono ?_
    rintro e w2 ⟨u, rfl, ho, hb⟩
    have B2 := Lib.hid (below_next B1.out hb)
    have O2 := Lib.hid ho.row
    clear hb ho
    go_wp2_with fail
    refine (HC.out _ _ O2.out).mono ?_
    rintro e w3 ⟨rfl, hb⟩
    have B3 := Lib.hid (below_next B2.out hb)
    clear hb
    go_wp2_with fail
    refine (awake_c _ (HR.out.on B3.out)).mono ?_
    rintro e w4 ⟨rfl, hb⟩
    have B4 := Lib.hid (below_next B3.out hb)
    clear hb
    go_wp2_with fail
    go_ret
    exact ⟨rfl, B4.out⟩
set_option maxHeartbeats 8000000 in
set_option maxRecDepth 100000 in
theorem flats_walk (ao : Option Addr) (n c d : Nat) (l : List Sg) (w : World) (hr : Rd w) (row : RowS w (.slice ao n c) l) (hl : n ≤ 60) (hz : checkI l = 0) (hd6 : d ≤ 6) : Calls Tryd.prog 4 #[.slice ao n c, .int .i64 (d : Int)] w fun e w' => e = .returned (.bool true) ∧ Below w.heap.size w w' := by
  have HR := Lib.hid hr
  have HROW := Lib.hid row
  have hlen := row.len
  have HF := Lib.hid (pflat_c (.slice ao n c) l d w hr row hz hd6 (by omega))
  have HL : Hid (l.length ≤ 60) := by unfold Hid; omega
  have HC : Hid (∀ v w, RowS w v l → Calls Tryd.prog 11 #[v] w fun e w' => e = .returned (.int .i64 0) ∧ Below w.heap.size w w') := fun v w h => hz ▸ rcheck_c v l w h
  have HRF : Hid (∀ v w, RowS w v l → Calls Tryd.prog 17 #[v, .int .i64 (d : Int)] w fun e w' => ∃ u S, e = .returned u ∧ SubsAt w' w.heap.size 42 45 u S ∧ S.map Sb.plain = subsI d l ∧ Below w.heap.size w w') := fun v w h => rflat_c v l d w h HL.out hd6 (check_good hz).1
  have HD := Lib.hid hd6
  have hd : decide ((n : Int) > 60) = false := decide_eq_false (by omega)
  have e0 : decide ((d : Int) < 0) = false := decide_eq_false (by omega)
  have e6 : decide ((d : Int) > 6) = false := decide_eq_false (by omega)
  clear hl hr row hz hd6 hlen
  go_enter Tryd.func4, Tryd.ntmps4
  go_wp2_with fail
  refine HF.out.mono ?_
  rintro e w1 ⟨u, S, rfl, hS, hmap, hb⟩
  obtain ⟨a, ca, rfl⟩ := subs_shape hS
  obtain ⟨M, hM⟩ : ∃ M, S.length = M := ⟨_, rfl⟩
  rw [hM] at hS ⊢
  have B1 := Lib.hid hb
  have S1 := Lib.hid hS
  have HM := Lib.hid hM
  have HMAP := Lib.hid hmap
  clear hb hS hM hmap
  go_wp2_with fail
  refine (ref_c _ _ l (by have := HL.out; omega) (HROW.out.on B1.out)).mono ?_
  rintro e w2 ⟨v2, rfl, ho, hb⟩
  have B2 := Lib.hid (below_next B1.out hb)
  have BB2 := Lib.hid hb
  have O2 := Lib.hid ho.row
  clear hb ho
  go_wp2_with fail
  refine (HC.out _ _ O2.out).mono ?_
  rintro e w3 ⟨rfl, hb⟩
  have B3 := Lib.hid (below_next B2.out hb)
  have BB3 := Lib.hid (below_next BB2.out hb)
  clear hb
  go_wp2_with fail
  refine (ref_c _ _ l (by have := HL.out; omega) (HROW.out.on B3.out)).mono ?_
  rintro e w4 ⟨v4, rfl, ho, hb⟩
  have B4 := Lib.hid (below_next B3.out hb)
  have BB4 := Lib.hid (below_next BB3.out hb)
  have O4 := Lib.hid ho.row
  clear hb ho
  go_wp2_with fail
  refine (HRF.out _ _ O4.out).mono ?_
  rintro e w5 ⟨v5, T, rfl, hT, hmap, hb⟩
  obtain ⟨a2, ca2, rfl⟩ := subs_shape hT
  have B5 := Lib.hid (below_next B4.out hb)
  have S5 := Lib.hid (S1.out.grow (below_next BB4.out hb))
  have HST : Hid (S.map Sb.plain = T.map Sb.plain) := HMAP.out.trans hmap.symm
  have hTM : T.length = M := by have h := congrArg List.length HST.out; simp at h; rw [← h]; exact HM.out
  rw [hTM] at hT ⊢
  have T5 := Lib.hid hT
  have HTM := Lib.hid hTM
  have hM60 : M ≤ 1000 := by have h1 := (subsI_few HD.out l).1; rw [← HMAP.out, List.length_map, HM.out] at h1; have h2 := HL.out; omega
  have eM : ((M : Int) != (M : Int)) = false := by simp
  clear hb hT hmap hTM
  go_wp2_with fail
  go_loopw [69] (fun i wr => ∃ k : Nat, k ≤ M ∧ i = .int .i64 k ∧ Hid (Below w5.heap.size w5 wr)) (fun i _ => M - (intOf i).toNat)
  case atStart => exact ⟨0, by omega, rfl, Below.refl _ _⟩
  case round =>
    obtain ⟨k, hk, rfl, hw⟩ := hrel
    obtain ⟨w6, rfl⟩ : ∃ x, x = wr := ⟨_, rfl⟩
    by_cases hlt : k < M
    · have hdk : decide ((k : Int) < (M : Int)) = true := decide_eq_true (by omega)
      obtain ⟨x, hx⟩ : ∃ x, S[k]? = some x := ⟨_, List.getElem?_eq_getElem (by rw [HM.out]; exact hlt)⟩
      obtain ⟨y, hy⟩ : ∃ y, T[k]? = some y := ⟨_, List.getElem?_eq_getElem (by rw [HTM.out]; exact hlt)⟩
      have hxy : x.plain = y.plain := by
        have h1 : (S.map Sb.plain)[k]? = some x.plain := by rw [List.getElem?_map, hx]; rfl
        have h2 : (T.map Sb.plain)[k]? = some y.plain := by rw [List.getElem?_map, hy]; rfl
        rw [HST.out] at h1
        exact Option.some.inj (h1.symm.trans h2)
      have S6 := S5.out.grow hw.out
      have T6 := T5.out.grow hw.out
      obtain ⟨g, rfl, _, _, _⟩ := subs_addr S6 (by intro e; rw [e] at hx; simp at hx)
      obtain ⟨g2, rfl, _, _, _⟩ := subs_addr T6 (by intro e; rw [e] at hy; simp at hy)
      obtain ⟨c0, c1⟩ := subs_cells S6 hx
      obtain ⟨d0, d1⟩ := subs_cells T6 hy
      obtain ⟨xv, L, cl⟩ := x
      obtain ⟨yv, L2, cl2⟩ := y
      obtain ⟨rfl, rfl⟩ : L2 = L ∧ cl2 = cl := by simp only [Sb.plain, Prod.mk.injEq] at hxy; exact ⟨hxy.1.symm, hxy.2.symm⟩
      have RX := Lib.hid (S6.own k _ hx).row
      have RY := Lib.hid (T6.own k _ hy).row
      simp only at RX RY c0 c1 d0 d1
      obtain ⟨xa, xc, hxv⟩ := RX.out.shape
      obtain ⟨ya, yc, hyv⟩ := RY.out.shape
      obtain ⟨q, hq⟩ : ∃ q, L2.length = q := ⟨_, rfl⟩
      have HQ := Lib.hid hq
      rw [hq] at hxv hyv
      subst hxv hyv
      have ec : (cl2 != cl2) = false := by simp
      have eq : ((q : Int) != (q : Int)) = false := by simp
      have hq60 : q ≤ 100000 := by have h1 := (subsI_few HD.out l).2 (L2, cl2) (by rw [← HMAP.out]; exact List.mem_map.2 ⟨_, List.mem_of_getElem? hx, rfl⟩); have h2 := HL.out; dsimp only at h1; omega
      clear hx hy hxy S6 T6 hq
      go_wp2_with fail
      go_quiet (fail)
      go_wp2_with fail
      go_loopw [104] (fun i wr => ∃ j : Nat, j ≤ q ∧ i = .int .i64 j ∧ Hid (Below w6.heap.size w6 wr)) (fun i _ => q - (intOf i).toNat)
      case atStart => exact ⟨0, by omega, rfl, below_drewN (Below.refl _ _) _⟩
      case round =>
        obtain ⟨j, hj, rfl, hx⟩ := hrel
        have BX := Lib.hid (show Below w5.heap.size w5 wr from below_next hw.out hx.out)
        by_cases hjq : j < q
        · have hdj : decide ((j : Int) < (q : Int)) = true := decide_eq_true (by omega)
          obtain ⟨⟨px, py⟩, hp⟩ : ∃ p, L2[j]? = some p := ⟨_, List.getElem?_eq_getElem (by rw [HQ.out]; exact hjq)⟩
          obtain ⟨xb, xo, rfl, hxb, hxp⟩ := Row.addr RX.out (k := j) (by rw [HQ.out]; exact hjq)
          obtain ⟨yb, yo, rfl, hyb, hyp⟩ := Row.addr RY.out (k := j) (by rw [HQ.out]; exact hjq)
          obtain ⟨p0, p1⟩ := (hxp.on hx.out hxb) j (px, py) hp
          obtain ⟨q0, q1⟩ := (hyp.on hx.out hyb) j (px, py) hp
          have S6 := (S5.out.grow hw.out).grow hx.out
          have hbl := Nat.lt_of_lt_of_le hyb hx.out.size
          have hg2 := (T5.out.grow BX.out).row.lt g2 rfl |>.2
          have d0' : wr.cell? ⟨g2, k * 2, none⟩ = some (.slice (some ⟨yb, yo, none⟩) q yc) := (cell_below hx.out (T5.out.grow hw.out |>.row.lt g2 rfl).2).trans d0
          have B9 := Lib.hid (hx.out.alloc hx.out.size (.cells #[.int .i64 px, .int .i64 py] 44))
          have ex : (px != px) = false := by simp
          have ey : (py != py) = false := by simp
          simp only at p0 p1 q0 q1
          clear hp hxb hxp hyb hyp S6 c0 c1 d0 d1
          go_wp2_with fail
          go_quiet (fail)
          go_wp2_with fail
          exact ⟨⟨j + 1, by omega, by go_num, below_drewN B9.out _⟩, by simp [intOf]; omega⟩
        · have hdj : decide ((j : Int) < (q : Int)) = false := decide_eq_false (by omega)
          go_wp2_with fail
          exact ⟨⟨k + 1, by omega, by go_num, BX.out⟩, by simp [intOf]; omega⟩
    · have hdk : decide ((k : Int) < (M : Int)) = false := decide_eq_false (by omega)
      go_wp2_with fail
      refine (awake_c _ (HR.out.on (below_next B5.out hw.out))).mono ?_
      rintro e w7 ⟨rfl, hb⟩
      have B7 := Lib.hid (below_next (below_next B5.out hw.out) hb)
      clear hb
      go_wp2_with fail
      go_ret
      exact ⟨rfl, B7.out⟩
theorem flats_law (v : Value) (l : List Sg) (d : Int) (w : World) (hr : Rd w) (row : RowS w v l) : Calls Tryd.prog 4 #[v, .int .i64 d] w fun e w' => e = .returned (.bool true) ∧ Below w.heap.size w w' := by
  obtain ⟨ao, c, rfl⟩ := row.shape
  by_cases hl : 60 < l.length
  · exact flats_long ao _ c d w hr hl
  · by_cases hz : checkI l = 0
    · by_cases hd : d < 0 ∨ 6 < d
      · exact flats_out ao _ c d l w hr row (by omega) hz hd
      · obtain ⟨k, rfl⟩ : ∃ k : Nat, d = (k : Int) := ⟨d.toNat, by omega⟩
        exact flats_walk ao _ c k l w hr row (by omega) hz (by omega)
    · exact flats_bad ao _ c d (checkI l) l w hr row (by omega) rfl hz
end Go.Proofs.YtffgpikhahpomaaDoor
