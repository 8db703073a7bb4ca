/- Layer 5: Flat. -/
import Derived.Test.YtffgpikhahpomaaDoorS
import Derived.Deep.LoopGhost
namespace Go.Proofs.YtffgpikhahpomaaDoor
open Go.RowKit
theorem owns_grow {w w' : World} {base n size : Nat} {t : TypeId} {v : Value} {xs : List Value} (h : w.ownsRow base t size v n xs) (hb : Below w.heap.size w w') : w'.ownsRow base t size v n xs := by
  unfold World.ownsRow at *
  obtain ⟨h1, h2 | ⟨g, cap, cur, e1, e2, hg, e3⟩⟩ := h
  · exact ⟨h1, .inl h2⟩
  · exact ⟨h1, .inr ⟨g, cap, cur, e1, e2, by rw [hb.block g (Array.getElem?_eq_some_iff.1 hg).1]; exact hg, e3⟩⟩
/-- What lies in memory within a round. -/
structure FlatM (n ge cap : Nat) (w : World) (E : List Pt) (s7 : Value) (st : List Pc) (W : World) (l : BlkL) : Prop where
  ends : W.ownsRow n 44 2 (.slice (some ⟨ge, 0, none⟩) E.length cap) E.length (flatL E)
  wait : W.ownsRow (ge + 1) 115 10 s7 st.length (stk st)
  below : Below n w W
  low : n ≤ ge
  big : ge < W.heap.size
  lays : Lays W l
theorem FlatM.next {n ge cap : Nat} {w W W' : World} {E : List Pt} {s7 : Value} {st : List Pc} {l : BlkL} (h : FlatM n ge cap w E s7 st W l) (hb : Below W.heap.size W W') : FlatM n ge cap w E s7 st W' l :=
  ⟨owns_grow h.ends hb, owns_grow h.wait hb, h.below.trans (hb.mono (by have := h.low; have := h.big; omega)), h.low, by have := h.big; have := hb.size; omega, h.lays.grow hb⟩
theorem FlatM.add {n ge cap : Nat} {w W : World} {E : List Pt} {s7 : Value} {st : List Pc} {l : BlkL} (h : FlatM n ge cap w E s7 st W l) (t : TypeId) (cs : Array Value) : FlatM n ge cap w E s7 st (W.alloc (.cells cs t)) ((W.heap.size, t, cs) :: l) :=
  ⟨h.ends.alloc _, h.wait.alloc _, h.below.alloc (by have := h.low; have := h.big; omega) _, h.low, by have := h.big; simp; omega, Blk.new _ _ _, h.lays.alloc⟩
theorem FlatM.addAt {n ge cap : Nat} {w W : World} {E : List Pt} {s7 : Value} {st : List Pc} {l : BlkL} (h : FlatM n ge cap w E s7 st W l) (t : TypeId) (cs : Array Value) (g : Nat) (hg : W.heap.size = g) : FlatM n ge cap w E s7 st (W.alloc (.cells cs t)) ((g, t, cs) :: l) := by
  subst hg; exact h.add t cs
/-- A line's end has been added. -/
theorem FlatM.ended {n ge cap : Nat} {w W W' : World} {E : List Pt} {s7 : Value} {st : List Pc} {l : BlkL} (h : FlatM n ge cap w E s7 st W l) (p : Pt) {m : Nat} (hm : m = E.length + 1) (ho : W'.ownsRow n 44 2 (.slice (some ⟨ge, 0, none⟩) m cap) m (flatL E ++ [.int .i64 p.1, .int .i64 p.2])) (hg : W.grownBy W' (some ge)) : FlatM n ge cap w (E ++ [p]) s7 st W' [] :=
  ⟨by rw [List.length_append, flatL_append]; subst hm; exact ho, h.wait.kept hg (by
      cases hv : s7.ownBlock with
      | none => exact .inl rfl
      | some k => right; intro e; have := (h.wait.lt k hv).1; simp at e; omega), own_below h.ends hg h.below (Nat.le_refl _) (by have := h.low; have := h.big; omega), h.low, by have := h.big; have := hg.size; omega, trivial⟩
/-- Pieces have been added. -/
theorem FlatM.laid {n ge cap : Nat} {w W W' : World} {E : List Pt} {s7 s7' : Value} {st st' : List Pc} {l : BlkL} (h : FlatM n ge cap w E s7 st W l) (ho : W'.ownsRow (ge + 1) 115 10 s7' st'.length (stk st')) (hg : W.grownBy W' s7.ownBlock) : FlatM n ge cap w E s7' st' W' [] :=
  ⟨h.ends.kept hg (by
      cases hv : s7.ownBlock with
      | none => right; simp [Value.ownBlock]
      | some k => right; intro e; have := (h.wait.lt k hv).1; simp [Value.ownBlock] at e; omega), ho, own_below h.wait hg h.below (by have := h.low; omega) (by have := h.low; have := h.big; omega), h.low, by have := h.big; have := hg.size; omega, trivial⟩
theorem FlatR.mem {n ge cap k : Nat} {w wr : World} {full E : List Pt} {e7 s7 : Value} {st : List Pc} (h : FlatR n ge cap w full k e7 s7 wr E st) : FlatM n ge cap w E s7 st wr [] :=
  ⟨by have := h.ends; rwa [h.shape] at this, h.wait, h.below, h.low, h.big, trivial⟩
theorem FlatM.rel {n ge cap k : Nat} {w W : World} {full E : List Pt} {s7 : Value} {st : List Pc} {l : BlkL} (h : FlatM n ge cap w E s7 st W l) (ha : E ++ rest st = full) (hc : ∀ c ∈ st, curveB c.1 = true) (hf : todo st ≤ k) : FlatR n ge cap w full k (.slice (some ⟨ge, 0, none⟩) E.length cap) s7 W E st :=
  ⟨h.ends, rfl, h.wait, ha, hc, hf, h.below, h.low, h.big⟩
set_option maxHeartbeats 4000000 in
set_option maxRecDepth 100000 in
theorem flat_walk (v : Value) (l : List Pt) (d c : Nat) (w : World) (hd : d ≤ 6) (hc : c = 2 ^ d) (x : Ro)
    (HX : Hid (ro l = x ∧ curveB l = true))
    (HC : Hid (Calls Tryd.prog 63 #[v] w fun e w' => e = .returned (.bool true) ∧ Below w.heap.size w w'))
    (HR : Hid (∀ w', Below w.heap.size w w' → Calls Tryd.prog 64 #[v] w' fun e w'' => e = .returned (.agg (nine x.p x.q x.r x.s x.n)) ∧ Below w'.heap.size w' w'')) :
    Calls Tryd.prog 55 #[v, .int .i64 (d : Int)] w fun e w' => ∃ u, e = .returned (.tuple #[u, .int .i64 0]) ∧ Own w' w.heap.size 44 u (flatI d l) ∧ Below w.heap.size w w' := by
  have d0 : decide ((d : Int) < 0) = false := decide_eq_false (by omega)
  have d6 : decide ((d : Int) > 6) = false := decide_eq_false (by omega)
  have hc64 : c ≤ 64 := by rw [hc]; exact pow_small hd
  have ew : wrap64 ((2 : Int) ^ d) = (c : Int) := by
    have e : ((2 : Int) ^ d) = (c : Int) := by rw [hc]; try simp
    rw [e]; exact wrapR _ (by omega) (by omega)
  have HM : ∀ W : World, (Instr.makeSlice 37 (.int .i64 0) (.int .i64 (c : Int))).run Tryd.prog W = .ok (.slice (some ⟨W.heap.size, 0, none⟩) 0 c) (W.alloc (.cells (madeCells #[.int .i64 0, .int .i64 0] (c * 2)) 44)) := fun W => make_cap W c hc64
  have HC2 := Lib.hid hc
  have HC64 := Lib.hid hc64
  have HD := Lib.hid hd
  obtain ⟨n, hn⟩ : ∃ n, w.heap.size = n := ⟨_, rfl⟩
  rw [hn] at HC HR ⊢
  have HN := Lib.hid hn
  clear hn hc
  obtain ⟨i0, hi, hz0, hz1, hz2⟩ := info_parts infoP
  obtain ⟨i1, hj, hy0, hy1, hy2⟩ := info_parts infoPc
  have Hi := Lib.hid hi; have Hz0 := Lib.hid hz0; have Hz1 := Lib.hid hz1; have Hz2 := Lib.hid hz2
  have Hj := Lib.hid hj; have Hy0 := Lib.hid hy0; have Hy1 := Lib.hid hy1; have Hy2 := Lib.hid hy2
  clear hi hz0 hz1 hz2 hj hy0 hy1 hy2
  go_enter Tryd.func55, Tryd.ntmps55
  go_wp2_with fail
  refine HC.out.mono ?_
  rintro e w1 ⟨rfl, hb⟩
  have B1 := Lib.hid hb
  clear hb
  go_wp2_with fail
  obtain ⟨W2, hW2⟩ : ∃ W, w1.alloc (.cells (madeCells #[.int .i64 0, .int .i64 0] (c * 2)) 44) = W := ⟨_, rfl⟩
  rw [hW2]
  have O2 : Hid (W2.ownsRow n 44 2 (.slice (some ⟨w1.heap.size, 0, none⟩) 0 c) 0 [] ∧ Below n w W2 ∧ W2.heap.size = w1.heap.size + 1 ∧ n ≤ w1.heap.size) := by
    have hs := B1.out.size
    have hN := HN.out
    have hcc := HC64.out
    subst hW2
    exact ⟨World.ownsRow_made w1 _ c (by omega) (by unfold maxLen; omega) (size_madeCells _ _), B1.out.alloc (by omega) _, by simp, by omega⟩
  clear hW2
  refine (HR.out _ O2.out.2.1).mono ?_
  rintro e w3 ⟨rfl, hb⟩
  generalize w1.heap.size = ge at *
  have O3 : Hid (w3.ownsRow n 44 2 (.slice (some ⟨ge, 0, none⟩) 0 c) 0 [] ∧ Below n w w3 ∧ ge < w3.heap.size ∧ n ≤ ge) := by
    have h1 := O2.out.2.2.1
    have h2 := hb.size
    have h3 := O2.out.2.2.2
    exact ⟨Own.grow (l := []) O2.out.1 hb, O2.out.2.1.trans (hb.mono (by omega)), by omega, h3⟩
  clear hb
  go_wp2_with fail
  have O4 : Hid (FlatR n ge c w (flatI d l) (2 ^ (d + 1)) (.slice (some ⟨ge, 0, none⟩) 0 c) (.slice (some ⟨w3.heap.size, 0, none⟩) 1 1) (w3.alloc (.cells (pcR x d).toArray 115)) [] [(l, d)]) := by
    have h1 := O3.out.2.2.1
    have h2 := O3.out.2.2.2
    refine ⟨O3.out.1.alloc _, rfl, ?_, by simp [rest], ?_, by simp [todo], O3.out.2.1.alloc (by omega) _, h2, by simp; omega⟩
    · have := World.ownsRow_lit (base := ge + 1) (e := 115) (size := 10) w3 (pcR x d).toArray 1 (by omega) (by unfold maxLen; omega) rfl
      have e : stk [(l, d)] = pcR x d := by simp [stk, pcL, HX.out.1]
      rw [e]; exact this
    · intro c hc; simp at hc; subst hc; exact HX.out.2
  clear O3 O2
  go_loopg [6, 7] (2 ^ (d + 1)) (fun k e7 s7 wr => ∃ (E : List Pt) (st : List Pc), Hid (FlatR n ge c w (flatI d l) k e7 s7 wr E st))
  case atStart => exact ⟨[], [(l, d)], O4⟩
  case round =>
    obtain ⟨E, st, hw⟩ := hrel
    cases st with
    | nil =>
      obtain ⟨a, c7, rfl⟩ := own_shape hw.out.wait
      obtain rfl := hw.out.shape
      simp only [List.length_nil]
      have HE : Hid (E = flatI d l) := by unfold Hid; simpa [rest] using hw.out.all
      go_wp2_with fail
      go_ret2
      refine ⟨_, rfl, ?_, hw.out.below⟩
      rw [← HE.out]; exact hw.out.ends
    | cons pc st =>
      obtain ⟨lc, kc⟩ := pc
      obtain ⟨g, c7, M, m, rfl, hm, hM, hg1, hg2, hg3, hwait⟩ := own_take hw.out.wait
      obtain rfl := hw.out.shape
      have S0 := Lib.hid hw.out.mem
      have hlc : curveB lc = true := hw.out.curves _ (List.mem_cons_self)
      obtain ⟨y, hy⟩ : ∃ y, ro lc = y := ⟨_, rfl⟩
      have HY : Hid (ro lc = y ∧ curveB lc = true) := ⟨hy, hlc⟩
      have CL : Hid (∀ j u, (pcR y kc)[j]? = some u → wr.cell? ⟨g, m * 10 + j, none⟩ = some u) := fun j u hj => own_cells hwait hm j u (by unfold pcL; rw [hy]; exact hj)
      have c0 := CL.out 0 _ rfl
      have c1 := CL.out 1 _ rfl
      have c2 := CL.out 2 _ rfl
      have c3 := CL.out 3 _ rfl
      have c4 := CL.out 4 _ rfl
      have c5 := CL.out 5 _ rfl
      have c6 := CL.out 6 _ rfl
      have c7' := CL.out 7 _ rfl
      have c8 := CL.out 8 _ rfl
      have c9 := CL.out 9 _ rfl
      simp only [Nat.add_zero] at c0
      have SP : Hid (FlatM n ge c w E (.slice (some ⟨g, 0, none⟩) m c7) st wr []) :=
        ⟨S0.out.ends, by rw [hm]; exact own_pop hwait hm, S0.out.below, S0.out.low, S0.out.big, trivial⟩
      have hmM : m < M := by omega
      have hpos : decide ((M : Int) > 0) = true := decide_eq_true (by omega)
      have hm64 : Hid (M ≤ 64 ∧ E.length + 1 ≤ c) := by
        have h1 := rest_few ((lc, kc) :: st)
        have h2 := congrArg List.length hw.out.all
        rw [List.length_append, flatI_length, ← HC2.out] at h2
        have h3 := HC64.out
        have h4 : 0 < 2 ^ kc := Nat.pos_of_ne_zero (by simp)
        have h5 := rest_few st
        rw [rest, List.length_append, flatI_length] at h2
        dsimp only at h2
        refine ⟨?_, ?_⟩ <;> omega
      have hlast : wrap64 ((M : Int) - 1) = (m : Int) := by have := hm64.out.1; rw [wrapR _ (by omega) (by omega)]; omega
      have Hm := Lib.hid hm; have HMm := Lib.hid hM
      clear hy hlc hm hM hg1 hwait
      cases kc with
      | zero =>
        simp only [Int.natCast_zero] at c9
        obtain ⟨q, hq⟩ : ∃ q, lc.getLastD (0, 0) = q := ⟨_, rfl⟩
        have HE : Hid (∀ w', Calls Tryd.prog 65 #[.agg (nine y.p y.q y.r y.s y.n)] w' fun e w'' => e = .returned (.agg #[.int .i64 q.1, .int .i64 q.2]) ∧ Below w'.heap.size w' w'') := fun w' => by
          have h := end_c lc HY.out.2 w'
          rw [HY.out.1, hq] at h
          exact h
        have HQ : Hid (E ++ [q] ++ rest st = flatI d l) := by
          have h := hw.out.all
          simp only [rest, flatI, hq] at h
          unfold Hid
          rw [List.append_assoc]
          exact h
        clear hq
        go_wp2_with fail
        refine (HE.out _).mono ?_
        rintro e w4 ⟨rfl, hb⟩
        have S4 := Lib.hid (((SP.out.add 115 (pcR y 0).toArray).next hb).add 44 (two q))
        clear hb
        have q0 := S4.out.lays.1.p0
        have q1 := S4.out.lays.1.p1
        have hN1 := hm64.out.2
        obtain ⟨NE, hNE⟩ : ∃ k, E.length = k := ⟨_, rfl⟩
        rw [hNE] at hN1
        have HNE := Lib.hid hNE
        rw [hNE]
        have hOE : Hid ((w4.alloc (.cells #[.int .i64 q.1, .int .i64 q.2] 44)).ownsRow n 44 2 (.slice (some ⟨ge, 0, none⟩) NE c) NE (flatL E)) := by
          have := S4.out.ends
          rwa [hNE] at this
        clear hNE
        go_wp2_with (at_builtin; refine wpList_append_fits _ rfl _ _ 37 rfl n 44 i0 2 Tryd.underlying37 Hi.out Hz1.out ge NE c (flatL E) rfl hOE.out ⟨w4.heap.size, 0, none⟩ 1 1 [.int .i64 q.1, .int .i64 q.2] rfl rfl ?c1 ?c2 hN1 ?_)
        case c1 =>
          intro j u hj
          match j, hj with
          | 0, hj => simp at hj; subst hj; simp [Addr.add]
          | 1, hj => simp at hj; subst hj; simp [Addr.add]
        case c2 => intro u hu; simp at hu; rcases hu with rfl | rfl <;> rfl
        intro w5 hown hgrow
        have S5 := Lib.hid (S4.out.ended q (by rw [HNE.out]) hown hgrow)
        clear hown hgrow
        go_wp2_with fail
        go_roundg (todo st)
        case measure => have := todo_pop _ _ _ hw.out.few; omega
        case rel =>
          have R := S5.out.rel HQ.out (fun c hc => hw.out.curves c (List.mem_cons_of_mem _ hc)) (Nat.le_refl _)
          rw [show (E ++ [q]).length = NE + 1 by simp [HNE.out]] at R
          exact ⟨E ++ [q], st, R⟩
      | succ k1 =>
        obtain ⟨A, hA⟩ : ∃ A, ro (firstI lc) = A := ⟨_, rfl⟩
        obtain ⟨B, hB⟩ : ∃ B, ro (secondI lc) = B := ⟨_, rfl⟩
        have HP : Hid (∀ w', Calls Tryd.prog 66 #[.agg (nine y.p y.q y.r y.s y.n)] w' fun e w'' => e = .returned (.tuple #[.agg (nine A.p A.q A.r A.s A.n), .agg (nine B.p B.q B.r B.s B.n)]) ∧ Below w'.heap.size w' w'') := fun w' => by
          have h := parted_c lc HY.out.2 w'
          rw [HY.out.1, hA, hB] at h
          exact h
        have HAB : Hid (stk st ++ (pcR B k1 ++ pcR A k1) = stk ((firstI lc, k1) :: (secondI lc, k1) :: st)) := by
          unfold Hid
          simp only [stk, pcL, hA, hB, List.append_assoc]
        have HQ : Hid (E ++ rest ((firstI lc, k1) :: (secondI lc, k1) :: st) = flatI d l) := by
          have h := hw.out.all
          simp only [rest, flatI, List.append_assoc] at h ⊢
          exact h
        have HCV : Hid (∀ c ∈ (firstI lc, k1) :: (secondI lc, k1) :: st, curveB c.1 = true) := fun c hc => by
          rcases List.mem_cons.1 hc with rfl | hc
          · exact (firstI_curve HY.out.2).1
          · rcases List.mem_cons.1 hc with rfl | hc
            · exact (secondI_curve HY.out.2).1
            · exact hw.out.curves c (List.mem_cons_of_mem _ hc)
        have HTD := Lib.hid (todo_part lc (firstI lc) (secondI lc) k1 st _ hw.out.few)
        clear hA hB
        have hK64 : k1 + 1 ≤ 64 := by
          have h1 := hw.out.few
          have h2 : Hid (c ≤ 64) := HC64
          have h3 := congrArg List.length hw.out.all
          rw [List.length_append, flatI_length, ← HC2.out, rest, List.length_append, flatI_length] at h3
          dsimp only at h3
          have h4 : k1 + 1 < 2 ^ (k1 + 1) := Nat.lt_two_pow_self
          have h5 := h2.out
          omega
        obtain ⟨K, hK⟩ : ∃ K, k1 + 1 = K := ⟨_, rfl⟩
        have CK : Hid (Blk (wr.alloc (.cells (pcR y K).toArray 115)) wr.heap.size 115 (pcR y K).toArray) := Blk.new _ _ _
        rw [hK] at c9 hK64
        have hk0 : ((K : Int) == 0) = false := by simp; omega
        have hk1 : decide ((K : Int) = 0) = false := decide_eq_false (by omega)
        have hk2 : wrap64 ((K : Int) - 1) = (k1 : Int) := by rw [wrapR _ (by omega) (by omega)]; omega
        have HK := Lib.hid hK
        clear hK hK64 CK
        go_wp2_with fail
        refine (HP.out _).mono ?_
        rintro e w4 ⟨rfl, hb⟩
        have S4 := Lib.hid ((SP.out.add 115 (pcR y K).toArray).next hb)
        clear hb
        have p9 : w4.cell? ⟨wr.heap.size, 9, none⟩ = some (.int .i64 (K : Int)) := S4.out.lays.1.cell 9
        have plt := S4.out.lays.1.lt
        have S6 := Lib.hid (((S4.out.add 112 A.cells).addAt 112 B.cells (w4.heap.size + 1) (by simp)).addAt 115 (pcR B k1 ++ pcR A k1).toArray (w4.heap.size + 2) (by simp))
        have hOW : Hid ((((w4.alloc (.cells A.cells 112)).alloc (.cells B.cells 112)).alloc (.cells (pcR B k1 ++ pcR A k1).toArray 115)).ownsRow (ge + 1) 115 10 (.slice (some ⟨g, 0, none⟩) m c7) m (stk st)) := by
          have := S6.out.wait
          rwa [Hm.out] at this
        go_wp2_with (at_builtin; refine wpList_append_own _ rfl _ _ 116 rfl (ge + 1) 115 i1 (.agg #[.int .i64 0, .int .i64 0, .int .i64 0, .int .i64 0, .int .i64 0, .int .i64 0, .int .i64 0, .int .i64 0, .int .i64 0, .int .i64 0]) 10 80 Tryd.underlying116 Hj.out Hy0.out Hy1.out Hy2.out rfl (by decide) _ _ _ rfl hOW.out ⟨w4.heap.size + 2, 0, none⟩ 2 2 (pcR B k1 ++ pcR A k1) rfl rfl ?d1 ?d2 ?d3 ?d4 ?d5 ?_)
        case d1 =>
          intro j u hj
          rw [Addr.add_lit, Nat.zero_add]
          exact (S6.out.lays.1.cell j).trans (by simpa using hj)
        case d2 => intro u hu; rcases List.mem_append.1 hu with h | h <;> exact pcR_one _ _ u h
        case d3 => have := hm64.out.1; unfold maxLen; omega
        case d4 => have := hm64.out.1; omega
        case d5 => have := S6.out.big; exact this
        intro v' w5 hown hgrow _
        have S5 : Hid (FlatM n ge c w E v' ((firstI lc, k1) :: (secondI lc, k1) :: st) w5 []) := by
          refine S6.out.laid ?_ hgrow
          rw [← HAB.out]
          have e : ((firstI lc, k1) :: (secondI lc, k1) :: st).length = m + 2 := by simp [Hm.out]
          rw [e]
          exact hown
        clear hown hgrow
        go_wp2_with fail
        go_roundg (todo ((firstI lc, k1) :: (secondI lc, k1) :: st))
        case measure => have := HTD.out; omega
        case rel => exact ⟨E, _, S5.out.rel HQ.out HCV.out (Nat.le_refl _)⟩
set_option maxHeartbeats 1000000 in
set_option maxRecDepth 100000 in
theorem flat_not (v : Value) (d : Int) (w : World)
    (HC : Hid (Calls Tryd.prog 63 #[v] w fun e w' => e = .returned (.bool false) ∧ Below w.heap.size w w')) :
    Calls Tryd.prog 55 #[v, .int .i64 d] w fun e w' => e = .returned (.tuple #[.slice none 0 0, .int .i64 30]) ∧ Below w.heap.size w w' := by
  go_enter Tryd.func55, Tryd.ntmps55
  go_wp2_with fail
  refine HC.out.mono ?_
  rintro e w1 ⟨rfl, hb⟩
  go_wp2_with fail
  go_ret2
  exact ⟨rfl, hb⟩
set_option maxHeartbeats 1000000 in
set_option maxRecDepth 100000 in
theorem flat_neg (v : Value) (d : Int) (w : World) (hd : d < 0 ∨ 6 < d)
    (HC : Hid (Calls Tryd.prog 63 #[v] w fun e w' => e = .returned (.bool true) ∧ Below w.heap.size w w')) :
    Calls Tryd.prog 55 #[v, .int .i64 d] w fun e w' => e = .returned (.tuple #[.slice none 0 0, .int .i64 30]) ∧ Below w.heap.size w w' := by
  by_cases h0 : d < 0
  · have d0 : decide (d < 0) = true := decide_eq_true h0
    clear hd
    go_enter Tryd.func55, Tryd.ntmps55
    go_wp2_with fail
    refine HC.out.mono ?_
    rintro e w1 ⟨rfl, hb⟩
    go_wp2_with fail
    go_ret2
    exact ⟨rfl, hb⟩
  · have d0 : decide (d < 0) = false := decide_eq_false h0
    have d6 : decide (d > 6) = true := decide_eq_true (by omega)
    clear hd
    go_enter Tryd.func55, Tryd.ntmps55
    go_wp2_with fail
    refine HC.out.mono ?_
    rintro e w1 ⟨rfl, hb⟩
    go_wp2_with fail
    go_ret2
    exact ⟨rfl, hb⟩
theorem flat_no (v : Value) (l : List Pt) (d : Int) (w : World) (row : Row w v l) (h : curveB l = false ∨ d < 0 ∨ 6 < d) :
    Calls Tryd.prog 55 #[v, .int .i64 d] w fun e w' => e = .returned (.tuple #[.slice none 0 0, .int .i64 30]) ∧ Below w.heap.size w w' := by
  have HC := isCurve_c v l w row
  cases hc : curveB l with
  | false => rw [hc] at HC; exact flat_not v d w (Lib.hid HC)
  | true =>
    rw [hc] at HC
    refine flat_neg v d w ?_ (Lib.hid HC)
    rcases h with h | h
    · rw [hc] at h; cases h
    · exact h
theorem flat_c (v : Value) (l : List Pt) (d : Nat) (w : World) (row : Row w v l) (h : curveB l = true) (hd : d ≤ 6) :
    Calls Tryd.prog 55 #[v, .int .i64 (d : Int)] w fun e w' => ∃ u, e = .returned (.tuple #[u, .int .i64 0]) ∧ Own w' w.heap.size 44 u (flatI d l) ∧ Below w.heap.size w w' :=
  flat_walk v l d _ w hd rfl (ro l) ⟨rfl, h⟩ (Lib.hid (h ▸ isCurve_c v l w row)) (Lib.hid fun w' hb => rowOf_c v l h w' (row.on hb))
end Go.Proofs.YtffgpikhahpomaaDoor

