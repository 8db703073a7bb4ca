/- Layer 9: Way. -/
import Derived.Test.YtclkkdhfdoidfaaDd
namespace Go.Proofs.Ytclkkdhfdoidfaa
open Go.RowKit Go.Shelf
attribute [local go_sem] Oper.semAt_some
/-- Along a subpath: its points apart, and the first one again, if it is closed. -/
def wayF (q : List Pt) (cl : Bool) : List Pt := if cl = true ∧ q[q.length - 1]? ≠ q[0]? then q ++ (q[0]?).toList else q
def wayI (l : List Pt) (cl : Bool) : List Pt := wayF (compI l) cl
/-- Is one of the first lines too long? -/
def longN (W : List Pt) (n : Nat) : Bool := (List.range n).any fun i => !lenB (subP (at0 W (i + 1)) (at0 W i))
def longB (W : List Pt) : Bool := longN W (W.length - 1)
theorem longN_succ (W : List Pt) (n : Nat) : longN W (n + 1) = (longN W n || !lenB (subP (at0 W (n + 1)) (at0 W n))) := by unfold longN; rw [List.range_succ, List.any_append]; simp
theorem longN_at {W : List Pt} {n k : Nat} (hk : k < n) (h : lenB (subP (at0 W (k + 1)) (at0 W k)) = false) : longN W n = true := by
  unfold longN; rw [List.any_eq_true]; exact ⟨k, List.mem_range.2 hk, by rw [h]; rfl⟩
def toldW (W : List Pt) : Int × List Pt := if longB W then (10, []) else (0, W)
def wayO (l : List Pt) (cl : Bool) : Int × List Pt := if l.all roomP then toldW (wayI l cl) else (30, [])
theorem wayF_mem {q : List Pt} {cl : Bool} {p : Pt} (h : p ∈ wayF q cl) : p ∈ q := by
  unfold wayF at h
  split at h
  · rcases List.mem_append.1 h with h | h
    · exact h
    · cases h0 : q[0]? with
      | none => rw [h0] at h; simp at h
      | some r => rw [h0] at h; simp at h; subst h; exact List.mem_of_getElem? h0
  · exact h
theorem wayI_mem {l : List Pt} {cl : Bool} {p : Pt} (h : p ∈ wayI l cl) : p ∈ l := compUp_mem l _ p (wayF_mem h)
theorem wayF_len (q : List Pt) (cl : Bool) : (wayF q cl).length ≤ q.length + 1 := by
  unfold wayF
  split
  · rw [List.length_append]
    have : ((q[0]?).toList).length ≤ 1 := by cases q[0]? <;> simp
    omega
  · omega
theorem wayI_len (l : List Pt) (cl : Bool) : (wayI l cl).length ≤ l.length + 1 := Nat.le_trans (wayF_len _ _) (by have := compI_len l; omega)
/-- A result that is a slice in a cell, and an error in another. -/
theorem results_sl {fn : Func} {tmps : Array Value} {W : World} {g k : Nat} {v u : Value} {T : TypeId} (hT : T = 44 ∨ T = 56) (a b : Nat) (hres : fn.results = #[.cell a T, .cell b 27]) (ha : tmps[a]? = some (.pointer (some ⟨g, 0, none⟩))) (hb : tmps[b]? = some (.pointer (some ⟨k, 0, none⟩))) (hg : Blk W g T #[v]) (hk : Blk W k 27 #[u]) :
    (results fn tmps).run Try.prog W = .ok (.tuple #[v, u]) W := by
  have h0 := hg.cell 0
  have h1 := hk.cell 0
  simp only [List.getElem?_toArray, List.getElem?_cons_zero] at h0 h1
  rcases hT with rfl | rfl <;> simp [results, hres, ha, hb, go_sem, h0, h1]
/-- What lies at hand while Way runs. -/
structure WayM (w : World) (s : Value) (cl : Bool) (v : Value) (z : Int) (A : World) : Prop where
  below : Below w.heap.size w A
  size : w.heap.size + 3 ≤ A.heap.size
  sub : Blk A w.heap.size 46 #[s, .bool cl]
  way : Blk A (w.heap.size + 1) 44 #[v]
  err : Blk A (w.heap.size + 1 + 1) 27 #[.int .i64 z]
theorem WayM.grow {w A B : World} {s v : Value} {cl : Bool} {z : Int} (h : WayM w s cl v z A) (hb : Below A.heap.size A B) : WayM w s cl v z B :=
  ⟨h.below.trans (hb.mono h.below.size), Nat.le_trans h.size hb.size, h.sub.grow hb, h.way.grow hb, h.err.grow hb⟩
theorem WayM.keep {S : Nat → Prop} {w A B : World} {s v : Value} {cl : Bool} {z : Int} (h : WayM w s cl v z A) (hb : Keep S A B) (hS : ∀ j, j < w.heap.size + 3 → S j) : WayM w s cl v z B :=
  ⟨h.below.trans (hb.below (fun j hj => hS j (by omega)) h.below.size), Nat.le_trans h.size hb.size, hb.blk h.sub (hS _ (by omega)), hb.blk h.way (hS _ (by omega)), hb.blk h.err (hS _ (by omega))⟩
theorem WayM.grown {w A B : World} {s v u : Value} {cl : Bool} {z : Int} {t : TypeId} {l : List Pt} (h : WayM w s cl v z A) (hb : A.grownBy B u.ownBlock) (ho : Own A (w.heap.size + 3) t u l) : WayM w s cl v z B :=
  h.keep (Keep.of_grown hb) (fun j hj e => by have := (Own.lt ho j e).1; omega)
theorem WayM.told {w A : World} {s v : Value} {cl : Bool} {z : Int} (h : WayM w s cl v z A) (v' : Value) (z' : Int) : WayM w s cl v' z' ((A.setCell ⟨w.heap.size + 1, 0, none⟩ v').setCell ⟨w.heap.size + 1 + 1, 0, none⟩ (.int .i64 z')) :=
  ⟨(h.below.setCell (by simp) _).setCell (by simp; omega) _, by have := h.size; simp [World.setCell]; omega, (h.sub.other _ _ (by simp)).other _ _ (by simp; omega), (h.way.set 0 v').other _ _ (by simp), (h.err.other _ _ (by simp)).set 0 (.int .i64 z')⟩
/-- The beginning. -/
theorem WayM.start (w : World) (s : Value) (cl : Bool) : WayM w s cl (.slice none 0 0) 0 (((w.alloc (.cells #[s, .bool cl] 46)).alloc (.cells #[.slice none 0 0] 44)).alloc (.cells #[.int .i64 0] 27)) :=
  ⟨(((Below.refl _ _).alloc (Nat.le_refl _) _).alloc (by simp) _).alloc (by simp; omega) _, by simp, ((Blk.new _ _ _).alloc _).alloc _, (Blk.newAt _ _ _ (by simp)).alloc _, Blk.newAt _ _ _ (by simp)⟩
set_option maxHeartbeats 2000000 in
set_option maxRecDepth 100000 in
theorem way_bad (s : Value) (l : List Pt) (cl : Bool) (w : World) (row : Row w s l) (hl : l.length ≤ 1000) (hr : l.all roomP = false) :
    Calls Try.prog 21 #[.agg #[s, .bool cl]] w (ToldP w (30, [])) := by
  have M0 := Lib.hid (WayM.start w s cl)
  obtain ⟨w0, hw0⟩ : ∃ W, (((w.alloc (.cells #[s, .bool cl] 46)).alloc (.cells #[.slice none 0 0] 44)).alloc (.cells #[.int .i64 0] 27)) = W := ⟨_, rfl⟩
  have HW0 := Lib.hid hw0
  rw [hw0] at M0
  have HC := Lib.hid (containsP_c s l w0 (by omega) (row.on M0.out.below))
  rw [hr] at HC
  obtain ⟨ao, c, rfl⟩ := row.shape
  obtain ⟨n, hn⟩ : ∃ n, l.length = n := ⟨_, rfl⟩
  rw [hn] at HC M0 HW0 ⊢
  clear row hl hr hw0 hn
  have c0 : w0.cell? ⟨w.heap.size, 0, none⟩ = some (.slice ao n c) := M0.out.sub.cell 0
  go_enter Try.func21, Try.ntmps21
  go_wp2_with fail
  rw [HW0.out]
  refine HC.out.mono ?_
  rintro e w1 ⟨rfl, hb⟩
  have M1 := Lib.hid (M0.out.grow hb)
  clear hb c0
  have c1 := M1.out.way.cell 0
  have c2 := M1.out.err.cell 0
  have f1 := M1.out.way.free 0
  have f2 := M1.out.err.free 0
  have l1 := M1.out.way.lt
  have l2 := M1.out.err.lt
  simp only [List.getElem?_toArray, List.getElem?_cons_zero] at c1 c2
  go_wp2_with fail
  have M2 := M1.out.told (.slice none 0 0) 30
  exact bodyPost_ret (results_sl (.inl rfl) 2 3 rfl rfl rfl M2.way M2.err) rfl ⟨_, rfl, Own.nil _ _ _, M2.below⟩
set_option maxHeartbeats 8000000 in
set_option maxRecDepth 100000 in
theorem way_walk (s : Value) (l : List Pt) (cl : Bool) (w : World) (row : Row w s l) (hl : l.length ≤ 1000) (hr : l.all roomP = true) :
    Calls Try.prog 21 #[.agg #[s, .bool cl]] w (ToldP w (toldW (wayI l cl))) := by
  have M0 := Lib.hid (WayM.start w s cl)
  obtain ⟨w0, hw0⟩ : ∃ W, (((w.alloc (.cells #[s, .bool cl] 46)).alloc (.cells #[.slice none 0 0] 44)).alloc (.cells #[.int .i64 0] 27)) = W := ⟨_, rfl⟩
  have HW0 := Lib.hid hw0
  rw [hw0] at M0
  have HC := Lib.hid (containsP_c s l w0 (by omega) (row.on M0.out.below))
  rw [hr] at HC
  have HCL : Hid (∀ W, Below w.heap.size w W → Calls Try.prog 44 #[s] W fun e w' => ∃ v, e = .returned v ∧ Own w' W.heap.size 32 v l ∧ Below W.heap.size W w') := fun W hW => clone_c s l W (row.on hW) (by omega)
  have HCO : Hid (∀ v W, Own W (w.heap.size + 3) 32 v l → Calls Try.prog 43 #[v] W fun e w' => ∃ v', e = .returned v' ∧ Own w' (w.heap.size + 3) 32 v' (compI l) ∧ W.grownBy w' v.ownBlock) := fun v W h => compact_c _ v l W h (by omega)
  have HQL : Hid ((compI l).length ≤ 1000) := Nat.le_trans (compI_len l) hl
  have HRQ : Hid (∀ p ∈ wayI l cl, roomP p = true) := fun p hp => List.all_eq_true.1 hr p (wayI_mem hp)
  unfold wayI at HRQ ⊢
  obtain ⟨ao, c, rfl⟩ := row.shape
  obtain ⟨n, hn⟩ : ∃ n, l.length = n := ⟨_, rfl⟩
  rw [hn] at HC M0 HW0 HCL ⊢
  clear row hl hr hw0 hn
  generalize compI l = q at HCO HQL HRQ ⊢
  have c0 : w0.cell? ⟨w.heap.size, 0, none⟩ = some (.slice ao n c) := M0.out.sub.cell 0
  refine callsIn_wide.1 (callsIn_of_wp_marks (n := 9) Try.func21 rfl trivial (wpIn_wide.2 ?_))
  simp only [Try.ntmps21, List.size_toArray, List.length_cons, List.length_nil, Nat.reduceAdd, Nat.reduceSub, Array.replicate_succ, Array.replicate_zero, List.push_toArray, List.append_toArray, List.nil_append, List.cons_append]
  go_wp2_with fail
  rw [HW0.out]
  refine HC.out.mono ?_
  rintro e w1 ⟨rfl, hb⟩
  have M1 := Lib.hid (M0.out.grow hb)
  clear hb c0
  have c1 : w1.cell? ⟨w.heap.size, 0, none⟩ = some (.slice ao n c) := M1.out.sub.cell 0
  go_wp2_with fail
  refine (HCL.out _ M1.out.below).mono ?_
  rintro e w2 ⟨v1, rfl, ho1, hb⟩
  have M2 := Lib.hid (M1.out.grow hb)
  have O2 : Hid (Own w2 (w.heap.size + 3) 32 v1 l) := ho1.base M1.out.size
  clear hb c1 ho1
  obtain ⟨a1, n1, c1, rfl⟩ := own_shape' O2.out
  have HCO2 := Lib.hid (HCO.out _ w2 O2.out)
  go_wp2_with fail
  refine HCO2.out.mono ?_
  rintro e w3 ⟨v2, rfl, ho3, hg3⟩
  have M3 := Lib.hid (M2.out.grown hg3 O2.out)
  have O3 := Lib.hid ho3
  clear hg3 ho3 HCO2
  have hcl : w3.cell? ⟨w.heap.size, 1, none⟩ = some (.bool cl) := M3.out.sub.cell 1
  obtain ⟨a2, n2, c2, rfl⟩ := own_shape' O3.out
  have hn2 : q.length = n2 := by
    rcases own_some O3.out with ⟨e, rfl⟩ | ⟨g, cap, e⟩
    · cases e; rfl
    · cases e; rfl
  obtain ⟨tb, htb⟩ : ∃ tb, (cl && decide (q[q.length - 1]? ≠ q[0]?)) = tb := ⟨_, rfl⟩
  have HTB := Lib.hid htb
  have HN2 := Lib.hid hn2
  clear hn2 htb
  go_wp2_with fail
  go_cut [34] from 16 to 34 (fun s34 wx => s34 = .bool tb ∧ Hid (WayM w (.slice ao n c) cl (.slice none 0 0) 0 wx ∧ Own wx (w.heap.size + 3) 32 (.slice a2 n2 c2) q))
  case first =>
    rcases own_some O3.out with ⟨e, rfl⟩ | ⟨g, cap, e⟩
    · cases e
      have hw2 : wrap64 ((0 : Int) - 1) = -1 := wrapR _ (by decide) (by decide)
      have HT : Hid (tb = false) := by unfold Hid; rw [← HTB.out]; cases cl <;> rfl
      cases cl
      · go_quiet (fail)
        go_wp2_with fail
        go_meet
        exact ⟨by rw [HT.out], M3.out.grow (below_drewN (Below.refl _ _) _), O3.out.grow (below_drewN (Below.refl _ _) _)⟩
      · go_quiet (fail)
        go_wp2_with fail
        go_meet
        exact ⟨by rw [HT.out], M3.out.grow (below_drewN (Below.refl _ _) _), O3.out.grow (below_drewN (Below.refl _ _) _)⟩
    · simp only [Value.slice.injEq] at e
      obtain ⟨rfl, hnx, rfl⟩ := e
      clear hnx
      rw [HN2.out] at HQL HTB
      have HM := HN2
      have hle := HQL.out
      obtain ⟨m, rfl⟩ : ∃ m, m = n2 := ⟨_, rfl⟩
      cases cl
      · have HT : Hid (tb = false) := HTB.out.symm
        go_quiet (fail)
        go_wp2_with fail
        go_meet
        exact ⟨by rw [HT.out], M3.out.grow (below_drewN (Below.refl _ _) _), O3.out.grow (below_drewN (Below.refl _ _) _)⟩
      · by_cases h0 : m = 0
        · subst h0
          have hw2 : wrap64 ((0 : Int) - 1) = -1 := wrapR _ (by decide) (by decide)
          have HT : Hid (tb = false) := by unfold Hid; rw [← HTB.out]; simp
          go_quiet (fail)
          go_wp2_with fail
          go_meet
          exact ⟨by rw [HT.out], M3.out.grow (below_drewN (Below.refl _ _) _), O3.out.grow (below_drewN (Below.refl _ _) _)⟩
        · obtain ⟨mp, hmp⟩ : ∃ mp, m - 1 = mp := ⟨_, rfl⟩
          have hw1 : wrap64 ((m : Int) - 1) = (mp : Int) := by rw [wrapR _ (by omega) (by omega)]; omega
          have hlt : mp < m := by omega
          have hpos : 0 < m := by omega
          obtain ⟨⟨px, py⟩, hp⟩ : ∃ p, q[mp]? = some p := ⟨_, List.getElem?_eq_getElem (by rw [HM.out]; exact hlt)⟩
          obtain ⟨⟨qx, qy⟩, hq⟩ : ∃ p, q[0]? = some p := ⟨_, List.getElem?_eq_getElem (by rw [HM.out]; exact hpos)⟩
          obtain ⟨d0, d1⟩ := O3.out.pts HM.out hp
          obtain ⟨d2, d3⟩ := O3.out.pts HM.out hq
          have hd : decide ((m : Int) > 0) = true := by simp; omega
          have hd2 : decide (m > 0) = true := by simp; omega
          have hd3 : decide (0 < (m : Int)) = true := by simp; omega
          have hd4 : decide (0 < m) = true := by simp; omega
          rw [hmp, hp, hq] at HTB
          have HP := Lib.hid hp; have HQ := Lib.hid hq
          have HMP := Lib.hid hmp
          clear hp hq hmp hle
          simp only [Nat.zero_mul, Nat.zero_add] at d0 d1 d2 d3
          by_cases hx : px = qx
          · by_cases hy : py = qy
            · have HT : Hid (tb = false) := by unfold Hid; rw [← HTB.out]; simp [hx, hy]
              subst hx hy
              go_quiet (fail)
              go_wp2_with fail
              go_meet
              exact ⟨by rw [HT.out], M3.out.grow (below_drewN (Below.refl _ _) _), O3.out.grow (below_drewN (Below.refl _ _) _)⟩
            · have HT : Hid (tb = true) := by unfold Hid; rw [← HTB.out]; simp [hx, hy]
              have _hx : px = qx ↔ True := ⟨fun _ => trivial, fun _ => hx⟩
              have HX := Lib.hid hx
              clear hx
              go_quiet (fail)
              go_wp2_with fail
              go_meet
              exact ⟨by rw [HT.out], M3.out.grow (below_drewN (Below.refl _ _) _), O3.out.grow (below_drewN (Below.refl _ _) _)⟩
          · have HT : Hid (tb = true) := by unfold Hid; rw [← HTB.out]; simp [hx]
            go_quiet (fail)
            go_wp2_with fail
            go_meet
            exact ⟨by rw [HT.out], M3.out.grow (below_drewN (Below.refl _ _) _), O3.out.grow (below_drewN (Below.refl _ _) _)⟩
  case rest =>
    obtain ⟨rfl, hM4⟩ := hcut
    have M4 := Lib.hid hM4.out.1
    have O4 := Lib.hid hM4.out.2
    clear hM4 M3 O3 hcl
    go_upto_if 34 with fail
    go_cut [4] from 35 to 40 (fun s4 wx => ∃ (a : Option Addr) (m k : Nat), s4 = .slice a m k ∧ Hid (WayM w (.slice ao n c) cl (.slice none 0 0) 0 wx ∧ Own wx (w.heap.size + 3) 32 (.slice a m k) (wayF q cl)))
    case first =>
      cases tb
      · have HWF : Hid (wayF q cl = q) := by
          unfold Hid wayF
          rw [if_neg]
          rintro ⟨h1, h2⟩
          have := HTB.out
          rw [h1] at this
          simp at this
          exact h2 this
        go_wp2_with fail
        go_meet
        exact ⟨_, _, _, rfl, M4.out, by rw [HWF.out]; exact O4.out⟩
      · have hcl : cl = true := by have := HTB.out; revert this; cases cl <;> simp
        have hne : q[q.length - 1]? ≠ q[0]? := by
          have := HTB.out
          rw [hcl] at this
          simpa using this
        have hpos : 0 < q.length := by
          rcases Nat.eq_zero_or_pos q.length with h | h
          · rw [h] at hne; exact absurd rfl hne
          · exact h
        obtain ⟨⟨qx, qy⟩, hq⟩ : ∃ p, q[0]? = some p := ⟨_, List.getElem?_eq_getElem hpos⟩
        have HWF : Hid (wayF q cl = q ++ [(qx, qy)]) := by
          unfold Hid wayF
          rw [if_pos ⟨hcl, hne⟩, hq]
          rfl
        rcases own_some O4.out with ⟨_, e⟩ | ⟨g, cap, e⟩
        · rw [e] at hpos; simp at hpos
        · simp only [Value.slice.injEq] at e
          obtain ⟨rfl, hnx, rfl⟩ := e
          clear hnx
          rw [HN2.out] at hpos HQL
          have HM := HN2
          obtain ⟨m, rfl⟩ : ∃ m, m = n2 := ⟨_, rfl⟩
          obtain ⟨d2, d3⟩ := O4.out.pts HM.out hq
          simp only [Nat.zero_mul, Nat.zero_add] at d2 d3
          have A1 : Hid (Below wc.heap.size wc (wc.alloc (.cells #[.int .i64 qx, .int .i64 qy] 32))) := (Below.refl _ _).alloc (Nat.le_refl _) _
          have OWX : Hid (Own (wc.alloc (.cells #[.int .i64 qx, .int .i64 qy] 32)) (w.heap.size + 3) 32 (.slice (some ⟨g, 0, none⟩) m c2) q) := O4.out.grow A1.out
          have MX := Lib.hid (M4.out.grow A1.out)
          have ROWX : Hid (Row (wc.alloc (.cells #[.int .i64 qx, .int .i64 qy] 32)) (.slice (some ⟨wc.heap.size, 0, none⟩) 1 1) [(qx, qy)]) := Row.new wc [(qx, qy)] _ _ 1 rfl rfl
          have HLX : Hid (q.length + [(qx, qy)].length ≤ 100000) := by unfold Hid; rw [HM.out]; have := HQL.out; simp; omega
          have HBX : Hid (w.heap.size + 3 ≤ (wc.alloc (.cells #[.int .i64 qx, .int .i64 qy] 32)).heap.size) := Nat.le_trans M4.out.size A1.out.size
          clear hq hne hcl A1
          go_wp2_with (at_builtin; refine wpList_append_pts rfl _ _ 44 32 rfl Try.underlying44 infoP (w.heap.size + 3) _ _ rfl OWX.out _ [(qx, qy)] rfl ROWX.out HLX.out HBX.out ?_)
          intro v' w5 hown hgrow _
          have M5 := Lib.hid (MX.out.grown hgrow OWX.out)
          have O5 : Hid (Own w5 (w.heap.size + 3) 32 v' (wayF q cl)) := by unfold Hid; rw [HWF.out]; exact hown
          obtain ⟨va, vn, vc, rfl⟩ := own_shape' hown
          clear hown hgrow d2 d3
          go_wp2_with fail
          go_meet
          exact ⟨_, _, _, rfl, M5.out, O5.out⟩
    case rest =>
      obtain ⟨a4, n4, c4, rfl, hM5⟩ := hcut
      have M5 := Lib.hid hM5.out.1
      have O5 := Lib.hid hM5.out.2
      have HWL : Hid ((wayF q cl).length ≤ 1001) := Nat.le_trans (wayF_len q cl) (by have := HQL.out; omega)
      clear hM5 M4 O4 HTB HN2 HQL
      generalize wayF q cl = W at *
      obtain ⟨w5, rfl⟩ : ∃ x, x = wc := ⟨_, rfl⟩
      go_wp2_with fail
      refine (lines_c a4 n4 c4 _).mono ?_
      rintro e w6 ⟨rfl, rfl⟩
      go_wp2_with fail
      obtain ⟨w7, hw7⟩ : ∃ x, w5.alloc (.cells #[.slice a4 n4 c4] 44) = x := ⟨_, rfl⟩
      have hb7 : Below w5.heap.size w5 w7 := by rw [← hw7]; exact (Below.refl _ _).alloc (Nat.le_refl _) _
      have hx7 : Blk w7 w5.heap.size 44 #[.slice a4 n4 c4] := by rw [← hw7]; exact Blk.new _ _ _
      have M7 := Lib.hid (M5.out.grow hb7)
      have O7 := Lib.hid (O5.out.grow hb7)
      have HZ := Lib.hid (hx7.lt)
      have HX7 := Lib.hid hx7
      have HN4 : Hid (W.length = n4) := by
        rcases own_some O5.out with ⟨e, rfl⟩ | ⟨g, cap, e⟩
        · cases e; rfl
        · cases e; rfl
      rw [hw7]
      have HM5 : Hid (w.heap.size + 3 ≤ w5.heap.size) := M5.out.size
      clear hw7 hb7 hx7 M5 O5
      refine wp_lines (bx := w5.heap.size) (l := W) (n := n4) (ao := a4) (c := c4) (fun j => j = w5.heap.size ∨ (Value.slice a4 n4 c4).ownBlock = some j) rfl rfl HZ.out (.inl rfl) (HX7.out.cell 0) ?row HN4.out (by have := HWL.out; have := HN4.out; omega) ?ks
        (fun k A => WayM w (.slice ao n c) cl (.slice none 0 0) 0 A ∧ Own A (w.heap.size + 3) 32 (.slice a4 n4 c4) W ∧ longN W (k - 1) = false ∧ w7.heap.size ≤ A.heap.size) ?hI
        (fun A => WayM w (.slice ao n c) cl (.slice none 0 0) 10 A ∧ longB W = true ∧ w7.heap.size ≤ A.heap.size) ?hIx
        ⟨M7.out, O7.out, rfl, Nat.le_refl _⟩
        (fun p q g => #[Value.agg #[Value.slice ao n c, Value.bool cl], Value.pointer (some { block := w.heap.size, off := 0 }),
          Value.pointer (some { block := w.heap.size + 1, off := 0 }),
          Value.pointer (some { block := w.heap.size + 1 + 1, off := 0 }), Value.slice a4 n4 c4, .pointer (some ⟨g, 0, none⟩), .pointer (some ⟨g + 1, 0, none⟩), undef,
          undef, Value.pointer (some { block := w.heap.size, off := 0 }), Value.slice ao n c, Value.bool false,
          Value.pointer (some { block := w.heap.size, off := 0 }), Value.slice ao n c, Value.slice a1 n1 c1,
          Value.slice a2 n2 c2, u16, u17, u18, u19, u20, u21, u22, u23, u24, u25, u26, u27, u28, u29, u30, u31, u32,
          u33, Value.bool tb, u35, u36, u37, u38, u39, u40, Value.slice a4 n4 c4,
          Value.func (Fn.func 55) #[] #[Value.pointer (some { block := w5.heap.size, off := 0 })], .agg #[.int .i64 p.1, .int .i64 p.2], .agg #[.int .i64 q.1, .int .i64 q.2],
          undef, undef, undef, undef, undef, undef, undef, undef, undef, undef])
        (fun p q A => (A.alloc (.cells #[.int .i64 p.1, .int .i64 p.2] 32)).alloc (.cells #[.int .i64 q.1, .int .i64 q.2] 32))
        (fun p q A => (Keep.alloc _ _ _).trans (Keep.alloc _ _ _))
        ?assign ?body ?done ?stop
      case row =>
        intro k hk
        obtain ⟨b, o, e, hb, hp⟩ := Row.addr O7.out.row (k := k) (by rw [HN4.out]; exact hk)
        exact ⟨b, o, e, .inr (by rw [e]; rfl), hb, hp⟩
      case ks =>
        rintro j (rfl | h)
        · exact HZ.out
        · exact (Own.lt O7.out j h).2
      case hI =>
        rintro k A B ⟨h1, h2, h3, h4⟩ hk
        have hlt : ∀ j, (Value.slice a4 n4 c4).ownBlock = some j → j < w7.heap.size := fun j hj => (Own.lt O7.out j hj).2
        refine ⟨h1.keep hk (fun j hj => ?_), owns_keep h2 hk (fun j hj => ?_), h3, Nat.le_trans h4 hk.size⟩
        · have := M7.out.size; omega
        · have := hlt j hj; omega
      case hIx =>
        rintro A B ⟨h1, h2, h3⟩ hk
        refine ⟨h1.keep hk (fun j hj => ?_), h2, Nat.le_trans h3 hk.size⟩
        have := M7.out.size; omega
      case assign =>
        intro L p q A K hK
        gi_wp2
        exact hK
      case body =>
        rintro L k p q A o B hk hp hq ⟨h1, h2, h3, h4⟩ hN hB
        have zN := M7.out.size
        have kAB : Keep (fun j => j ≠ w7.heap.size + 1) A B := by rw [hB]; exact ((Keep.alloc _ _ _).trans (Keep.alloc _ _ _)).trans (Keep.putObj _ _ _ _ (by simp))
        have bp : Blk B A.heap.size 32 (two p) := by rw [hB]; exact ((Blk.new _ _ _).alloc _).putOther _ (by omega)
        have bq : Blk B (A.heap.size + 1) 32 (two q) := by rw [hB]; exact (Blk.newAt _ _ _ (by simp)).putOther _ (by omega)
        have MB := Lib.hid (h1.keep kAB (fun j hj => by omega))
        have OB : Hid (Own B (w.heap.size + 3) 32 (.slice a4 n4 c4) W) := owns_keep h2 kAB (fun j hj => by have := (Own.lt O7.out j hj).2; omega)
        have HSB : Hid (w7.heap.size ≤ B.heap.size) := Nat.le_trans h4 kAB.size
        have HSC : Hid (Keep (RoundL (fun j => j = w5.heap.size ∨ (Value.slice a4 n4 c4).ownBlock = some j) w7.heap.size) B B) := Keep.refl _ _
        have hrp := HRQ.out p (List.mem_of_getElem? hp)
        have hrq := HRQ.out q (List.mem_of_getElem? hq)
        have HLN := Lib.hid (longN_succ W (k - 1))
        rw [show k - 1 + 1 = k by omega, at0_eq hp, at0_eq hq, h3, Bool.false_or] at HLN
        have HLA : Hid (lenB (subP q p) = false → longB W = true) := fun h => longN_at (k := k - 1) (by have := (List.getElem?_eq_some_iff.1 hq).1; omega) (by rw [show k - 1 + 1 = k by omega, at0_eq hp, at0_eq hq]; exact h)
        have HC := Lib.hid (length_c p q B)
        have ho : lengthO p q = (if lenB (subP q p) then (lenI (subP q p), 0) else (0, 10)) := by unfold lengthO; rw [hrp, hrq]; rfl
        rw [ho] at HC
        have a0 := bp.p0
        have a1 := bp.p1
        have b0 := bq.p0
        have b1 := bq.p1
        clear hk hp hq h1 h2 h3 h4 hN hB kAB bp bq hrp hrq ho
        generalize lenB (subP q p) = r at *
        generalize lenI (subP q p) = nn at *
        cases r
        · gi_wp2_with fail
          refine ⟨trivial, (CallsIn.inRound L (callsIn_wide.2 HC.out)).mono ?_⟩
          rintro e w8 ⟨rfl, hb⟩
          have M8 := Lib.hid (MB.out.grow hb)
          have K8 : Hid (Keep (fun _ => True) B w8) := Keep.of_below hb
          have HS8 : Hid (w7.heap.size ≤ w8.heap.size) := Nat.le_trans HSB.out hb.size
          clear hb
          have d1 := M8.out.way.cell 0
          have d2 := M8.out.err.cell 0
          have f1 := M8.out.way.free 0
          have f2 := M8.out.err.free 0
          have l1 := M8.out.way.lt
          have l2 := M8.out.err.lt
          simp only [List.getElem?_toArray, List.getElem?_cons_zero] at d1 d2
          gi_wp2_with fail
          have z5 := HZ.out
          have zN5 := MB.out.size
          have hne : ∀ j, j = w.heap.size + 1 ∨ j = w.heap.size + 1 + 1 → ¬ RoundL (fun j => j = w5.heap.size ∨ (Value.slice a4 n4 c4).ownBlock = some j) w7.heap.size j := by
            rintro j hj (( h | h) | h | h)
            · have := HM5.out; omega
            · have := (Own.lt O7.out j h).1; omega
            · omega
            · omega
          refine ⟨((K8.out.mono fun _ _ => trivial).trans (Keep.setCell _ _ _ (hne _ (.inl rfl)))).trans (Keep.setCell _ _ _ (hne _ (.inr rfl))), M8.out.told (.slice none 0 0) 10, HLA.out trivial, by have := HS8.out; simp [World.setCell]; exact this⟩
        · gi_wp2_with fail
          refine ⟨trivial, (CallsIn.inRound L (callsIn_wide.2 HC.out)).mono ?_⟩
          rintro e w8 ⟨rfl, hb⟩
          have M8 := Lib.hid (MB.out.grow hb)
          have O8 := Lib.hid (OB.out.grow hb)
          have K8 : Hid (Keep (fun _ => True) B w8) := Keep.of_below hb
          have HS8 : Hid (w7.heap.size ≤ w8.heap.size) := Nat.le_trans HSB.out hb.size
          clear hb
          gi_wp2_with fail
          exact ⟨K8.out.mono fun _ _ => trivial, M8.out, O8.out, HLN.out, HS8.out⟩
      case done =>
        rintro D ⟨h1, h2, h3, h4⟩ hD
        have zN := M7.out.size
        have HLB : Hid (toldW W = (0, W)) := by
          have e : longB W = false := by
            unfold longB
            rw [HN4.out]
            rcases Nat.eq_zero_or_pos n4 with h | h
            · rw [h] at h3 ⊢; exact h3
            · rw [Nat.max_eq_left (by omega)] at h3; exact h3
          unfold Hid toldW; rw [e]; rfl
        have M8 := Lib.hid h1
        have O8 := Lib.hid h2
        have HS8 := Lib.hid h4
        have HD8 := Lib.hid hD
        clear h1 h2 h3 h4 hD zN
        have d1 := M8.out.way.cell 0
        have d2 := M8.out.err.cell 0
        have f1 := M8.out.way.free 0
        have f2 := M8.out.err.free 0
        have l1 := M8.out.way.lt
        have l2 := M8.out.err.lt
        simp only [List.getElem?_toArray, List.getElem?_cons_zero] at d1 d2
        dsimp only
        go_wp2_with fail
        have M9 := M8.out.told (.slice a4 n4 c4) 0
        have z7 := M7.out.size
        have k9 : Keep (fun j => j ≠ w.heap.size + 1 ∧ j ≠ w.heap.size + 1 + 1) D ((D.setCell ⟨w.heap.size + 1, 0, none⟩ (.slice a4 n4 c4)).setCell ⟨w.heap.size + 1 + 1, 0, none⟩ (.int .i64 0)) := (Keep.setCell _ _ _ (by simp)).trans (Keep.setCell _ _ _ (by simp))
        refine postM_ret (.tuple #[.slice a4 n4 c4, .int .i64 0]) ((k9.block _ (by omega) (Array.getElem?_eq_some_iff.1 HD8.out).1).trans HD8.out) (results_sl (.inl rfl) 2 3 rfl rfl rfl (M9.way.putOther _ (by omega)) (M9.err.putOther _ (by omega))) ?_
        rw [HLB.out]
        refine ⟨_, rfl, ?_, (Keep.putObj (fun j => j < w.heap.size) _ w7.heap.size (.deferred none) (by omega)).below (fun _ h => h) M9.below.size |> M9.below.trans⟩
        have o9 := owns_keep O8.out k9 (fun j hj => by have := (Own.lt O8.out j hj).1; omega)
        exact owns_base (owns_keep o9 (Keep.putObj (fun j => j ≠ w7.heap.size) _ w7.heap.size (.deferred none) (by simp)) (fun j hj e => by have := (Own.lt O7.out j hj).2; omega)) (by omega)
      case stop =>
        rintro D ⟨h1, h2, h3⟩ hD
        have z7 := M7.out.size
        refine postM_ret (.tuple #[.slice none 0 0, .int .i64 10]) hD (results_sl (.inl rfl) 2 3 rfl rfl rfl (h1.way.putOther _ (by omega)) (h1.err.putOther _ (by omega))) ?_
        have HLB : toldW W = (10, []) := by unfold toldW; rw [h2]; rfl
        rw [HLB]
        exact ⟨_, rfl, Own.nil _ _ _, (Keep.putObj (fun j => j < w.heap.size) _ w7.heap.size (.deferred none) (by omega)).below (fun _ h => h) h1.below.size |> h1.below.trans⟩
theorem way_c (s : Value) (l : List Pt) (cl : Bool) (w : World) (row : Row w s l) (hl : l.length ≤ 1000) :
    Calls Try.prog 21 #[.agg #[s, .bool cl]] w (ToldP w (wayO l cl)) := by
  unfold wayO
  split
  · rename_i h; exact way_walk s l cl w row hl h
  · rename_i h; exact way_bad s l cl w row hl (by simpa using h)
end Go.Proofs.Ytclkkdhfdoidfaa
