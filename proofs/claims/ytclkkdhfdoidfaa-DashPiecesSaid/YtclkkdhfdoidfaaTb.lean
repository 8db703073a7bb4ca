/- Layer 7: Compact, Clone, and the points that are told apart. -/
import Derived.Test.YtclkkdhfdoidfaaTa
import Derived.Laws.CopyRow
import Derived.Lib.SliceRun
import Derived.BigQuiet
namespace Go.Proofs.Ytclkkdhfdoidfaa
open Go.RowKit
def keepsB (l : List Pt) (k : Nat) : Bool := k == 0 || decide (l[k]? ≠ l[k - 1]?)
/-- The first k points without those that are the same as the one ahead. -/
def compUp (l : List Pt) : Nat → List Pt
  | 0 => []
  | k + 1 => compUp l k ++ (if keepsB l k then (l[k]?).toList else [])
def compI (l : List Pt) : List Pt := compUp l l.length
theorem compUp_all (l : List Pt) : ∀ k, (∀ j, j < k → keepsB l j = true) → compUp l k = l.take k
  | 0, _ => by simp [compUp]
  | k + 1, h => by
    rw [compUp, h k (by omega), if_pos rfl, compUp_all l k (fun j hj => h j (by omega)), List.take_add_one]
theorem keeps_first (l : List Pt) : ∀ j, j < 1 → keepsB l j = true := fun j hj => by
  obtain rfl : j = 0 := by omega
  rfl
theorem keeps_pos {l : List Pt} {k : Nat} {p q : Pt} (hp : l[k]? = some p) (hq : l[k - 1]? = some q) (h : p ≠ q) : keepsB l k = true := by
  unfold keepsB; rw [hp, hq]; simp [h]
theorem keeps_neg {l : List Pt} {k : Nat} {p q : Pt} (hk : 1 ≤ k) (hp : l[k]? = some p) (hq : l[k - 1]? = some q) (h : p = q) : keepsB l k = false := by
  unfold keepsB; rw [hp, hq, h]; simp; omega
structure CI (l : List Pt) (pos kk : Nat) (lk : List Pt) : Prop where
  size : lk.length = l.length
  done : lk.take kk = compUp l pos
  lt : kk < pos
  high : ∀ j, pos ≤ j + 1 → lk[j]? = l[j]?
theorem CI.start {l : List Pt} {k : Nat} (h : ∀ j, j < k → keepsB l j = true) (hk : keepsB l k = false) : CI l (k + 1) k l :=
  ⟨rfl, by rw [compUp, hk, compUp_all l k h]; simp, by omega, fun _ _ => rfl⟩
theorem CI.skip {l lk : List Pt} {pos kk : Nat} (h : CI l pos kk lk) (hk : keepsB l pos = false) : CI l (pos + 1) kk lk :=
  ⟨h.size, by rw [compUp, hk, h.done]; simp, by have := h.lt; omega, fun j hj => h.high j (by omega)⟩
theorem CI.keep {l lk : List Pt} {pos kk : Nat} {u : Pt} (h : CI l pos kk lk) (hk : keepsB l pos = true) (hu : l[pos]? = some u) : CI l (pos + 1) (kk + 1) (lk.set kk u) := by
  have hlt := h.lt
  have hp : pos < l.length := (List.getElem?_eq_some_iff.1 hu).1
  have hz := h.size
  refine ⟨by rw [List.length_set]; exact hz, ?_, by omega, fun j hj => by rw [List.getElem?_set_ne (by omega)]; exact h.high j (by omega)⟩
  rw [compUp, hk, if_pos rfl, hu, List.take_add_one, List.getElem?_set_self (by omega), List.take_set_of_le (Nat.le_refl _), h.done]
theorem flatL_set : ∀ (l : List Pt) (k : Nat) (p : Pt), flatL (l.set k p) = ((flatL l).set (k * 2) (.int .i64 p.1)).set (k * 2 + 1) (.int .i64 p.2)
  | [], _, _ => by simp [flatL]
  | q :: l, 0, p => by simp [flatL]
  | q :: l, k + 1, p => by
    rw [show (k + 1) * 2 = k * 2 + 1 + 1 by omega]
    simp [flatL, flatL_set l k p]
theorem owns_set {w : World} {base size n g cap i : Nat} {t : TypeId} {xs : List Value} (h : w.ownsRow base t size (.slice (some ⟨g, 0, none⟩) n cap) n xs) (hi : i < n * size) (u : Value) : (w.setCell ⟨g, i, none⟩ u).ownsRow base t size (.slice (some ⟨g, 0, none⟩) n cap) n (xs.set i u) := by
  obtain ⟨h1, h2 | ⟨g', cap', cur, e, hb, hg, hc, hm, hs, ht⟩⟩ := h
  · cases h2.1
  · cases e
    have hb2 := Joins.block_setCell (i := i) hg u
    refine ⟨by rw [List.length_set]; exact h1, .inr ⟨g, cap, _, rfl, hb, hb2, hc, hm, by simpa using hs, ?_⟩⟩
    rw [← ht]
    apply List.ext_getElem?
    intro j
    simp only [List.getElem?_take, List.getElem?_set, Array.getElem?_toList, Array.getElem?_setIfInBounds, List.length_take, Array.length_toList]
    have hcap : n * size ≤ cap * size := Nat.mul_le_mul_right _ hc
    by_cases hj : j < n * size
    · by_cases e : i = j
      · subst e
        have hcur : i < cur.size := by omega
        have h2 : i < min (n * size) cur.size := Nat.lt_min.2 ⟨hj, hcur⟩
        simp [hj, hcur]
        exact h2
      · simp [hj, e]
    · simp [hj]
      intro e; omega
/-- A point of an owned row is stored into. -/
theorem Own.store {w : World} {base g n cap k : Nat} {t : TypeId} {l : List Pt} (h : Own w base t (.slice (some ⟨g, 0, none⟩) n cap) l) (hn : l.length = n) (hk : k < n) (p : Pt) :
    Own ((w.setCell ⟨g, k * 2, none⟩ (.int .i64 p.1)).setCell ⟨g, k * 2 + 1, none⟩ (.int .i64 p.2)) base t (.slice (some ⟨g, 0, none⟩) n cap) (l.set k p) := by
  unfold Own at *
  rw [List.length_set, flatL_set, hn]
  rw [hn] at h
  exact owns_set (owns_set h (by omega) _) (by omega) _
theorem owns_row {w : World} {base g n m cap : Nat} {t : TypeId} {l : List Pt} (h : Own w base t (.slice (some ⟨g, 0, none⟩) n cap) l) (hm : m ≤ n) (new : List Value → Array Value)
    (hnew : ∀ cur : Array Value, cur.size = cap * 2 → (new cur.toList).size = cap * 2 ∧ (new cur.toList).toList.take (m * 2) = cur.toList.take (m * 2)) :
    ∀ cur, w.heap[g]? = some (.cells cur t (0, 0)) → Own (w.setRow g (new cur.toList)) base t (.slice (some ⟨g, 0, none⟩) m cap) (l.take m) ∧ w.grownBy (w.setRow g (new cur.toList)) (some g) := by
  intro cur hcur
  obtain ⟨h1, h2 | ⟨g', cap', cur', e, hb, hg, hc, hM, hs, ht⟩⟩ := h
  · cases h2.1
  · cases e
    rw [hcur] at hg
    cases hg
    obtain ⟨n1, n2⟩ := hnew cur hs
    have hlen : (l.take m).length = m := by rw [List.length_take]; omega
    refine ⟨⟨by rw [flatL_length], .inr ⟨g, cap, _, by rw [hlen], hb, setRow_heap w g cur _ t _ hcur, by rw [hlen]; omega, hM, n1, ?_⟩⟩, ⟨rfl, rfl, rfl, by rw [setRow_size]; exact Nat.le_refl _, fun k _ hk => setRow_other w g k _ (fun e => hk (by rw [e]))⟩⟩
    rw [hlen, n2]
    have e3 : cur.toList.take (m * 2) = (flatL l).take (m * 2) := by rw [← ht, List.take_take]; congr 1; omega
    rw [e3]
    have key : ∀ (l : List Pt) (m : Nat), (flatL l).take (m * 2) = flatL (l.take m) := fun l => by
      induction l with
      | nil => intro m; simp [flatL]
      | cons a l ih =>
        intro m
        cases m with
        | zero => simp [flatL]
        | succ m => rw [show (m + 1) * 2 = m * 2 + 1 + 1 by omega]; simp [flatL, ih m]
    exact key l m
theorem zeros_one (n : Nat) : ∀ v ∈ (Builtin.zeroCells (two (0, 0)) n).toList, v.oneCell' = true := by
  intro v hv
  simp only [Builtin.zeroCells, Array.toList_map, List.mem_map] at hv
  obtain ⟨i, _, rfl⟩ := hv
  have h2 : i % (two (0, 0)).size = 0 ∨ i % (two (0, 0)).size = 1 := by
    rw [show (two (0, 0)).size = 2 from rfl]
    omega
  rcases h2 with e | e <;> rw [e] <;> rfl
theorem infoP2 : (Try.prog.info? 32).map (fun i => (i.zero, i.size)) = some (some (.agg (two (0, 0))), 2) := by kernel_rfl
set_option maxRecDepth 100000 in
theorem run_clear_pts (w : World) (ty : TypeId) (g o n c : Nat) (cur : Array Value) (t : TypeId) (hg : w.heap[g]? = some (.cells cur t (0, 0))) (hn : 0 < n) (hfit : o + n * 2 ≤ cur.size) :
    (Builtin.clear_ #[44] ty #[.slice (some ⟨g, o, none⟩) n c]).run Try.prog w = .ok (.tuple #[]) (w.setRow g (cur.toList.take o ++ (Builtin.zeroCells (two (0, 0)) n).toList ++ cur.toList.drop (o + (Builtin.zeroCells (two (0, 0)) n).toList.length)).toArray) := by
  have hz := fun w => (zero_of_info infoP2).1 w
  have hl : (Builtin.zeroCells (two (0, 0)) n).toList.length = n * 2 := by simp [Builtin.zeroCells, two]
  have hst := run_storeCells_at Try.prog g o t (Builtin.zeroCells (two (0, 0)) n).toList 0 cur w hg (by rw [hl]; omega) (zeros_one n)
  simp only [Nat.add_zero] at hst
  obtain ⟨m, rfl⟩ : ∃ m, n = m + 1 := ⟨n - 1, by omega⟩
  have hcl : (Value.agg (two (0, 0))).cells = two (0, 0) := rfl
  simp [Builtin.clear_, run_underlying Try.underlying44, hz, hcl, hst]
/-- What clear leaves of an owned row. -/
theorem clear_own {w : World} {base g n m cap : Nat} {l : List Pt} (h : Own w base 32 (.slice (some ⟨g, 0, none⟩) n cap) l) (hn : l.length = n) (hm : m < n) :
    ∃ w2, (∀ ty, (Builtin.clear_ #[44] ty #[.slice (some ⟨g, m * 2, none⟩) (n - m) (cap - m)]).run Try.prog w = .ok (.tuple #[]) w2) ∧ Own w2 base 32 (.slice (some ⟨g, 0, none⟩) m cap) (l.take m) ∧ w.grownBy w2 (some g) := by
  obtain ⟨cur, hcur, hs, hc⟩ : ∃ cur, w.heap[g]? = some (.cells cur 32 (0, 0)) ∧ cur.size = cap * 2 ∧ n ≤ cap := by
    obtain ⟨h1, h2 | ⟨g', cap', cur', e, hb, hg, hc, hM, hs, ht⟩⟩ := h
    · cases h2.1
    · cases e; exact ⟨_, hg, hs, by omega⟩
  have hl : (Builtin.zeroCells (two (0, 0)) (n - m)).toList.length = (n - m) * 2 := by simp [Builtin.zeroCells, two]
  refine ⟨_, fun ty => run_clear_pts w ty g (m * 2) (n - m) (cap - m) cur _ hcur (by omega) (by omega), ?_⟩
  refine owns_row h (by omega) (fun c => (c.take (m * 2) ++ (Builtin.zeroCells (two (0, 0)) (n - m)).toList ++ c.drop (m * 2 + (Builtin.zeroCells (two (0, 0)) (n - m)).toList.length)).toArray) (fun c hc2 => ⟨?_, ?_⟩) cur hcur
  · have hcl : c.toList.length = cap * 2 := by rw [Array.length_toList]; exact hc2
    rw [List.size_toArray, List.length_append, List.length_append, List.length_take, List.length_drop, hl, hcl]
    omega
  · have hcl : c.toList.length = cap * 2 := by rw [Array.length_toList]; exact hc2
    show ((c.toList.take (m * 2) ++ _ ++ _).take (m * 2)) = _
    rw [List.append_assoc, List.take_append_of_le_length (by rw [List.length_take, hcl]; omega), List.take_take, Nat.min_self]
theorem Own.pts {w : World} {base g n cap : Nat} {t : TypeId} {l : List Pt} (h : Own w base t (.slice (some ⟨g, 0, none⟩) n cap) l) (hn : l.length = n) {k : Nat} {p : Pt} (hp : l[k]? = some p) : w.cell? ⟨g, k * 2, none⟩ = some (.int .i64 p.1) ∧ w.cell? ⟨g, k * 2 + 1, none⟩ = some (.int .i64 p.2) := by
  have hlt : k < l.length := (List.getElem?_eq_some_iff.1 hp).1
  have hr : Row w (.slice (some ⟨g, 0, none⟩) l.length cap) l := hn ▸ h.row
  obtain ⟨b, o, e, _, hpa⟩ := Row.addr hr hlt
  cases e
  have := hpa k p hp
  rwa [Nat.zero_add] at this
theorem own_cap {w : World} {base g n cap : Nat} {t : TypeId} {l : List Pt} (h : Own w base t (.slice (some ⟨g, 0, none⟩) n cap) l) : n ≤ cap ∧ cap ≤ maxLen ∧ g < w.heap.size ∧ base ≤ g ∧ ∀ i, w.frozen? ⟨g, i, none⟩ = false := by
  obtain ⟨h1, h2 | ⟨g', cap', cur', e, hb, hg, hc, hM, hs, ht⟩⟩ := h
  · cases h2.1
  · cases e; exact ⟨hc, hM, (Array.getElem?_eq_some_iff.1 hg).1, hb, fun i => Joins.unfrozen_of_block hg i⟩
theorem grown_trans {w w' u : World} {r : Option Nat} (h : w.grownBy w' r) (k : w'.grownBy u r) : w.grownBy u r :=
  ⟨k.os.trans h.os, k.tape.trans h.tape, k.output.trans h.output, Nat.le_trans h.size k.size, fun i hi hl => (k.block i (Nat.lt_of_lt_of_le hi h.size) hl).trans (h.block i hi hl)⟩
theorem grown_drew (w : World) (r : Option Nat) : w.grownBy w.drew r := ⟨rfl, rfl, rfl, Nat.le_refl _, fun _ _ _ => rfl⟩
def CompP (w : World) (base g cap : Nat) (l : List Pt) (e : Ending) (w' : World) : Prop := ∃ m : Nat, e = .returned (.slice (some ⟨g, 0, none⟩) m cap) ∧ Own w' base 32 (.slice (some ⟨g, 0, none⟩) m cap) (compI l) ∧ w.grownBy w' (some g)
set_option maxHeartbeats 4000000 in
set_option maxRecDepth 100000 in
theorem compact_some (base g n cap : Nat) (l : List Pt) (w : World) (hO : Own w base 32 (.slice (some ⟨g, 0, none⟩) n cap) l) (hn : l.length = n) (hl : n ≤ 100000) :
    Calls Try.prog 43 #[.slice (some ⟨g, 0, none⟩) n cap] w (CompP w base g cap l) := by
  have HN := Lib.hid hn
  have HO := Lib.hid hO
  have hcap := (own_cap hO).1
  have HALL : Hid ((∀ j, j < n → keepsB l j = true) → compI l = l) := fun h => by unfold compI; rw [hn, compUp_all l n h, ← hn, List.take_length]
  clear hn hO
  by_cases h2 : n < 2
  · have HC : Hid (compI l = l) := HALL.out (fun j hj => keeps_first l j (by omega))
    go_enter Try.func43, Try.ntmps43
    go_wp2_with fail
    go_ret
    exact ⟨n, rfl, by rw [HC.out]; exact HO.out, ⟨rfl, rfl, rfl, Nat.le_refl _, fun _ _ _ => rfl⟩⟩
  · go_enter Try.func43, Try.ntmps43
    go_wp2_with fail
    go_loopw [3] (fun s3 wr => ∃ k : Nat, 1 ≤ k ∧ k ≤ n ∧ s3 = .int .i64 k ∧ Hid ((∀ j, j < k → keepsB l j = true) ∧ Own wr base 32 (.slice (some ⟨g, 0, none⟩) n cap) l ∧ w.grownBy wr (some g))) (fun s3 _ => n - (intOf s3).toNat)
    case atStart => exact ⟨1, Nat.le_refl _, by omega, rfl, keeps_first l, HO.out, ⟨rfl, rfl, rfl, Nat.le_refl _, fun _ _ _ => rfl⟩⟩
    case round =>
      obtain ⟨k, hk1, hk, rfl, hw⟩ := hrel
      by_cases hlt : k < n
      · obtain ⟨⟨px, py⟩, hp⟩ : ∃ p, l[k]? = some p := ⟨_, List.getElem?_eq_getElem (by rw [HN.out]; exact hlt)⟩
        obtain ⟨⟨qx, qy⟩, hq⟩ : ∃ p, l[k - 1]? = some p := ⟨_, List.getElem?_eq_getElem (by rw [HN.out]; omega)⟩
        obtain ⟨c0, c1⟩ := hw.out.2.1.pts HN.out hp
        obtain ⟨c2, c3⟩ := hw.out.2.1.pts HN.out hq
        have hd : decide ((k : Int) < (n : Int)) = true := by simp; omega
        have HP := Lib.hid hp; have HQ := Lib.hid hq
        clear hp hq
        simp only at c0 c1 c2 c3
        obtain ⟨w1, rfl⟩ : ∃ x, x = wr := ⟨_, rfl⟩
        by_cases hx : px = qx
        · by_cases hy : py = qy
          · skip
            have HNK : Hid (keepsB l k = false) := keeps_neg hk1 HP.out HQ.out (by rw [hx, hy])
            subst hx hy
            have hkc : k ≤ cap := by omega
            go_wp2_with fail
            go_region
            go_wp2_with fail
            go_loopw [3, 5] (fun s3 s5 wq => ∃ (kk k2 : Nat) (lk : List Pt), s3 = .int .i64 kk ∧ s5 = .int .i64 k2 ∧ 1 ≤ k2 ∧ k + k2 ≤ n ∧ Hid (CI l (k + k2) kk lk ∧ Own wq base 32 (.slice (some ⟨g, 0, none⟩) n cap) lk ∧ w.grownBy wq (some g))) (fun _ s5 _ => n - (intOf s5).toNat)
            case atStart => exact ⟨k, 1, l, rfl, rfl, Nat.le_refl _, by omega, CI.start hw.out.1 HNK.out, hw.out.2.1.grow ⟨rfl, rfl, rfl, Nat.le_refl _, fun _ _ => rfl⟩, grown_trans hw.out.2.2 (grown_drew _ _)⟩
            case round =>
              obtain ⟨kk, k2, lk, rfl, rfl, h1, hle, hI⟩ := hrel
              have hkk := hI.out.1.lt
              have hz : lk.length = n := hI.out.1.size.trans HN.out
              have HZ := Lib.hid hz
              clear hz
              clear c0 c1 c2 c3
              by_cases hlt2 : k + k2 < n
              · obtain ⟨⟨ux, uy⟩, hu⟩ : ∃ p, l[k + k2]? = some p := ⟨_, List.getElem?_eq_getElem (by rw [HN.out]; exact hlt2)⟩
                obtain ⟨⟨vx, vy⟩, hv⟩ : ∃ p, l[k + k2 - 1]? = some p := ⟨_, List.getElem?_eq_getElem (by rw [HN.out]; omega)⟩
                obtain ⟨⟨ox, oy⟩, ho⟩ : ∃ p, lk[kk]? = some p := ⟨_, List.getElem?_eq_getElem (by rw [HZ.out]; omega)⟩
                obtain ⟨c0, c1⟩ := hI.out.2.1.pts HZ.out ((hI.out.1.high (k + k2) (by omega)).trans hu)
                obtain ⟨c2, c3⟩ := hI.out.2.1.pts HZ.out ((hI.out.1.high (k + k2 - 1) (by omega)).trans hv)
                obtain ⟨c4, c5⟩ := hI.out.2.1.pts HZ.out ho
                rw [show (k + k2) * 2 = k * 2 + k2 * 2 by omega] at c0 c1
                rw [show (k + k2 - 1) * 2 = k * 2 + (k2 - 1) * 2 by omega] at c2 c3
                have f4 := (own_cap hI.out.2.1).2.2.2.2 (kk * 2)
                have f5 := (own_cap hI.out.2.1).2.2.2.2 (kk * 2 + 1)
                have lg := (own_cap hI.out.2.1).2.2.1
                have HU := Lib.hid hu; have HV := Lib.hid hv
                clear hu hv ho
                simp only at c0 c1 c2 c3 c4 c5
                have hd2 : decide ((k2 : Int) < ((n - k : Nat) : Int)) = true := by simp; omega
                by_cases hx : ux = vx
                · by_cases hy : uy = vy
                  · have HNK2 : Hid (keepsB l (k + k2) = false) := keeps_neg (by omega) HU.out HV.out (by rw [hx, hy])
                    subst hx hy
                    go_wp2_with fail
                    go_region
                    go_wp2_with fail
                    exact ⟨⟨kk, k2 + 1, lk, rfl, by go_num, by omega, by omega, hI.out.1.skip HNK2.out, hI.out.2.1.grow ⟨rfl, rfl, rfl, Nat.le_refl _, fun _ _ => rfl⟩, grown_trans hI.out.2.2 (grown_drew _ _)⟩, by simp [intOf]; omega⟩
                  · have _hx : ux = vx ↔ True := ⟨fun _ => trivial, fun _ => hx⟩
                    have HX := Lib.hid hx
                    clear hx
                    have HK2 : Hid (keepsB l (k + k2) = true) := keeps_pos HU.out HV.out (fun e => hy (congrArg Prod.snd e))
                    go_wp2_with fail
                    go_region
                    go_wp2_with fail
                    exact ⟨⟨kk + 1, k2 + 1, lk.set kk (ux, uy), by go_num, by go_num, by omega, by omega, hI.out.1.keep HK2.out HU.out, (hI.out.2.1.store HZ.out (by omega) (ux, uy)).grow ⟨rfl, rfl, rfl, Nat.le_refl _, fun _ _ => rfl⟩, grown_trans hI.out.2.2 (grown_trans (grown_trans (grownBy_set _ _ _) (grownBy_set _ _ _)) (grown_drew _ _))⟩, by simp [intOf]; omega⟩
                · skip
                  have HK2 : Hid (keepsB l (k + k2) = true) := keeps_pos HU.out HV.out (fun e => hx (congrArg Prod.fst e))
                  go_wp2_with fail
                  go_region
                  go_wp2_with fail
                  exact ⟨⟨kk + 1, k2 + 1, lk.set kk (ux, uy), by go_num, by go_num, by omega, by omega, hI.out.1.keep HK2.out HU.out, (hI.out.2.1.store HZ.out (by omega) (ux, uy)).grow ⟨rfl, rfl, rfl, Nat.le_refl _, fun _ _ => rfl⟩, grown_trans hI.out.2.2 (grown_trans (grown_trans (grownBy_set _ _ _) (grownBy_set _ _ _)) (grown_drew _ _))⟩, by simp [intOf]; omega⟩
              · have hd2 : decide ((k2 : Int) < ((n - k : Nat) : Int)) = false := by simp; omega
                obtain ⟨w3, hcl, HOW⟩ := clear_own hI.out.2.1 HZ.out (m := kk) (by omega)
                have HW3 := Lib.hid HOW
                have hkkc : kk ≤ cap := by omega
                have HE : Hid (lk.take kk = compI l) := by
                  have h := hI.out.1.done
                  rw [show k + k2 = l.length by rw [HN.out]; omega] at h
                  exact h
                clear HOW
                go_wp2_with fail
                go_ret
                exact ⟨kk, rfl, by rw [← HE.out]; exact HW3.out.1, grown_trans hI.out.2.2 HW3.out.2⟩
          · have _hx : px = qx ↔ True := ⟨fun _ => trivial, fun _ => hx⟩
            have HX := Lib.hid hx
            clear hx
            have HK : Hid (∀ j, j < k + 1 → keepsB l j = true) := fun j hj => by
              by_cases e : j = k
              · subst e; exact keeps_pos HP.out HQ.out (fun e => hy (congrArg Prod.snd e))
              · exact hw.out.1 j (by omega)
            go_wp2_with fail
            go_region
            go_wp2_with fail
            exact ⟨⟨k + 1, by omega, by omega, by go_num, HK.out, hw.out.2.1.grow ⟨rfl, rfl, rfl, Nat.le_refl _, fun _ _ => rfl⟩, grown_trans hw.out.2.2 (grown_drew _ _)⟩, by simp [intOf]; omega⟩
        · skip
          have HK : Hid (∀ j, j < k + 1 → keepsB l j = true) := fun j hj => by
            by_cases e : j = k
            · subst e; exact keeps_pos HP.out HQ.out (fun e => hx (congrArg Prod.fst e))
            · exact hw.out.1 j (by omega)
          go_wp2_with fail
          go_region
          go_wp2_with fail
          exact ⟨⟨k + 1, by omega, by omega, by go_num, HK.out, hw.out.2.1.grow ⟨rfl, rfl, rfl, Nat.le_refl _, fun _ _ => rfl⟩, grown_trans hw.out.2.2 (grown_drew _ _)⟩, by simp [intOf]; omega⟩
      · have hd : decide ((k : Int) < (n : Int)) = false := by simp; omega
        have HC : Hid (compI l = l) := HALL.out (fun j hj => hw.out.1 j (by omega))
        go_wp2_with fail
        go_ret
        exact ⟨n, rfl, by rw [HC.out]; exact hw.out.2.1, hw.out.2.2⟩
theorem own_some {w : World} {base : Nat} {t : TypeId} {v : Value} {l : List Pt} (h : Own w base t v l) : (v = .slice none 0 0 ∧ l = []) ∨ ∃ g cap, v = .slice (some ⟨g, 0, none⟩) l.length cap := by
  obtain ⟨h1, ⟨h2, h3⟩ | ⟨g', cap', cur', e, hb, hg, hc, hM, hs, ht⟩⟩ := h
  · exact .inl ⟨h2, List.eq_nil_of_length_eq_zero h3⟩
  · exact .inr ⟨g', cap', e⟩
theorem compact_c (base : Nat) (v : Value) (l : List Pt) (w : World) (hO : Own w base 32 v l) (hl : l.length ≤ 100000) :
    Calls Try.prog 43 #[v] w fun e w' => ∃ v', e = .returned v' ∧ Own w' base 32 v' (compI l) ∧ w.grownBy w' v.ownBlock := by
  rcases own_some hO with ⟨rfl, rfl⟩ | ⟨g, cap, rfl⟩
  · clear hO hl
    go_enter Try.func43, Try.ntmps43
    go_wp2_with fail
    go_ret
    exact ⟨_, rfl, Own.nil _ _ _, ⟨rfl, rfl, rfl, Nat.le_refl _, fun _ _ _ => rfl⟩⟩
  · refine (compact_some base g l.length cap l w hO rfl hl).mono ?_
    rintro e w' ⟨m, rfl, h1, h2⟩
    exact ⟨_, rfl, h1, h2⟩
set_option maxHeartbeats 1000000 in
set_option maxRecDepth 100000 in
theorem clone_c (s : Value) (l : List Pt) (w : World) (row : Row w s l) (hl : l.length ≤ 100000) :
    Calls Try.prog 44 #[s] w fun e w' => ∃ v, e = .returned v ∧ Own w' w.heap.size 32 v l ∧ Below w.heap.size w w' := by
  have q24 : ∀ (w : World) (a : Option Addr) (n c n' c' : Nat), (binOp .eql 44 (.slice a n c) (.slice none n' c')).run Try.prog w = .ok (.bool a.isNone) w := fun w a n c n' c' => Lib.run_eql_slice_nil w _ _ a n c n' c' Try.underlying44
  have some_case : ∀ (ad : Addr) (n c : Nat), Row w (.slice (some ad) n c) l → Calls Try.prog 44 #[.slice (some ad) n c] w fun e w' => ∃ v, e = .returned v ∧ Own w' w.heap.size 32 v l ∧ Below w.heap.size w w' := by
    intro ad n c hrow
    have HR : Hid (Row (w.alloc (.cells #[] 32)) (.slice (some ad) n c) l) := hrow.on ((Below.refl _ _).alloc (Nat.le_refl _) _)
    have HO : Hid (Own (w.alloc (.cells #[] 32)) w.heap.size 32 (.slice (some ⟨w.heap.size, 0, none⟩) 0 0) []) := Own.made w (Nat.le_refl _) _ [] _ 0 rfl rfl (by decide)
    have HL : Hid (([] : List Pt).length + l.length ≤ 100000) := by unfold Hid; simpa using hl
    have HB : Hid (w.heap.size ≤ (w.alloc (.cells #[] 32)).heap.size) := by unfold Hid; simp
    clear hrow row hl
    go_enter Try.func44, Try.ntmps44
    go_wp2_with (at_builtin; refine wpList_append_pts rfl _ _ 44 32 rfl Try.underlying44 infoP w.heap.size _ [] rfl HO.out _ l rfl HR.out HL.out HB.out ?_)
    intro v' w1 hown hgrow _
    have H1 := Lib.hid hown
    have H2 : Hid (Below w.heap.size w w1) := own_below HO.out hgrow ((Below.refl _ _).alloc (Nat.le_refl _) _) (Nat.le_refl _) (by simp)
    clear hown hgrow
    obtain ⟨b, q, cap, rfl⟩ := own_shape' H1.out
    go_wp2_with fail
    go_ret
    exact ⟨_, rfl, H1.out, H2.out⟩
  rcases row with ⟨rfl, rfl⟩ | ⟨a, c, rfl, rfl⟩ | ⟨b, o, c, rfl, hb, hp⟩
  · clear some_case
    go_enter Try.func44, Try.ntmps44
    go_wp2_with fail
    go_ret
    exact ⟨_, rfl, Own.nil _ _ _, Below.refl _ _⟩
  · exact some_case a 0 c (.inr (.inl ⟨a, c, rfl, rfl⟩))
  · exact some_case _ _ c (.inr (.inr ⟨b, o, c, rfl, hb, hp⟩))
theorem Own.cut {w : World} {base g n m cap : Nat} {t : TypeId} {l : List Pt} (h : Own w base t (.slice (some ⟨g, 0, none⟩) n cap) l) (hm : m ≤ n) : Own w base t (.slice (some ⟨g, 0, none⟩) m cap) (l.take m) := by
  obtain ⟨cur, hcur⟩ : ∃ cur, w.heap[g]? = some (.cells cur t (0, 0)) := by
    obtain ⟨h1, h2 | ⟨g', cap', cur', e, hb, hg, hc, hM, hs, ht⟩⟩ := h
    · cases h2.1
    · cases e; exact ⟨_, hg⟩
  have k := (owns_row h hm (fun c => c.toArray) (fun c hc => ⟨by simpa using hc, by simp⟩) cur hcur).1
  rw [Array.toArray_toList, setRow_self w g cur t (0, 0) hcur] at k
  exact k
/-- Without a last point that is the first one, if it is closed. -/
def apartF (c : List Pt) (cl : Bool) : List Pt := if cl = true ∧ 2 ≤ c.length ∧ c[c.length - 1]? = c[0]? then c.take (c.length - 1) else c
def apartI (l : List Pt) (cl : Bool) : List Pt := apartF (compI l) cl
theorem compUp_len (l : List Pt) : ∀ k, (compUp l k).length ≤ k
  | 0 => Nat.le_refl _
  | k + 1 => by
    have h := compUp_len l k
    rw [compUp, List.length_append]
    have : (if keepsB l k = true then (l[k]?).toList else []).length ≤ 1 := by
      split
      · cases l[k]? <;> simp
      · simp
    omega
theorem compI_len (l : List Pt) : (compI l).length ≤ l.length := compUp_len l l.length
theorem apartI_len (l : List Pt) (cl : Bool) : (apartI l cl).length ≤ l.length := by
  have h := compI_len l
  unfold apartI apartF
  split
  · rw [List.length_take]; omega
  · exact h
theorem compUp_mem (l : List Pt) : ∀ k p, p ∈ compUp l k → p ∈ l
  | 0, p, h => by cases h
  | k + 1, p, h => by
    rw [compUp] at h
    rcases List.mem_append.1 h with h | h
    · exact compUp_mem l k p h
    · split at h
      · cases hq : l[k]? with
        | none => rw [hq] at h; cases h
        | some q =>
          rw [hq] at h
          obtain rfl : p = q := by simpa using h
          exact List.mem_of_getElem? hq
      · cases h
theorem compUp_last (l : List Pt) : ∀ k, 1 ≤ k → k ≤ l.length → (compUp l k).getLast? = l[k - 1]?
  | 0, h, _ => by omega
  | k + 1, _, hl => by
    rw [compUp]
    have hq : ∃ q, l[k]? = some q := ⟨_, List.getElem?_eq_getElem (by omega)⟩
    obtain ⟨q, hq⟩ := hq
    cases hk : keepsB l k with
    | true =>
      rw [if_pos rfl, hq, Nat.add_sub_cancel, hq]
      simp
    | false =>
      have h0 : k ≠ 0 := fun e => by rw [e] at hk; cases hk
      have := compUp_last l k (by omega) (by omega)
      unfold keepsB at hk
      simp [h0] at hk
      simp [this, hk]
theorem compUp_adj (l : List Pt) : ∀ k, k ≤ l.length → ∀ i p q, (compUp l k)[i]? = some p → (compUp l k)[i + 1]? = some q → p ≠ q
  | 0, _, i, p, q, h, _ => by simp [compUp] at h
  | k + 1, hk, i, p, q, h1, h2 => by
    have ih := compUp_adj l k (by omega) i
    obtain ⟨r, hr⟩ : ∃ r, l[k]? = some r := ⟨_, List.getElem?_eq_getElem (by omega)⟩
    rw [compUp] at h1 h2
    cases hkb : keepsB l k with
    | false =>
      rw [hkb] at h1 h2
      simp only [Bool.false_eq_true, if_false, List.append_nil] at h1 h2
      exact ih p q h1 h2
    | true =>
      rw [hkb, if_pos rfl, hr] at h1 h2
      simp only [Option.toList] at h1 h2
      rcases Nat.lt_trichotomy (i + 1) (compUp l k).length with hlt | heq | hgt
      · rw [List.getElem?_append_left (by omega)] at h1 h2
        exact ih p q h1 h2
      · rw [List.getElem?_append_left (by omega)] at h1
        rw [List.getElem?_append_right (by omega), heq, Nat.sub_self] at h2
        obtain rfl : r = q := by simpa using h2
        have hlast : (compUp l k).getLast? = some p := by rw [List.getLast?_eq_getElem?, ← heq, Nat.add_sub_cancel]; exact h1
        have h0 : k ≠ 0 := fun e => by subst e; simp [compUp] at heq
        rw [compUp_last l k (by omega) (by omega)] at hlast
        unfold keepsB at hkb
        rw [hr, hlast] at hkb
        simp [h0] at hkb
        exact fun e => hkb e.symm
      · rw [List.getElem?_append_right (by omega)] at h2
        have : 1 ≤ i + 1 - (compUp l k).length := by omega
        obtain ⟨d, hd⟩ : ∃ d, i + 1 - (compUp l k).length = d + 1 := ⟨i - (compUp l k).length, by omega⟩
        rw [hd] at h2
        simp at h2
end Go.Proofs.Ytclkkdhfdoidfaa
