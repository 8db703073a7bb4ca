/- Layer 12: package disk: Crash. -/
import Derived.Test.YtdcjchakgfpgaaaCe
import Derived.Test.YtdcjchakgfpgaaaBf
import Derived.Lib.MinMax
namespace Go.Proofs.Ytdcjchakgfpgaaa
open Go.RowKit
theorem owns_set {w : World} {base size n g cap i : Nat} {t : TypeId} {xs : List Value} (h : w.ownsRow base t size (.slice (some ⟨g, 0, none⟩) n cap) n xs) (hi : i < n * size) (u : Value) : (w.setCell ⟨g, i, none⟩ u).ownsRow base t size (.slice (some ⟨g, 0, none⟩) n cap) n (xs.set i u) := by
  obtain ⟨h1, h2 | ⟨g', cap', cur, e, hb, hg, hc, hm, hs, ht⟩⟩ := h
  · cases h2.1
  · cases e
    have hb2 := Joins.block_setCell (i := i) hg u
    refine ⟨by rw [List.length_set]; exact h1, .inr ⟨g, cap, _, rfl, hb, hb2, hc, hm, by simpa using hs, ?_⟩⟩
    rw [← ht]
    apply List.ext_getElem?
    intro j
    simp only [List.getElem?_take, List.getElem?_set, Array.getElem?_toList, Array.getElem?_setIfInBounds, List.length_take, Array.length_toList]
    have hcap : n * size ≤ cap * size := Nat.mul_le_mul_right _ hc
    by_cases hj : j < n * size
    · by_cases e : i = j
      · subst e
        have hcur : i < cur.size := by omega
        have h2 : i < min (n * size) cur.size := Nat.lt_min.2 ⟨hj, hcur⟩
        simp [hj, hcur]
        exact h2
      · simp [hj, e]
    · simp [hj]
      intro e; omega
theorem owns_fill {g n cap : Nat} {t : TypeId} (z : Value) : ∀ (m o : Nat) (w : World) (xs : List Value), w.ownsRow 0 t 1 (.slice (some ⟨g, 0, none⟩) n cap) n xs → o + m ≤ n →
    ∃ ys, (w.setCells g o (List.replicate m z)).ownsRow 0 t 1 (.slice (some ⟨g, 0, none⟩) n cap) n ys ∧ ∀ i : Nat, ys[i]? = if o ≤ i ∧ i < o + m then some z else xs[i]?
  | 0, o, w, xs, h, _ => ⟨xs, h, fun i => by rw [if_neg (by omega)]⟩
  | m + 1, o, w, xs, h, hm => by
    obtain ⟨ys, h2, h3⟩ := owns_fill z m (o + 1) (w.setCell ⟨g, o, none⟩ z) (xs.set o z) (owns_set h (by omega) z) (by omega)
    refine ⟨ys, h2, fun i => ?_⟩
    rw [h3 i]
    have hl := h.1
    by_cases e : i = o
    · subst e
      rw [if_neg (by omega), if_pos (by omega), List.getElem?_set_self (by omega)]
    · rw [List.getElem?_set_ne (by omega)]
      by_cases e2 : o + 1 ≤ i ∧ i < o + 1 + m
      · rw [if_pos e2, if_pos (by omega)]
      · rw [if_neg e2, if_neg (by omega)]
theorem Keep.setCells (g : Nat) : ∀ (vs : List Value) (o : Nat) (w : World), Keep (fun k => k ≠ g) w (w.setCells g o vs)
  | [], _, w => Keep.refl _ w
  | v :: r, o, w => (Keep.setCell w ⟨g, o, none⟩ v (by simp)).trans (Keep.setCells g r (o + 1) _)
theorem clear_ints (w : World) (g n c : Nat) (R : List Int) (own : OwnI w 0 (.slice (some ⟨g, 0, none⟩) n c) R) (h0 : 0 < n) :
    ∃ w', (∀ ty, (Builtin.clear_ #[66] ty #[.slice (some ⟨g, 0, none⟩) n c]).run Try.prog w = .ok (.tuple #[]) w') ∧ OwnI w' 0 (.slice (some ⟨g, 0, none⟩) n c) (List.replicate n 0) ∧ Keep (fun k => k ≠ g) w w' := by
  have hn : R.length = n := by
    obtain ⟨_, _, e⟩ := own.shape
    cases e; rfl
  have own2 := own
  unfold OwnI at own2
  rw [hn] at own2
  obtain ⟨ys, h2, h3⟩ := owns_fill (.int .i64 0) n 0 w _ own2 (by omega)
  have hy : ys = intV (List.replicate n 0) := by
    apply List.ext_getElem?
    intro i
    rw [h3 i]
    by_cases e : i < n
    · rw [if_pos (by omega)]
      simp [intV, e]
    · rw [if_neg (by omega), List.getElem?_eq_none (by simp; omega), List.getElem?_eq_none (by simp; omega)]
  refine ⟨w.setCells g 0 (List.replicate n (.int .i64 0)), fun ty => ?_, ?_, Keep.setCells g _ _ _⟩
  · refine Lib.run_clear_slice (P := Try.prog) w 66 3 ty (.int .i64 0) Try.underlying66 (fun W => by kernel_rfl) rfl rfl g 0 n c h0 (fun j hj => ?_) (fun j _ => ?_)
    · have key := World.ownsRow.cells own (g := g) rfl j (.int .i64 (R.getD j 0)) (by rw [List.getElem?_map, List.getElem?_eq_getElem (by omega), List.getD_eq_getElem?_getD, List.getElem?_eq_getElem (by omega)]; rfl)
      rw [show (⟨g, 0, none⟩ : Addr).add j = ⟨g, 0 + j, none⟩ from Addr.add_lit ..] at key
      rw [key]; rfl
    · obtain ⟨_, ⟨e, _⟩ | ⟨g', cap', cur, e, hb, hg, _⟩⟩ := own
      · cases e
      · cases e; exact Joins.unfrozen_of_block hg _
  · unfold OwnI
    rw [List.length_replicate, show List.map (Value.int .i64) (List.replicate n 0) = ys from hy.symm]
    exact h2
theorem RowT.keepK {S : Nat → Prop} {w w' : World} {s : Value} {E : List Bool} (h : RowT w s E) (hk : Keep S w w') (hs : ∀ k, s.ownBlock = some k → S k) : RowT w' s E := by
  rcases h with h | h | ⟨b, o, c, rfl, h2, h3⟩
  · exact .inl h
  · exact .inr (.inl h)
  · refine .inr (.inr ⟨b, o, c, rfl, Nat.lt_of_lt_of_le h2 hk.size, fun i x hx => ?_⟩)
    rw [← h3 i x hx]
    unfold World.cell?
    simp only
    rw [hk.block b (hs b rfl) h2]
theorem RowT.addr {w : World} {ao : Option Addr} {n c : Nat} {E : List Bool} (h : RowT w (.slice ao n c) E) (h0 : 0 < E.length) : ∃ b o, ao = some ⟨b, o, none⟩ ∧ b < w.heap.size ∧ ∀ i x, E[i]? = some x → w.cell? ⟨b, o + i, none⟩ = some (.bool x) := by
  rcases h with ⟨_, rfl⟩ | ⟨_, _, _, rfl⟩ | ⟨b, o, c', e, h1, h2⟩
  · simp at h0
  · simp at h0
  · cases e; exact ⟨b, o, rfl, h1, h2⟩
/-- The reads change in their own block. -/
theorem KAt.rds {T : Nat → Prop} {w w' : World} {g : Nat} {x : Kd} (h : KAt T w g x) {R : List Int} (ho : OwnI w' 0 x.rv R) (hk : Keep (fun k => x.rv.ownBlock ≠ some k) w w') : KAt T w' g { x with R := R } :=
  ⟨h.tg, fun k hT => Nat.lt_of_lt_of_le (h.lt k hT) hk.size, hk.blk h.blk (owns_off h.reads h.blk (by decide)),
    owns_keep h.all hk fun k e e2 => (apart_types h.all h.reads (by decide)).elim (fun q => by rw [e] at q; cases q) (fun q => q (by rw [e, e2])), h.ts,
    owns_keep h.wait hk fun k e e2 => (apart_types h.wait h.reads (by decide)).elim (fun q => by rw [e] at q; cases q) (fun q => q (by rw [e, e2])), h.tw,
    fun y hy => ⟨owns_keep (h.byts y hy).1 hk fun k e e2 => (apart_types (h.byts y hy).1 h.reads (by decide)).elim (fun q => by rw [e] at q; cases q) (fun q => q (by rw [e, e2])), (h.byts y hy).2⟩,
    ho, h.tr⟩
theorem KAt.reads_form {T : Nat → Prop} {w : World} {g : Nat} {x : Kd} (h : KAt T w g x) (h0 : 0 < x.R.length) : ∃ gr cr, x.rv = .slice (some ⟨gr, 0, none⟩) x.R.length cr ∧ T gr := by
  obtain ⟨ga, ca, hv, _, _⟩ := h.reads.form h0
  exact ⟨ga, ca, hv, h.tr ga (by rw [hv]; rfl)⟩
theorem crashM_append (keep : List Bool) (torn cut size : Int) (x : Int × List Int) : ∀ (L : List (Int × List Int)) (j : Nat) (s : List Int), crashM keep torn cut size j (L ++ [x]) s = layB (crashM keep torn cut size j L s) (tornB keep torn cut (j + L.length) x.2) (x.1 * size)
  | [], _, _ => rfl
  | y :: L, j, s => by
    rw [List.cons_append, crashM, crashM, crashM_append keep torn cut size x L (j + 1) _, List.length_cons, show j + 1 + L.length = j + (L.length + 1) by omega]
/-- What lies there when a crash has gone through the first k writes. -/
def crashK (keep : List Bool) (torn cut size : Int) (A : List Int) (L : List Wr) (k : Nat) : List Int := crashM keep torn cut size 0 (mapW (L.take k)) A
theorem crashK_succ {keep : List Bool} {torn cut size : Int} {A : List Int} {L : List Wr} {k : Nat} {y : Wr} (h : L[k]? = some y) : crashK keep torn cut size A L (k + 1) = layB (crashK keep torn cut size A L k) (tornB keep torn cut k y.2.2) (y.1 * size) := by
  unfold crashK
  have hl := (List.getElem?_eq_some_iff.1 h).1
  unfold mapW
  rw [List.take_add_one, h, List.map_append, Option.toList_some, List.map_cons, List.map_nil, crashM_append, List.length_map, List.length_take, Nat.zero_add, Nat.min_eq_left (by omega)]
theorem take_torn {B : List Int} {z : Nat} (h : B.length = z) (cut : Int) : B.take (min (max cut 0) (z : Int)).toNat = B.take cut.toNat := by
  subst h
  by_cases h1 : cut.toNat ≤ B.length
  · congr 1; omega
  · rw [List.take_of_length_le (show B.length ≤ cut.toNat by omega), List.take_of_length_le (by omega)]
set_option maxHeartbeats 4000000 in
set_option maxRecDepth 100000 in
theorem crashK_c (T : Nat → Prop) (w : World) (g : Nat) (x : Kd) (z : Nat) (v : Value) (keep : List Bool) (torn cut : Int) (h : KAt T w g x) (hz : OkL x z) (hv : RowT w v keep) (hvT : keep.length ≠ 0 → ∀ k, v.ownBlock = some k → ¬ T k) (_hkl : keep.length ≤ 1000) (_hcut : rngI cut) :
    Calls Try.prog 24 #[ptrD g, v, .int .i64 torn, .int .i64 cut] w fun e w' => e = .returned (.tuple #[]) ∧ KAt T w' g { x with A := crashK keep torn cut x.size x.A x.L x.L.length, L := [], wv := .slice none 0 0, R := List.replicate x.R.length 0, left := -1, down := false } ∧ Keep (fun j => ¬ T j) w w' := by
  obtain ⟨n, hn⟩ : ∃ n, x.L.length = n := ⟨_, rfl⟩
  obtain ⟨m, hm⟩ : ∃ m, x.A.length = m := ⟨_, rfl⟩
  obtain ⟨rn, hrn⟩ : ∃ m, x.R.length = m := ⟨_, rfl⟩
  obtain ⟨wo, wc, hwv⟩ := h.wait.row.shape
  obtain ⟨ga, ca, hsv, hga⟩ := h.all_form hz.pos
  obtain ⟨gr, cr, hrv, hgr⟩ := h.reads_form hz.rlen.1
  obtain ⟨vo, vc, rfl⟩ := hv.shape
  obtain ⟨vn, hvn⟩ : ∃ m, keep.length = m := ⟨_, rfl⟩
  rw [hvn] at hv hvT
  have H1 : Hid (KAt T w g x) := h
  have HV := Lib.hid (And.intro hv hvT)
  have HVN := Lib.hid hvn
  have HZ := Lib.hid hz
  have HN := Lib.hid hn
  have HM := Lib.hid hm
  have HRN := Lib.hid hrn
  have HTG := Lib.hid hga
  have HTR := Lib.hid hgr
  have HTG0 : Hid (T g) := h.tg
  have HW : Hid (x.wv = .slice wo n wc) := by rw [hwv, hn]; exact rfl
  have HSV : Hid (x.sv = .slice (some ⟨ga, 0, none⟩) m ca) := by rw [hsv, hm]; exact rfl
  have HRV : Hid (x.rv = .slice (some ⟨gr, 0, none⟩) rn cr) := by rw [hrv, hrn]; exact rfl
  obtain ⟨d0, d1, d2, d3, d4, d5, d6⟩ := h.blk.k7
  rw [HW.out] at d2
  rw [hn, hrn, hvn]
  clear hwv hsv hga hgr hrv hn hm hrn h hz hv hvT hvn
  go_enter Try.func24, Try.ntmps24
  go_wp2_with fail
  go_loopw [15] (fun s15 wr => ∃ k : Nat, k ≤ n ∧ s15 = .int .i64 (k : Int) ∧ Hid (KAt T wr g { x with A := crashK keep torn cut x.size x.A x.L k } ∧ Keep (fun j => ¬ T j) w wr)) (fun s15 _ => n - (intOf s15).toNat)
  case atStart => exact ⟨0, by omega, rfl, H1.out, Keep.refl _ _⟩
  case round =>
    obtain ⟨k, hk, rfl, hw⟩ := hrel
    clear d0 d1 d2 d3 d4 d5 d6
    obtain ⟨d0, d1, d2, d3, d4, d5, d6⟩ := hw.out.1.blk.k7
    by_cases hlt : k < n
    · have hd : decide ((k : Int) < (n : Int)) = true := by simp; omega
      have hki : (k : Int) < (n : Int) := by omega
      obtain ⟨y, hy⟩ : ∃ y, x.L[k]? = some y := ⟨_, List.getElem?_eq_getElem (by rw [HN.out]; exact hlt)⟩
      have hmem := List.mem_of_getElem? hy
      have hkat := hw.out.1
      have hrow : RowW wr x.wv x.L := hkat.wait.row
      rw [HW.out] at hrow
      obtain ⟨wb, wof, rfl, hwb, hwc⟩ := RowW.addr hrow (by rw [HN.out]; omega)
      obtain ⟨c0, c1⟩ := hwc k y hy
      obtain ⟨i, hi, hfit, hbl⟩ := HZ.out.each y hmem
      have hz1 := HZ.out.z1
      have hbn := hkat.byts y hmem
      have hby := hbn.1
      obtain ⟨b, bc, hbv, _, hbz⟩ := hby.form (by omega)
      rw [hbl] at hbv
      rw [hi] at c0
      rw [hbv] at c1 hby
      obtain ⟨B, hB⟩ : ∃ B, y.2.2 = B := ⟨_, rfl⟩
      rw [hB] at hby hbl
      obtain ⟨w2, hw2⟩ : ∃ WW, wr.alloc (.cells #[.int .i64 (i : Int), .slice (some ⟨b, 0, none⟩) z bc] 81) = WW := ⟨_, rfl⟩
      obtain ⟨g2, hg2⟩ : ∃ G, wr.heap.size = G := ⟨_, rfl⟩
      have H2 : Hid (Below wr.heap.size wr w2 ∧ Blk w2 g2 81 #[.int .i64 (i : Int), .slice (some ⟨b, 0, none⟩) z bc] ∧ OwnB w2 0 (.slice (some ⟨b, 0, none⟩) z bc) B) := by
        rw [← hw2]
        exact ⟨(Below.refl _ _).alloc (Nat.le_refl _) _, by rw [← hg2]; exact Blk.new _ _ _, hby.grow ((Below.refl _ _).alloc (Nat.le_refl _) _)⟩
      have HB1 : Hid (B.take z = B) := by unfold Hid; rw [← hbl, List.take_length]
      have hown : OwnB wr 0 x.sv (crashK keep torn cut x.size x.A x.L k) := hkat.all
      rw [HSV.out] at hown
      have hkw : Hid (KAt T w2 g { x with A := crashK keep torn cut x.size x.A x.L k }) := hkat.grow H2.out.1
      have HSTEP : Hid (crashK keep torn cut x.size x.A x.L (k + 1) = layB (crashK keep torn cut x.size x.A x.L k) (tornB keep torn cut k B) ((i * z : Nat) : Int)) := by
        have e := crashK_succ (keep := keep) (torn := torn) (cut := cut) (size := x.size) (A := x.A) hy
        rw [hi, hB, HZ.out.size] at e
        rw [Hid, HZ.out.size, e]
        simp
      have HC9 : Hid (∀ W, Below w2.heap.size w2 W → Blk W g2 81 #[.int .i64 (i : Int), .slice (some ⟨b, 0, none⟩) z bc] ∧ W.cell? ⟨g, 0, none⟩ = some (.int .i64 (z : Int)) ∧ W.cell? ⟨g, 1, none⟩ = some (.slice (some ⟨ga, 0, none⟩) m ca)) := fun W hW => by
        obtain ⟨q0, q1, q2, q3, q4, q5, q6⟩ := ((hkw.out.blk).grow hW).k7
        have q0' : W.cell? ⟨g, 0, none⟩ = some (.int .i64 x.size) := q0
        have q1' : W.cell? ⟨g, 1, none⟩ = some x.sv := q1
        rw [HZ.out.size] at q0'
        rw [HSV.out] at q1'
        exact ⟨H2.out.2.1.grow hW, q0', q1'⟩
      by_cases ht : (k : Int) = torn
      · have hte : ((k : Int) == torn) = true := by simpa using ht
        obtain ⟨mm, hmm⟩ : ∃ mm : Nat, min (max cut 0) (z : Int) = (mm : Int) := ⟨(min (max cut 0) (z : Int)).toNat, by omega⟩
        have EM := Lib.hid hmm
        have HNX : Hid (crashK keep torn cut x.size x.A x.L (k + 1) = layB (crashK keep torn cut x.size x.A x.L k) (B.take mm) ((i * z : Nat) : Int)) := by
          rw [Hid, HSTEP.out]
          unfold tornB
          rw [if_pos ht, ← take_torn hbl cut, hmm, Int.toNat_natCast]
        have HLAY : Hid (∀ W, Below w2.heap.size w2 W → Calls Try.prog 45 #[.agg #[.int .i64 (i : Int), .slice (some ⟨b, 0, none⟩) z bc], .slice (some ⟨ga, 0, none⟩) m ca, .int .i64 (mm : Int)] W fun e w' => e = .returned (.tuple #[]) ∧ OwnB w' 0 (.slice (some ⟨ga, 0, none⟩) m ca) (layB (crashK keep torn cut x.size x.A x.L k) (B.take mm) ((i * z : Nat) : Int)) ∧ Keep (fun k => k ≠ ga) W w') := fun W hW => layK_c W ga m ca _ ((hown.grow H2.out.1).grow hW) b z bc B (H2.out.2.2.grow hW) i mm (by omega) (by rw [← HM.out]; exact hfit) (by have := HZ.out.len; rw [HM.out] at this; omega) (by omega)
        clear hkat hrow hwb hwc hy hmem hi hfit hbl hz1 hbn hby hbv hbz hB hown ht hmm
        go_upto_region 4 with fail
        clear c0 c1 hw2 hg2 d0 d1 d2 d3 d4 d5 d6
        refine wp_region_put (by kernel_rfl) (by kernel_rfl) (by kernel_rfl) (fun b' vs w' => (b' 0 = true → vs 0 = .agg #[.int .i64 (i : Int), .slice (some ⟨b, 0, none⟩) z bc]) ∧ (b' 1 = true → vs 1 = .pointer (some ⟨g, 0, none⟩)) ∧ (b' 2 = true → vs 2 = .pointer (some ⟨g, 0, none⟩)) ∧ (b' 3 = true → vs 3 = .pointer (some ⟨g, 1, none⟩)) ∧ (b' 4 = true → vs 4 = .slice (some ⟨ga, 0, none⟩) m ca) ∧ (b' 5 = true → vs 5 = .int .i64 cut) ∧ (b' 6 = true → vs 6 = .int .i64 (max cut 0)) ∧ (b' 7 = true → vs 7 = .pointer (some ⟨g, 0, none⟩)) ∧ (b' 8 = true → vs 8 = .pointer (some ⟨g, 0, none⟩)) ∧ (b' 9 = true → vs 9 = .pointer (some ⟨g, 0, none⟩)) ∧ (b' 10 = true → vs 10 = .int .i64 (z : Int)) ∧ (b' 11 = true → vs 11 = .int .i64 (mm : Int)) ∧ (b' 12 = false → Hid (Below w2.heap.size w2 w' ∧ w2.heap.size ≤ w'.heap.size)) ∧ (b' 12 = true → Hid (OwnB w' 0 x.sv (crashK keep torn cut x.size x.A x.L (k + 1)) ∧ Keep (fun k => k ≠ ga) w2 w')) ∧ (b' 11 = true → b' 10 = true) ∧ (b' 12 = true → b' 0 = true) ∧ (b' 12 = true → b' 4 = true) ∧ (b' 12 = true → b' 10 = true)) ?_ ?_ ?_
        · intro vs
          exact ⟨fun h => Bool.noConfusion h, fun h => Bool.noConfusion h, fun h => Bool.noConfusion h, fun h => Bool.noConfusion h, fun h => Bool.noConfusion h, fun h => Bool.noConfusion h, fun h => Bool.noConfusion h, fun h => Bool.noConfusion h, fun h => Bool.noConfusion h, fun h => Bool.noConfusion h, fun h => Bool.noConfusion h, fun h => Bool.noConfusion h, fun _ => Lib.hid ⟨below_drewN (Below.refl _ _) 1, Nat.le_refl _⟩, fun h => Bool.noConfusion h, fun h => Bool.noConfusion h, fun h => Bool.noConfusion h, fun h => Bool.noConfusion h, fun h => Bool.noConfusion h⟩
        · rintro b' vs w' i op hi hun hall ⟨h0, h1, h2, h3, h4, h5, h6, h7, h8, h9, h10, h11, hB, hG, hE11_10, hW0, hW4, hW10⟩
          have hil : i < 13 := (List.getElem?_eq_some_iff.1 hi).1
          rcases i with _ | _ | _ | _ | _ | _ | _ | _ | _ | _ | _ | _ | _ | i
          · obtain rfl := Option.some.inj hi
            clear hi hil
            have hap : b' 12 = false := by
              cases hz : b' 12 with
              | false => rfl
              | true => exact absurd (hW0 hz) (by rw [hun]; decide)
            have m0 := (HC9.out w' (hB hap).out.1).1.cell 0
            have m1 := (HC9.out w' (hB hap).out.1).1.cell 1
            refine wpOp_step rfl (fun K hK => ?_)
            have HKK := Lib.hid hK; clear hK
            simp only [putAll, Act.put, List.setIfInBounds_toArray, List.set_cons_zero, List.set_cons_succ]
            go_simp
            exact HKK.out _ _ ⟨_, by simp only [putAll, Act.put, List.setIfInBounds_toArray, List.set_cons_zero, List.set_cons_succ] <;> rfl, fun _ => rfl, h1, h2, h3, h4, h5, h6, h7, h8, h9, h10, h11, hB, hG, hE11_10, fun _ => rfl, hW4, hW10⟩
          · obtain rfl := Option.some.inj hi
            clear hi hil
            refine wpOp_step rfl (fun K hK => ?_)
            have HKK := Lib.hid hK; clear hK
            simp only [putAll, Act.put, List.setIfInBounds_toArray, List.set_cons_zero, List.set_cons_succ]
            go_simp
            exact HKK.out _ _ ⟨_, by simp only [putAll, Act.put, List.setIfInBounds_toArray, List.set_cons_zero, List.set_cons_succ] <;> rfl, h0, fun _ => rfl, h2, h3, h4, h5, h6, h7, h8, h9, h10, h11, hB, hG, hE11_10, hW0, hW4, hW10⟩
          · obtain rfl := Option.some.inj hi
            clear hi hil
            have d1 := h1 (hall ⟨1, .data⟩ (by simp) rfl)
            refine wpOp_step rfl (fun K hK => ?_)
            have HKK := Lib.hid hK; clear hK
            simp only [putAll, Act.put, List.setIfInBounds_toArray, List.set_cons_zero, List.set_cons_succ]
            go_simp
            exact HKK.out _ _ ⟨_, by simp only [putAll, Act.put, List.setIfInBounds_toArray, List.set_cons_zero, List.set_cons_succ, d1] <;> rfl, h0, h1, fun _ => rfl, h3, h4, h5, h6, h7, h8, h9, h10, h11, hB, hG, hE11_10, hW0, hW4, hW10⟩
          · obtain rfl := Option.some.inj hi
            clear hi hil
            have d2 := h2 (hall ⟨2, .data⟩ (by simp) rfl)
            refine wpOp_step rfl (fun K hK => ?_)
            have HKK := Lib.hid hK; clear hK
            simp only [putAll, Act.put, List.setIfInBounds_toArray, List.set_cons_zero, List.set_cons_succ]
            go_simp
            exact HKK.out _ _ ⟨_, by simp only [putAll, Act.put, List.setIfInBounds_toArray, List.set_cons_zero, List.set_cons_succ, d2] <;> rfl, h0, h1, h2, fun _ => rfl, h4, h5, h6, h7, h8, h9, h10, h11, hB, hG, hE11_10, hW0, hW4, hW10⟩
          · obtain rfl := Option.some.inj hi
            clear hi hil
            have hap : b' 12 = false := by
              cases hz : b' 12 with
              | false => rfl
              | true => exact absurd (hW4 hz) (by rw [hun]; decide)
            have d3 := h3 (hall ⟨3, .data⟩ (by simp) rfl)
            have m3 := (HC9.out w' (hB hap).out.1).2.2
            refine wpOp_step rfl (fun K hK => ?_)
            have HKK := Lib.hid hK; clear hK
            simp only [putAll, Act.put, List.setIfInBounds_toArray, List.set_cons_zero, List.set_cons_succ]
            go_simp
            exact HKK.out _ _ ⟨_, by simp only [putAll, Act.put, List.setIfInBounds_toArray, List.set_cons_zero, List.set_cons_succ, d3] <;> rfl, h0, h1, h2, h3, fun _ => rfl, h5, h6, h7, h8, h9, h10, h11, hB, hG, hE11_10, hW0, fun _ => rfl, hW10⟩
          · obtain rfl := Option.some.inj hi
            clear hi hil
            refine wpOp_step rfl (fun K hK => ?_)
            have HKK := Lib.hid hK; clear hK
            simp only [putAll, Act.put, List.setIfInBounds_toArray, List.set_cons_zero, List.set_cons_succ]
            go_simp
            exact HKK.out _ _ ⟨_, by simp only [putAll, Act.put, List.setIfInBounds_toArray, List.set_cons_zero, List.set_cons_succ] <;> rfl, h0, h1, h2, h3, h4, fun _ => rfl, h6, h7, h8, h9, h10, h11, hB, hG, hE11_10, hW0, hW4, hW10⟩
          · obtain rfl := Option.some.inj hi
            clear hi hil
            have d5 := h5 (hall ⟨5, .data⟩ (by simp) rfl)
            refine wpOp_step rfl (fun K hK => ?_)
            have HKK := Lib.hid hK; clear hK
            simp only [putAll, Act.put, List.setIfInBounds_toArray, List.set_cons_zero, List.set_cons_succ]
            go_simp
            exact HKK.out _ _ ⟨_, by simp only [putAll, Act.put, List.setIfInBounds_toArray, List.set_cons_zero, List.set_cons_succ, d5] <;> rfl, h0, h1, h2, h3, h4, h5, fun _ => rfl, h7, h8, h9, h10, h11, hB, hG, hE11_10, hW0, hW4, hW10⟩
          · obtain rfl := Option.some.inj hi
            clear hi hil
            refine wpOp_step rfl (fun K hK => ?_)
            have HKK := Lib.hid hK; clear hK
            simp only [putAll, Act.put, List.setIfInBounds_toArray, List.set_cons_zero, List.set_cons_succ]
            go_simp
            exact HKK.out _ _ ⟨_, by simp only [putAll, Act.put, List.setIfInBounds_toArray, List.set_cons_zero, List.set_cons_succ] <;> rfl, h0, h1, h2, h3, h4, h5, h6, fun _ => rfl, h8, h9, h10, h11, hB, hG, hE11_10, hW0, hW4, hW10⟩
          · obtain rfl := Option.some.inj hi
            clear hi hil
            have d7 := h7 (hall ⟨7, .data⟩ (by simp) rfl)
            refine wpOp_step rfl (fun K hK => ?_)
            have HKK := Lib.hid hK; clear hK
            simp only [putAll, Act.put, List.setIfInBounds_toArray, List.set_cons_zero, List.set_cons_succ]
            go_simp
            exact HKK.out _ _ ⟨_, by simp only [putAll, Act.put, List.setIfInBounds_toArray, List.set_cons_zero, List.set_cons_succ, d7] <;> rfl, h0, h1, h2, h3, h4, h5, h6, h7, fun _ => rfl, h9, h10, h11, hB, hG, hE11_10, hW0, hW4, hW10⟩
          · obtain rfl := Option.some.inj hi
            clear hi hil
            have d8 := h8 (hall ⟨8, .data⟩ (by simp) rfl)
            refine wpOp_step rfl (fun K hK => ?_)
            have HKK := Lib.hid hK; clear hK
            simp only [putAll, Act.put, List.setIfInBounds_toArray, List.set_cons_zero, List.set_cons_succ]
            go_simp
            exact HKK.out _ _ ⟨_, by simp only [putAll, Act.put, List.setIfInBounds_toArray, List.set_cons_zero, List.set_cons_succ, d8] <;> rfl, h0, h1, h2, h3, h4, h5, h6, h7, h8, fun _ => rfl, h10, h11, hB, hG, hE11_10, hW0, hW4, hW10⟩
          · obtain rfl := Option.some.inj hi
            clear hi hil
            have hap : b' 12 = false := by
              cases hz : b' 12 with
              | false => rfl
              | true => exact absurd (hW10 hz) (by rw [hun]; decide)
            have d9 := h9 (hall ⟨9, .data⟩ (by simp) rfl)
            have m2 := (HC9.out w' (hB hap).out.1).2.1
            refine wpOp_step rfl (fun K hK => ?_)
            have HKK := Lib.hid hK; clear hK
            simp only [putAll, Act.put, List.setIfInBounds_toArray, List.set_cons_zero, List.set_cons_succ]
            go_simp
            exact HKK.out _ _ ⟨_, by simp only [putAll, Act.put, List.setIfInBounds_toArray, List.set_cons_zero, List.set_cons_succ, d9] <;> rfl, h0, h1, h2, h3, h4, h5, h6, h7, h8, h9, fun _ => rfl, h11, hB, hG, fun _ => rfl, hW0, hW4, fun _ => rfl⟩
          · obtain rfl := Option.some.inj hi
            clear hi hil
            have d6 := h6 (hall ⟨6, .data⟩ (by simp) rfl)
            have d10 := h10 (hall ⟨10, .data⟩ (by simp) rfl)
            refine wpOp_step rfl (fun K hK => ?_)
            have HKK := Lib.hid hK; clear hK
            simp only [putAll, Act.put, List.setIfInBounds_toArray, List.set_cons_zero, List.set_cons_succ]
            go_simp
            exact HKK.out _ _ ⟨_, by simp only [putAll, Act.put, List.setIfInBounds_toArray, List.set_cons_zero, List.set_cons_succ, d6, d10, EM.out] <;> rfl, h0, h1, h2, h3, h4, h5, h6, h7, h8, h9, h10, fun _ => rfl, hB, hG, fun _ => hall ⟨10, .data⟩ (by simp) rfl, hW0, hW4, hW10⟩
          · obtain rfl := Option.some.inj hi
            clear hi hil
            have hap : b' 12 = false := hun
            have d0 := h0 (hall ⟨0, .data⟩ (by simp) rfl)
            have d4 := h4 (hall ⟨4, .data⟩ (by simp) rfl)
            have d11 := h11 (hall ⟨11, .data⟩ (by simp) rfl)
            refine wpOp_step rfl (fun K hK => ?_)
            have HKK := Lib.hid hK; clear hK
            simp only [putAll, Act.put, List.setIfInBounds_toArray, List.set_cons_zero, List.set_cons_succ]
            go_simp
            refine (HLAY.out w' (hB hap).out.1).mono ?_
            rintro e w2' ⟨rfl, ho2, hk2⟩
            exact HKK.out _ _ ⟨_, by simp only [putAll, Act.put, List.setIfInBounds_toArray, List.set_cons_zero, List.set_cons_succ, d0, d4, d11] <;> rfl, h0, h1, h2, h3, h4, h5, h6, h7, h8, h9, h10, h11, fun h => Bool.noConfusion h, fun _ => Lib.hid (⟨by rw [HSV.out, HNX.out]; exact ho2, (Keep.of_below (hB hap).out.1).trans hk2⟩), hE11_10, fun _ => hall ⟨0, .data⟩ (by simp) rfl, fun _ => hall ⟨4, .data⟩ (by simp) rfl, fun _ => hE11_10 (hall ⟨11, .data⟩ (by simp) rfl)⟩
          · omega
        · rintro b' vs wz hall ⟨h0, h1, h2, h3, h4, h5, h6, h7, h8, h9, h10, h11, hB, hG, hE11_10, hW0, hW4, hW10⟩
          have d0 := h0 (hall 0 (by simp))
          have d1 := h1 (hall 1 (by simp))
          have d2 := h2 (hall 2 (by simp))
          have d3 := h3 (hall 3 (by simp))
          have d4 := h4 (hall 4 (by simp))
          have d5 := h5 (hall 5 (by simp))
          have d6 := h6 (hall 6 (by simp))
          have d7 := h7 (hall 7 (by simp))
          have d8 := h8 (hall 8 (by simp))
          have d9 := h9 (hall 9 (by simp))
          have d10 := h10 (hall 10 (by simp))
          have d11 := h11 (hall 11 (by simp))
          have GG := hG (hall 12 (by simp))
          simp only [putAll, Act.put, List.setIfInBounds_toArray, List.set_cons_zero, List.set_cons_succ, d0, d1, d2, d3, d4, d5, d6, d7, d8, d9, d10, d11]
          clear hall h0 d0 h1 d1 h2 d2 h3 d3 h4 d4 h5 d5 h6 d6 h7 d7 h8 d8 h9 d9 h10 d10 h11 d11 hB hG hE11_10 hW0 hW4 hW10
          have HS : Hid (KAt T wz g { x with A := crashK keep torn cut x.size x.A x.L (k + 1) } ∧ Keep (fun j => ¬ T j) w wz) := by
            refine ⟨(hkw.out).lay GG.out.1 (GG.out.2.mono fun k hk e => hk (by rw [e, HSV.out]; rfl)), (hw.out.2.trans (Keep.of_below H2.out.1)).trans (GG.out.2.mono fun k hk e => hk (by rw [e]; exact HTG.out))⟩
          clear GG HC9 HLAY hkw
          have hn9 := HZ.out.few
          rw [HN.out] at hn9
          go_wp2_with fail
          exact ⟨⟨k + 1, by omega, by go_num, HS.out⟩, by simp [intOf]; omega⟩
      · have hte : ((k : Int) == torn) = false := by simpa using ht
        by_cases hkl : k < vn
        · have hdk : decide ((k : Int) < (vn : Int)) = true := by simp; omega
          have hkv : (k : Int) < (vn : Int) := by omega
          have hvr : RowT wr _ keep := HV.out.1.keepK hw.out.2 (HV.out.2 (by omega))
          obtain ⟨vb, vof, rfl, hvb, hvc⟩ := hvr.addr (by rw [HVN.out]; omega)
          cases hkk : keep.getD k false with
          | true =>
            have cv0 : wr.cell? ⟨vb, vof + k, none⟩ = some (.bool true) := hvc k true (by rw [← hkk, List.getD_eq_getElem?_getD, List.getElem?_eq_getElem (by rw [HVN.out]; exact hkl)]; rfl)
            have cv : w2.cell? ⟨vb, vof + k, none⟩ = some (.bool true) := (cell_below H2.out.1 hvb).trans cv0
            have HNX : Hid (crashK keep torn cut x.size x.A x.L (k + 1) = layB (crashK keep torn cut x.size x.A x.L k) (B.take z) ((i * z : Nat) : Int)) := by
              rw [Hid, HSTEP.out, HB1.out]
              unfold tornB
              rw [if_neg ht, if_pos hkk]
            have HLAY : Hid (∀ W, Below w2.heap.size w2 W → Calls Try.prog 45 #[.agg #[.int .i64 (i : Int), .slice (some ⟨b, 0, none⟩) z bc], .slice (some ⟨ga, 0, none⟩) m ca, .int .i64 (z : Int)] W fun e w' => e = .returned (.tuple #[]) ∧ OwnB w' 0 (.slice (some ⟨ga, 0, none⟩) m ca) (layB (crashK keep torn cut x.size x.A x.L k) (B.take z) ((i * z : Nat) : Int)) ∧ Keep (fun k => k ≠ ga) W w') := fun W hW => layK_c W ga m ca _ ((hown.grow H2.out.1).grow hW) b z bc B (H2.out.2.2.grow hW) i z (by omega) (by rw [← HM.out]; exact hfit) (by have := HZ.out.len; rw [HM.out] at this; omega) (Nat.le_refl _)
            clear hkat hrow hwb hwc hy hmem hi hfit hbl hz1 hbn hby hbv hbz hB hown ht hkk hvr hvb hvc cv0
            go_upto_region 6 with fail
            clear c0 c1 hw2 hg2 d0 d1 d2 d3 d4 d5 d6 cv
            refine wp_region_put (by kernel_rfl) (by kernel_rfl) (by kernel_rfl) (fun b' vs w' => (b' 0 = true → vs 0 = .agg #[.int .i64 (i : Int), .slice (some ⟨b, 0, none⟩) z bc]) ∧ (b' 1 = true → vs 1 = .pointer (some ⟨g, 0, none⟩)) ∧ (b' 2 = true → vs 2 = .pointer (some ⟨g, 0, none⟩)) ∧ (b' 3 = true → vs 3 = .pointer (some ⟨g, 1, none⟩)) ∧ (b' 4 = true → vs 4 = .slice (some ⟨ga, 0, none⟩) m ca) ∧ (b' 5 = true → vs 5 = .pointer (some ⟨g, 0, none⟩)) ∧ (b' 6 = true → vs 6 = .pointer (some ⟨g, 0, none⟩)) ∧ (b' 7 = true → vs 7 = .pointer (some ⟨g, 0, none⟩)) ∧ (b' 8 = true → vs 8 = .int .i64 (z : Int)) ∧ (b' 9 = false → Hid (Below w2.heap.size w2 w' ∧ w2.heap.size ≤ w'.heap.size)) ∧ (b' 9 = true → Hid (OwnB w' 0 x.sv (crashK keep torn cut x.size x.A x.L (k + 1)) ∧ Keep (fun k => k ≠ ga) w2 w')) ∧ (b' 9 = true → b' 0 = true) ∧ (b' 9 = true → b' 4 = true) ∧ (b' 9 = true → b' 8 = true)) ?_ ?_ ?_
            · intro vs
              exact ⟨fun h => Bool.noConfusion h, fun h => Bool.noConfusion h, fun h => Bool.noConfusion h, fun h => Bool.noConfusion h, fun h => Bool.noConfusion h, fun h => Bool.noConfusion h, fun h => Bool.noConfusion h, fun h => Bool.noConfusion h, fun h => Bool.noConfusion h, fun _ => Lib.hid ⟨below_drewN (Below.refl _ _) 1, Nat.le_refl _⟩, fun h => Bool.noConfusion h, fun h => Bool.noConfusion h, fun h => Bool.noConfusion h, fun h => Bool.noConfusion h⟩
            · rintro b' vs w' i op hi hun hall ⟨h0, h1, h2, h3, h4, h5, h6, h7, h8, hB, hG, hW0, hW4, hW8⟩
              have hil : i < 10 := (List.getElem?_eq_some_iff.1 hi).1
              rcases i with _ | _ | _ | _ | _ | _ | _ | _ | _ | _ | i
              · obtain rfl := Option.some.inj hi
                clear hi hil
                have hap : b' 9 = false := by
                  cases hz : b' 9 with
                  | false => rfl
                  | true => exact absurd (hW0 hz) (by rw [hun]; decide)
                have m0 := (HC9.out w' (hB hap).out.1).1.cell 0
                have m1 := (HC9.out w' (hB hap).out.1).1.cell 1
                refine wpOp_step rfl (fun K hK => ?_)
                have HKK := Lib.hid hK; clear hK
                simp only [putAll, Act.put, List.setIfInBounds_toArray, List.set_cons_zero, List.set_cons_succ]
                go_simp
                exact HKK.out _ _ ⟨_, by simp only [putAll, Act.put, List.setIfInBounds_toArray, List.set_cons_zero, List.set_cons_succ] <;> rfl, fun _ => rfl, h1, h2, h3, h4, h5, h6, h7, h8, hB, hG, fun _ => rfl, hW4, hW8⟩
              · obtain rfl := Option.some.inj hi
                clear hi hil
                refine wpOp_step rfl (fun K hK => ?_)
                have HKK := Lib.hid hK; clear hK
                simp only [putAll, Act.put, List.setIfInBounds_toArray, List.set_cons_zero, List.set_cons_succ]
                go_simp
                exact HKK.out _ _ ⟨_, by simp only [putAll, Act.put, List.setIfInBounds_toArray, List.set_cons_zero, List.set_cons_succ] <;> rfl, h0, fun _ => rfl, h2, h3, h4, h5, h6, h7, h8, hB, hG, hW0, hW4, hW8⟩
              · obtain rfl := Option.some.inj hi
                clear hi hil
                have d1 := h1 (hall ⟨1, .data⟩ (by simp) rfl)
                refine wpOp_step rfl (fun K hK => ?_)
                have HKK := Lib.hid hK; clear hK
                simp only [putAll, Act.put, List.setIfInBounds_toArray, List.set_cons_zero, List.set_cons_succ]
                go_simp
                exact HKK.out _ _ ⟨_, by simp only [putAll, Act.put, List.setIfInBounds_toArray, List.set_cons_zero, List.set_cons_succ, d1] <;> rfl, h0, h1, fun _ => rfl, h3, h4, h5, h6, h7, h8, hB, hG, hW0, hW4, hW8⟩
              · obtain rfl := Option.some.inj hi
                clear hi hil
                have d2 := h2 (hall ⟨2, .data⟩ (by simp) rfl)
                refine wpOp_step rfl (fun K hK => ?_)
                have HKK := Lib.hid hK; clear hK
                simp only [putAll, Act.put, List.setIfInBounds_toArray, List.set_cons_zero, List.set_cons_succ]
                go_simp
                exact HKK.out _ _ ⟨_, by simp only [putAll, Act.put, List.setIfInBounds_toArray, List.set_cons_zero, List.set_cons_succ, d2] <;> rfl, h0, h1, h2, fun _ => rfl, h4, h5, h6, h7, h8, hB, hG, hW0, hW4, hW8⟩
              · obtain rfl := Option.some.inj hi
                clear hi hil
                have hap : b' 9 = false := by
                  cases hz : b' 9 with
                  | false => rfl
                  | true => exact absurd (hW4 hz) (by rw [hun]; decide)
                have d3 := h3 (hall ⟨3, .data⟩ (by simp) rfl)
                have m3 := (HC9.out w' (hB hap).out.1).2.2
                refine wpOp_step rfl (fun K hK => ?_)
                have HKK := Lib.hid hK; clear hK
                simp only [putAll, Act.put, List.setIfInBounds_toArray, List.set_cons_zero, List.set_cons_succ]
                go_simp
                exact HKK.out _ _ ⟨_, by simp only [putAll, Act.put, List.setIfInBounds_toArray, List.set_cons_zero, List.set_cons_succ, d3] <;> rfl, h0, h1, h2, h3, fun _ => rfl, h5, h6, h7, h8, hB, hG, hW0, fun _ => rfl, hW8⟩
              · obtain rfl := Option.some.inj hi
                clear hi hil
                refine wpOp_step rfl (fun K hK => ?_)
                have HKK := Lib.hid hK; clear hK
                simp only [putAll, Act.put, List.setIfInBounds_toArray, List.set_cons_zero, List.set_cons_succ]
                go_simp
                exact HKK.out _ _ ⟨_, by simp only [putAll, Act.put, List.setIfInBounds_toArray, List.set_cons_zero, List.set_cons_succ] <;> rfl, h0, h1, h2, h3, h4, fun _ => rfl, h6, h7, h8, hB, hG, hW0, hW4, hW8⟩
              · obtain rfl := Option.some.inj hi
                clear hi hil
                have d5 := h5 (hall ⟨5, .data⟩ (by simp) rfl)
                refine wpOp_step rfl (fun K hK => ?_)
                have HKK := Lib.hid hK; clear hK
                simp only [putAll, Act.put, List.setIfInBounds_toArray, List.set_cons_zero, List.set_cons_succ]
                go_simp
                exact HKK.out _ _ ⟨_, by simp only [putAll, Act.put, List.setIfInBounds_toArray, List.set_cons_zero, List.set_cons_succ, d5] <;> rfl, h0, h1, h2, h3, h4, h5, fun _ => rfl, h7, h8, hB, hG, hW0, hW4, hW8⟩
              · obtain rfl := Option.some.inj hi
                clear hi hil
                have d6 := h6 (hall ⟨6, .data⟩ (by simp) rfl)
                refine wpOp_step rfl (fun K hK => ?_)
                have HKK := Lib.hid hK; clear hK
                simp only [putAll, Act.put, List.setIfInBounds_toArray, List.set_cons_zero, List.set_cons_succ]
                go_simp
                exact HKK.out _ _ ⟨_, by simp only [putAll, Act.put, List.setIfInBounds_toArray, List.set_cons_zero, List.set_cons_succ, d6] <;> rfl, h0, h1, h2, h3, h4, h5, h6, fun _ => rfl, h8, hB, hG, hW0, hW4, hW8⟩
              · obtain rfl := Option.some.inj hi
                clear hi hil
                have hap : b' 9 = false := by
                  cases hz : b' 9 with
                  | false => rfl
                  | true => exact absurd (hW8 hz) (by rw [hun]; decide)
                have d7 := h7 (hall ⟨7, .data⟩ (by simp) rfl)
                have m2 := (HC9.out w' (hB hap).out.1).2.1
                refine wpOp_step rfl (fun K hK => ?_)
                have HKK := Lib.hid hK; clear hK
                simp only [putAll, Act.put, List.setIfInBounds_toArray, List.set_cons_zero, List.set_cons_succ]
                go_simp
                exact HKK.out _ _ ⟨_, by simp only [putAll, Act.put, List.setIfInBounds_toArray, List.set_cons_zero, List.set_cons_succ, d7] <;> rfl, h0, h1, h2, h3, h4, h5, h6, h7, fun _ => rfl, hB, hG, hW0, hW4, fun _ => rfl⟩
              · obtain rfl := Option.some.inj hi
                clear hi hil
                have hap : b' 9 = false := hun
                have d0 := h0 (hall ⟨0, .data⟩ (by simp) rfl)
                have d4 := h4 (hall ⟨4, .data⟩ (by simp) rfl)
                have d8 := h8 (hall ⟨8, .data⟩ (by simp) rfl)
                refine wpOp_step rfl (fun K hK => ?_)
                have HKK := Lib.hid hK; clear hK
                simp only [putAll, Act.put, List.setIfInBounds_toArray, List.set_cons_zero, List.set_cons_succ]
                go_simp
                refine (HLAY.out w' (hB hap).out.1).mono ?_
                rintro e w2' ⟨rfl, ho2, hk2⟩
                exact HKK.out _ _ ⟨_, by simp only [putAll, Act.put, List.setIfInBounds_toArray, List.set_cons_zero, List.set_cons_succ, d0, d4, d8] <;> rfl, h0, h1, h2, h3, h4, h5, h6, h7, h8, fun h => Bool.noConfusion h, fun _ => Lib.hid (⟨by rw [HSV.out, HNX.out]; exact ho2, (Keep.of_below (hB hap).out.1).trans hk2⟩), fun _ => hall ⟨0, .data⟩ (by simp) rfl, fun _ => hall ⟨4, .data⟩ (by simp) rfl, fun _ => hall ⟨8, .data⟩ (by simp) rfl⟩
              · omega
            · rintro b' vs wz hall ⟨h0, h1, h2, h3, h4, h5, h6, h7, h8, hB, hG, hW0, hW4, hW8⟩
              have d0 := h0 (hall 0 (by simp))
              have d1 := h1 (hall 1 (by simp))
              have d2 := h2 (hall 2 (by simp))
              have d3 := h3 (hall 3 (by simp))
              have d4 := h4 (hall 4 (by simp))
              have d5 := h5 (hall 5 (by simp))
              have d6 := h6 (hall 6 (by simp))
              have d7 := h7 (hall 7 (by simp))
              have d8 := h8 (hall 8 (by simp))
              have GG := hG (hall 9 (by simp))
              simp only [putAll, Act.put, List.setIfInBounds_toArray, List.set_cons_zero, List.set_cons_succ, d0, d1, d2, d3, d4, d5, d6, d7, d8]
              clear hall h0 d0 h1 d1 h2 d2 h3 d3 h4 d4 h5 d5 h6 d6 h7 d7 h8 d8 hB hG hW0 hW4 hW8
              have HS : Hid (KAt T wz g { x with A := crashK keep torn cut x.size x.A x.L (k + 1) } ∧ Keep (fun j => ¬ T j) w wz) := by
                refine ⟨(hkw.out).lay GG.out.1 (GG.out.2.mono fun k hk e => hk (by rw [e, HSV.out]; rfl)), (hw.out.2.trans (Keep.of_below H2.out.1)).trans (GG.out.2.mono fun k hk e => hk (by rw [e]; exact HTG.out))⟩
              clear GG HC9 HLAY hkw
              have hn9 := HZ.out.few
              rw [HN.out] at hn9
              go_wp2_with fail
              exact ⟨⟨k + 1, by omega, by go_num, HS.out⟩, by simp [intOf]; omega⟩
          | false =>
            have cv0 : wr.cell? ⟨vb, vof + k, none⟩ = some (.bool false) := hvc k false (by rw [← hkk, List.getD_eq_getElem?_getD, List.getElem?_eq_getElem (by rw [HVN.out]; exact hkl)]; rfl)
            have cv : w2.cell? ⟨vb, vof + k, none⟩ = some (.bool false) := (cell_below H2.out.1 hvb).trans cv0
            have HS : Hid (KAt T w2 g { x with A := crashK keep torn cut x.size x.A x.L (k + 1) } ∧ Keep (fun j => ¬ T j) w w2) := by
              rw [HSTEP.out]
              unfold tornB
              rw [if_neg ht, hkk, if_neg (by simp), layB_nil]
              exact ⟨hkw.out, hw.out.2.trans (Keep.of_below H2.out.1)⟩
            clear hkat hrow hwb hwc hy hmem hi hfit hbl hz1 hbn hby hbv hbz hB hown ht hkk hvr hvb hvc cv0
            have hn9 := HZ.out.few
            rw [HN.out] at hn9
            go_wp2_with fail
            exact ⟨⟨k + 1, by have := HZ.out.few; rw [HN.out] at this; omega, by go_num, HS.out⟩, by simp [intOf]; omega⟩
        · have hdk : decide ((k : Int) < (vn : Int)) = false := by simp; omega
          have HS : Hid (KAt T w2 g { x with A := crashK keep torn cut x.size x.A x.L (k + 1) } ∧ Keep (fun j => ¬ T j) w w2) := by
            rw [HSTEP.out]
            unfold tornB
            rw [if_neg ht, List.getD_eq_getElem?_getD, List.getElem?_eq_none (by rw [HVN.out]; omega), if_neg (by simp), layB_nil]
            exact ⟨hkw.out, hw.out.2.trans (Keep.of_below H2.out.1)⟩
          clear hkat hrow hwb hwc hy hmem hi hfit hbl hz1 hbn hby hbv hbz hB hown ht
          have hn9 := HZ.out.few
          rw [HN.out] at hn9
          go_wp2_with fail
          exact ⟨⟨k + 1, by have := HZ.out.few; rw [HN.out] at this; omega, by go_num, HS.out⟩, by simp [intOf]; omega⟩
    · have hd : decide ((k : Int) < (n : Int)) = false := by simp; omega
      have hkn : k = n := by omega
      rw [hkn] at hw
      clear hkn
      have f2 := hw.out.1.blk.free 2
      have lg := hw.out.1.blk.lt
      obtain ⟨W1, hW1⟩ : ∃ WW, wr.setCell ⟨g, 2, none⟩ (.slice none 0 0) = WW := ⟨_, rfl⟩
      have HD : Hid (KAt T W1 g { x with A := crashK keep torn cut x.size x.A x.L n, L := [], wv := .slice none 0 0 } ∧ Keep (fun j => ¬ T j) w W1) := by
        rw [← hW1]
        exact ⟨hw.out.1.drop, hw.out.2.trans (Keep.setCell _ _ _ (by simpa using HTG0.out))⟩
      have hrd : OwnI W1 0 x.rv x.R := HD.out.1.reads
      rw [HRV.out] at hrd
      obtain ⟨W2, hclr, ho2, hk2⟩ := clear_ints W1 gr rn cr x.R hrd (by rw [← HRN.out]; exact HZ.out.rlen.1)
      have e3 : W1.cell? ⟨g, 3, none⟩ = some (.slice (some ⟨gr, 0, none⟩) rn cr) := by
        rw [← HRV.out]; exact HD.out.1.blk.cell 3
      have HE : Hid (KAt T W2 g { x with A := crashK keep torn cut x.size x.A x.L n, L := [], wv := .slice none 0 0, R := List.replicate rn 0 } ∧ Keep (fun j => ¬ T j) w W2) :=
        ⟨HD.out.1.rds (R := List.replicate rn 0) (by show OwnI W2 0 x.rv _; rw [HRV.out]; exact ho2) (hk2.mono fun k hk e => hk (by show x.rv.ownBlock = _; rw [HRV.out, e]; rfl)), HD.out.2.trans (hk2.mono fun k hk e => hk (by rw [e]; exact HTR.out))⟩
      obtain ⟨p0, p1, p2, p3, p4, p5, p6⟩ := HE.out.1.blk.k7
      have f5 := HE.out.1.blk.free 5
      have f6 := HE.out.1.blk.free 6
      have lg2 := HE.out.1.blk.lt
      have lg3 := HD.out.1.blk.lt
      clear hrd ho2 hk2
      go_wp2_with fail
      go_end0
      have hkq : Keep (fun k => k ≠ g) W2 ((W2.setCell ⟨g, 5, none⟩ (.int .i64 (-1))).setCell ⟨g, 6, none⟩ (.bool false)) := (Keep.setCell _ _ _ (by simp)).trans (Keep.setCell _ _ _ (by simp))
      exact ⟨rfl, HE.out.1.cells (done := x.done) ((HE.out.1.blk.set 5 (.int .i64 (-1))).set 6 (.bool false)) hkq, HE.out.2.trans (hkq.mono fun j hj e => hj (e ▸ HTG0.out))⟩
theorem kCrash_c (T : Nat → Prop) (w : World) (g : Nat) (d : DM) (v : Value) (keep : List Bool) (torn cut : Int) (h : At12 T w g d) (ok : OkD d 1000) (hv : RowT w v keep) (_hc : CapS v) (hl : keep.length ≤ 1000) (hT : keep.length ≠ 0 → ∀ k, v.ownBlock = some k → ¬ T k) (_ht : rngI torn) (hct : rngI cut) : Calls Try.prog 24 #[ptrD g, v, .int .i64 torn, .int .i64 cut] w fun e w' => ∃ T', e = .returned (.tuple #[]) ∧ At12 T' w' g (crashD d keep torn cut) ∧ To T w T' w' := by
  obtain ⟨x, hx, hr⟩ := h
  obtain ⟨z, hz⟩ := hr.okL ok
  refine (crashK_c T w g x z v keep torn cut hx hz hv hT hl hct).mono ?_
  rintro e w' ⟨rfl, hk, hkp⟩
  refine ⟨T, rfl, ⟨_, hk, ?_⟩, hkp, fun _ h => .inl h⟩
  refine ⟨hr.size, ?_, rfl, ?_, hr.done, rfl, fun e => (by cases e), fun _ => (show (-1 : Int) < 0 by decide), show rngI (-1) from ⟨by decide, by decide⟩⟩
  · show crashK keep torn cut x.size x.A x.L x.L.length = crashM keep torn cut d.size 0 d.wait d.safe
    unfold crashK
    rw [List.take_length, hr.wait, hr.size, hr.all]
  · show List.replicate x.R.length 0 = List.replicate d.reads.length 0
    rw [hr.reads]
end Go.Proofs.Ytdcjchakgfpgaaa
