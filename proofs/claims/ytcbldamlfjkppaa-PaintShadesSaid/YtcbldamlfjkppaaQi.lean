/- Layer 10: package paint's Shade, but for the middle. -/
import Derived.Test.YtcbldamlfjkppaaQh
import Derived.Test.YtcbldamlfjkppaaQc
import Derived.BigQuiet
namespace Go.Proofs.Ytcbldamlfjkppaa
open Go.RowKit
theorem stops_rise {l : List Stp} {n : Nat} (h : chkS l n = true) : ∀ d i, i + d < n → (sAt l i).1 ≤ (sAt l (i + d)).1
  | 0, i, _ => Int.le_refl _
  | d + 1, i, hd => by
    have h1 := stops_rise h d i (by omega)
    obtain ⟨_, _, _, h2⟩ := stopOk_iff.1 (chkS_at h hd)
    rcases h2 with h2 | h2
    · omega
    · rw [show i + (d + 1) - 1 = i + d by omega] at h2; exact Int.le_trans h1 h2
theorem last_is {l : List Stp} {t : Int} {n k : Nat} (h : chkS l n = true) (h0 : (sAt l 0).1 ≤ t) (hk : k < n) (hp : t < (sAt l k).1) (hj : ∀ j, j < k → (sAt l j).1 ≤ t) : lastI l t n + 1 = k := by
  obtain ⟨a, b⟩ := lastI_spec h0 n (by omega)
  have hq := lastI_lt l t n (by omega)
  generalize lastI l t n = q at *
  rcases Nat.lt_or_ge q k with h1 | h1
  · rcases Nat.lt_or_ge (q + 1) k with h2 | h2
    · have h3 := b (q + 1) (by omega) (by omega)
      have h4 := hj (q + 1) h2
      omega
    · omega
  · have h3 := stops_rise h (q - k) k (by omega)
    rw [show k + (q - k) = q by omega] at h3
    omega
theorem results_shade {fn : Func} {tmps : Array Value} {W : World} {g : Nat} {f : Nat → Value} {v : Value} (hres : fn.results = #[.cell 4 26, .tmp 5]) (ha : tmps[4]? = some (.pointer (some ⟨g, 0, none⟩))) (hb : tmps[5]? = some v) (hg : Blk W g 26 (four f)) :
    (results fn tmps).run Try.prog W = .ok (.tuple #[.agg #[f 0, f 1, f 2, f 3], v]) W := by
  obtain ⟨h0, h1, h2, h3⟩ := hg.c0
  simp [results, hres, ha, hb, go_sem, h0, h1, h2, h3]
theorem shade_bad {l : List Stp} (t : Int) (h : okS l = false) : shadeC l t = zeroC := by unfold shadeC; rw [if_neg (by rw [h]; decide)]
set_option maxHeartbeats 2000000 in
set_option maxRecDepth 100000 in
theorem pShade_bad (s : Value) (l : List Stp) (t : Int) (w : World) (row : RowS w s l) (hl : l.length ≤ 100) (hok : okS l = false) : Calls Try.prog 28 #[s, .int .i64 t] w fun e w' => e = .returned (.tuple #[.agg #[.int .u8 (zeroC 0), .int .u8 (zeroC 1), .int .u8 (zeroC 2), .int .u8 (zeroC 3)], .int .i64 30]) ∧ Below w.heap.size w w' := by
  have HCK : Hid (∀ W, Below w.heap.size w W → Calls Try.prog 29 #[s] W fun e w' => e = .returned (.int .i64 30) ∧ Below W.heap.size W w') := fun W hW => by
    have := checkStops_c s l W (row.on hW) hl
    rw [errS_bad hok] at this
    exact this
  obtain ⟨ao, c, rfl⟩ := row.shape
  clear row hl hok
  go_enter Try.func28, Try.ntmps28
  go_wp2_with fail
  obtain ⟨w1, hw1⟩ : ∃ WW, (w.alloc (.cells #[.int .i64 t] 3)).alloc (.cells #[.int .u8 0, .int .u8 0, .int .u8 0, .int .u8 0] 26) = WW := ⟨_, rfl⟩
  have P1 : Hid (Below w.heap.size w w1 ∧ Blk w1 (w.heap.size + 1) 26 (four fun _ => .int .u8 0) ∧ Blk w1 w.heap.size 3 #[.int .i64 t]) := by
    rw [← hw1]
    exact ⟨((Below.refl _ _).alloc (Nat.le_refl _) _).alloc (by simp) _, Blk.newAt _ _ _ (by simp), (Blk.new _ _ _).alloc _⟩
  rw [hw1]
  clear hw1
  refine (HCK.out w1 P1.out.1).mono ?_
  rintro e w2 ⟨rfl, hb⟩
  have P2 : Hid (Below w.heap.size w w2 ∧ Blk w2 (w.heap.size + 1) 26 (four fun _ => .int .u8 0) ∧ Blk w2 w.heap.size 3 #[.int .i64 t]) := ⟨P1.out.1.trans (hb.mono P1.out.1.size), P1.out.2.1.grow hb, P1.out.2.2.grow hb⟩
  clear hb P1
  go_upto_if 15 with fail
  obtain ⟨z0, z1, z2, z3⟩ := P2.out.2.1.c0
  have f0 := P2.out.2.1.free 0
  have f1 := P2.out.2.1.free 1
  have f2 := P2.out.2.1.free 2
  have f3 := P2.out.2.1.free 3
  have lg := P2.out.2.1.lt
  go_wp2_with fail
  exact bodyPost_ret (results_shade rfl rfl rfl (P2.out.2.1.set4 fun i => .int .u8 (zeroC i))) rfl ⟨rfl, below_four4 P2.out.1 (by omega) _ _ _ _⟩
set_option maxHeartbeats 2000000 in
set_option maxRecDepth 100000 in
theorem pShade_first (s : Value) (l : List Stp) (t : Int) (w : World) (row : RowS w s l) (hl : l.length ≤ 100) (hok : okS l = true) (h1 : t ≤ (sAt l 0).1) : Calls Try.prog 28 #[s, .int .i64 t] w fun e w' => e = .returned (.tuple #[.agg #[.int .u8 (shadeC l t 0), .int .u8 (shadeC l t 1), .int .u8 (shadeC l t 2), .int .u8 (shadeC l t 3)], .int .i64 0]) ∧ Below w.heap.size w w' := by
  have HCK : Hid (∀ W, Below w.heap.size w W → Calls Try.prog 29 #[s] W fun e w' => e = .returned (.int .i64 0) ∧ Below W.heap.size W w') := fun W hW => by
    have := checkStops_c s l W (row.on hW) hl
    rw [errS_ok hok] at this
    exact this
  have hpos : 0 < l.length := by
    unfold okS at hok
    simp only [Bool.and_eq_true, decide_eq_true_eq] at hok
    omega
  have HCH : Hid (chkS l l.length = true) := by
    unfold okS at hok
    simp only [Bool.and_eq_true, decide_eq_true_eq] at hok
    exact hok.2
  have HROW := Lib.hid row
  obtain ⟨b, o, c, rfl, hbs, hcs⟩ := row.addr hpos
  obtain ⟨m, hm⟩ : ∃ m, l.length = m + 1 := ⟨l.length - 1, by omega⟩
  have HK : Hid (b < w.heap.size ∧ ∀ k, k < m + 1 → StopAt w b (o + k * 5) (sAt l k)) := ⟨hbs, fun k hk => hcs k _ (sAt_some (by rw [hm]; exact hk))⟩
  have HV : Hid (shadeC l t = if t ≤ (sAt l 0).1 then (sAt l 0).2 else if t ≥ (sAt l m).1 then (sAt l m).2 else mixC (sAt l (lastI l t (m + 1))).2 (sAt l (lastI l t (m + 1) + 1)).2 (partS l t (lastI l t (m + 1)))) := by
    unfold shadeC Hid
    rw [if_pos hok, hm, Nat.add_sub_cancel]
  have HL : Hid (m + 1 ≤ 100) := by rw [← hm]; exact hl
  have HM := Lib.hid hm
  have e0 : wrap64 (((m + 1 : Nat) : Int) - 1) = (m : Int) := by rw [wrapR _ (by omega) (by omega)]; omega
  rw [hm]
  rw [hm] at HCK
  obtain ⟨n, hn⟩ : ∃ n, m + 1 = n := ⟨_, rfl⟩
  have HN := Lib.hid hn
  have k0 : (0 : Int) < (n : Int) := by omega
  have k1 : (m : Int) < (n : Int) := by omega
  have k2 : 0 < n := by omega
  have k3 : m < n := by omega
  rw [hn] at e0 HCK ⊢
  have e0' : IntKind.i64.wrap ((n : Int) - 1) = (m : Int) := by rw [wrap_is]; exact e0
  clear row hl hok hpos hbs hcs hm hn
  obtain ⟨p, hp⟩ : ∃ p, sAt l 0 = p := ⟨_, rfl⟩
  obtain ⟨q, hq⟩ : ∃ q, sAt l m = q := ⟨_, rfl⟩
  rw [hp, hq] at HV
  rw [hp] at h1
  have HP := Lib.hid hp
  have HQ := Lib.hid hq
  clear hp hq
  have d1 : decide (t ≤ p.1) = true := by simpa using h1
  rw [show shadeC l t = p.2 by rw [HV.out, if_pos h1]]
  clear h1 HV
  go_enter Try.func28, Try.ntmps28
  go_wp2_with fail
  obtain ⟨w1, hw1⟩ : ∃ WW, (w.alloc (.cells #[.int .i64 t] 3)).alloc (.cells #[.int .u8 0, .int .u8 0, .int .u8 0, .int .u8 0] 26) = WW := ⟨_, rfl⟩
  have P1 : Hid (Below w.heap.size w w1 ∧ Blk w1 (w.heap.size + 1) 26 (four fun _ => .int .u8 0) ∧ Blk w1 w.heap.size 3 #[.int .i64 t]) := by
    rw [← hw1]
    exact ⟨((Below.refl _ _).alloc (Nat.le_refl _) _).alloc (by simp) _, Blk.newAt _ _ _ (by simp), (Blk.new _ _ _).alloc _⟩
  rw [hw1]
  clear hw1
  refine (HCK.out w1 P1.out.1).mono ?_
  rintro e w2 ⟨rfl, hb⟩
  have P2 : Hid (Below w.heap.size w w2 ∧ Blk w2 (w.heap.size + 1) 26 (four fun _ => .int .u8 0) ∧ Blk w2 w.heap.size 3 #[.int .i64 t]) := ⟨P1.out.1.trans (hb.mono P1.out.1.size), P1.out.2.1.grow hb, P1.out.2.2.grow hb⟩
  clear hb P1
  go_upto_region 4 with fail
  have hA : StopAt w2 b o p := by
    have h := (HK.out.2 0 (by omega)).on (P2.out.1.mono (Nat.le_refl _)) HK.out.1
    rw [HP.out, Nat.zero_mul, Nat.add_zero] at h
    exact h
  have hB : StopAt w2 b (o + m * 5) q := by
    have h := (HK.out.2 m (by omega)).on (P2.out.1.mono (Nat.le_refl _)) HK.out.1
    rw [HQ.out] at h
    exact h
  have hlt : b < w2.heap.size := Nat.lt_of_lt_of_le HK.out.1 P2.out.1.size
  have a0 : ∀ x, (w2.alloc x).cell? ⟨b, o, none⟩ = some (.int .i64 p.1) := fun x => (hA.on ((Below.refl _ _).alloc (Nat.le_refl _) _) hlt).1
  have a0' : ∀ x y, ((w2.alloc x).alloc y).cell? ⟨b, o, none⟩ = some (.int .i64 p.1) := fun x y => (hA.on (((Below.refl _ _).alloc (Nat.le_refl _) _).alloc (by simp) _) hlt).1
  have a1 : ∀ x, (w2.alloc x).cell? ⟨b, o + 1, none⟩ = some (.int .u8 (p.2 0)) := fun x => (hA.on ((Below.refl _ _).alloc (Nat.le_refl _) _) hlt).2.1
  have a1' : ∀ x y, ((w2.alloc x).alloc y).cell? ⟨b, o + 1, none⟩ = some (.int .u8 (p.2 0)) := fun x y => (hA.on (((Below.refl _ _).alloc (Nat.le_refl _) _).alloc (by simp) _) hlt).2.1
  have a2 : ∀ x, (w2.alloc x).cell? ⟨b, o + 2, none⟩ = some (.int .u8 (p.2 1)) := fun x => (hA.on ((Below.refl _ _).alloc (Nat.le_refl _) _) hlt).2.2.1
  have a2' : ∀ x y, ((w2.alloc x).alloc y).cell? ⟨b, o + 2, none⟩ = some (.int .u8 (p.2 1)) := fun x y => (hA.on (((Below.refl _ _).alloc (Nat.le_refl _) _).alloc (by simp) _) hlt).2.2.1
  have a3 : ∀ x, (w2.alloc x).cell? ⟨b, o + 3, none⟩ = some (.int .u8 (p.2 2)) := fun x => (hA.on ((Below.refl _ _).alloc (Nat.le_refl _) _) hlt).2.2.2.1
  have a3' : ∀ x y, ((w2.alloc x).alloc y).cell? ⟨b, o + 3, none⟩ = some (.int .u8 (p.2 2)) := fun x y => (hA.on (((Below.refl _ _).alloc (Nat.le_refl _) _).alloc (by simp) _) hlt).2.2.2.1
  have a4 : ∀ x, (w2.alloc x).cell? ⟨b, o + 4, none⟩ = some (.int .u8 (p.2 3)) := fun x => (hA.on ((Below.refl _ _).alloc (Nat.le_refl _) _) hlt).2.2.2.2
  have a4' : ∀ x y, ((w2.alloc x).alloc y).cell? ⟨b, o + 4, none⟩ = some (.int .u8 (p.2 3)) := fun x y => (hA.on (((Below.refl _ _).alloc (Nat.le_refl _) _).alloc (by simp) _) hlt).2.2.2.2
  have b0 : ∀ x, (w2.alloc x).cell? ⟨b, o + m * 5, none⟩ = some (.int .i64 q.1) := fun x => (hB.on ((Below.refl _ _).alloc (Nat.le_refl _) _) hlt).1
  have b0' : ∀ x y, ((w2.alloc x).alloc y).cell? ⟨b, o + m * 5, none⟩ = some (.int .i64 q.1) := fun x y => (hB.on (((Below.refl _ _).alloc (Nat.le_refl _) _).alloc (by simp) _) hlt).1
  have b1 : ∀ x, (w2.alloc x).cell? ⟨b, o + m * 5 + 1, none⟩ = some (.int .u8 (q.2 0)) := fun x => (hB.on ((Below.refl _ _).alloc (Nat.le_refl _) _) hlt).2.1
  have b1' : ∀ x y, ((w2.alloc x).alloc y).cell? ⟨b, o + m * 5 + 1, none⟩ = some (.int .u8 (q.2 0)) := fun x y => (hB.on (((Below.refl _ _).alloc (Nat.le_refl _) _).alloc (by simp) _) hlt).2.1
  have b2 : ∀ x, (w2.alloc x).cell? ⟨b, o + m * 5 + 2, none⟩ = some (.int .u8 (q.2 1)) := fun x => (hB.on ((Below.refl _ _).alloc (Nat.le_refl _) _) hlt).2.2.1
  have b2' : ∀ x y, ((w2.alloc x).alloc y).cell? ⟨b, o + m * 5 + 2, none⟩ = some (.int .u8 (q.2 1)) := fun x y => (hB.on (((Below.refl _ _).alloc (Nat.le_refl _) _).alloc (by simp) _) hlt).2.2.1
  have b3 : ∀ x, (w2.alloc x).cell? ⟨b, o + m * 5 + 3, none⟩ = some (.int .u8 (q.2 2)) := fun x => (hB.on ((Below.refl _ _).alloc (Nat.le_refl _) _) hlt).2.2.2.1
  have b3' : ∀ x y, ((w2.alloc x).alloc y).cell? ⟨b, o + m * 5 + 3, none⟩ = some (.int .u8 (q.2 2)) := fun x y => (hB.on (((Below.refl _ _).alloc (Nat.le_refl _) _).alloc (by simp) _) hlt).2.2.2.1
  have b4 : ∀ x, (w2.alloc x).cell? ⟨b, o + m * 5 + 4, none⟩ = some (.int .u8 (q.2 3)) := fun x => (hB.on ((Below.refl _ _).alloc (Nat.le_refl _) _) hlt).2.2.2.2
  have b4' : ∀ x y, ((w2.alloc x).alloc y).cell? ⟨b, o + m * 5 + 4, none⟩ = some (.int .u8 (q.2 3)) := fun x y => (hB.on (((Below.refl _ _).alloc (Nat.le_refl _) _).alloc (by simp) _) hlt).2.2.2.2
  obtain ⟨x0, x1, x2, x3, x4⟩ := hA
  obtain ⟨y0, y1, y2, y3, y4⟩ := hB
  go_region
  · clear a0 a0' a1 a1' a2 a2' a3 a3' a4 a4' b0 b0' b1 b1' b2 b2' b3 b3' b4 b4' x0 x1 x2 x3 x4 y0 y1 y2 y3 y4 hlt
    obtain ⟨w3, hw⟩ : ∃ WW, ((w2.alloc (.cells #[.int .i64 p.1, .int .u8 (p.2 0), .int .u8 (p.2 1), .int .u8 (p.2 2), .int .u8 (p.2 3)] 48 )).alloc (.cells #[.int .i64 q.1, .int .u8 (q.2 0), .int .u8 (q.2 1), .int .u8 (q.2 2), .int .u8 (q.2 3)] 48 )).drew = WW := ⟨_, rfl⟩
    have HG : Hid (Below w2.heap.size w2 w3 ∧ Blk w3 w2.heap.size 48 #[.int .i64 p.1, .int .u8 (p.2 0), .int .u8 (p.2 1), .int .u8 (p.2 2), .int .u8 (p.2 3)] ∧ Blk w3 (w2.heap.size + 1) 48 #[.int .i64 q.1, .int .u8 (q.2 0), .int .u8 (q.2 1), .int .u8 (q.2 2), .int .u8 (q.2 3)]) := by
      rw [← hw]
      have h1 : Blk ((w2.alloc (.cells #[.int .i64 p.1, .int .u8 (p.2 0), .int .u8 (p.2 1), .int .u8 (p.2 2), .int .u8 (p.2 3)] 48 )).alloc (.cells #[.int .i64 q.1, .int .u8 (q.2 0), .int .u8 (q.2 1), .int .u8 (q.2 2), .int .u8 (q.2 3)] 48 )) (w2.heap.size + 1) 48 #[.int .i64 q.1, .int .u8 (q.2 0), .int .u8 (q.2 1), .int .u8 (q.2 2), .int .u8 (q.2 3)] := Blk.newAt _ _ _ (by simp)
      exact ⟨(((Below.refl _ _).alloc (Nat.le_refl _) _).alloc (by simp) _).trans ⟨rfl, rfl, rfl, Nat.le_refl _, fun _ _ => rfl⟩, ((Blk.new _ _ _).alloc _).grow ⟨rfl, rfl, rfl, Nat.le_refl _, fun _ _ => rfl⟩, h1.grow ⟨rfl, rfl, rfl, Nat.le_refl _, fun _ _ => rfl⟩⟩
    rw [hw]
    clear hw
    generalize w2.heap.size + 1 = g8 at *
    generalize hg7 : w2.heap.size = g7 at *
    have P3 : Hid (Below w.heap.size w w3 ∧ Blk w3 (w.heap.size + 1) 26 (four fun _ => .int .u8 0) ∧ Blk w3 w.heap.size 3 #[.int .i64 t]) := ⟨P2.out.1.trans (HG.out.1.mono (by rw [← hg7]; exact P2.out.1.size)), P2.out.2.1.grow (hg7 ▸ HG.out.1), P2.out.2.2.grow (hg7 ▸ HG.out.1)⟩
    have K7 : Hid (Blk w3 g7 48 #[.int .i64 p.1, .int .u8 (p.2 0), .int .u8 (p.2 1), .int .u8 (p.2 2), .int .u8 (p.2 3)]) := HG.out.2.1
    have K8 : Hid (Blk w3 g8 48 #[.int .i64 q.1, .int .u8 (q.2 0), .int .u8 (q.2 1), .int .u8 (q.2 2), .int .u8 (q.2 3)]) := HG.out.2.2
    clear HG hg7 P2
    obtain ⟨x0, x1, x2, x3, x4⟩ : StopAt w3 g7 0 p := ⟨K7.out.cell 0, K7.out.cell 1, K7.out.cell 2, K7.out.cell 3, K7.out.cell 4⟩
    have ct : w3.cell? ⟨w.heap.size, 0, none⟩ = some (.int .i64 t) := P3.out.2.2.cell 0
    simp only [Nat.zero_add] at x1 x2 x3 x4
    go_upto_region 6 with fail
    obtain ⟨z0, z1, z2, z3⟩ := P3.out.2.1.c0
    have f0 := P3.out.2.1.free 0
    have f1 := P3.out.2.1.free 1
    have f2 := P3.out.2.1.free 2
    have f3 := P3.out.2.1.free 3
    have lg := P3.out.2.1.lt
    go_wp2_with fail
    exact bodyPost_ret (results_shade rfl rfl rfl (P3.out.2.1.set4 fun i => .int .u8 (p.2 i))) rfl ⟨rfl, below_four4 P3.out.1 (by omega) _ _ _ _⟩
  · clear a0 a0' a1 a1' a2 a2' a3 a3' a4 a4' b0 b0' b1 b1' b2 b2' b3 b3' b4 b4' x0 x1 x2 x3 x4 y0 y1 y2 y3 y4 hlt
    obtain ⟨w3, hw⟩ : ∃ WW, ((w2.alloc (.cells #[.int .i64 q.1, .int .u8 (q.2 0), .int .u8 (q.2 1), .int .u8 (q.2 2), .int .u8 (q.2 3)] 48 )).alloc (.cells #[.int .i64 p.1, .int .u8 (p.2 0), .int .u8 (p.2 1), .int .u8 (p.2 2), .int .u8 (p.2 3)] 48 )).drew = WW := ⟨_, rfl⟩
    have HG : Hid (Below w2.heap.size w2 w3 ∧ Blk w3 w2.heap.size 48 #[.int .i64 q.1, .int .u8 (q.2 0), .int .u8 (q.2 1), .int .u8 (q.2 2), .int .u8 (q.2 3)] ∧ Blk w3 (w2.heap.size + 1) 48 #[.int .i64 p.1, .int .u8 (p.2 0), .int .u8 (p.2 1), .int .u8 (p.2 2), .int .u8 (p.2 3)]) := by
      rw [← hw]
      have h1 : Blk ((w2.alloc (.cells #[.int .i64 q.1, .int .u8 (q.2 0), .int .u8 (q.2 1), .int .u8 (q.2 2), .int .u8 (q.2 3)] 48 )).alloc (.cells #[.int .i64 p.1, .int .u8 (p.2 0), .int .u8 (p.2 1), .int .u8 (p.2 2), .int .u8 (p.2 3)] 48 )) (w2.heap.size + 1) 48 #[.int .i64 p.1, .int .u8 (p.2 0), .int .u8 (p.2 1), .int .u8 (p.2 2), .int .u8 (p.2 3)] := Blk.newAt _ _ _ (by simp)
      exact ⟨(((Below.refl _ _).alloc (Nat.le_refl _) _).alloc (by simp) _).trans ⟨rfl, rfl, rfl, Nat.le_refl _, fun _ _ => rfl⟩, ((Blk.new _ _ _).alloc _).grow ⟨rfl, rfl, rfl, Nat.le_refl _, fun _ _ => rfl⟩, h1.grow ⟨rfl, rfl, rfl, Nat.le_refl _, fun _ _ => rfl⟩⟩
    rw [hw]
    clear hw
    generalize w2.heap.size + 1 = g7 at *
    generalize hg8 : w2.heap.size = g8 at *
    have P3 : Hid (Below w.heap.size w w3 ∧ Blk w3 (w.heap.size + 1) 26 (four fun _ => .int .u8 0) ∧ Blk w3 w.heap.size 3 #[.int .i64 t]) := ⟨P2.out.1.trans (HG.out.1.mono (by rw [← hg8]; exact P2.out.1.size)), P2.out.2.1.grow (hg8 ▸ HG.out.1), P2.out.2.2.grow (hg8 ▸ HG.out.1)⟩
    have K7 : Hid (Blk w3 g7 48 #[.int .i64 p.1, .int .u8 (p.2 0), .int .u8 (p.2 1), .int .u8 (p.2 2), .int .u8 (p.2 3)]) := HG.out.2.2
    have K8 : Hid (Blk w3 g8 48 #[.int .i64 q.1, .int .u8 (q.2 0), .int .u8 (q.2 1), .int .u8 (q.2 2), .int .u8 (q.2 3)]) := HG.out.2.1
    clear HG hg8 P2
    obtain ⟨x0, x1, x2, x3, x4⟩ : StopAt w3 g7 0 p := ⟨K7.out.cell 0, K7.out.cell 1, K7.out.cell 2, K7.out.cell 3, K7.out.cell 4⟩
    have ct : w3.cell? ⟨w.heap.size, 0, none⟩ = some (.int .i64 t) := P3.out.2.2.cell 0
    simp only [Nat.zero_add] at x1 x2 x3 x4
    go_upto_region 6 with fail
    obtain ⟨z0, z1, z2, z3⟩ := P3.out.2.1.c0
    have f0 := P3.out.2.1.free 0
    have f1 := P3.out.2.1.free 1
    have f2 := P3.out.2.1.free 2
    have f3 := P3.out.2.1.free 3
    have lg := P3.out.2.1.lt
    go_wp2_with fail
    exact bodyPost_ret (results_shade rfl rfl rfl (P3.out.2.1.set4 fun i => .int .u8 (p.2 i))) rfl ⟨rfl, below_four4 P3.out.1 (by omega) _ _ _ _⟩
set_option maxHeartbeats 2000000 in
set_option maxRecDepth 100000 in
theorem pShade_last (s : Value) (l : List Stp) (t : Int) (w : World) (row : RowS w s l) (hl : l.length ≤ 100) (hok : okS l = true) (h1 : ¬ t ≤ (sAt l 0).1) (h2 : t ≥ (sAt l (l.length - 1)).1) : Calls Try.prog 28 #[s, .int .i64 t] w fun e w' => e = .returned (.tuple #[.agg #[.int .u8 (shadeC l t 0), .int .u8 (shadeC l t 1), .int .u8 (shadeC l t 2), .int .u8 (shadeC l t 3)], .int .i64 0]) ∧ Below w.heap.size w w' := by
  have HCK : Hid (∀ W, Below w.heap.size w W → Calls Try.prog 29 #[s] W fun e w' => e = .returned (.int .i64 0) ∧ Below W.heap.size W w') := fun W hW => by
    have := checkStops_c s l W (row.on hW) hl
    rw [errS_ok hok] at this
    exact this
  have hpos : 0 < l.length := by
    unfold okS at hok
    simp only [Bool.and_eq_true, decide_eq_true_eq] at hok
    omega
  have HCH : Hid (chkS l l.length = true) := by
    unfold okS at hok
    simp only [Bool.and_eq_true, decide_eq_true_eq] at hok
    exact hok.2
  have HROW := Lib.hid row
  obtain ⟨b, o, c, rfl, hbs, hcs⟩ := row.addr hpos
  obtain ⟨m, hm⟩ : ∃ m, l.length = m + 1 := ⟨l.length - 1, by omega⟩
  have HK : Hid (b < w.heap.size ∧ ∀ k, k < m + 1 → StopAt w b (o + k * 5) (sAt l k)) := ⟨hbs, fun k hk => hcs k _ (sAt_some (by rw [hm]; exact hk))⟩
  have HV : Hid (shadeC l t = if t ≤ (sAt l 0).1 then (sAt l 0).2 else if t ≥ (sAt l m).1 then (sAt l m).2 else mixC (sAt l (lastI l t (m + 1))).2 (sAt l (lastI l t (m + 1) + 1)).2 (partS l t (lastI l t (m + 1)))) := by
    unfold shadeC Hid
    rw [if_pos hok, hm, Nat.add_sub_cancel]
  have HL : Hid (m + 1 ≤ 100) := by rw [← hm]; exact hl
  have HM := Lib.hid hm
  have e0 : wrap64 (((m + 1 : Nat) : Int) - 1) = (m : Int) := by rw [wrapR _ (by omega) (by omega)]; omega
  rw [hm]
  rw [hm] at HCK
  obtain ⟨n, hn⟩ : ∃ n, m + 1 = n := ⟨_, rfl⟩
  have HN := Lib.hid hn
  have k0 : (0 : Int) < (n : Int) := by omega
  have k1 : (m : Int) < (n : Int) := by omega
  have k2 : 0 < n := by omega
  have k3 : m < n := by omega
  rw [hn] at e0 HCK ⊢
  have e0' : IntKind.i64.wrap ((n : Int) - 1) = (m : Int) := by rw [wrap_is]; exact e0
  clear row hl hok hpos hbs hcs hm hn
  obtain ⟨p, hp⟩ : ∃ p, sAt l 0 = p := ⟨_, rfl⟩
  obtain ⟨q, hq⟩ : ∃ q, sAt l m = q := ⟨_, rfl⟩
  rw [hp, hq] at HV
  rw [hp] at h1
  rw [show l.length - 1 = m by have := HM.out; omega, hq] at h2
  have HP := Lib.hid hp
  have HQ := Lib.hid hq
  clear hp hq
  have d1 : decide (t ≤ p.1) = false := by simpa using h1
  have d2 : decide (t ≥ q.1) = true := by simpa using h2
  rw [show shadeC l t = q.2 by rw [HV.out, if_neg h1, if_pos h2]]
  clear h1 h2 HV
  go_enter Try.func28, Try.ntmps28
  go_wp2_with fail
  obtain ⟨w1, hw1⟩ : ∃ WW, (w.alloc (.cells #[.int .i64 t] 3)).alloc (.cells #[.int .u8 0, .int .u8 0, .int .u8 0, .int .u8 0] 26) = WW := ⟨_, rfl⟩
  have P1 : Hid (Below w.heap.size w w1 ∧ Blk w1 (w.heap.size + 1) 26 (four fun _ => .int .u8 0) ∧ Blk w1 w.heap.size 3 #[.int .i64 t]) := by
    rw [← hw1]
    exact ⟨((Below.refl _ _).alloc (Nat.le_refl _) _).alloc (by simp) _, Blk.newAt _ _ _ (by simp), (Blk.new _ _ _).alloc _⟩
  rw [hw1]
  clear hw1
  refine (HCK.out w1 P1.out.1).mono ?_
  rintro e w2 ⟨rfl, hb⟩
  have P2 : Hid (Below w.heap.size w w2 ∧ Blk w2 (w.heap.size + 1) 26 (four fun _ => .int .u8 0) ∧ Blk w2 w.heap.size 3 #[.int .i64 t]) := ⟨P1.out.1.trans (hb.mono P1.out.1.size), P1.out.2.1.grow hb, P1.out.2.2.grow hb⟩
  clear hb P1
  go_upto_region 4 with fail
  have hA : StopAt w2 b o p := by
    have h := (HK.out.2 0 (by omega)).on (P2.out.1.mono (Nat.le_refl _)) HK.out.1
    rw [HP.out, Nat.zero_mul, Nat.add_zero] at h
    exact h
  have hB : StopAt w2 b (o + m * 5) q := by
    have h := (HK.out.2 m (by omega)).on (P2.out.1.mono (Nat.le_refl _)) HK.out.1
    rw [HQ.out] at h
    exact h
  have hlt : b < w2.heap.size := Nat.lt_of_lt_of_le HK.out.1 P2.out.1.size
  have a0 : ∀ x, (w2.alloc x).cell? ⟨b, o, none⟩ = some (.int .i64 p.1) := fun x => (hA.on ((Below.refl _ _).alloc (Nat.le_refl _) _) hlt).1
  have a0' : ∀ x y, ((w2.alloc x).alloc y).cell? ⟨b, o, none⟩ = some (.int .i64 p.1) := fun x y => (hA.on (((Below.refl _ _).alloc (Nat.le_refl _) _).alloc (by simp) _) hlt).1
  have a1 : ∀ x, (w2.alloc x).cell? ⟨b, o + 1, none⟩ = some (.int .u8 (p.2 0)) := fun x => (hA.on ((Below.refl _ _).alloc (Nat.le_refl _) _) hlt).2.1
  have a1' : ∀ x y, ((w2.alloc x).alloc y).cell? ⟨b, o + 1, none⟩ = some (.int .u8 (p.2 0)) := fun x y => (hA.on (((Below.refl _ _).alloc (Nat.le_refl _) _).alloc (by simp) _) hlt).2.1
  have a2 : ∀ x, (w2.alloc x).cell? ⟨b, o + 2, none⟩ = some (.int .u8 (p.2 1)) := fun x => (hA.on ((Below.refl _ _).alloc (Nat.le_refl _) _) hlt).2.2.1
  have a2' : ∀ x y, ((w2.alloc x).alloc y).cell? ⟨b, o + 2, none⟩ = some (.int .u8 (p.2 1)) := fun x y => (hA.on (((Below.refl _ _).alloc (Nat.le_refl _) _).alloc (by simp) _) hlt).2.2.1
  have a3 : ∀ x, (w2.alloc x).cell? ⟨b, o + 3, none⟩ = some (.int .u8 (p.2 2)) := fun x => (hA.on ((Below.refl _ _).alloc (Nat.le_refl _) _) hlt).2.2.2.1
  have a3' : ∀ x y, ((w2.alloc x).alloc y).cell? ⟨b, o + 3, none⟩ = some (.int .u8 (p.2 2)) := fun x y => (hA.on (((Below.refl _ _).alloc (Nat.le_refl _) _).alloc (by simp) _) hlt).2.2.2.1
  have a4 : ∀ x, (w2.alloc x).cell? ⟨b, o + 4, none⟩ = some (.int .u8 (p.2 3)) := fun x => (hA.on ((Below.refl _ _).alloc (Nat.le_refl _) _) hlt).2.2.2.2
  have a4' : ∀ x y, ((w2.alloc x).alloc y).cell? ⟨b, o + 4, none⟩ = some (.int .u8 (p.2 3)) := fun x y => (hA.on (((Below.refl _ _).alloc (Nat.le_refl _) _).alloc (by simp) _) hlt).2.2.2.2
  have b0 : ∀ x, (w2.alloc x).cell? ⟨b, o + m * 5, none⟩ = some (.int .i64 q.1) := fun x => (hB.on ((Below.refl _ _).alloc (Nat.le_refl _) _) hlt).1
  have b0' : ∀ x y, ((w2.alloc x).alloc y).cell? ⟨b, o + m * 5, none⟩ = some (.int .i64 q.1) := fun x y => (hB.on (((Below.refl _ _).alloc (Nat.le_refl _) _).alloc (by simp) _) hlt).1
  have b1 : ∀ x, (w2.alloc x).cell? ⟨b, o + m * 5 + 1, none⟩ = some (.int .u8 (q.2 0)) := fun x => (hB.on ((Below.refl _ _).alloc (Nat.le_refl _) _) hlt).2.1
  have b1' : ∀ x y, ((w2.alloc x).alloc y).cell? ⟨b, o + m * 5 + 1, none⟩ = some (.int .u8 (q.2 0)) := fun x y => (hB.on (((Below.refl _ _).alloc (Nat.le_refl _) _).alloc (by simp) _) hlt).2.1
  have b2 : ∀ x, (w2.alloc x).cell? ⟨b, o + m * 5 + 2, none⟩ = some (.int .u8 (q.2 1)) := fun x => (hB.on ((Below.refl _ _).alloc (Nat.le_refl _) _) hlt).2.2.1
  have b2' : ∀ x y, ((w2.alloc x).alloc y).cell? ⟨b, o + m * 5 + 2, none⟩ = some (.int .u8 (q.2 1)) := fun x y => (hB.on (((Below.refl _ _).alloc (Nat.le_refl _) _).alloc (by simp) _) hlt).2.2.1
  have b3 : ∀ x, (w2.alloc x).cell? ⟨b, o + m * 5 + 3, none⟩ = some (.int .u8 (q.2 2)) := fun x => (hB.on ((Below.refl _ _).alloc (Nat.le_refl _) _) hlt).2.2.2.1
  have b3' : ∀ x y, ((w2.alloc x).alloc y).cell? ⟨b, o + m * 5 + 3, none⟩ = some (.int .u8 (q.2 2)) := fun x y => (hB.on (((Below.refl _ _).alloc (Nat.le_refl _) _).alloc (by simp) _) hlt).2.2.2.1
  have b4 : ∀ x, (w2.alloc x).cell? ⟨b, o + m * 5 + 4, none⟩ = some (.int .u8 (q.2 3)) := fun x => (hB.on ((Below.refl _ _).alloc (Nat.le_refl _) _) hlt).2.2.2.2
  have b4' : ∀ x y, ((w2.alloc x).alloc y).cell? ⟨b, o + m * 5 + 4, none⟩ = some (.int .u8 (q.2 3)) := fun x y => (hB.on (((Below.refl _ _).alloc (Nat.le_refl _) _).alloc (by simp) _) hlt).2.2.2.2
  obtain ⟨x0, x1, x2, x3, x4⟩ := hA
  obtain ⟨y0, y1, y2, y3, y4⟩ := hB
  go_region
  · clear a0 a0' a1 a1' a2 a2' a3 a3' a4 a4' b0 b0' b1 b1' b2 b2' b3 b3' b4 b4' x0 x1 x2 x3 x4 y0 y1 y2 y3 y4 hlt
    obtain ⟨w3, hw⟩ : ∃ WW, ((w2.alloc (.cells #[.int .i64 p.1, .int .u8 (p.2 0), .int .u8 (p.2 1), .int .u8 (p.2 2), .int .u8 (p.2 3)] 48 )).alloc (.cells #[.int .i64 q.1, .int .u8 (q.2 0), .int .u8 (q.2 1), .int .u8 (q.2 2), .int .u8 (q.2 3)] 48 )).drew = WW := ⟨_, rfl⟩
    have HG : Hid (Below w2.heap.size w2 w3 ∧ Blk w3 w2.heap.size 48 #[.int .i64 p.1, .int .u8 (p.2 0), .int .u8 (p.2 1), .int .u8 (p.2 2), .int .u8 (p.2 3)] ∧ Blk w3 (w2.heap.size + 1) 48 #[.int .i64 q.1, .int .u8 (q.2 0), .int .u8 (q.2 1), .int .u8 (q.2 2), .int .u8 (q.2 3)]) := by
      rw [← hw]
      have h1 : Blk ((w2.alloc (.cells #[.int .i64 p.1, .int .u8 (p.2 0), .int .u8 (p.2 1), .int .u8 (p.2 2), .int .u8 (p.2 3)] 48 )).alloc (.cells #[.int .i64 q.1, .int .u8 (q.2 0), .int .u8 (q.2 1), .int .u8 (q.2 2), .int .u8 (q.2 3)] 48 )) (w2.heap.size + 1) 48 #[.int .i64 q.1, .int .u8 (q.2 0), .int .u8 (q.2 1), .int .u8 (q.2 2), .int .u8 (q.2 3)] := Blk.newAt _ _ _ (by simp)
      exact ⟨(((Below.refl _ _).alloc (Nat.le_refl _) _).alloc (by simp) _).trans ⟨rfl, rfl, rfl, Nat.le_refl _, fun _ _ => rfl⟩, ((Blk.new _ _ _).alloc _).grow ⟨rfl, rfl, rfl, Nat.le_refl _, fun _ _ => rfl⟩, h1.grow ⟨rfl, rfl, rfl, Nat.le_refl _, fun _ _ => rfl⟩⟩
    rw [hw]
    clear hw
    generalize w2.heap.size + 1 = g8 at *
    generalize hg7 : w2.heap.size = g7 at *
    have P3 : Hid (Below w.heap.size w w3 ∧ Blk w3 (w.heap.size + 1) 26 (four fun _ => .int .u8 0) ∧ Blk w3 w.heap.size 3 #[.int .i64 t]) := ⟨P2.out.1.trans (HG.out.1.mono (by rw [← hg7]; exact P2.out.1.size)), P2.out.2.1.grow (hg7 ▸ HG.out.1), P2.out.2.2.grow (hg7 ▸ HG.out.1)⟩
    have K7 : Hid (Blk w3 g7 48 #[.int .i64 p.1, .int .u8 (p.2 0), .int .u8 (p.2 1), .int .u8 (p.2 2), .int .u8 (p.2 3)]) := HG.out.2.1
    have K8 : Hid (Blk w3 g8 48 #[.int .i64 q.1, .int .u8 (q.2 0), .int .u8 (q.2 1), .int .u8 (q.2 2), .int .u8 (q.2 3)]) := HG.out.2.2
    clear HG hg7 P2
    obtain ⟨x0, x1, x2, x3, x4⟩ : StopAt w3 g7 0 p := ⟨K7.out.cell 0, K7.out.cell 1, K7.out.cell 2, K7.out.cell 3, K7.out.cell 4⟩
    obtain ⟨y0, y1, y2, y3, y4⟩ : StopAt w3 g8 0 q := ⟨K8.out.cell 0, K8.out.cell 1, K8.out.cell 2, K8.out.cell 3, K8.out.cell 4⟩
    have ct : w3.cell? ⟨w.heap.size, 0, none⟩ = some (.int .i64 t) := P3.out.2.2.cell 0
    simp only [Nat.zero_add] at x1 x2 x3 x4 y1 y2 y3 y4
    clear x1 x2 x3 x4
    go_upto_region 8 with fail
    obtain ⟨z0, z1, z2, z3⟩ := P3.out.2.1.c0
    have f0 := P3.out.2.1.free 0
    have f1 := P3.out.2.1.free 1
    have f2 := P3.out.2.1.free 2
    have f3 := P3.out.2.1.free 3
    have lg := P3.out.2.1.lt
    go_wp2_with fail
    exact bodyPost_ret (results_shade rfl rfl rfl (P3.out.2.1.set4 fun i => .int .u8 (q.2 i))) rfl ⟨rfl, below_four4 P3.out.1 (by omega) _ _ _ _⟩
  · clear a0 a0' a1 a1' a2 a2' a3 a3' a4 a4' b0 b0' b1 b1' b2 b2' b3 b3' b4 b4' x0 x1 x2 x3 x4 y0 y1 y2 y3 y4 hlt
    obtain ⟨w3, hw⟩ : ∃ WW, ((w2.alloc (.cells #[.int .i64 q.1, .int .u8 (q.2 0), .int .u8 (q.2 1), .int .u8 (q.2 2), .int .u8 (q.2 3)] 48 )).alloc (.cells #[.int .i64 p.1, .int .u8 (p.2 0), .int .u8 (p.2 1), .int .u8 (p.2 2), .int .u8 (p.2 3)] 48 )).drew = WW := ⟨_, rfl⟩
    have HG : Hid (Below w2.heap.size w2 w3 ∧ Blk w3 w2.heap.size 48 #[.int .i64 q.1, .int .u8 (q.2 0), .int .u8 (q.2 1), .int .u8 (q.2 2), .int .u8 (q.2 3)] ∧ Blk w3 (w2.heap.size + 1) 48 #[.int .i64 p.1, .int .u8 (p.2 0), .int .u8 (p.2 1), .int .u8 (p.2 2), .int .u8 (p.2 3)]) := by
      rw [← hw]
      have h1 : Blk ((w2.alloc (.cells #[.int .i64 q.1, .int .u8 (q.2 0), .int .u8 (q.2 1), .int .u8 (q.2 2), .int .u8 (q.2 3)] 48 )).alloc (.cells #[.int .i64 p.1, .int .u8 (p.2 0), .int .u8 (p.2 1), .int .u8 (p.2 2), .int .u8 (p.2 3)] 48 )) (w2.heap.size + 1) 48 #[.int .i64 p.1, .int .u8 (p.2 0), .int .u8 (p.2 1), .int .u8 (p.2 2), .int .u8 (p.2 3)] := Blk.newAt _ _ _ (by simp)
      exact ⟨(((Below.refl _ _).alloc (Nat.le_refl _) _).alloc (by simp) _).trans ⟨rfl, rfl, rfl, Nat.le_refl _, fun _ _ => rfl⟩, ((Blk.new _ _ _).alloc _).grow ⟨rfl, rfl, rfl, Nat.le_refl _, fun _ _ => rfl⟩, h1.grow ⟨rfl, rfl, rfl, Nat.le_refl _, fun _ _ => rfl⟩⟩
    rw [hw]
    clear hw
    generalize w2.heap.size + 1 = g7 at *
    generalize hg8 : w2.heap.size = g8 at *
    have P3 : Hid (Below w.heap.size w w3 ∧ Blk w3 (w.heap.size + 1) 26 (four fun _ => .int .u8 0) ∧ Blk w3 w.heap.size 3 #[.int .i64 t]) := ⟨P2.out.1.trans (HG.out.1.mono (by rw [← hg8]; exact P2.out.1.size)), P2.out.2.1.grow (hg8 ▸ HG.out.1), P2.out.2.2.grow (hg8 ▸ HG.out.1)⟩
    have K7 : Hid (Blk w3 g7 48 #[.int .i64 p.1, .int .u8 (p.2 0), .int .u8 (p.2 1), .int .u8 (p.2 2), .int .u8 (p.2 3)]) := HG.out.2.2
    have K8 : Hid (Blk w3 g8 48 #[.int .i64 q.1, .int .u8 (q.2 0), .int .u8 (q.2 1), .int .u8 (q.2 2), .int .u8 (q.2 3)]) := HG.out.2.1
    clear HG hg8 P2
    obtain ⟨x0, x1, x2, x3, x4⟩ : StopAt w3 g7 0 p := ⟨K7.out.cell 0, K7.out.cell 1, K7.out.cell 2, K7.out.cell 3, K7.out.cell 4⟩
    obtain ⟨y0, y1, y2, y3, y4⟩ : StopAt w3 g8 0 q := ⟨K8.out.cell 0, K8.out.cell 1, K8.out.cell 2, K8.out.cell 3, K8.out.cell 4⟩
    have ct : w3.cell? ⟨w.heap.size, 0, none⟩ = some (.int .i64 t) := P3.out.2.2.cell 0
    simp only [Nat.zero_add] at x1 x2 x3 x4 y1 y2 y3 y4
    clear x1 x2 x3 x4
    go_upto_region 8 with fail
    obtain ⟨z0, z1, z2, z3⟩ := P3.out.2.1.c0
    have f0 := P3.out.2.1.free 0
    have f1 := P3.out.2.1.free 1
    have f2 := P3.out.2.1.free 2
    have f3 := P3.out.2.1.free 3
    have lg := P3.out.2.1.lt
    go_wp2_with fail
    exact bodyPost_ret (results_shade rfl rfl rfl (P3.out.2.1.set4 fun i => .int .u8 (q.2 i))) rfl ⟨rfl, below_four4 P3.out.1 (by omega) _ _ _ _⟩
end Go.Proofs.Ytcbldamlfjkppaa
