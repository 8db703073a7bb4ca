/- Layer 10: package paint's Shade. -/
import Derived.Test.YtcbldamlfjkppaaQi
import Derived.BigQuiet
namespace Go.Proofs.Ytcbldamlfjkppaa
open Go.RowKit
/-- What a shade's middle asks of Mix. -/
def MidS (pa pb : Stp) (t : Int) (v : Col) : Prop := ∃ d1 d2 d3 r : Int, Hid (IntKind.i64.wrap (t - pa.1) = d1) ∧ Hid (IntKind.i64.wrap (d1 * 65536) = d2) ∧ Hid (IntKind.i64.wrap (pb.1 - pa.1) = d3) ∧ Hid (d2.tdiv d3 = r ∧ (d3 == 0) = false ∧ ¬ d3 = 0 ∧ wrap64 r = r) ∧
  Hid (∀ w, Calls Try.prog 26 #[.agg #[.int .u8 (pa.2 0), .int .u8 (pa.2 1), .int .u8 (pa.2 2), .int .u8 (pa.2 3)], .agg #[.int .u8 (pb.2 0), .int .u8 (pb.2 1), .int .u8 (pb.2 2), .int .u8 (pb.2 3)], .int .i64 r] w fun e w' => e = .returned (.agg #[.int .u8 (v 0), .int .u8 (v 1), .int .u8 (v 2), .int .u8 (v 3)]) ∧ Below w.heap.size w w')
theorem midS_ok {l : List Stp} {n j k : Nat} {t : Int} {v : Col} (hok : chkS l n = true) (hcol : ∀ p ∈ l, OkC p.2) (hn : n = l.length) (hk : k < n) (hjk : j + 1 = k) (hj : (sAt l j).1 ≤ t) (hp : t < (sAt l k).1) (hv : mixC (sAt l j).2 (sAt l k).2 (partS l t j) = v) : MidS (sAt l j) (sAt l k) t v := by
  have s1 := stopOk_iff.1 (chkS_at hok (show j < n by omega))
  have s2 := stopOk_iff.1 (chkS_at hok hk)
  subst hjk
  obtain ⟨r0, r1, r2, r3, r4⟩ := part_in hj hp s1.1 s2.2.1
  have HA : OkC (sAt l j).2 := hcol _ (List.mem_of_getElem? (sAt_some (by omega)))
  have HB : OkC (sAt l (j + 1)).2 := hcol _ (List.mem_of_getElem? (sAt_some (by omega)))
  have hm := fun w => pMix_c (sAt l j).2 (sAt l (j + 1)).2 (partS l t j) w HA HB
  have hcl : clampI (partS l t j) 65536 = partS l t j := by unfold clampI; omega
  rw [hcl, hv] at hm
  have s3 := s1.1
  have s4 := s2.2.1
  refine ⟨t - (sAt l j).1, (t - (sAt l j).1) * 65536, (sAt l (j + 1)).1 - (sAt l j).1, partS l t j, ?_, ?_, ?_, ?_, Lib.hid hm⟩
  · exact Lib.hid (by rw [wrap_is]; exact wrapR _ (by omega) (by omega))
  · exact Lib.hid (by rw [wrap_is]; exact wrapR _ (by omega) (by omega))
  · exact Lib.hid (by rw [wrap_is]; exact wrapR _ (by omega) (by omega))
  · exact Lib.hid ⟨r2, by simp; omega, by omega, wrapR _ (by omega) (by omega)⟩
set_option maxHeartbeats 2000000 in
set_option maxRecDepth 100000 in
theorem pShade_mid (s : Value) (l : List Stp) (t : Int) (w : World) (row : RowS w s l) (hl : l.length ≤ 100) (hok : okS l = true) (h1 : ¬ t ≤ (sAt l 0).1) (h2 : ¬ t ≥ (sAt l (l.length - 1)).1) : Calls Try.prog 28 #[s, .int .i64 t] w fun e w' => e = .returned (.tuple #[.agg #[.int .u8 (shadeC l t 0), .int .u8 (shadeC l t 1), .int .u8 (shadeC l t 2), .int .u8 (shadeC l t 3)], .int .i64 0]) ∧ Below w.heap.size w w' := by
  have HCK : Hid (∀ W, Below w.heap.size w W → Calls Try.prog 29 #[s] W fun e w' => e = .returned (.int .i64 0) ∧ Below W.heap.size W w') := fun W hW => by
    have := checkStops_c s l W (row.on hW) hl
    rw [errS_ok hok] at this
    exact this
  have hpos : 0 < l.length := by
    unfold okS at hok
    simp only [Bool.and_eq_true, decide_eq_true_eq] at hok
    omega
  have HCH : Hid (chkS l l.length = true) := by
    unfold okS at hok
    simp only [Bool.and_eq_true, decide_eq_true_eq] at hok
    exact hok.2
  have HROW := Lib.hid row
  obtain ⟨b, o, c, rfl, hbs, hcs⟩ := row.addr hpos
  obtain ⟨m, hm⟩ : ∃ m, l.length = m + 1 := ⟨l.length - 1, by omega⟩
  have HK : Hid (b < w.heap.size ∧ ∀ k, k < m + 1 → StopAt w b (o + k * 5) (sAt l k)) := ⟨hbs, fun k hk => hcs k _ (sAt_some (by rw [hm]; exact hk))⟩
  have HV : Hid (shadeC l t = if t ≤ (sAt l 0).1 then (sAt l 0).2 else if t ≥ (sAt l m).1 then (sAt l m).2 else mixC (sAt l (lastI l t (m + 1))).2 (sAt l (lastI l t (m + 1) + 1)).2 (partS l t (lastI l t (m + 1)))) := by
    unfold shadeC Hid
    rw [if_pos hok, hm, Nat.add_sub_cancel]
  have HL : Hid (m + 1 ≤ 100) := by rw [← hm]; exact hl
  have HM := Lib.hid hm
  have e0 : wrap64 (((m + 1 : Nat) : Int) - 1) = (m : Int) := by rw [wrapR _ (by omega) (by omega)]; omega
  rw [hm]
  rw [hm] at HCK
  obtain ⟨n, hn⟩ : ∃ n, m + 1 = n := ⟨_, rfl⟩
  have HN := Lib.hid hn
  have k0 : (0 : Int) < (n : Int) := by omega
  have k1 : (m : Int) < (n : Int) := by omega
  have k2 : 0 < n := by omega
  have k3 : m < n := by omega
  rw [hn] at e0 HCK ⊢
  have e0' : IntKind.i64.wrap ((n : Int) - 1) = (m : Int) := by rw [wrap_is]; exact e0
  clear row hl hok hpos hbs hcs hm hn
  obtain ⟨p, hp⟩ : ∃ p, sAt l 0 = p := ⟨_, rfl⟩
  obtain ⟨q, hq⟩ : ∃ q, sAt l m = q := ⟨_, rfl⟩
  rw [hp, hq] at HV
  rw [hp] at h1
  rw [show l.length - 1 = m by have := HM.out; omega, hq] at h2
  have HP := Lib.hid hp
  have HQ := Lib.hid hq
  clear hp hq
  have HIX : Hid (∀ W, Below w.heap.size w W → Blk W w.heap.size 3 #[.int .i64 t] → Calls Try.prog 41 #[.slice (some ⟨b, o, none⟩) l.length c, .func (.func 42) #[] #[.pointer (some ⟨w.heap.size, 0, none⟩)]] W fun e w' => ∃ z : Int, e = .returned (.int .i64 z) ∧ ((z = -1 ∧ ∀ k, k < l.length → decide ((sAt l k).1 > t) = false) ∨ ∃ k : Nat, k < l.length ∧ z = (k : Int) ∧ decide ((sAt l k).1 > t) = true ∧ ∀ j, j < k → decide ((sAt l j).1 > t) = false) ∧ Below W.heap.size W w') := fun W hW hb =>
    index_past (fun k => decide ((sAt l k).1 > t)) _ _ W l (HROW.out.on hW) (by have := HL.out; have := HM.out; omega) (fun k x W' hx hW' => by
      have e : sAt l k = x := by unfold sAt; rw [List.getD_eq_getElem?_getD, hx]; rfl
      rw [e]
      exact shade1_c x t _ W' (hb.grow hW'))
  have HKEY : Hid (∀ z : Int, ((z = -1 ∧ ∀ k, k < l.length → decide ((sAt l k).1 > t) = false) ∨ ∃ k : Nat, k < l.length ∧ z = (k : Int) ∧ decide ((sAt l k).1 > t) = true ∧ ∀ j, j < k → decide ((sAt l j).1 > t) = false) → ∃ j k : Nat, k < n ∧ z = (k : Int) ∧ (j + 1 = k ∧ t < (sAt l k).1 ∧ ∀ i, i < k → (sAt l i).1 ≤ t)) := by
    have hnl : l.length = n := HM.out.trans HN.out
    have h1' : ¬ t ≤ (sAt l 0).1 := by rw [HP.out]; exact h1
    have h2' : ¬ t ≥ (sAt l m).1 := by rw [HQ.out]; exact h2
    have hm1 := HN.out
    rintro z (⟨_, h⟩ | ⟨k, h3, h4, h5, h6⟩)
    · have := h m (by omega)
      simp at this
      omega
    · simp only [decide_eq_true_eq] at h5
      rcases Nat.eq_zero_or_pos k with h | h
      · subst h; omega
      · refine ⟨k - 1, k, by omega, h4, by omega, h5, fun i hi => ?_⟩
        have := h6 i hi
        simpa using this
  have HFIN : Hid (∀ j k : Nat, k < n → (j + 1 = k ∧ t < (sAt l k).1 ∧ ∀ i, i < k → (sAt l i).1 ≤ t) → MidS (sAt l j) (sAt l k) t (shadeC l t)) := by
    intro j k hk ⟨h3, h4, h5⟩
    have hnl : l.length = n := HM.out.trans HN.out
    have hch := HCH.out
    rw [hnl] at hch
    refine midS_ok hch HROW.out.ok hnl.symm hk h3 (h5 j (by omega)) h4 ?_
    have hla := last_is hch (h5 0 (by omega)) hk h4 h5
    rw [HV.out, if_neg h1, if_neg h2]
    have hm1 := HN.out
    rw [hm1, hla, show lastI l t n = j by omega]
  have hnl : l.length = n := HM.out.trans HN.out
  rw [hnl] at HIX HKEY
  clear hnl
  have d1 : decide (t ≤ p.1) = false := by simpa using h1
  have d2 : decide (t ≥ q.1) = false := by simpa using h2
  obtain ⟨v, hv⟩ : ∃ v, shadeC l t = v := ⟨_, rfl⟩
  rw [hv] at HFIN ⊢
  clear h1 h2 HV hv
  go_enter Try.func28, Try.ntmps28
  go_wp2_with fail
  obtain ⟨w1, hw1⟩ : ∃ WW, (w.alloc (.cells #[.int .i64 t] 3)).alloc (.cells #[.int .u8 0, .int .u8 0, .int .u8 0, .int .u8 0] 26) = WW := ⟨_, rfl⟩
  have P1 : Hid (Below w.heap.size w w1 ∧ Blk w1 (w.heap.size + 1) 26 (four fun _ => .int .u8 0) ∧ Blk w1 w.heap.size 3 #[.int .i64 t]) := by
    rw [← hw1]
    exact ⟨((Below.refl _ _).alloc (Nat.le_refl _) _).alloc (by simp) _, Blk.newAt _ _ _ (by simp), (Blk.new _ _ _).alloc _⟩
  rw [hw1]
  clear hw1
  refine (HCK.out w1 P1.out.1).mono ?_
  rintro e w2 ⟨rfl, hb⟩
  have P2 : Hid (Below w.heap.size w w2 ∧ Blk w2 (w.heap.size + 1) 26 (four fun _ => .int .u8 0) ∧ Blk w2 w.heap.size 3 #[.int .i64 t]) := ⟨P1.out.1.trans (hb.mono P1.out.1.size), P1.out.2.1.grow hb, P1.out.2.2.grow hb⟩
  clear hb P1
  go_upto_region 4 with fail
  go_cut [7, 8] from 12 (fun sa sb wr => ∃ ga gb : Nat, sa = .pointer (some ⟨ga, 0, none⟩) ∧ sb = .pointer (some ⟨gb, 0, none⟩) ∧ Hid ((Below w.heap.size w wr ∧ Blk wr (w.heap.size + 1) 26 (four fun _ => .int .u8 0) ∧ Blk wr w.heap.size 3 #[.int .i64 t]) ∧ Blk wr ga 48 #[.int .i64 p.1, .int .u8 (p.2 0), .int .u8 (p.2 1), .int .u8 (p.2 2), .int .u8 (p.2 3)] ∧ Blk wr gb 48 #[.int .i64 q.1, .int .u8 (q.2 0), .int .u8 (q.2 1), .int .u8 (q.2 2), .int .u8 (q.2 3)]))
  case first =>
    have hA : StopAt w2 b o p := by
      have h := (HK.out.2 0 (by omega)).on (P2.out.1.mono (Nat.le_refl _)) HK.out.1
      rw [HP.out, Nat.zero_mul, Nat.add_zero] at h
      exact h
    have hB : StopAt w2 b (o + m * 5) q := by
      have h := (HK.out.2 m (by omega)).on (P2.out.1.mono (Nat.le_refl _)) HK.out.1
      rw [HQ.out] at h
      exact h
    have hlt : b < w2.heap.size := Nat.lt_of_lt_of_le HK.out.1 P2.out.1.size
    have a0 : ∀ x, (w2.alloc x).cell? ⟨b, o, none⟩ = some (.int .i64 p.1) := fun x => (hA.on ((Below.refl _ _).alloc (Nat.le_refl _) _) hlt).1
    have a0' : ∀ x y, ((w2.alloc x).alloc y).cell? ⟨b, o, none⟩ = some (.int .i64 p.1) := fun x y => (hA.on (((Below.refl _ _).alloc (Nat.le_refl _) _).alloc (by simp) _) hlt).1
    have a1 : ∀ x, (w2.alloc x).cell? ⟨b, o + 1, none⟩ = some (.int .u8 (p.2 0)) := fun x => (hA.on ((Below.refl _ _).alloc (Nat.le_refl _) _) hlt).2.1
    have a1' : ∀ x y, ((w2.alloc x).alloc y).cell? ⟨b, o + 1, none⟩ = some (.int .u8 (p.2 0)) := fun x y => (hA.on (((Below.refl _ _).alloc (Nat.le_refl _) _).alloc (by simp) _) hlt).2.1
    have a2 : ∀ x, (w2.alloc x).cell? ⟨b, o + 2, none⟩ = some (.int .u8 (p.2 1)) := fun x => (hA.on ((Below.refl _ _).alloc (Nat.le_refl _) _) hlt).2.2.1
    have a2' : ∀ x y, ((w2.alloc x).alloc y).cell? ⟨b, o + 2, none⟩ = some (.int .u8 (p.2 1)) := fun x y => (hA.on (((Below.refl _ _).alloc (Nat.le_refl _) _).alloc (by simp) _) hlt).2.2.1
    have a3 : ∀ x, (w2.alloc x).cell? ⟨b, o + 3, none⟩ = some (.int .u8 (p.2 2)) := fun x => (hA.on ((Below.refl _ _).alloc (Nat.le_refl _) _) hlt).2.2.2.1
    have a3' : ∀ x y, ((w2.alloc x).alloc y).cell? ⟨b, o + 3, none⟩ = some (.int .u8 (p.2 2)) := fun x y => (hA.on (((Below.refl _ _).alloc (Nat.le_refl _) _).alloc (by simp) _) hlt).2.2.2.1
    have a4 : ∀ x, (w2.alloc x).cell? ⟨b, o + 4, none⟩ = some (.int .u8 (p.2 3)) := fun x => (hA.on ((Below.refl _ _).alloc (Nat.le_refl _) _) hlt).2.2.2.2
    have a4' : ∀ x y, ((w2.alloc x).alloc y).cell? ⟨b, o + 4, none⟩ = some (.int .u8 (p.2 3)) := fun x y => (hA.on (((Below.refl _ _).alloc (Nat.le_refl _) _).alloc (by simp) _) hlt).2.2.2.2
    have b0 : ∀ x, (w2.alloc x).cell? ⟨b, o + m * 5, none⟩ = some (.int .i64 q.1) := fun x => (hB.on ((Below.refl _ _).alloc (Nat.le_refl _) _) hlt).1
    have b0' : ∀ x y, ((w2.alloc x).alloc y).cell? ⟨b, o + m * 5, none⟩ = some (.int .i64 q.1) := fun x y => (hB.on (((Below.refl _ _).alloc (Nat.le_refl _) _).alloc (by simp) _) hlt).1
    have b1 : ∀ x, (w2.alloc x).cell? ⟨b, o + m * 5 + 1, none⟩ = some (.int .u8 (q.2 0)) := fun x => (hB.on ((Below.refl _ _).alloc (Nat.le_refl _) _) hlt).2.1
    have b1' : ∀ x y, ((w2.alloc x).alloc y).cell? ⟨b, o + m * 5 + 1, none⟩ = some (.int .u8 (q.2 0)) := fun x y => (hB.on (((Below.refl _ _).alloc (Nat.le_refl _) _).alloc (by simp) _) hlt).2.1
    have b2 : ∀ x, (w2.alloc x).cell? ⟨b, o + m * 5 + 2, none⟩ = some (.int .u8 (q.2 1)) := fun x => (hB.on ((Below.refl _ _).alloc (Nat.le_refl _) _) hlt).2.2.1
    have b2' : ∀ x y, ((w2.alloc x).alloc y).cell? ⟨b, o + m * 5 + 2, none⟩ = some (.int .u8 (q.2 1)) := fun x y => (hB.on (((Below.refl _ _).alloc (Nat.le_refl _) _).alloc (by simp) _) hlt).2.2.1
    have b3 : ∀ x, (w2.alloc x).cell? ⟨b, o + m * 5 + 3, none⟩ = some (.int .u8 (q.2 2)) := fun x => (hB.on ((Below.refl _ _).alloc (Nat.le_refl _) _) hlt).2.2.2.1
    have b3' : ∀ x y, ((w2.alloc x).alloc y).cell? ⟨b, o + m * 5 + 3, none⟩ = some (.int .u8 (q.2 2)) := fun x y => (hB.on (((Below.refl _ _).alloc (Nat.le_refl _) _).alloc (by simp) _) hlt).2.2.2.1
    have b4 : ∀ x, (w2.alloc x).cell? ⟨b, o + m * 5 + 4, none⟩ = some (.int .u8 (q.2 3)) := fun x => (hB.on ((Below.refl _ _).alloc (Nat.le_refl _) _) hlt).2.2.2.2
    have b4' : ∀ x y, ((w2.alloc x).alloc y).cell? ⟨b, o + m * 5 + 4, none⟩ = some (.int .u8 (q.2 3)) := fun x y => (hB.on (((Below.refl _ _).alloc (Nat.le_refl _) _).alloc (by simp) _) hlt).2.2.2.2
    obtain ⟨x0, x1, x2, x3, x4⟩ := hA
    obtain ⟨y0, y1, y2, y3, y4⟩ := hB
    go_region
    · obtain ⟨wz, hw⟩ : ∃ WW, ((w2.alloc (.cells #[.int .i64 p.1, .int .u8 (p.2 0), .int .u8 (p.2 1), .int .u8 (p.2 2), .int .u8 (p.2 3)] 48 )).alloc (.cells #[.int .i64 q.1, .int .u8 (q.2 0), .int .u8 (q.2 1), .int .u8 (q.2 2), .int .u8 (q.2 3)] 48 )).drew = WW := ⟨_, rfl⟩
      have HG : Hid (Below w2.heap.size w2 wz ∧ Blk wz w2.heap.size 48 #[.int .i64 p.1, .int .u8 (p.2 0), .int .u8 (p.2 1), .int .u8 (p.2 2), .int .u8 (p.2 3)] ∧ Blk wz (w2.heap.size + 1) 48 #[.int .i64 q.1, .int .u8 (q.2 0), .int .u8 (q.2 1), .int .u8 (q.2 2), .int .u8 (q.2 3)]) := by
        rw [← hw]
        have h1 : Blk ((w2.alloc (.cells #[.int .i64 p.1, .int .u8 (p.2 0), .int .u8 (p.2 1), .int .u8 (p.2 2), .int .u8 (p.2 3)] 48 )).alloc (.cells #[.int .i64 q.1, .int .u8 (q.2 0), .int .u8 (q.2 1), .int .u8 (q.2 2), .int .u8 (q.2 3)] 48 )) (w2.heap.size + 1) 48 #[.int .i64 q.1, .int .u8 (q.2 0), .int .u8 (q.2 1), .int .u8 (q.2 2), .int .u8 (q.2 3)] := Blk.newAt _ _ _ (by simp)
        exact ⟨(((Below.refl _ _).alloc (Nat.le_refl _) _).alloc (by simp) _).trans ⟨rfl, rfl, rfl, Nat.le_refl _, fun _ _ => rfl⟩, ((Blk.new _ _ _).alloc _).grow ⟨rfl, rfl, rfl, Nat.le_refl _, fun _ _ => rfl⟩, h1.grow ⟨rfl, rfl, rfl, Nat.le_refl _, fun _ _ => rfl⟩⟩
      rw [hw]
      clear hw
      go_wp2_with fail
      go_meet
      case rel => exact ⟨w2.heap.size, (w2.heap.size + 1), rfl, rfl, ⟨P2.out.1.trans (HG.out.1.mono P2.out.1.size), P2.out.2.1.grow HG.out.1, P2.out.2.2.grow HG.out.1⟩, HG.out.2.1, HG.out.2.2⟩
    · obtain ⟨wz, hw⟩ : ∃ WW, ((w2.alloc (.cells #[.int .i64 q.1, .int .u8 (q.2 0), .int .u8 (q.2 1), .int .u8 (q.2 2), .int .u8 (q.2 3)] 48 )).alloc (.cells #[.int .i64 p.1, .int .u8 (p.2 0), .int .u8 (p.2 1), .int .u8 (p.2 2), .int .u8 (p.2 3)] 48 )).drew = WW := ⟨_, rfl⟩
      have HG : Hid (Below w2.heap.size w2 wz ∧ Blk wz w2.heap.size 48 #[.int .i64 q.1, .int .u8 (q.2 0), .int .u8 (q.2 1), .int .u8 (q.2 2), .int .u8 (q.2 3)] ∧ Blk wz (w2.heap.size + 1) 48 #[.int .i64 p.1, .int .u8 (p.2 0), .int .u8 (p.2 1), .int .u8 (p.2 2), .int .u8 (p.2 3)]) := by
        rw [← hw]
        have h1 : Blk ((w2.alloc (.cells #[.int .i64 q.1, .int .u8 (q.2 0), .int .u8 (q.2 1), .int .u8 (q.2 2), .int .u8 (q.2 3)] 48 )).alloc (.cells #[.int .i64 p.1, .int .u8 (p.2 0), .int .u8 (p.2 1), .int .u8 (p.2 2), .int .u8 (p.2 3)] 48 )) (w2.heap.size + 1) 48 #[.int .i64 p.1, .int .u8 (p.2 0), .int .u8 (p.2 1), .int .u8 (p.2 2), .int .u8 (p.2 3)] := Blk.newAt _ _ _ (by simp)
        exact ⟨(((Below.refl _ _).alloc (Nat.le_refl _) _).alloc (by simp) _).trans ⟨rfl, rfl, rfl, Nat.le_refl _, fun _ _ => rfl⟩, ((Blk.new _ _ _).alloc _).grow ⟨rfl, rfl, rfl, Nat.le_refl _, fun _ _ => rfl⟩, h1.grow ⟨rfl, rfl, rfl, Nat.le_refl _, fun _ _ => rfl⟩⟩
      rw [hw]
      clear hw
      go_wp2_with fail
      go_meet
      case rel => exact ⟨(w2.heap.size + 1), w2.heap.size, rfl, rfl, ⟨P2.out.1.trans (HG.out.1.mono P2.out.1.size), P2.out.2.1.grow HG.out.1, P2.out.2.2.grow HG.out.1⟩, HG.out.2.2, HG.out.2.1⟩
  case rest =>
    obtain ⟨g7, g8, rfl, rfl, HCUT⟩ := hcut
    obtain ⟨w3, hw⟩ : ∃ WW, wc = WW := ⟨_, rfl⟩
    rw [hw] at HCUT ⊢
    clear hw
    have P3 := Lib.hid HCUT.out.1
    have K7 := Lib.hid HCUT.out.2.1
    have K8 := Lib.hid HCUT.out.2.2
    clear HCUT
    have x0 : w3.cell? ⟨g7, 0, none⟩ = some (.int .i64 p.1) := K7.out.cell 0
    have y0 : w3.cell? ⟨g8, 0, none⟩ = some (.int .i64 q.1) := K8.out.cell 0
    have ct : w3.cell? ⟨w.heap.size, 0, none⟩ = some (.int .i64 t) := P3.out.2.2.cell 0
    go_wp2_with fail
    refine (HIX.out w3 P3.out.1 P3.out.2.2).mono ?_
    rintro e w4 ⟨z, rfl, hz, hb⟩
    have P4 : Hid (Below w.heap.size w w4 ∧ Blk w4 (w.heap.size + 1) 26 (four fun _ => .int .u8 0) ∧ Blk w4 w.heap.size 3 #[.int .i64 t]) := ⟨P3.out.1.trans (hb.mono P3.out.1.size), P3.out.2.1.grow hb, P3.out.2.2.grow hb⟩
    obtain ⟨j, k, hk1, hk2, hjk⟩ := HKEY.out z hz
    subst hk2
    have HJK := Lib.hid hjk
    clear hb hz K7 K8 P3 x0 y0 ct
    have hnn := HL.out
    have hNN := HN.out
    have hkN : k < n := by omega
    have hjN : j < n := by omega
    have hkn : (k : Int) < (n : Int) := by omega
    have hjn : (j : Int) < (n : Int) := by omega
    have e6 : wrap64 ((k : Int) - 1) = (j : Int) := by rw [wrapR _ (by omega) (by omega)]; omega
    have e6' : IntKind.i64.wrap ((k : Int) - 1) = (j : Int) := by rw [wrap_is]; exact e6
    have hlt : b < w4.heap.size := Nat.lt_of_lt_of_le HK.out.1 P4.out.1.size
    have hA : StopAt w4 b (o + j * 5) (sAt l j) := (HK.out.2 j (by omega)).on (P4.out.1.mono (Nat.le_refl _)) HK.out.1
    have hB : StopAt w4 b (o + k * 5) (sAt l k) := (HK.out.2 k (by omega)).on (P4.out.1.mono (Nat.le_refl _)) HK.out.1
    have HMID := Lib.hid (HFIN.out j k hk1 hjk)
    clear hNN hk1 hjk
    obtain ⟨pa, hpa⟩ : ∃ x, sAt l j = x := ⟨_, rfl⟩
    obtain ⟨pb, hpb⟩ : ∃ x, sAt l k = x := ⟨_, rfl⟩
    rw [hpa] at hA HMID
    rw [hpb] at hB HMID
    clear hpa hpb
    obtain ⟨d1, d2, d3, r, E1, E2, E3, E5, HMX⟩ := HMID.out
    clear HMID
    go_upto_region 10 with fail
    go_cut [10, 11] from 12 (fun sa sb wr => ∃ ga gb : Nat, sa = .pointer (some ⟨ga, 0, none⟩) ∧ sb = .pointer (some ⟨gb, 0, none⟩) ∧ Hid ((Below w.heap.size w wr ∧ Blk wr (w.heap.size + 1) 26 (four fun _ => .int .u8 0) ∧ Blk wr w.heap.size 3 #[.int .i64 t]) ∧ Blk wr ga 48 #[.int .i64 pa.1, .int .u8 (pa.2 0), .int .u8 (pa.2 1), .int .u8 (pa.2 2), .int .u8 (pa.2 3)] ∧ Blk wr gb 48 #[.int .i64 pb.1, .int .u8 (pb.2 0), .int .u8 (pb.2 1), .int .u8 (pb.2 2), .int .u8 (pb.2 3)]))
    case first =>
      have a0 : ∀ x, (w4.alloc x).cell? ⟨b, o + j * 5, none⟩ = some (.int .i64 pa.1) := fun x => (hA.on ((Below.refl _ _).alloc (Nat.le_refl _) _) hlt).1
      have a0' : ∀ x y, ((w4.alloc x).alloc y).cell? ⟨b, o + j * 5, none⟩ = some (.int .i64 pa.1) := fun x y => (hA.on (((Below.refl _ _).alloc (Nat.le_refl _) _).alloc (by simp) _) hlt).1
      have a1 : ∀ x, (w4.alloc x).cell? ⟨b, o + j * 5 + 1, none⟩ = some (.int .u8 (pa.2 0)) := fun x => (hA.on ((Below.refl _ _).alloc (Nat.le_refl _) _) hlt).2.1
      have a1' : ∀ x y, ((w4.alloc x).alloc y).cell? ⟨b, o + j * 5 + 1, none⟩ = some (.int .u8 (pa.2 0)) := fun x y => (hA.on (((Below.refl _ _).alloc (Nat.le_refl _) _).alloc (by simp) _) hlt).2.1
      have a2 : ∀ x, (w4.alloc x).cell? ⟨b, o + j * 5 + 2, none⟩ = some (.int .u8 (pa.2 1)) := fun x => (hA.on ((Below.refl _ _).alloc (Nat.le_refl _) _) hlt).2.2.1
      have a2' : ∀ x y, ((w4.alloc x).alloc y).cell? ⟨b, o + j * 5 + 2, none⟩ = some (.int .u8 (pa.2 1)) := fun x y => (hA.on (((Below.refl _ _).alloc (Nat.le_refl _) _).alloc (by simp) _) hlt).2.2.1
      have a3 : ∀ x, (w4.alloc x).cell? ⟨b, o + j * 5 + 3, none⟩ = some (.int .u8 (pa.2 2)) := fun x => (hA.on ((Below.refl _ _).alloc (Nat.le_refl _) _) hlt).2.2.2.1
      have a3' : ∀ x y, ((w4.alloc x).alloc y).cell? ⟨b, o + j * 5 + 3, none⟩ = some (.int .u8 (pa.2 2)) := fun x y => (hA.on (((Below.refl _ _).alloc (Nat.le_refl _) _).alloc (by simp) _) hlt).2.2.2.1
      have a4 : ∀ x, (w4.alloc x).cell? ⟨b, o + j * 5 + 4, none⟩ = some (.int .u8 (pa.2 3)) := fun x => (hA.on ((Below.refl _ _).alloc (Nat.le_refl _) _) hlt).2.2.2.2
      have a4' : ∀ x y, ((w4.alloc x).alloc y).cell? ⟨b, o + j * 5 + 4, none⟩ = some (.int .u8 (pa.2 3)) := fun x y => (hA.on (((Below.refl _ _).alloc (Nat.le_refl _) _).alloc (by simp) _) hlt).2.2.2.2
      have b0 : ∀ x, (w4.alloc x).cell? ⟨b, o + k * 5, none⟩ = some (.int .i64 pb.1) := fun x => (hB.on ((Below.refl _ _).alloc (Nat.le_refl _) _) hlt).1
      have b0' : ∀ x y, ((w4.alloc x).alloc y).cell? ⟨b, o + k * 5, none⟩ = some (.int .i64 pb.1) := fun x y => (hB.on (((Below.refl _ _).alloc (Nat.le_refl _) _).alloc (by simp) _) hlt).1
      have b1 : ∀ x, (w4.alloc x).cell? ⟨b, o + k * 5 + 1, none⟩ = some (.int .u8 (pb.2 0)) := fun x => (hB.on ((Below.refl _ _).alloc (Nat.le_refl _) _) hlt).2.1
      have b1' : ∀ x y, ((w4.alloc x).alloc y).cell? ⟨b, o + k * 5 + 1, none⟩ = some (.int .u8 (pb.2 0)) := fun x y => (hB.on (((Below.refl _ _).alloc (Nat.le_refl _) _).alloc (by simp) _) hlt).2.1
      have b2 : ∀ x, (w4.alloc x).cell? ⟨b, o + k * 5 + 2, none⟩ = some (.int .u8 (pb.2 1)) := fun x => (hB.on ((Below.refl _ _).alloc (Nat.le_refl _) _) hlt).2.2.1
      have b2' : ∀ x y, ((w4.alloc x).alloc y).cell? ⟨b, o + k * 5 + 2, none⟩ = some (.int .u8 (pb.2 1)) := fun x y => (hB.on (((Below.refl _ _).alloc (Nat.le_refl _) _).alloc (by simp) _) hlt).2.2.1
      have b3 : ∀ x, (w4.alloc x).cell? ⟨b, o + k * 5 + 3, none⟩ = some (.int .u8 (pb.2 2)) := fun x => (hB.on ((Below.refl _ _).alloc (Nat.le_refl _) _) hlt).2.2.2.1
      have b3' : ∀ x y, ((w4.alloc x).alloc y).cell? ⟨b, o + k * 5 + 3, none⟩ = some (.int .u8 (pb.2 2)) := fun x y => (hB.on (((Below.refl _ _).alloc (Nat.le_refl _) _).alloc (by simp) _) hlt).2.2.2.1
      have b4 : ∀ x, (w4.alloc x).cell? ⟨b, o + k * 5 + 4, none⟩ = some (.int .u8 (pb.2 3)) := fun x => (hB.on ((Below.refl _ _).alloc (Nat.le_refl _) _) hlt).2.2.2.2
      have b4' : ∀ x y, ((w4.alloc x).alloc y).cell? ⟨b, o + k * 5 + 4, none⟩ = some (.int .u8 (pb.2 3)) := fun x y => (hB.on (((Below.refl _ _).alloc (Nat.le_refl _) _).alloc (by simp) _) hlt).2.2.2.2
      obtain ⟨x0, x1, x2, x3, x4⟩ := hA
      obtain ⟨y0, y1, y2, y3, y4⟩ := hB
      go_region
      · obtain ⟨wz, hw⟩ : ∃ WW, ((w4.alloc (.cells #[.int .i64 pa.1, .int .u8 (pa.2 0), .int .u8 (pa.2 1), .int .u8 (pa.2 2), .int .u8 (pa.2 3)] 48 )).alloc (.cells #[.int .i64 pb.1, .int .u8 (pb.2 0), .int .u8 (pb.2 1), .int .u8 (pb.2 2), .int .u8 (pb.2 3)] 48 )).drew = WW := ⟨_, rfl⟩
        have HG : Hid (Below w4.heap.size w4 wz ∧ Blk wz w4.heap.size 48 #[.int .i64 pa.1, .int .u8 (pa.2 0), .int .u8 (pa.2 1), .int .u8 (pa.2 2), .int .u8 (pa.2 3)] ∧ Blk wz (w4.heap.size + 1) 48 #[.int .i64 pb.1, .int .u8 (pb.2 0), .int .u8 (pb.2 1), .int .u8 (pb.2 2), .int .u8 (pb.2 3)]) := by
          rw [← hw]
          have h1 : Blk ((w4.alloc (.cells #[.int .i64 pa.1, .int .u8 (pa.2 0), .int .u8 (pa.2 1), .int .u8 (pa.2 2), .int .u8 (pa.2 3)] 48 )).alloc (.cells #[.int .i64 pb.1, .int .u8 (pb.2 0), .int .u8 (pb.2 1), .int .u8 (pb.2 2), .int .u8 (pb.2 3)] 48 )) (w4.heap.size + 1) 48 #[.int .i64 pb.1, .int .u8 (pb.2 0), .int .u8 (pb.2 1), .int .u8 (pb.2 2), .int .u8 (pb.2 3)] := Blk.newAt _ _ _ (by simp)
          exact ⟨(((Below.refl _ _).alloc (Nat.le_refl _) _).alloc (by simp) _).trans ⟨rfl, rfl, rfl, Nat.le_refl _, fun _ _ => rfl⟩, ((Blk.new _ _ _).alloc _).grow ⟨rfl, rfl, rfl, Nat.le_refl _, fun _ _ => rfl⟩, h1.grow ⟨rfl, rfl, rfl, Nat.le_refl _, fun _ _ => rfl⟩⟩
        rw [hw]
        clear hw
        go_wp2_with fail
        go_meet
        case rel => exact ⟨w4.heap.size, (w4.heap.size + 1), rfl, rfl, ⟨P4.out.1.trans (HG.out.1.mono P4.out.1.size), P4.out.2.1.grow HG.out.1, P4.out.2.2.grow HG.out.1⟩, HG.out.2.1, HG.out.2.2⟩
      · obtain ⟨wz, hw⟩ : ∃ WW, ((w4.alloc (.cells #[.int .i64 pb.1, .int .u8 (pb.2 0), .int .u8 (pb.2 1), .int .u8 (pb.2 2), .int .u8 (pb.2 3)] 48 )).alloc (.cells #[.int .i64 pa.1, .int .u8 (pa.2 0), .int .u8 (pa.2 1), .int .u8 (pa.2 2), .int .u8 (pa.2 3)] 48 )).drew = WW := ⟨_, rfl⟩
        have HG : Hid (Below w4.heap.size w4 wz ∧ Blk wz w4.heap.size 48 #[.int .i64 pb.1, .int .u8 (pb.2 0), .int .u8 (pb.2 1), .int .u8 (pb.2 2), .int .u8 (pb.2 3)] ∧ Blk wz (w4.heap.size + 1) 48 #[.int .i64 pa.1, .int .u8 (pa.2 0), .int .u8 (pa.2 1), .int .u8 (pa.2 2), .int .u8 (pa.2 3)]) := by
          rw [← hw]
          have h1 : Blk ((w4.alloc (.cells #[.int .i64 pb.1, .int .u8 (pb.2 0), .int .u8 (pb.2 1), .int .u8 (pb.2 2), .int .u8 (pb.2 3)] 48 )).alloc (.cells #[.int .i64 pa.1, .int .u8 (pa.2 0), .int .u8 (pa.2 1), .int .u8 (pa.2 2), .int .u8 (pa.2 3)] 48 )) (w4.heap.size + 1) 48 #[.int .i64 pa.1, .int .u8 (pa.2 0), .int .u8 (pa.2 1), .int .u8 (pa.2 2), .int .u8 (pa.2 3)] := Blk.newAt _ _ _ (by simp)
          exact ⟨(((Below.refl _ _).alloc (Nat.le_refl _) _).alloc (by simp) _).trans ⟨rfl, rfl, rfl, Nat.le_refl _, fun _ _ => rfl⟩, ((Blk.new _ _ _).alloc _).grow ⟨rfl, rfl, rfl, Nat.le_refl _, fun _ _ => rfl⟩, h1.grow ⟨rfl, rfl, rfl, Nat.le_refl _, fun _ _ => rfl⟩⟩
        rw [hw]
        clear hw
        go_wp2_with fail
        go_meet
        case rel => exact ⟨(w4.heap.size + 1), w4.heap.size, rfl, rfl, ⟨P4.out.1.trans (HG.out.1.mono P4.out.1.size), P4.out.2.1.grow HG.out.1, P4.out.2.2.grow HG.out.1⟩, HG.out.2.2, HG.out.2.1⟩
    case rest =>
      obtain ⟨g10, g11, rfl, rfl, HCUT⟩ := hcut
      obtain ⟨w5, hw⟩ : ∃ WW, wc = WW := ⟨_, rfl⟩
      rw [hw] at HCUT ⊢
      clear hw
      have P5 := Lib.hid HCUT.out.1
      have K10 := Lib.hid HCUT.out.2.1
      have K11 := Lib.hid HCUT.out.2.2
      clear HCUT
      clear hnn hjn hkn hjN hkN e6 e6'
      go_upto_region 11 with fail
      refine wp_region_put (by kernel_rfl) (by kernel_rfl) (by kernel_rfl) (fun b' vs w' => (b' 0 = true → vs 0 = .pointer (some ⟨g10, 1, none⟩)) ∧ (b' 1 = true → vs 1 = .agg #[.int .u8 (pa.2 0), .int .u8 (pa.2 1), .int .u8 (pa.2 2), .int .u8 (pa.2 3)]) ∧ (b' 2 = true → vs 2 = .pointer (some ⟨g11, 1, none⟩)) ∧ (b' 3 = true → vs 3 = .agg #[.int .u8 (pb.2 0), .int .u8 (pb.2 1), .int .u8 (pb.2 2), .int .u8 (pb.2 3)]) ∧ (b' 4 = true → vs 4 = .int .i64 t) ∧ (b' 5 = true → vs 5 = .pointer (some ⟨g10, 0, none⟩)) ∧ (b' 6 = true → vs 6 = .int .i64 pa.1) ∧ (b' 7 = true → vs 7 = .int .i64 d1) ∧ (b' 8 = true → vs 8 = .int .i64 d2) ∧ (b' 9 = true → vs 9 = .pointer (some ⟨g11, 0, none⟩)) ∧ (b' 10 = true → vs 10 = .int .i64 pb.1) ∧ (b' 11 = true → vs 11 = .pointer (some ⟨g10, 0, none⟩)) ∧ (b' 12 = true → vs 12 = .int .i64 pa.1) ∧ (b' 13 = true → vs 13 = .int .i64 d3) ∧ (b' 14 = true → vs 14 = .int .i64 r) ∧ (b' 15 = true → vs 15 = .agg #[.int .u8 (v 0), .int .u8 (v 1), .int .u8 (v 2), .int .u8 (v 3)]) ∧ (b' 17 = true → vs 17 = .int .i64 0) ∧ (b' 16 = false → Hid (Below w.heap.size w w' ∧ w.heap.size ≤ w'.heap.size)) ∧ (b' 16 = false → Hid (Blk w' (w.heap.size + 1) 26 (four fun _ => .int .u8 0) ∧ Blk w' w.heap.size 3 #[.int .i64 t] ∧ Blk w' g10 48 #[.int .i64 pa.1, .int .u8 (pa.2 0), .int .u8 (pa.2 1), .int .u8 (pa.2 2), .int .u8 (pa.2 3)] ∧ Blk w' g11 48 #[.int .i64 pb.1, .int .u8 (pb.2 0), .int .u8 (pb.2 1), .int .u8 (pb.2 2), .int .u8 (pb.2 3)])) ∧ (b' 16 = true → Hid (Below w.heap.size w w' ∧ Blk w' (w.heap.size + 1) 26 (c8 v))) ∧ (b' 15 = true → b' 1 = true) ∧ (b' 15 = true → b' 3 = true) ∧ (b' 15 = true → b' 14 = true) ∧ (b' 14 = true → b' 8 = true) ∧ (b' 8 = true → b' 7 = true) ∧ (b' 7 = true → b' 4 = true) ∧ (b' 7 = true → b' 6 = true) ∧ (b' 14 = true → b' 13 = true) ∧ (b' 13 = true → b' 10 = true) ∧ (b' 13 = true → b' 12 = true) ∧ (b' 16 = true → b' 1 = true) ∧ (b' 16 = true → b' 3 = true) ∧ (b' 16 = true → b' 4 = true) ∧ (b' 16 = true → b' 6 = true) ∧ (b' 16 = true → b' 10 = true) ∧ (b' 16 = true → b' 12 = true) ∧ (b' 16 = true → b' 15 = true)) ?_ ?_ ?_
      · intro vs
        exact ⟨fun h => Bool.noConfusion h, fun h => Bool.noConfusion h, fun h => Bool.noConfusion h, fun h => Bool.noConfusion h, fun h => Bool.noConfusion h, fun h => Bool.noConfusion h, fun h => Bool.noConfusion h, fun h => Bool.noConfusion h, fun h => Bool.noConfusion h, fun h => Bool.noConfusion h, fun h => Bool.noConfusion h, fun h => Bool.noConfusion h, fun h => Bool.noConfusion h, fun h => Bool.noConfusion h, fun h => Bool.noConfusion h, fun h => Bool.noConfusion h, fun h => Bool.noConfusion h, fun _ => Lib.hid ⟨below_drewN P5.out.1 1, P5.out.1.size⟩, fun _ => Lib.hid ⟨P5.out.2.1.grow ⟨rfl, rfl, rfl, Nat.le_refl _, fun _ _ => rfl⟩, P5.out.2.2.grow ⟨rfl, rfl, rfl, Nat.le_refl _, fun _ _ => rfl⟩, K10.out.grow ⟨rfl, rfl, rfl, Nat.le_refl _, fun _ _ => rfl⟩, K11.out.grow ⟨rfl, rfl, rfl, Nat.le_refl _, fun _ _ => rfl⟩⟩, fun h => Bool.noConfusion h, fun h => Bool.noConfusion h, fun h => Bool.noConfusion h, fun h => Bool.noConfusion h, fun h => Bool.noConfusion h, fun h => Bool.noConfusion h, fun h => Bool.noConfusion h, fun h => Bool.noConfusion h, fun h => Bool.noConfusion h, fun h => Bool.noConfusion h, fun h => Bool.noConfusion h, fun h => Bool.noConfusion h, fun h => Bool.noConfusion h, fun h => Bool.noConfusion h, fun h => Bool.noConfusion h, fun h => Bool.noConfusion h, fun h => Bool.noConfusion h, fun h => Bool.noConfusion h⟩
      · rintro b' vs w' i op hi hun hall ⟨h0, h1, h2, h3, h4, h5, h6, h7, h8, h9, h10, h11, h12, h13, h14, h15, h17, hB, hF, hG, hE15_1, hE15_3, hE15_14, hE14_8, hE8_7, hE7_4, hE7_6, hE14_13, hE13_10, hE13_12, hW1, hW3, hW4, hW6, hW10, hW12, hW15⟩
        have hil : i < 18 := (List.getElem?_eq_some_iff.1 hi).1
        rcases i with _ | _ | _ | _ | _ | _ | _ | _ | _ | _ | _ | _ | _ | _ | _ | _ | _ | _ | i
        · obtain rfl := Option.some.inj hi
          clear hi hil
          refine wpOp_step rfl (fun K hK => ?_)
          have HKK := Lib.hid hK; clear hK
          simp only [putAll, Act.put, List.setIfInBounds_toArray, List.set_cons_zero, List.set_cons_succ]
          go_simp
          exact HKK.out _ _ ⟨_, by simp only [putAll, Act.put, List.setIfInBounds_toArray, List.set_cons_zero, List.set_cons_succ] <;> rfl, fun _ => rfl, h1, h2, h3, h4, h5, h6, h7, h8, h9, h10, h11, h12, h13, h14, h15, h17, hB, hF, hG, hE15_1, hE15_3, hE15_14, hE14_8, hE8_7, hE7_4, hE7_6, hE14_13, hE13_10, hE13_12, hW1, hW3, hW4, hW6, hW10, hW12, hW15⟩
        · obtain rfl := Option.some.inj hi
          clear hi hil
          have hap : b' 16 = false := by
            cases hz : b' 16 with
            | false => rfl
            | true => exact absurd (hW1 hz) (by rw [hun]; decide)
          have d0 := h0 (hall ⟨0, .data⟩ (by simp) rfl)
          have c1 : w'.cell? ⟨g10, 1, none⟩ = some (.int .u8 (pa.2 0)) := (hF hap).out.2.2.1.cell 1
          have c2 : w'.cell? ⟨g10, 2, none⟩ = some (.int .u8 (pa.2 1)) := (hF hap).out.2.2.1.cell 2
          have c3 : w'.cell? ⟨g10, 3, none⟩ = some (.int .u8 (pa.2 2)) := (hF hap).out.2.2.1.cell 3
          have c4 : w'.cell? ⟨g10, 4, none⟩ = some (.int .u8 (pa.2 3)) := (hF hap).out.2.2.1.cell 4
          refine wpOp_step rfl (fun K hK => ?_)
          have HKK := Lib.hid hK; clear hK
          simp only [putAll, Act.put, List.setIfInBounds_toArray, List.set_cons_zero, List.set_cons_succ]
          go_simp
          exact HKK.out _ _ ⟨_, by simp only [putAll, Act.put, List.setIfInBounds_toArray, List.set_cons_zero, List.set_cons_succ, d0] <;> rfl, h0, fun _ => rfl, h2, h3, h4, h5, h6, h7, h8, h9, h10, h11, h12, h13, h14, h15, h17, hB, hF, hG, fun _ => rfl, hE15_3, hE15_14, hE14_8, hE8_7, hE7_4, hE7_6, hE14_13, hE13_10, hE13_12, fun _ => rfl, hW3, hW4, hW6, hW10, hW12, hW15⟩
        · obtain rfl := Option.some.inj hi
          clear hi hil
          refine wpOp_step rfl (fun K hK => ?_)
          have HKK := Lib.hid hK; clear hK
          simp only [putAll, Act.put, List.setIfInBounds_toArray, List.set_cons_zero, List.set_cons_succ]
          go_simp
          exact HKK.out _ _ ⟨_, by simp only [putAll, Act.put, List.setIfInBounds_toArray, List.set_cons_zero, List.set_cons_succ] <;> rfl, h0, h1, fun _ => rfl, h3, h4, h5, h6, h7, h8, h9, h10, h11, h12, h13, h14, h15, h17, hB, hF, hG, hE15_1, hE15_3, hE15_14, hE14_8, hE8_7, hE7_4, hE7_6, hE14_13, hE13_10, hE13_12, hW1, hW3, hW4, hW6, hW10, hW12, hW15⟩
        · obtain rfl := Option.some.inj hi
          clear hi hil
          have hap : b' 16 = false := by
            cases hz : b' 16 with
            | false => rfl
            | true => exact absurd (hW3 hz) (by rw [hun]; decide)
          have d2 := h2 (hall ⟨2, .data⟩ (by simp) rfl)
          have c1 : w'.cell? ⟨g11, 1, none⟩ = some (.int .u8 (pb.2 0)) := (hF hap).out.2.2.2.cell 1
          have c2 : w'.cell? ⟨g11, 2, none⟩ = some (.int .u8 (pb.2 1)) := (hF hap).out.2.2.2.cell 2
          have c3 : w'.cell? ⟨g11, 3, none⟩ = some (.int .u8 (pb.2 2)) := (hF hap).out.2.2.2.cell 3
          have c4 : w'.cell? ⟨g11, 4, none⟩ = some (.int .u8 (pb.2 3)) := (hF hap).out.2.2.2.cell 4
          refine wpOp_step rfl (fun K hK => ?_)
          have HKK := Lib.hid hK; clear hK
          simp only [putAll, Act.put, List.setIfInBounds_toArray, List.set_cons_zero, List.set_cons_succ]
          go_simp
          exact HKK.out _ _ ⟨_, by simp only [putAll, Act.put, List.setIfInBounds_toArray, List.set_cons_zero, List.set_cons_succ, d2] <;> rfl, h0, h1, h2, fun _ => rfl, h4, h5, h6, h7, h8, h9, h10, h11, h12, h13, h14, h15, h17, hB, hF, hG, hE15_1, fun _ => rfl, hE15_14, hE14_8, hE8_7, hE7_4, hE7_6, hE14_13, hE13_10, hE13_12, hW1, fun _ => rfl, hW4, hW6, hW10, hW12, hW15⟩
        · obtain rfl := Option.some.inj hi
          clear hi hil
          have hap : b' 16 = false := by
            cases hz : b' 16 with
            | false => rfl
            | true => exact absurd (hW4 hz) (by rw [hun]; decide)
          have ct : w'.cell? ⟨w.heap.size, 0, none⟩ = some (.int .i64 t) := (hF hap).out.2.1.cell 0
          refine wpOp_step rfl (fun K hK => ?_)
          have HKK := Lib.hid hK; clear hK
          simp only [putAll, Act.put, List.setIfInBounds_toArray, List.set_cons_zero, List.set_cons_succ]
          go_simp
          exact HKK.out _ _ ⟨_, by simp only [putAll, Act.put, List.setIfInBounds_toArray, List.set_cons_zero, List.set_cons_succ] <;> rfl, h0, h1, h2, h3, fun _ => rfl, h5, h6, h7, h8, h9, h10, h11, h12, h13, h14, h15, h17, hB, hF, hG, hE15_1, hE15_3, hE15_14, hE14_8, hE8_7, fun _ => rfl, hE7_6, hE14_13, hE13_10, hE13_12, hW1, hW3, fun _ => rfl, hW6, hW10, hW12, hW15⟩
        · obtain rfl := Option.some.inj hi
          clear hi hil
          refine wpOp_step rfl (fun K hK => ?_)
          have HKK := Lib.hid hK; clear hK
          simp only [putAll, Act.put, List.setIfInBounds_toArray, List.set_cons_zero, List.set_cons_succ]
          go_simp
          exact HKK.out _ _ ⟨_, by simp only [putAll, Act.put, List.setIfInBounds_toArray, List.set_cons_zero, List.set_cons_succ] <;> rfl, h0, h1, h2, h3, h4, fun _ => rfl, h6, h7, h8, h9, h10, h11, h12, h13, h14, h15, h17, hB, hF, hG, hE15_1, hE15_3, hE15_14, hE14_8, hE8_7, hE7_4, hE7_6, hE14_13, hE13_10, hE13_12, hW1, hW3, hW4, hW6, hW10, hW12, hW15⟩
        · obtain rfl := Option.some.inj hi
          clear hi hil
          have hap : b' 16 = false := by
            cases hz : b' 16 with
            | false => rfl
            | true => exact absurd (hW6 hz) (by rw [hun]; decide)
          have d5 := h5 (hall ⟨5, .data⟩ (by simp) rfl)
          have ca : w'.cell? ⟨g10, 0, none⟩ = some (.int .i64 pa.1) := (hF hap).out.2.2.1.cell 0
          refine wpOp_step rfl (fun K hK => ?_)
          have HKK := Lib.hid hK; clear hK
          simp only [putAll, Act.put, List.setIfInBounds_toArray, List.set_cons_zero, List.set_cons_succ]
          go_simp
          exact HKK.out _ _ ⟨_, by simp only [putAll, Act.put, List.setIfInBounds_toArray, List.set_cons_zero, List.set_cons_succ, d5] <;> rfl, h0, h1, h2, h3, h4, h5, fun _ => rfl, h7, h8, h9, h10, h11, h12, h13, h14, h15, h17, hB, hF, hG, hE15_1, hE15_3, hE15_14, hE14_8, hE8_7, hE7_4, fun _ => rfl, hE14_13, hE13_10, hE13_12, hW1, hW3, hW4, fun _ => rfl, hW10, hW12, hW15⟩
        · obtain rfl := Option.some.inj hi
          clear hi hil
          have d4 := h4 (hall ⟨4, .data⟩ (by simp) rfl)
          have d6 := h6 (hall ⟨6, .data⟩ (by simp) rfl)
          refine wpOp_step rfl (fun K hK => ?_)
          have HKK := Lib.hid hK; clear hK
          simp only [putAll, Act.put, List.setIfInBounds_toArray, List.set_cons_zero, List.set_cons_succ]
          go_simp
          exact HKK.out _ _ ⟨_, by simp only [putAll, Act.put, List.setIfInBounds_toArray, List.set_cons_zero, List.set_cons_succ, d4, d6, E1.out] <;> rfl, h0, h1, h2, h3, h4, h5, h6, fun _ => rfl, h8, h9, h10, h11, h12, h13, h14, h15, h17, hB, hF, hG, hE15_1, hE15_3, hE15_14, hE14_8, fun _ => rfl, fun _ => hall ⟨4, .data⟩ (by simp) rfl, fun _ => hall ⟨6, .data⟩ (by simp) rfl, hE14_13, hE13_10, hE13_12, hW1, hW3, hW4, hW6, hW10, hW12, hW15⟩
        · obtain rfl := Option.some.inj hi
          clear hi hil
          have d7 := h7 (hall ⟨7, .data⟩ (by simp) rfl)
          refine wpOp_step rfl (fun K hK => ?_)
          have HKK := Lib.hid hK; clear hK
          simp only [putAll, Act.put, List.setIfInBounds_toArray, List.set_cons_zero, List.set_cons_succ]
          go_simp
          exact HKK.out _ _ ⟨_, by simp only [putAll, Act.put, List.setIfInBounds_toArray, List.set_cons_zero, List.set_cons_succ, d7, E2.out] <;> rfl, h0, h1, h2, h3, h4, h5, h6, h7, fun _ => rfl, h9, h10, h11, h12, h13, h14, h15, h17, hB, hF, hG, hE15_1, hE15_3, hE15_14, fun _ => rfl, fun _ => hall ⟨7, .data⟩ (by simp) rfl, hE7_4, hE7_6, hE14_13, hE13_10, hE13_12, hW1, hW3, hW4, hW6, hW10, hW12, hW15⟩
        · obtain rfl := Option.some.inj hi
          clear hi hil
          refine wpOp_step rfl (fun K hK => ?_)
          have HKK := Lib.hid hK; clear hK
          simp only [putAll, Act.put, List.setIfInBounds_toArray, List.set_cons_zero, List.set_cons_succ]
          go_simp
          exact HKK.out _ _ ⟨_, by simp only [putAll, Act.put, List.setIfInBounds_toArray, List.set_cons_zero, List.set_cons_succ] <;> rfl, h0, h1, h2, h3, h4, h5, h6, h7, h8, fun _ => rfl, h10, h11, h12, h13, h14, h15, h17, hB, hF, hG, hE15_1, hE15_3, hE15_14, hE14_8, hE8_7, hE7_4, hE7_6, hE14_13, hE13_10, hE13_12, hW1, hW3, hW4, hW6, hW10, hW12, hW15⟩
        · obtain rfl := Option.some.inj hi
          clear hi hil
          have hap : b' 16 = false := by
            cases hz : b' 16 with
            | false => rfl
            | true => exact absurd (hW10 hz) (by rw [hun]; decide)
          have d9 := h9 (hall ⟨9, .data⟩ (by simp) rfl)
          have ca : w'.cell? ⟨g11, 0, none⟩ = some (.int .i64 pb.1) := (hF hap).out.2.2.2.cell 0
          refine wpOp_step rfl (fun K hK => ?_)
          have HKK := Lib.hid hK; clear hK
          simp only [putAll, Act.put, List.setIfInBounds_toArray, List.set_cons_zero, List.set_cons_succ]
          go_simp
          exact HKK.out _ _ ⟨_, by simp only [putAll, Act.put, List.setIfInBounds_toArray, List.set_cons_zero, List.set_cons_succ, d9] <;> rfl, h0, h1, h2, h3, h4, h5, h6, h7, h8, h9, fun _ => rfl, h11, h12, h13, h14, h15, h17, hB, hF, hG, hE15_1, hE15_3, hE15_14, hE14_8, hE8_7, hE7_4, hE7_6, hE14_13, fun _ => rfl, hE13_12, hW1, hW3, hW4, hW6, fun _ => rfl, hW12, hW15⟩
        · obtain rfl := Option.some.inj hi
          clear hi hil
          refine wpOp_step rfl (fun K hK => ?_)
          have HKK := Lib.hid hK; clear hK
          simp only [putAll, Act.put, List.setIfInBounds_toArray, List.set_cons_zero, List.set_cons_succ]
          go_simp
          exact HKK.out _ _ ⟨_, by simp only [putAll, Act.put, List.setIfInBounds_toArray, List.set_cons_zero, List.set_cons_succ] <;> rfl, h0, h1, h2, h3, h4, h5, h6, h7, h8, h9, h10, fun _ => rfl, h12, h13, h14, h15, h17, hB, hF, hG, hE15_1, hE15_3, hE15_14, hE14_8, hE8_7, hE7_4, hE7_6, hE14_13, hE13_10, hE13_12, hW1, hW3, hW4, hW6, hW10, hW12, hW15⟩
        · obtain rfl := Option.some.inj hi
          clear hi hil
          have hap : b' 16 = false := by
            cases hz : b' 16 with
            | false => rfl
            | true => exact absurd (hW12 hz) (by rw [hun]; decide)
          have d11 := h11 (hall ⟨11, .data⟩ (by simp) rfl)
          have ca : w'.cell? ⟨g10, 0, none⟩ = some (.int .i64 pa.1) := (hF hap).out.2.2.1.cell 0
          refine wpOp_step rfl (fun K hK => ?_)
          have HKK := Lib.hid hK; clear hK
          simp only [putAll, Act.put, List.setIfInBounds_toArray, List.set_cons_zero, List.set_cons_succ]
          go_simp
          exact HKK.out _ _ ⟨_, by simp only [putAll, Act.put, List.setIfInBounds_toArray, List.set_cons_zero, List.set_cons_succ, d11] <;> rfl, h0, h1, h2, h3, h4, h5, h6, h7, h8, h9, h10, h11, fun _ => rfl, h13, h14, h15, h17, hB, hF, hG, hE15_1, hE15_3, hE15_14, hE14_8, hE8_7, hE7_4, hE7_6, hE14_13, hE13_10, fun _ => rfl, hW1, hW3, hW4, hW6, hW10, fun _ => rfl, hW15⟩
        · obtain rfl := Option.some.inj hi
          clear hi hil
          have d10 := h10 (hall ⟨10, .data⟩ (by simp) rfl)
          have d12 := h12 (hall ⟨12, .data⟩ (by simp) rfl)
          refine wpOp_step rfl (fun K hK => ?_)
          have HKK := Lib.hid hK; clear hK
          simp only [putAll, Act.put, List.setIfInBounds_toArray, List.set_cons_zero, List.set_cons_succ]
          go_simp
          exact HKK.out _ _ ⟨_, by simp only [putAll, Act.put, List.setIfInBounds_toArray, List.set_cons_zero, List.set_cons_succ, d10, d12, E3.out] <;> rfl, h0, h1, h2, h3, h4, h5, h6, h7, h8, h9, h10, h11, h12, fun _ => rfl, h14, h15, h17, hB, hF, hG, hE15_1, hE15_3, hE15_14, hE14_8, hE8_7, hE7_4, hE7_6, fun _ => rfl, fun _ => hall ⟨10, .data⟩ (by simp) rfl, fun _ => hall ⟨12, .data⟩ (by simp) rfl, hW1, hW3, hW4, hW6, hW10, hW12, hW15⟩
        · obtain rfl := Option.some.inj hi
          clear hi hil
          have d8 := h8 (hall ⟨8, .data⟩ (by simp) rfl)
          have d13 := h13 (hall ⟨13, .data⟩ (by simp) rfl)
          obtain ⟨e1, e2, e3, e4⟩ := E5.out
          have e5 := (wrap_is _).trans e4
          refine wpOp_step rfl (fun K hK => ?_)
          have HKK := Lib.hid hK; clear hK
          simp only [putAll, Act.put, List.setIfInBounds_toArray, List.set_cons_zero, List.set_cons_succ]
          go_simp
          exact HKK.out _ _ ⟨_, by simp only [putAll, Act.put, List.setIfInBounds_toArray, List.set_cons_zero, List.set_cons_succ, d8, d13] <;> rfl, h0, h1, h2, h3, h4, h5, h6, h7, h8, h9, h10, h11, h12, h13, fun _ => rfl, h15, h17, hB, hF, hG, hE15_1, hE15_3, fun _ => rfl, fun _ => hall ⟨8, .data⟩ (by simp) rfl, hE8_7, hE7_4, hE7_6, fun _ => hall ⟨13, .data⟩ (by simp) rfl, hE13_10, hE13_12, hW1, hW3, hW4, hW6, hW10, hW12, hW15⟩
        · obtain rfl := Option.some.inj hi
          clear hi hil
          have hap : b' 16 = false := by
            cases hz : b' 16 with
            | false => rfl
            | true => exact absurd (hW15 hz) (by rw [hun]; decide)
          have d1 := h1 (hall ⟨1, .data⟩ (by simp) rfl)
          have d3 := h3 (hall ⟨3, .data⟩ (by simp) rfl)
          have d14 := h14 (hall ⟨14, .data⟩ (by simp) rfl)
          refine wpOp_step rfl (fun K hK => ?_)
          have HKK := Lib.hid hK; clear hK
          simp only [putAll, Act.put, List.setIfInBounds_toArray, List.set_cons_zero, List.set_cons_succ]
          go_simp
          refine (HMX.out _).mono ?_
          rintro e w2 ⟨rfl, hb2⟩
          exact HKK.out _ _ ⟨_, by simp only [putAll, Act.put, List.setIfInBounds_toArray, List.set_cons_zero, List.set_cons_succ, d1, d3, d14] <;> rfl, h0, h1, h2, h3, h4, h5, h6, h7, h8, h9, h10, h11, h12, h13, h14, fun _ => rfl, h17, fun ha => Lib.hid ⟨(hB ha).out.1.trans (hb2.mono (hB ha).out.2), Nat.le_trans (hB ha).out.2 hb2.size⟩, fun ha => Lib.hid (⟨(hF ha).out.1.grow hb2, (hF ha).out.2.1.grow hb2, (hF ha).out.2.2.1.grow hb2, (hF ha).out.2.2.2.grow hb2⟩), fun h => absurd (show b' 16 = true from h) (by rw [hap]; decide), fun _ => hall ⟨1, .data⟩ (by simp) rfl, fun _ => hall ⟨3, .data⟩ (by simp) rfl, fun _ => hall ⟨14, .data⟩ (by simp) rfl, hE14_8, hE8_7, hE7_4, hE7_6, hE14_13, hE13_10, hE13_12, hW1, hW3, hW4, hW6, hW10, hW12, fun _ => rfl⟩
        · obtain rfl := Option.some.inj hi
          clear hi hil
          have hap : b' 16 = false := hun
          have d15 := h15 (hall ⟨15, .data⟩ (by simp) rfl)
          have k4 := (hF hap).out.1
          obtain ⟨z0, z1, z2, z3⟩ := k4.c0
          have f0 := k4.free 0
          have f1 := k4.free 1
          have f2 := k4.free 2
          have f3 := k4.free 3
          have lg := k4.lt
          clear k4
          refine wpOp_step rfl (fun K hK => ?_)
          have HKK := Lib.hid hK; clear hK
          simp only [putAll, Act.put, List.setIfInBounds_toArray, List.set_cons_zero, List.set_cons_succ]
          go_simp
          exact HKK.out _ _ ⟨undef, by simp only [putAll, Act.put, List.setIfInBounds_toArray, List.set_cons_zero, List.set_cons_succ, d15] <;> rfl, h0, h1, h2, h3, h4, h5, h6, h7, h8, h9, h10, h11, h12, h13, h14, h15, h17, fun h => Bool.noConfusion h, fun h => Bool.noConfusion h, fun _ => Lib.hid (⟨below_four4 (hB hap).out.1 (by omega) _ _ _ _, (hF hap).out.1.set4 fun i => .int .u8 (v i)⟩), hE15_1, hE15_3, hE15_14, hE14_8, hE8_7, hE7_4, hE7_6, hE14_13, hE13_10, hE13_12, fun _ => hE15_1 (hall ⟨15, .data⟩ (by simp) rfl), fun _ => hE15_3 (hall ⟨15, .data⟩ (by simp) rfl), fun _ => hE7_4 (hE8_7 (hE14_8 (hE15_14 (hall ⟨15, .data⟩ (by simp) rfl)))), fun _ => hE7_6 (hE8_7 (hE14_8 (hE15_14 (hall ⟨15, .data⟩ (by simp) rfl)))), fun _ => hE13_10 (hE14_13 (hE15_14 (hall ⟨15, .data⟩ (by simp) rfl))), fun _ => hE13_12 (hE14_13 (hE15_14 (hall ⟨15, .data⟩ (by simp) rfl))), fun _ => hall ⟨15, .data⟩ (by simp) rfl⟩
        · obtain rfl := Option.some.inj hi
          clear hi hil
          refine wpOp_step rfl (fun K hK => ?_)
          have HKK := Lib.hid hK; clear hK
          simp only [putAll, Act.put, List.setIfInBounds_toArray, List.set_cons_zero, List.set_cons_succ]
          go_simp
          exact HKK.out _ _ ⟨_, by simp only [putAll, Act.put, List.setIfInBounds_toArray, List.set_cons_zero, List.set_cons_succ] <;> rfl, h0, h1, h2, h3, h4, h5, h6, h7, h8, h9, h10, h11, h12, h13, h14, h15, fun _ => rfl, hB, hF, hG, hE15_1, hE15_3, hE15_14, hE14_8, hE8_7, hE7_4, hE7_6, hE14_13, hE13_10, hE13_12, hW1, hW3, hW4, hW6, hW10, hW12, hW15⟩
        · omega
      · rintro b' vs w2 hall ⟨h0, h1, h2, h3, h4, h5, h6, h7, h8, h9, h10, h11, h12, h13, h14, h15, h17, hB, hF, hG, hE15_1, hE15_3, hE15_14, hE14_8, hE8_7, hE7_4, hE7_6, hE14_13, hE13_10, hE13_12, hW1, hW3, hW4, hW6, hW10, hW12, hW15⟩
        have d0 := h0 (hall 0 (by simp))
        have d1 := h1 (hall 1 (by simp))
        have d2 := h2 (hall 2 (by simp))
        have d3 := h3 (hall 3 (by simp))
        have d4 := h4 (hall 4 (by simp))
        have d5 := h5 (hall 5 (by simp))
        have d6 := h6 (hall 6 (by simp))
        have d7 := h7 (hall 7 (by simp))
        have d8 := h8 (hall 8 (by simp))
        have d9 := h9 (hall 9 (by simp))
        have d10 := h10 (hall 10 (by simp))
        have d11 := h11 (hall 11 (by simp))
        have d12 := h12 (hall 12 (by simp))
        have d13 := h13 (hall 13 (by simp))
        have d14 := h14 (hall 14 (by simp))
        have d15 := h15 (hall 15 (by simp))
        have d17 := h17 (hall 17 (by simp))
        have GG := hG (hall 16 (by simp))
        simp only [putAll, Act.put, List.setIfInBounds_toArray, List.set_cons_zero, List.set_cons_succ, d0, d1, d2, d3, d4, d5, d6, d7, d8, d9, d10, d11, d12, d13, d14, d15, d17]
        clear hall h0 d0 h1 d1 h2 d2 h3 d3 h4 d4 h5 d5 h6 d6 h7 d7 h8 d8 h9 d9 h10 d10 h11 d11 h12 d12 h13 d13 h14 d14 h15 d15 h17 d17 hB hF hG hE15_1 hE15_3 hE15_14 hE14_8 hE8_7 hE7_4 hE7_6 hE14_13 hE13_10 hE13_12 hW1 hW3 hW4 hW6 hW10 hW12 hW15
        go_wp2_with fail
        exact bodyPost_ret (results_shade rfl rfl rfl GG.out.2) rfl ⟨rfl, GG.out.1⟩
theorem pShade_c (s : Value) (l : List Stp) (t : Int) (w : World) (row : RowS w s l) (hl : l.length ≤ 100) : Calls Try.prog 28 #[s, .int .i64 t] w fun e w' => e = .returned (.tuple #[.agg #[.int .u8 (shadeC l t 0), .int .u8 (shadeC l t 1), .int .u8 (shadeC l t 2), .int .u8 (shadeC l t 3)], .int .i64 (errS l)]) ∧ Below w.heap.size w w' := by
  cases hok : okS l with
  | false => rw [errS_bad hok, shade_bad t hok]; exact pShade_bad s l t w row hl hok
  | true =>
    rw [errS_ok hok]
    by_cases h1 : t ≤ (sAt l 0).1
    · exact pShade_first s l t w row hl hok h1
    · by_cases h2 : t ≥ (sAt l (l.length - 1)).1
      · exact pShade_last s l t w row hl hok h1 h2
      · exact pShade_mid s l t w row hl hok h1 h2
theorem shadeOk : ShadeOk where
  check := fun s l w row hl => checkStops_c s l w row hl
  shade := fun s l t w row hl => pShade_c s l t w row hl
end Go.Proofs.Ytcbldamlfjkppaa
