/- Layer 14: package store: Decode. -/
import Derived.Test.YtdcjchakgfpgaaaMd
namespace Go.Proofs.Ytdcjchakgfpgaaa
open Go.RowKit
theorem bytesEqual_c (s s' : Value) (E E' : List Int) (w : World) (row : RowB w s E) (row' : RowB w s' E') (h : OkB E) (h' : OkB E') : Calls Try.prog 31 #[s, s'] w fun e w' => e = .returned (.bool (decide (E = E'))) ∧ w = w' := by
  have c1 := conv_b row h
  have c2 := conv_b row' h'
  obtain ⟨ao, cp, rfl⟩ := row.shape
  obtain ⟨av, cv, rfl⟩ := row'.shape
  obtain ⟨S, hS⟩ : ∃ S, strI E = S := ⟨_, rfl⟩
  obtain ⟨S', hS'⟩ : ∃ S, strI E' = S := ⟨_, rfl⟩
  have HR : Hid ((S.toList == S'.toList) = decide (E = E')) := by
    rw [Hid, ← hS, ← hS']
    exact strI_beq h h'
  rw [hS] at c1
  rw [hS'] at c2
  obtain ⟨r, hr⟩ : ∃ r, decide (E = E') = r := ⟨_, rfl⟩
  rw [hr] at HR ⊢
  have hq := HR.out
  generalize E.length = n at *
  generalize E'.length = n' at *
  clear row row' h h' hS hS'
  go_enter Try.func31, Try.ntmps31
  go_wp2_with fail
  go_ret
  exact ⟨rfl, rfl⟩
theorem set4_blk {w : World} {g : Nat} {tt : TypeId} {a b c d : Value} (h : Blk w g tt #[a, b, c, d]) (x y z t : Value) : Blk ((((w.setCell ⟨g, 0, none⟩ x).setCell ⟨g, 1, none⟩ y).setCell ⟨g, 2, none⟩ z).setCell ⟨g, 3, none⟩ t) g tt #[x, y, z, t] := (((h.set 0 x).set 1 y).set 2 z).set 3 t
theorem results_hs {fn : Func} {tmps : Array Value} {W : World} {g : Nat} {h : Hd} {b : Bool} (hres : fn.results = #[.cell 4 23, .tmp 5]) (hg : tmps[4]? = some (.pointer (some ⟨g, 0, none⟩))) (h3 : tmps[5]? = some (.bool b)) (hb : Blk W g 23 (hdC h)) :
    (results fn tmps).run Try.prog W = .ok (.tuple #[hdV h, .bool b]) W := by
  have c0 : W.cell? ⟨g, 0, none⟩ = some (.int .i64 h.gen) := hb.cell 0
  have c1 : W.cell? ⟨g, 1, none⟩ = some (.int .i64 h.half) := hb.cell 1
  have c2 : W.cell? ⟨g, 2, none⟩ = some (.int .i64 h.snap) := hb.cell 2
  have c3 : W.cell? ⟨g, 3, none⟩ = some (.int .i64 h.log) := hb.cell 3
  simp [results, hres, hg, h3, go_sem, c0, c1, c2, c3]
/-- The numbers where a header's stand, as package store reads them. -/
def rawW (B : List Int) : Hd := ⟨wrap64 (wordL (cutL B 0 8)), bAt B 8, wordL (cutL B 9 4), wordL (cutL B 13 4)⟩
theorem cut8_one (B : List Int) (h : 9 ≤ B.length) : wordL (cutL B 8 1) = bAt B 8 := by
  have e : cutL B 8 1 = [bAt B 8] := by
    apply List.ext_getElem?
    intro i
    by_cases hi : i < 1
    · rw [cutL_at hi]
      obtain rfl : i = 0 := by omega
      rw [bAt_some (show 8 + 0 < B.length by omega)]
      rfl
    · rw [List.getElem?_eq_none (by rw [cutL_len (by omega)]; omega), List.getElem?_eq_none (by simp; omega)]
  rw [e]
  show 0 * 256 + bAt B 8 = _
  omega
theorem decW {B : List Int} (hB : OkB B) (cap : Int) (h32 : 32 ≤ B.length) : decI B cap = if 1 ≤ (rawW B).gen ∧ (rawW B).snap + (rawW B).log ≤ cap ∧ B = encI (rawW B) (B.length : Int) then some (rawW B) else none := by
  have k8 := wordL_in (cutL B 0 8) (cutL_ok hB 0 8)
  rw [cutL_len (by omega)] at k8
  have e8 : (256 : Int) ^ 8 = 18446744073709551616 := by decide
  rw [e8] at k8
  have s := numH_4 hB (i := 9) (by omega)
  have l := numH_4 hB (i := 13) (by omega)
  have hne : hdrB (rawW B) B.length ≠ [] := fun h => by
    have := hdrB_len (h := rawW B) h32
    rw [h] at this
    simp at this
    omega
  have hnil : ¬ B = [] := fun h => by rw [h] at h32; simp at h32
  unfold decI
  by_cases hg : wordL (cutL B 0 8) ≤ 9223372036854775807
  · have e : rawW B = rawHd B := by
      unfold rawW rawHd
      rw [wrapR _ (by omega) hg]
    rw [← e]
    have hiff : (32 ≤ B.length ∧ okHd (rawW B) cap ∧ hdrB (rawW B) B.length = B) ↔ (1 ≤ (rawW B).gen ∧ (rawW B).snap + (rawW B).log ≤ cap ∧ B = encI (rawW B) (B.length : Int)) := by
      have s2 : 0 ≤ (rawW B).snap := s.2.1
      have l2 : 0 ≤ (rawW B).log := l.2.1
      constructor
      · rintro ⟨_, ok, hb⟩
        unfold okHd at ok
        refine ⟨ok.1, by omega, ?_⟩
        unfold encI encOk
        rw [if_pos ⟨by omega, by omega⟩, Int.toNat_natCast, hb]
      · rintro ⟨h1, h2, h3⟩
        unfold encI at h3
        split at h3
        · rename_i hc
          rw [Int.toNat_natCast] at h3
          refine ⟨h32, ?_, h3.symm⟩
          have hcc := hc.2
          unfold encOk at hcc
          unfold okHd
          have hgm : (rawW B).gen ≤ 9223372036854775807 := by
            show wrap64 _ ≤ _
            rw [wrapR _ (by omega) hg]
            exact hg
          omega
        · exact absurd h3 hnil
    by_cases hc : 1 ≤ (rawW B).gen ∧ (rawW B).snap + (rawW B).log ≤ cap ∧ B = encI (rawW B) (B.length : Int)
    · rw [if_pos hc, if_pos (hiff.2 hc)]
    · rw [if_neg hc, if_neg (fun h => hc (hiff.1 h))]
  · rw [if_neg (fun h => hg h.2.1.2.1), if_neg]
    intro h
    have h1 : 1 ≤ wrap64 (wordL (cutL B 0 8)) := h.1
    unfold wrap64 at h1
    omega
set_option maxHeartbeats 8000000 in
set_option maxRecDepth 100000 in
theorem sdecode_c (s : Value) (B : List Int) (cap : Int) (w : World) (row : RowB w s B) (hB : OkB B) (hcap : CapS s) (hl : B.length ≤ 1000) (_hc : rngI cap) : Calls Try.prog 10 #[s, .int .i64 cap] w fun e w' => e = .returned (DecV (decI B cap)) ∧ Below w.heap.size w w' := by
  obtain ⟨ao, c, rfl⟩ := row.shape
  obtain ⟨n, hn⟩ : ∃ n, B.length = n := ⟨_, rfl⟩
  have hnc : n ≤ c := by rw [← hn]; exact hcap _ _ _ rfl
  obtain ⟨w0, hw0⟩ : ∃ x, x = w.alloc (.cells #[.int .i64 0, .int .i64 0, .int .i64 0, .int .i64 0] 23) := ⟨_, rfl⟩
  have H0 : Hid (Blk w0 w.heap.size 23 #[.int .i64 0, .int .i64 0, .int .i64 0, .int .i64 0] ∧ Below w.heap.size w w0) := by
    subst hw0
    exact ⟨Blk.new _ _ _, (Below.refl _ _).alloc (Nat.le_refl _) _⟩
  have c0 : w0.cell? ⟨w.heap.size, 0, none⟩ = some (.int .i64 0) := H0.out.1.cell 0
  have c1 : w0.cell? ⟨w.heap.size, 1, none⟩ = some (.int .i64 0) := H0.out.1.cell 1
  have c2 : w0.cell? ⟨w.heap.size, 2, none⟩ = some (.int .i64 0) := H0.out.1.cell 2
  have c3 : w0.cell? ⟨w.heap.size, 3, none⟩ = some (.int .i64 0) := H0.out.1.cell 3
  have f0 := H0.out.1.free 0
  have f1 := H0.out.1.free 1
  have f2 := H0.out.1.free 2
  have f3 := H0.out.1.free 3
  have hlt := H0.out.1.lt
  by_cases h32 : n < 32
  · have HD : Hid (decI B cap = none) := by unfold decI Hid; rw [if_neg (by omega)]
    rw [HD.out, hn]
    have d1 : decide ((n : Int) < 32) = true := by simp; omega
    have d1' : decide (n < 32) = true := by simp; omega
    clear row hB hcap hl hnc hn h32
    go_enter Try.func10, Try.ntmps10
    go_upto_region 1 with fail
    rw [← hw0]
    clear hw0
    go_wp2_with fail
    exact bodyPost_ret (results_hs (h := zeroHd) rfl rfl rfl (set4_blk H0.out.1 _ _ _ _)) rfl ⟨rfl, below_hd4 H0.out.2 (Nat.le_refl _) _ _ _ _⟩
  rw [decW hB cap (by omega), hn]
  rw [hn] at row
  obtain ⟨bk, ofs, rfl, hbk, _⟩ := row.addr (by omega)
  have HR := Lib.hid row
  have HB : Hid (OkB B ∧ B.length = n ∧ 32 ≤ n ∧ n ≤ c ∧ n ≤ 1000) := ⟨hB, hn, by omega, hnc, by omega⟩
  have d1 : decide ((n : Int) < 32) = false := by simp; omega
  have d1' : decide (n < 32) = false := by simp; omega
  have si := (numH_4 hB (i := 9) (by omega)).2
  have li := (numH_4 hB (i := 13) (by omega)).2
  have hb8 := bAt_some (E := B) (k := 8) (by omega)
  have hkr := hB _ (List.mem_of_getElem? hb8)
  have HRAW : Hid (rawW B = ⟨wrap64 (wordL (cutL B 0 8)), bAt B 8, wordL (cutL B 9 4), wordL (cutL B 13 4)⟩) := rfl
  obtain ⟨gq, hgq⟩ : ∃ q, wrap64 (wordL (cutL B 0 8)) = q := ⟨_, rfl⟩
  have gi : -9223372036854775808 ≤ gq ∧ gq ≤ 9223372036854775807 := by rw [← hgq]; unfold wrap64; omega
  obtain ⟨kd, hkd⟩ : ∃ q, bAt B 8 = q := ⟨_, rfl⟩
  obtain ⟨sq, hsq⟩ : ∃ q, wordL (cutL B 9 4) = q := ⟨_, rfl⟩
  obtain ⟨lq, hlq⟩ : ∃ q, wordL (cutL B 13 4) = q := ⟨_, rfl⟩
  rw [hsq] at si
  rw [hlq] at li
  rw [hkd] at hb8 hkr
  rw [hgq, hkd, hsq, hlq] at HRAW
  rw [HRAW.out]
  have HI : Hid ((-9223372036854775808 ≤ gq ∧ gq ≤ 9223372036854775807) ∧ (0 ≤ kd ∧ kd ≤ 255) ∧ (0 ≤ sq ∧ sq ≤ 4294967295) ∧ (0 ≤ lq ∧ lq ≤ 4294967295)) := ⟨gi, hkr, si, li⟩
  obtain ⟨res, hres⟩ : ∃ r, (if 1 ≤ gq ∧ sq + lq ≤ cap ∧ B = encI ⟨gq, kd, sq, lq⟩ (n : Int) then some (⟨gq, kd, sq, lq⟩ : Hd) else none) = r := ⟨_, rfl⟩
  have HRES := Lib.hid hres
  have hres2 : (if 1 ≤ (⟨gq, kd, sq, lq⟩ : Hd).gen ∧ (⟨gq, kd, sq, lq⟩ : Hd).snap + (⟨gq, kd, sq, lq⟩ : Hd).log ≤ cap ∧ B = encI ⟨gq, kd, sq, lq⟩ (n : Int) then some (⟨gq, kd, sq, lq⟩ : Hd) else none) = res := hres
  rw [hres2]
  have HCUT : Hid (∀ W, Below w.heap.size w W → RowB W (.slice (some ⟨bk, ofs, none⟩) 8 c) (cutL B 0 8) ∧ RowB W (.slice (some ⟨bk, ofs + 9, none⟩) 4 (c - 9)) (cutL B 9 4) ∧ RowB W (.slice (some ⟨bk, ofs + 13, none⟩) 4 (c - 13)) (cutL B 13 4) ∧ RowB W (.slice (some ⟨bk, ofs + 8, none⟩) 1 (c - 8)) (cutL B 8 1) ∧ RowB W (.slice (some ⟨bk, ofs, none⟩) n c) B) := fun W hW => by
    have hrw := HR.out.on hW
    refine ⟨?_, RowB.cut hrw hn (at0 := 9) (k := 4) (by omega) (by omega), RowB.cut hrw hn (at0 := 13) (k := 4) (by omega) (by omega), RowB.cut hrw hn (at0 := 8) (k := 1) (by omega) (by omega), hrw⟩
    have key := RowB.cut hrw hn (at0 := 0) (k := 8) (by omega) (by omega)
    rw [Nat.add_zero, Nat.sub_zero] at key
    exact key
  have HN : Hid (∀ W, Below w.heap.size w W → (Calls Try.prog 29 #[.slice (some ⟨bk, ofs, none⟩) 8 c] W fun e w' => e = .returned (.int .i64 gq) ∧ W = w') ∧ (Calls Try.prog 29 #[.slice (some ⟨bk, ofs + 8, none⟩) 1 (c - 8)] W fun e w' => e = .returned (.int .i64 kd) ∧ W = w') ∧ (Calls Try.prog 29 #[.slice (some ⟨bk, ofs + 9, none⟩) 4 (c - 9)] W fun e w' => e = .returned (.int .i64 sq) ∧ W = w') ∧ (Calls Try.prog 29 #[.slice (some ⟨bk, ofs + 13, none⟩) 4 (c - 13)] W fun e w' => e = .returned (.int .i64 lq) ∧ W = w')) := fun W hW => by
    have r := HCUT.out W hW
    refine ⟨?_, ?_, ?_, ?_⟩
    · have key := num14_c _ _ W r.1 (cutL_ok hB 0 8) (by rw [cutL_len (by omega)]; omega)
      rw [hgq] at key
      exact key
    · have key := num14_c _ _ W r.2.2.2.1 (cutL_ok hB 8 1) (by rw [cutL_len (by omega)]; omega)
      rw [cut8_one B (by omega), hkd, wrapR _ (by omega) (by omega)] at key
      exact key
    · have key := num14_c _ _ W r.2.1 (cutL_ok hB 9 4) (by rw [cutL_len (by omega)]; omega)
      rw [hsq, wrapR _ (by omega) (by omega)] at key
      exact key
    · have key := num14_c _ _ W r.2.2.1 (cutL_ok hB 13 4) (by rw [cutL_len (by omega)]; omega)
      rw [hlq, wrapR _ (by omega) (by omega)] at key
      exact key
  clear row hB hcap hl h32 hbk hnc hn gi si li hb8 hkr hgq hkd hsq hlq hres hres2 HRAW c0 c1 c2 c3 f0 f1 f2 f3 hlt
  go_enter Try.func10, Try.ntmps10
  go_upto_region 1 with fail
  rw [← hw0]
  clear hw0
  go_upto_region 3 with fail
  obtain ⟨S, hS⟩ : ∃ S, w0.heap.size = S := ⟨_, rfl⟩
  have HS : Hid (w0.heap.size = S ∧ w.heap.size < S) := ⟨hS, by have := H0.out.1.lt; omega⟩
  clear hS d1 d1'
  refine wp_region_put (by kernel_rfl) (by kernel_rfl) (by kernel_rfl) (fun b' vs w' => (b' 0 = true → vs 0 = .slice (some ⟨bk, ofs, none⟩) n c) ∧ (b' 1 = true → vs 1 = .slice (some ⟨bk, ofs, none⟩) 8 c) ∧ (b' 2 = true → vs 2 = .int .i64 gq) ∧ (b' 3 = true → vs 3 = .slice (some ⟨bk, ofs, none⟩) n c) ∧ (b' 4 = true → vs 4 = .slice (some ⟨bk, ofs + 8, none⟩) 1 (c - 8)) ∧ (b' 5 = true → vs 5 = .int .i64 kd) ∧ (b' 6 = true → vs 6 = .slice (some ⟨bk, ofs, none⟩) n c) ∧ (b' 7 = true → vs 7 = .slice (some ⟨bk, ofs + 9, none⟩) 4 (c - 9)) ∧ (b' 8 = true → vs 8 = .int .i64 sq) ∧ (b' 9 = true → vs 9 = .slice (some ⟨bk, ofs, none⟩) n c) ∧ (b' 10 = true → vs 10 = .slice (some ⟨bk, ofs + 13, none⟩) 4 (c - 13)) ∧ (b' 11 = true → vs 11 = .int .i64 lq) ∧ (b' 12 = true → vs 12 = hdV ⟨gq, kd, sq, lq⟩) ∧ (b' 13 = true → vs 13 = .pointer (some ⟨S, 0, none⟩)) ∧ (Hid (Below S w0 w')) ∧ (b' 13 = false → Hid (w'.heap.size = S)) ∧ (b' 13 = true → b' 14 = false → Hid (Blk w' S 23 #[.int .i64 0, .int .i64 0, .int .i64 0, .int .i64 0])) ∧ (b' 14 = true → Hid (Blk w' S 23 (hdC ⟨gq, kd, sq, lq⟩))) ∧ (b' 14 = true → b' 13 = true)) ?_ ?_ ?_
  · intro vs
    exact ⟨fun h => Bool.noConfusion h, fun h => Bool.noConfusion h, fun h => Bool.noConfusion h, fun h => Bool.noConfusion h, fun h => Bool.noConfusion h, fun h => Bool.noConfusion h, fun h => Bool.noConfusion h, fun h => Bool.noConfusion h, fun h => Bool.noConfusion h, fun h => Bool.noConfusion h, fun h => Bool.noConfusion h, fun h => Bool.noConfusion h, fun h => Bool.noConfusion h, fun h => Bool.noConfusion h, below_drewN (Below.refl _ _) 1, fun _ => HS.out.1, fun h => Bool.noConfusion h, fun h => Bool.noConfusion h, fun h => Bool.noConfusion h⟩
  · rintro b' vs w' i op hi hun hall ⟨h0, h1, h2, h3, h4, h5, h6, h7, h8, h9, h10, h11, h12, h13, hB, hZ, hF, hG, hE⟩
    have hil : i < 15 := (List.getElem?_eq_some_iff.1 hi).1
    rcases i with _ | _ | _ | _ | _ | _ | _ | _ | _ | _ | _ | _ | _ | _ | _ | i
    · obtain rfl := Option.some.inj hi
      clear hi hil
      refine wpOp_step rfl (fun K hK => ?_)
      have HKK := Lib.hid hK; clear hK
      simp only [putAll, Act.put, List.setIfInBounds_toArray, List.set_cons_zero, List.set_cons_succ]
      go_simp
      exact HKK.out _ _ ⟨_, by simp only [putAll, Act.put, List.setIfInBounds_toArray, List.set_cons_zero, List.set_cons_succ] <;> rfl, fun _ => rfl, h1, h2, h3, h4, h5, h6, h7, h8, h9, h10, h11, h12, h13, hB, hZ, hF, hG, hE⟩
    · obtain rfl := Option.some.inj hi
      clear hi hil
      have d0 := h0 (hall ⟨0, .data⟩ (by simp) rfl)
      have s1 : (8 : Int) ≤ (c : Int) := by have := HB.out; omega
      have s2 : ¬ c = 0 := by have := HB.out; omega
      refine wpOp_step rfl (fun K hK => ?_)
      have HKK := Lib.hid hK; clear hK
      simp only [putAll, Act.put, List.setIfInBounds_toArray, List.set_cons_zero, List.set_cons_succ]
      go_simp
      exact HKK.out _ _ ⟨_, by simp only [putAll, Act.put, List.setIfInBounds_toArray, List.set_cons_zero, List.set_cons_succ, d0] <;> rfl, h0, fun _ => rfl, h2, h3, h4, h5, h6, h7, h8, h9, h10, h11, h12, h13, hB, hZ, hF, hG, hE⟩
    · obtain rfl := Option.some.inj hi
      clear hi hil
      have d1 := h1 (hall ⟨1, .data⟩ (by simp) rfl)
      have hpb : Below w.heap.size w w' := H0.out.2.trans (hB.out.mono (Nat.le_of_lt HS.out.2))
      refine wpOp_step rfl (fun K hK => ?_)
      have HKK := Lib.hid hK; clear hK
      simp only [putAll, Act.put, List.setIfInBounds_toArray, List.set_cons_zero, List.set_cons_succ]
      go_simp
      refine ((HN.out w' hpb).1).mono ?_
      rintro e w2 ⟨rfl, rfl⟩
      exact HKK.out _ _ ⟨_, by simp only [putAll, Act.put, List.setIfInBounds_toArray, List.set_cons_zero, List.set_cons_succ, d1] <;> rfl, h0, h1, fun _ => rfl, h3, h4, h5, h6, h7, h8, h9, h10, h11, h12, h13, hB, hZ, hF, hG, hE⟩
    · obtain rfl := Option.some.inj hi
      clear hi hil
      refine wpOp_step rfl (fun K hK => ?_)
      have HKK := Lib.hid hK; clear hK
      simp only [putAll, Act.put, List.setIfInBounds_toArray, List.set_cons_zero, List.set_cons_succ]
      go_simp
      exact HKK.out _ _ ⟨_, by simp only [putAll, Act.put, List.setIfInBounds_toArray, List.set_cons_zero, List.set_cons_succ] <;> rfl, h0, h1, h2, fun _ => rfl, h4, h5, h6, h7, h8, h9, h10, h11, h12, h13, hB, hZ, hF, hG, hE⟩
    · obtain rfl := Option.some.inj hi
      clear hi hil
      have d3 := h3 (hall ⟨3, .data⟩ (by simp) rfl)
      have s1 : (9 : Int) ≤ (c : Int) := by have := HB.out; omega
      have s2 : ¬ c = 8 := by have := HB.out; omega
      have s0 : (8 : Int) ≤ 9 := by decide
      refine wpOp_step rfl (fun K hK => ?_)
      have HKK := Lib.hid hK; clear hK
      simp only [putAll, Act.put, List.setIfInBounds_toArray, List.set_cons_zero, List.set_cons_succ]
      go_simp
      exact HKK.out _ _ ⟨_, by simp only [putAll, Act.put, List.setIfInBounds_toArray, List.set_cons_zero, List.set_cons_succ, d3] <;> rfl, h0, h1, h2, h3, fun _ => rfl, h5, h6, h7, h8, h9, h10, h11, h12, h13, hB, hZ, hF, hG, hE⟩
    · obtain rfl := Option.some.inj hi
      clear hi hil
      have d4 := h4 (hall ⟨4, .data⟩ (by simp) rfl)
      have hpb : Below w.heap.size w w' := H0.out.2.trans (hB.out.mono (Nat.le_of_lt HS.out.2))
      refine wpOp_step rfl (fun K hK => ?_)
      have HKK := Lib.hid hK; clear hK
      simp only [putAll, Act.put, List.setIfInBounds_toArray, List.set_cons_zero, List.set_cons_succ]
      go_simp
      refine ((HN.out w' hpb).2.1).mono ?_
      rintro e w2 ⟨rfl, rfl⟩
      exact HKK.out _ _ ⟨_, by simp only [putAll, Act.put, List.setIfInBounds_toArray, List.set_cons_zero, List.set_cons_succ, d4] <;> rfl, h0, h1, h2, h3, h4, fun _ => rfl, h6, h7, h8, h9, h10, h11, h12, h13, hB, hZ, hF, hG, hE⟩
    · obtain rfl := Option.some.inj hi
      clear hi hil
      refine wpOp_step rfl (fun K hK => ?_)
      have HKK := Lib.hid hK; clear hK
      simp only [putAll, Act.put, List.setIfInBounds_toArray, List.set_cons_zero, List.set_cons_succ]
      go_simp
      exact HKK.out _ _ ⟨_, by simp only [putAll, Act.put, List.setIfInBounds_toArray, List.set_cons_zero, List.set_cons_succ] <;> rfl, h0, h1, h2, h3, h4, h5, fun _ => rfl, h7, h8, h9, h10, h11, h12, h13, hB, hZ, hF, hG, hE⟩
    · obtain rfl := Option.some.inj hi
      clear hi hil
      have d6 := h6 (hall ⟨6, .data⟩ (by simp) rfl)
      have s1 : (13 : Int) ≤ (c : Int) := by have := HB.out; omega
      have s2 : ¬ c = 9 := by have := HB.out; omega
      have s0 : (9 : Int) ≤ 13 := by decide
      refine wpOp_step rfl (fun K hK => ?_)
      have HKK := Lib.hid hK; clear hK
      simp only [putAll, Act.put, List.setIfInBounds_toArray, List.set_cons_zero, List.set_cons_succ]
      go_simp
      exact HKK.out _ _ ⟨_, by simp only [putAll, Act.put, List.setIfInBounds_toArray, List.set_cons_zero, List.set_cons_succ, d6] <;> rfl, h0, h1, h2, h3, h4, h5, h6, fun _ => rfl, h8, h9, h10, h11, h12, h13, hB, hZ, hF, hG, hE⟩
    · obtain rfl := Option.some.inj hi
      clear hi hil
      have d7 := h7 (hall ⟨7, .data⟩ (by simp) rfl)
      have hpb : Below w.heap.size w w' := H0.out.2.trans (hB.out.mono (Nat.le_of_lt HS.out.2))
      refine wpOp_step rfl (fun K hK => ?_)
      have HKK := Lib.hid hK; clear hK
      simp only [putAll, Act.put, List.setIfInBounds_toArray, List.set_cons_zero, List.set_cons_succ]
      go_simp
      refine ((HN.out w' hpb).2.2.1).mono ?_
      rintro e w2 ⟨rfl, rfl⟩
      exact HKK.out _ _ ⟨_, by simp only [putAll, Act.put, List.setIfInBounds_toArray, List.set_cons_zero, List.set_cons_succ, d7] <;> rfl, h0, h1, h2, h3, h4, h5, h6, h7, fun _ => rfl, h9, h10, h11, h12, h13, hB, hZ, hF, hG, hE⟩
    · obtain rfl := Option.some.inj hi
      clear hi hil
      refine wpOp_step rfl (fun K hK => ?_)
      have HKK := Lib.hid hK; clear hK
      simp only [putAll, Act.put, List.setIfInBounds_toArray, List.set_cons_zero, List.set_cons_succ]
      go_simp
      exact HKK.out _ _ ⟨_, by simp only [putAll, Act.put, List.setIfInBounds_toArray, List.set_cons_zero, List.set_cons_succ] <;> rfl, h0, h1, h2, h3, h4, h5, h6, h7, h8, fun _ => rfl, h10, h11, h12, h13, hB, hZ, hF, hG, hE⟩
    · obtain rfl := Option.some.inj hi
      clear hi hil
      have d9 := h9 (hall ⟨9, .data⟩ (by simp) rfl)
      have s1 : (17 : Int) ≤ (c : Int) := by have := HB.out; omega
      have s2 : ¬ c = 13 := by have := HB.out; omega
      have s0 : (13 : Int) ≤ 17 := by decide
      refine wpOp_step rfl (fun K hK => ?_)
      have HKK := Lib.hid hK; clear hK
      simp only [putAll, Act.put, List.setIfInBounds_toArray, List.set_cons_zero, List.set_cons_succ]
      go_simp
      exact HKK.out _ _ ⟨_, by simp only [putAll, Act.put, List.setIfInBounds_toArray, List.set_cons_zero, List.set_cons_succ, d9] <;> rfl, h0, h1, h2, h3, h4, h5, h6, h7, h8, h9, fun _ => rfl, h11, h12, h13, hB, hZ, hF, hG, hE⟩
    · obtain rfl := Option.some.inj hi
      clear hi hil
      have d10 := h10 (hall ⟨10, .data⟩ (by simp) rfl)
      have hpb : Below w.heap.size w w' := H0.out.2.trans (hB.out.mono (Nat.le_of_lt HS.out.2))
      refine wpOp_step rfl (fun K hK => ?_)
      have HKK := Lib.hid hK; clear hK
      simp only [putAll, Act.put, List.setIfInBounds_toArray, List.set_cons_zero, List.set_cons_succ]
      go_simp
      refine ((HN.out w' hpb).2.2.2).mono ?_
      rintro e w2 ⟨rfl, rfl⟩
      exact HKK.out _ _ ⟨_, by simp only [putAll, Act.put, List.setIfInBounds_toArray, List.set_cons_zero, List.set_cons_succ, d10] <;> rfl, h0, h1, h2, h3, h4, h5, h6, h7, h8, h9, h10, fun _ => rfl, h12, h13, hB, hZ, hF, hG, hE⟩
    · obtain rfl := Option.some.inj hi
      clear hi hil
      have d2 := h2 (hall ⟨2, .data⟩ (by simp) rfl)
      have d5 := h5 (hall ⟨5, .data⟩ (by simp) rfl)
      have d8 := h8 (hall ⟨8, .data⟩ (by simp) rfl)
      have d11 := h11 (hall ⟨11, .data⟩ (by simp) rfl)
      refine wpOp_step rfl (fun K hK => ?_)
      have HKK := Lib.hid hK; clear hK
      simp only [putAll, Act.put, List.setIfInBounds_toArray, List.set_cons_zero, List.set_cons_succ]
      go_simp
      exact HKK.out _ _ ⟨_, by simp only [putAll, Act.put, List.setIfInBounds_toArray, List.set_cons_zero, List.set_cons_succ, d2, d5, d8, d11] <;> rfl, h0, h1, h2, h3, h4, h5, h6, h7, h8, h9, h10, h11, fun _ => rfl, h13, hB, hZ, hF, hG, hE⟩
    · obtain rfl := Option.some.inj hi
      clear hi hil
      have hsz := (hZ hun).out
      refine wpOp_step rfl (fun K hK => ?_)
      have HKK := Lib.hid hK; clear hK
      simp only [putAll, Act.put, List.setIfInBounds_toArray, List.set_cons_zero, List.set_cons_succ]
      go_simp
      exact HKK.out _ _ ⟨_, by simp only [putAll, Act.put, List.setIfInBounds_toArray, List.set_cons_zero, List.set_cons_succ] <;> rfl, h0, h1, h2, h3, h4, h5, h6, h7, h8, h9, h10, h11, h12, fun _ => rfl, hB.out.alloc (by omega) _, fun h => Bool.noConfusion h, fun _ _ => Blk.newAt _ _ _ hsz, fun h => absurd (hE h) (by rw [hun]; decide), fun _ => rfl⟩
    · obtain rfl := Option.some.inj hi
      clear hi hil
      have d12 := h12 (hall ⟨12, .data⟩ (by simp) rfl)
      have d13 := h13 (hall ⟨13, .data⟩ (by simp) rfl)
      have hS := (hF (hall ⟨13, .data⟩ (by simp) rfl) hun).out
      have c0 : w'.cell? ⟨S, 0, none⟩ = some (.int .i64 0) := hS.cell 0
      have c1 : w'.cell? ⟨S, 1, none⟩ = some (.int .i64 0) := hS.cell 1
      have c2 : w'.cell? ⟨S, 2, none⟩ = some (.int .i64 0) := hS.cell 2
      have c3 : w'.cell? ⟨S, 3, none⟩ = some (.int .i64 0) := hS.cell 3
      have f0 := hS.free 0
      have f1 := hS.free 1
      have f2 := hS.free 2
      have f3 := hS.free 3
      have hlt := hS.lt
      refine wpOp_step rfl (fun K hK => ?_)
      have HKK := Lib.hid hK; clear hK
      simp only [putAll, Act.put, List.setIfInBounds_toArray, List.set_cons_zero, List.set_cons_succ]
      go_simp
      exact HKK.out _ _ ⟨undef, by simp only [putAll, Act.put, List.setIfInBounds_toArray, List.set_cons_zero, List.set_cons_succ, d12, d13] <;> rfl, h0, h1, h2, h3, h4, h5, h6, h7, h8, h9, h10, h11, h12, h13, below_hd4 hB.out (Nat.le_refl _) _ _ _ _, fun h => absurd (hall ⟨13, .data⟩ (by simp) rfl) (by have h' : b' 13 = false := h; rw [h']; decide), fun _ h => Bool.noConfusion h, fun _ => Lib.hid (set4_blk hS _ _ _ _), fun _ => hall ⟨13, .data⟩ (by simp) rfl⟩
    · omega
  · rintro b' vs wq hall ⟨h0, h1, h2, h3, h4, h5, h6, h7, h8, h9, h10, h11, h12, h13, hB, hZ, hF, hG, hE⟩
    have d0 := h0 (hall 0 (by simp))
    have d1 := h1 (hall 1 (by simp))
    have d2 := h2 (hall 2 (by simp))
    have d3 := h3 (hall 3 (by simp))
    have d4 := h4 (hall 4 (by simp))
    have d5 := h5 (hall 5 (by simp))
    have d6 := h6 (hall 6 (by simp))
    have d7 := h7 (hall 7 (by simp))
    have d8 := h8 (hall 8 (by simp))
    have d9 := h9 (hall 9 (by simp))
    have d10 := h10 (hall 10 (by simp))
    have d11 := h11 (hall 11 (by simp))
    have d12 := h12 (hall 12 (by simp))
    have d13 := h13 (hall 13 (by simp))
    have HW : Hid (Blk wq S 23 (hdC ⟨gq, kd, sq, lq⟩) ∧ Blk wq w.heap.size 23 #[.int .i64 0, .int .i64 0, .int .i64 0, .int .i64 0] ∧ Below w.heap.size w wq) := ⟨(hG (hall 14 (by simp))).out, H0.out.1.on hB.out HS.out.2, H0.out.2.trans (hB.out.mono (Nat.le_of_lt HS.out.2))⟩
    simp only [putAll, Act.put, List.setIfInBounds_toArray, List.set_cons_zero, List.set_cons_succ, d0, d1, d2, d3, d4, d5, d6, d7, d8, d9, d10, d11, d12, d13]
    clear hall h0 d0 h1 d1 h2 d2 h3 d3 h4 d4 h5 d5 h6 d6 h7 d7 h8 d8 h9 d9 h10 d10 h11 d11 h12 d12 h13 d13 hB hZ hF hG hE HN H0
    generalize vs 14 = v14
    have HUS := fun W => used_c ⟨gq, kd, sq, lq⟩ W (by have := HI.out.2.2.1; dsimp only; omega) (by have := HI.out.2.2.2; dsimp only; omega)
    have HEC := fun W => encode_c ⟨gq, kd, sq, lq⟩ (n : Int) W ⟨HI.out.1, by have := HI.out.2.1; unfold rngI; dsimp only; omega, by have := HI.out.2.2.1; unfold rngI; dsimp only; omega, by have := HI.out.2.2.2; unfold rngI; dsimp only; omega⟩ (by have := HB.out; omega) (by have := HB.out; unfold rngI; omega)
    have HUS := Lib.hid HUS
    have HEC := Lib.hid HEC
    have HX := HW
    by_cases k0 : gq < 1
    · have e0 : decide (gq < 1) = true := by simpa using k0
      have HFR : Hid (res = none) := by rw [Hid, ← HRES.out]; exact if_neg (fun h => by have := h.1; omega)
      clear k0
      have c10 : wq.cell? ⟨S, 0, none⟩ = some (.int .i64 gq) := HX.out.1.cell 0
      have c11 : wq.cell? ⟨S, 1, none⟩ = some (.int .i64 kd) := HX.out.1.cell 1
      have c12 : wq.cell? ⟨S, 2, none⟩ = some (.int .i64 sq) := HX.out.1.cell 2
      have c13 : wq.cell? ⟨S, 3, none⟩ = some (.int .i64 lq) := HX.out.1.cell 3
      have c0 : wq.cell? ⟨w.heap.size, 0, none⟩ = some (.int .i64 0) := HX.out.2.1.cell 0
      have c1 : wq.cell? ⟨w.heap.size, 1, none⟩ = some (.int .i64 0) := HX.out.2.1.cell 1
      have c2 : wq.cell? ⟨w.heap.size, 2, none⟩ = some (.int .i64 0) := HX.out.2.1.cell 2
      have c3 : wq.cell? ⟨w.heap.size, 3, none⟩ = some (.int .i64 0) := HX.out.2.1.cell 3
      have f0 := HX.out.2.1.free 0
      have f1 := HX.out.2.1.free 1
      have f2 := HX.out.2.1.free 2
      have f3 := HX.out.2.1.free 3
      have hlt := HX.out.2.1.lt
      go_wp2_with fail
      rw [HFR.out]
      exact bodyPost_ret (results_hs (h := zeroHd) rfl rfl rfl (set4_blk HX.out.2.1 _ _ _ _)) rfl ⟨rfl, below_hd4 HX.out.2.2 (Nat.le_refl _) _ _ _ _⟩
    have e0 : decide (gq < 1) = false := by simpa using k0
    by_cases k1 : cap < sq + lq
    · have e1 : decide (sq + lq > cap) = true := by simpa using k1
      have e1' : decide (cap < sq + lq) = true := by simpa using k1
      have HFR : Hid (res = none) := by rw [Hid, ← HRES.out]; exact if_neg (fun h => by have := h.2.1; omega)
      clear k0 k1
      have c10 : wq.cell? ⟨S, 0, none⟩ = some (.int .i64 gq) := HX.out.1.cell 0
      have c11 : wq.cell? ⟨S, 1, none⟩ = some (.int .i64 kd) := HX.out.1.cell 1
      have c12 : wq.cell? ⟨S, 2, none⟩ = some (.int .i64 sq) := HX.out.1.cell 2
      have c13 : wq.cell? ⟨S, 3, none⟩ = some (.int .i64 lq) := HX.out.1.cell 3
      have c0 : wq.cell? ⟨w.heap.size, 0, none⟩ = some (.int .i64 0) := HX.out.2.1.cell 0
      have c1 : wq.cell? ⟨w.heap.size, 1, none⟩ = some (.int .i64 0) := HX.out.2.1.cell 1
      have c2 : wq.cell? ⟨w.heap.size, 2, none⟩ = some (.int .i64 0) := HX.out.2.1.cell 2
      have c3 : wq.cell? ⟨w.heap.size, 3, none⟩ = some (.int .i64 0) := HX.out.2.1.cell 3
      have f0 := HX.out.2.1.free 0
      have f1 := HX.out.2.1.free 1
      have f2 := HX.out.2.1.free 2
      have f3 := HX.out.2.1.free 3
      have hlt := HX.out.2.1.lt
      go_wp2_with fail
      refine (HUS.out _).mono ?_
      rintro e w2 ⟨rfl, hb⟩
      have HX2 : Hid (Blk w2 S 23 (hdC ⟨gq, kd, sq, lq⟩) ∧ Blk w2 w.heap.size 23 #[.int .i64 0, .int .i64 0, .int .i64 0, .int .i64 0] ∧ Below w.heap.size w w2) := ⟨HX.out.1.grow hb, HX.out.2.1.grow hb, HX.out.2.2.trans (hb.mono HX.out.2.2.size)⟩
      clear c10 c11 c12 c13 c0 c1 c2 c3 f0 f1 f2 f3 hlt hb
      clear HX
      have HX := HX2
      clear HX2
      have c10 : w2.cell? ⟨S, 0, none⟩ = some (.int .i64 gq) := HX.out.1.cell 0
      have c11 : w2.cell? ⟨S, 1, none⟩ = some (.int .i64 kd) := HX.out.1.cell 1
      have c12 : w2.cell? ⟨S, 2, none⟩ = some (.int .i64 sq) := HX.out.1.cell 2
      have c13 : w2.cell? ⟨S, 3, none⟩ = some (.int .i64 lq) := HX.out.1.cell 3
      have c0 : w2.cell? ⟨w.heap.size, 0, none⟩ = some (.int .i64 0) := HX.out.2.1.cell 0
      have c1 : w2.cell? ⟨w.heap.size, 1, none⟩ = some (.int .i64 0) := HX.out.2.1.cell 1
      have c2 : w2.cell? ⟨w.heap.size, 2, none⟩ = some (.int .i64 0) := HX.out.2.1.cell 2
      have c3 : w2.cell? ⟨w.heap.size, 3, none⟩ = some (.int .i64 0) := HX.out.2.1.cell 3
      have f0 := HX.out.2.1.free 0
      have f1 := HX.out.2.1.free 1
      have f2 := HX.out.2.1.free 2
      have f3 := HX.out.2.1.free 3
      have hlt := HX.out.2.1.lt
      go_wp2_with fail
      rw [HFR.out]
      exact bodyPost_ret (results_hs (h := zeroHd) rfl rfl rfl (set4_blk HX.out.2.1 _ _ _ _)) rfl ⟨rfl, below_hd4 HX.out.2.2 (Nat.le_refl _) _ _ _ _⟩
    have e1 : decide (sq + lq > cap) = false := by simpa using k1
    have e1' : decide (cap < sq + lq) = false := by simpa using k1
    obtain ⟨F, hF⟩ : ∃ F, encI ⟨gq, kd, sq, lq⟩ (n : Int) = F := ⟨_, rfl⟩
    rw [hF] at HEC
    have HF := Lib.hid hF
    have HFO : Hid (OkB F) := by
      show OkB F
      rw [← hF]
      unfold encI
      split
      · exact hdrB_ok ⟨HI.out.2.1.1, HI.out.2.1.2⟩
      · intro x hx
        cases hx
    have hk01 : 1 ≤ gq ∧ sq + lq ≤ cap := ⟨by omega, by omega⟩
    have HK := Lib.hid hk01
    clear k0 k1 hF hk01
    have c10 : wq.cell? ⟨S, 0, none⟩ = some (.int .i64 gq) := HX.out.1.cell 0
    have c11 : wq.cell? ⟨S, 1, none⟩ = some (.int .i64 kd) := HX.out.1.cell 1
    have c12 : wq.cell? ⟨S, 2, none⟩ = some (.int .i64 sq) := HX.out.1.cell 2
    have c13 : wq.cell? ⟨S, 3, none⟩ = some (.int .i64 lq) := HX.out.1.cell 3
    have c0 : wq.cell? ⟨w.heap.size, 0, none⟩ = some (.int .i64 0) := HX.out.2.1.cell 0
    have c1 : wq.cell? ⟨w.heap.size, 1, none⟩ = some (.int .i64 0) := HX.out.2.1.cell 1
    have c2 : wq.cell? ⟨w.heap.size, 2, none⟩ = some (.int .i64 0) := HX.out.2.1.cell 2
    have c3 : wq.cell? ⟨w.heap.size, 3, none⟩ = some (.int .i64 0) := HX.out.2.1.cell 3
    have f0 := HX.out.2.1.free 0
    have f1 := HX.out.2.1.free 1
    have f2 := HX.out.2.1.free 2
    have f3 := HX.out.2.1.free 3
    have hlt := HX.out.2.1.lt
    go_wp2_with fail
    refine (HUS.out _).mono ?_
    rintro e w2 ⟨rfl, hb⟩
    have HX2 : Hid (Blk w2 S 23 (hdC ⟨gq, kd, sq, lq⟩) ∧ Blk w2 w.heap.size 23 #[.int .i64 0, .int .i64 0, .int .i64 0, .int .i64 0] ∧ Below w.heap.size w w2) := ⟨HX.out.1.grow hb, HX.out.2.1.grow hb, HX.out.2.2.trans (hb.mono HX.out.2.2.size)⟩
    clear c10 c11 c12 c13 c0 c1 c2 c3 f0 f1 f2 f3 hlt hb
    clear HX
    have HX := HX2
    clear HX2
    have c10 : w2.cell? ⟨S, 0, none⟩ = some (.int .i64 gq) := HX.out.1.cell 0
    have c11 : w2.cell? ⟨S, 1, none⟩ = some (.int .i64 kd) := HX.out.1.cell 1
    have c12 : w2.cell? ⟨S, 2, none⟩ = some (.int .i64 sq) := HX.out.1.cell 2
    have c13 : w2.cell? ⟨S, 3, none⟩ = some (.int .i64 lq) := HX.out.1.cell 3
    have c0 : w2.cell? ⟨w.heap.size, 0, none⟩ = some (.int .i64 0) := HX.out.2.1.cell 0
    have c1 : w2.cell? ⟨w.heap.size, 1, none⟩ = some (.int .i64 0) := HX.out.2.1.cell 1
    have c2 : w2.cell? ⟨w.heap.size, 2, none⟩ = some (.int .i64 0) := HX.out.2.1.cell 2
    have c3 : w2.cell? ⟨w.heap.size, 3, none⟩ = some (.int .i64 0) := HX.out.2.1.cell 3
    have f0 := HX.out.2.1.free 0
    have f1 := HX.out.2.1.free 1
    have f2 := HX.out.2.1.free 2
    have f3 := HX.out.2.1.free 3
    have hlt := HX.out.2.1.lt
    go_wp2_with fail
    refine (HEC.out _).mono ?_
    rintro e w3 ⟨v3, rfl, ho3, hb3⟩
    have HX2 : Hid (Blk w3 S 23 (hdC ⟨gq, kd, sq, lq⟩) ∧ Blk w3 w.heap.size 23 #[.int .i64 0, .int .i64 0, .int .i64 0, .int .i64 0] ∧ Below w.heap.size w w3) := ⟨HX.out.1.grow hb3, HX.out.2.1.grow hb3, HX.out.2.2.trans (hb3.mono HX.out.2.2.size)⟩
    have HEQ := Lib.hid (bytesEqual_c _ _ B F w3 (HCUT.out w3 HX2.out.2.2).2.2.2.2 ho3.row HB.out.1 HFO.out)
    clear c10 c11 c12 c13 c0 c1 c2 c3 f0 f1 f2 f3 hlt hb3 ho3
    clear HX
    have HX := HX2
    clear HX2
    have c10 : w3.cell? ⟨S, 0, none⟩ = some (.int .i64 gq) := HX.out.1.cell 0
    have c11 : w3.cell? ⟨S, 1, none⟩ = some (.int .i64 kd) := HX.out.1.cell 1
    have c12 : w3.cell? ⟨S, 2, none⟩ = some (.int .i64 sq) := HX.out.1.cell 2
    have c13 : w3.cell? ⟨S, 3, none⟩ = some (.int .i64 lq) := HX.out.1.cell 3
    have c0 : w3.cell? ⟨w.heap.size, 0, none⟩ = some (.int .i64 0) := HX.out.2.1.cell 0
    have c1 : w3.cell? ⟨w.heap.size, 1, none⟩ = some (.int .i64 0) := HX.out.2.1.cell 1
    have c2 : w3.cell? ⟨w.heap.size, 2, none⟩ = some (.int .i64 0) := HX.out.2.1.cell 2
    have c3 : w3.cell? ⟨w.heap.size, 3, none⟩ = some (.int .i64 0) := HX.out.2.1.cell 3
    have f0 := HX.out.2.1.free 0
    have f1 := HX.out.2.1.free 1
    have f2 := HX.out.2.1.free 2
    have f3 := HX.out.2.1.free 3
    have hlt := HX.out.2.1.lt
    by_cases hT : B = F
    · have HRR : Hid (res = some ⟨gq, kd, sq, lq⟩) := by rw [Hid, ← HRES.out]; exact if_pos ⟨HK.out.1, HK.out.2, hT.trans HF.out.symm⟩
      have hT' : decide (B = F) = true := decide_eq_true hT
      rw [hT'] at HEQ
      clear hT hT'
      go_wp2_with fail
      refine (HEQ.out).mono ?_
      rintro e w4 ⟨rfl, rfl⟩
      go_wp2_with fail
      rw [HRR.out]
      exact bodyPost_ret (results_hs (h := ⟨gq, kd, sq, lq⟩) rfl rfl rfl (set4_blk HX.out.2.1 _ _ _ _)) rfl ⟨rfl, below_hd4 HX.out.2.2 (Nat.le_refl _) _ _ _ _⟩
    have HFR : Hid (res = none) := by rw [Hid, ← HRES.out]; exact if_neg (fun h => hT (h.2.2.trans HF.out))
    have hT' : decide (B = F) = false := decide_eq_false hT
    rw [hT'] at HEQ
    clear hT hT'
    go_wp2_with fail
    refine (HEQ.out).mono ?_
    rintro e w4 ⟨rfl, rfl⟩
    go_wp2_with fail
    rw [HFR.out]
    exact bodyPost_ret (results_hs (h := zeroHd) rfl rfl rfl (set4_blk HX.out.2.1 _ _ _ _)) rfl ⟨rfl, below_hd4 HX.out.2.2 (Nat.le_refl _) _ _ _ _⟩
end Go.Proofs.Ytdcjchakgfpgaaa
