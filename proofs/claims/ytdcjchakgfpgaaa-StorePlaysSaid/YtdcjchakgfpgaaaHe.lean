/- Layer 14: the document's Decode. -/
import Derived.Test.YtdcjchakgfpgaaaHd
import Derived.Test.YtdcjchakgfpgaaaBb
namespace Go.Proofs.Ytdcjchakgfpgaaa
open Go.RowKit
abbrev hdV (h : Hd) : Value := .agg #[.int .i64 h.gen, .int .i64 h.half, .int .i64 h.snap, .int .i64 h.log]
abbrev hdC (h : Hd) : Array Value := #[.int .i64 h.gen, .int .i64 h.half, .int .i64 h.snap, .int .i64 h.log]
def zeroHd : Hd := ⟨0, 0, 0, 0⟩
/-- What is told of the header that bytes are. -/
abbrev DecV (o : Option Hd) : Value := .tuple #[hdV (o.getD zeroHd), .bool o.isSome]
theorem Blk.hd4 {w : World} {g : Nat} {a b c d : Value} (h : Blk w g 33 #[a, b, c, d]) (x y z t : Value) : Blk ((((w.setCell ⟨g, 0, none⟩ x).setCell ⟨g, 1, none⟩ y).setCell ⟨g, 2, none⟩ z).setCell ⟨g, 3, none⟩ t) g 33 #[x, y, z, t] := (((h.set 0 x).set 1 y).set 2 z).set 3 t
theorem below_hd4 {B : Nat} {w w' : World} {g : Nat} (h : Below B w w') (hg : B ≤ g) (x y z t : Value) : Below B w ((((w'.setCell ⟨g, 0, none⟩ x).setCell ⟨g, 1, none⟩ y).setCell ⟨g, 2, none⟩ z).setCell ⟨g, 3, none⟩ t) := (((h.setCell hg _).setCell hg _).setCell hg _).setCell hg _
theorem results_hd {fn : Func} {tmps : Array Value} {W : World} {g : Nat} {h : Hd} {b : Bool} (hres : fn.results = #[.cell 4 33, .tmp 5]) (hg : tmps[4]? = some (.pointer (some ⟨g, 0, none⟩))) (h3 : tmps[5]? = some (.bool b)) (hb : Blk W g 33 (hdC h)) :
    (results fn tmps).run Try.prog W = .ok (.tuple #[hdV h, .bool b]) W := by
  have c0 : W.cell? ⟨g, 0, none⟩ = some (.int .i64 h.gen) := hb.cell 0
  have c1 : W.cell? ⟨g, 1, none⟩ = some (.int .i64 h.half) := hb.cell 1
  have c2 : W.cell? ⟨g, 2, none⟩ = some (.int .i64 h.snap) := hb.cell 2
  have c3 : W.cell? ⟨g, 3, none⟩ = some (.int .i64 h.log) := hb.cell 3
  simp [results, hres, hg, h3, go_sem, c0, c1, c2, c3]
/-- The numbers where a header's stand, as the document reads them. -/
def rawN (B : List Int) : Hd := ⟨numH (cutL B 0 8), bAt B 8, numH (cutL B 9 4), numH (cutL B 13 4)⟩
theorem numH_4 {B : List Int} (hB : OkB B) {i : Nat} (h : i + 4 ≤ B.length) : numH (cutL B i 4) = wordL (cutL B i 4) ∧ 0 ≤ wordL (cutL B i 4) ∧ wordL (cutL B i 4) ≤ 4294967295 := by
  have k := wordL_in (cutL B i 4) (cutL_ok hB i 4)
  rw [cutL_len h] at k
  have e : (256 : Int) ^ 4 = 4294967296 := by decide
  unfold numH
  rw [if_pos (by omega)]
  omega
theorem numH_in {B : List Int} (hB : OkB B) : -1 ≤ numH B ∧ numH B ≤ 9223372036854775807 := by
  have k := wordL_in B hB
  unfold numH
  split <;> omega
theorem decN {B : List Int} (hB : OkB B) (cap : Int) : decI B cap = if 32 ≤ B.length ∧ okHd (rawN B) cap ∧ hdrB (rawN B) B.length = B then some (rawN B) else none := by
  unfold decI
  by_cases h32 : 32 ≤ B.length
  · have e1 := (numH_4 hB (i := 9) (by omega)).1
    have e2 := (numH_4 hB (i := 13) (by omega)).1
    by_cases hg : wordL (cutL B 0 8) ≤ 9223372036854775807
    · have e : rawN B = rawHd B := by
        unfold rawN rawHd
        rw [e1, e2]
        unfold numH
        rw [if_pos hg]
      rw [e]
    · have n1 : ¬ okHd (rawHd B) cap := fun h => hg h.2.1
      have n2 : ¬ okHd (rawN B) cap := fun h => by
        have := h.1
        unfold rawN numH at this
        rw [if_neg hg] at this
        have h2 : (1 : Int) ≤ -1 := this
        omega
      rw [if_neg (fun h => n1 h.2.1), if_neg (fun h => n2 h.2.1)]
  · rw [if_neg (fun h => h32 h.1), if_neg (fun h => h32 h.1)]
set_option maxHeartbeats 8000000 in
set_option maxRecDepth 100000 in
theorem decode_c (s : Value) (B : List Int) (cap : Int) (w : World) (row : RowB w s B) (hB : OkB B) (hcap : CapS s) (hl : B.length ≤ 60000) (hc : -9223372036854775808 ≤ cap ∧ cap ≤ 9223372036854775807) : Calls Try.prog 11 #[s, .int .i64 cap] w fun e w' => e = .returned (DecV (decI B cap)) ∧ Below w.heap.size w w' := by
  rw [decN hB]
  obtain ⟨ao, c, rfl⟩ := row.shape
  obtain ⟨n, hn⟩ : ∃ n, B.length = n := ⟨_, rfl⟩
  have hnc : n ≤ c := by rw [← hn]; exact hcap _ _ _ rfl
  rw [hn] at row ⊢
  obtain ⟨w0, hw0⟩ : ∃ x, x = w.alloc (.cells #[.int .i64 0, .int .i64 0, .int .i64 0, .int .i64 0] 33) := ⟨_, rfl⟩
  have H0 : Hid (Blk w0 w.heap.size 33 #[.int .i64 0, .int .i64 0, .int .i64 0, .int .i64 0] ∧ Below w.heap.size w w0) := by
    subst hw0
    exact ⟨Blk.new _ _ _, (Below.refl _ _).alloc (Nat.le_refl _) _⟩
  have c0 : w0.cell? ⟨w.heap.size, 0, none⟩ = some (.int .i64 0) := H0.out.1.cell 0
  have c1 : w0.cell? ⟨w.heap.size, 1, none⟩ = some (.int .i64 0) := H0.out.1.cell 1
  have c2 : w0.cell? ⟨w.heap.size, 2, none⟩ = some (.int .i64 0) := H0.out.1.cell 2
  have c3 : w0.cell? ⟨w.heap.size, 3, none⟩ = some (.int .i64 0) := H0.out.1.cell 3
  have f0 := H0.out.1.free 0
  have f1 := H0.out.1.free 1
  have f2 := H0.out.1.free 2
  have f3 := H0.out.1.free 3
  have hlt := H0.out.1.lt
  by_cases h32 : n < 32
  · rw [if_neg (by omega)]
    have d1 : decide ((n : Int) < 32) = true := by simp; omega
    have d1' : decide (n < 32) = true := by simp; omega
    clear row hB hcap hl hnc hn h32
    go_enter Try.func11, Try.ntmps11
    go_upto_region 1 with fail
    rw [← hw0]
    clear hw0
    go_wp2_with fail
    exact bodyPost_ret (results_hd (h := zeroHd) rfl rfl rfl (H0.out.1.hd4 _ _ _ _)) rfl ⟨rfl, below_hd4 H0.out.2 (Nat.le_refl _) _ _ _ _⟩
  obtain ⟨bk, ofs, rfl, hbk, _⟩ := row.addr (by omega)
  have HR := Lib.hid row
  have HB : Hid (OkB B ∧ B.length = n ∧ 32 ≤ n ∧ n ≤ c ∧ n ≤ 60000) := ⟨hB, hn, by omega, hnc, by omega⟩
  have HC := Lib.hid hc
  have d1 : decide ((n : Int) < 32) = false := by simp; omega
  have d1' : decide (n < 32) = false := by simp; omega
  have gi := numH_in (cutL_ok hB 0 8)
  have si := numH_4 hB (i := 9) (by omega)
  have li := numH_4 hB (i := 13) (by omega)
  have hb8 := bAt_some (E := B) (k := 8) (by omega)
  have hkr := hB _ (List.mem_of_getElem? hb8)
  have HRAW : Hid (rawN B = ⟨numH (cutL B 0 8), bAt B 8, numH (cutL B 9 4), numH (cutL B 13 4)⟩) := rfl
  obtain ⟨gq, hgq⟩ : ∃ q, numH (cutL B 0 8) = q := ⟨_, rfl⟩
  obtain ⟨kd, hkd⟩ : ∃ q, bAt B 8 = q := ⟨_, rfl⟩
  obtain ⟨sq, hsq⟩ : ∃ q, numH (cutL B 9 4) = q := ⟨_, rfl⟩
  obtain ⟨lq, hlq⟩ : ∃ q, numH (cutL B 13 4) = q := ⟨_, rfl⟩
  rw [← si.1, hsq] at si
  rw [← li.1, hlq] at li
  rw [hgq] at gi
  rw [hkd] at hb8 hkr
  rw [hgq, hkd, hsq, hlq] at HRAW
  rw [HRAW.out]
  have uk : IntKind.i64.wrap kd = kd := (wrap_is _).trans (wrapR _ (by omega) (by omega))
  have HI : Hid ((-1 ≤ gq ∧ gq ≤ 9223372036854775807) ∧ (0 ≤ kd ∧ kd ≤ 255) ∧ (0 ≤ sq ∧ sq ≤ 4294967295) ∧ (0 ≤ lq ∧ lq ≤ 4294967295)) := ⟨gi, hkr, ⟨by omega, by omega⟩, by omega, by omega⟩
  obtain ⟨res, hres⟩ : ∃ r, (if 32 ≤ n ∧ okHd ⟨gq, kd, sq, lq⟩ cap ∧ hdrB ⟨gq, kd, sq, lq⟩ n = B then some (⟨gq, kd, sq, lq⟩ : Hd) else none) = r := ⟨_, rfl⟩
  have HRES := Lib.hid hres
  rw [hres]
  have HCUT : Hid (∀ W, Below w.heap.size w W → RowB W (.slice (some ⟨bk, ofs, none⟩) 8 c) (cutL B 0 8) ∧ RowB W (.slice (some ⟨bk, ofs + 9, none⟩) 4 (c - 9)) (cutL B 9 4) ∧ RowB W (.slice (some ⟨bk, ofs + 13, none⟩) 4 (c - 13)) (cutL B 13 4) ∧ W.cell? ⟨bk, ofs + 8, none⟩ = some (.int .u8 kd)) := fun W hW => by
    have hrw := HR.out.on hW
    refine ⟨?_, RowB.cut hrw hn (at0 := 9) (k := 4) (by omega) (by omega), RowB.cut hrw hn (at0 := 13) (k := 4) (by omega) (by omega), ?_⟩
    · have key := RowB.cut hrw hn (at0 := 0) (k := 8) (by omega) (by omega)
      rw [Nat.add_zero, Nat.sub_zero] at key
      exact key
    · obtain ⟨b', o', e', _, hc⟩ := hrw.addr (by omega)
      cases e'
      exact hc 8 _ hb8
  have HN : Hid (∀ W, Below w.heap.size w W → (Calls Try.prog 32 #[.slice (some ⟨bk, ofs, none⟩) 8 c] W fun e w' => e = .returned (.int .i64 gq) ∧ W = w') ∧ (Calls Try.prog 32 #[.slice (some ⟨bk, ofs + 9, none⟩) 4 (c - 9)] W fun e w' => e = .returned (.int .i64 sq) ∧ W = w') ∧ (Calls Try.prog 32 #[.slice (some ⟨bk, ofs + 13, none⟩) 4 (c - 13)] W fun e w' => e = .returned (.int .i64 lq) ∧ W = w')) := fun W hW => by
    have r := HCUT.out W hW
    refine ⟨?_, ?_, ?_⟩
    · have key := number_c _ _ W r.1 (cutL_ok hB 0 8) (by rw [cutL_len (by omega)]; omega)
      rw [hgq] at key
      exact key
    · have key := number_c _ _ W r.2.1 (cutL_ok hB 9 4) (by rw [cutL_len (by omega)]; omega)
      rw [hsq] at key
      exact key
    · have key := number_c _ _ W r.2.2.1 (cutL_ok hB 13 4) (by rw [cutL_len (by omega)]; omega)
      rw [hlq] at key
      exact key
  clear row hB hcap hl h32 hbk hnc hn hc gi si li hb8 hkr hgq hkd hsq hlq hres HRAW c0 c1 c2 c3 f0 f1 f2 f3 hlt
  go_enter Try.func11, Try.ntmps11
  go_upto_region 1 with fail
  rw [← hw0]
  clear hw0
  go_upto_region 3 with fail
  obtain ⟨S, hS⟩ : ∃ S, w0.heap.size = S := ⟨_, rfl⟩
  have HS : Hid (w0.heap.size = S ∧ w.heap.size < S) := ⟨hS, by have := H0.out.1.lt; omega⟩
  clear hS d1 d1'
  refine wp_region_put (by kernel_rfl) (by kernel_rfl) (by kernel_rfl) (fun b' vs w' => (b' 0 = true → vs 0 = .slice (some ⟨bk, ofs, none⟩) n c) ∧ (b' 1 = true → vs 1 = .slice (some ⟨bk, ofs, none⟩) 8 c) ∧ (b' 2 = true → vs 2 = .int .i64 gq) ∧ (b' 3 = true → vs 3 = .slice (some ⟨bk, ofs, none⟩) n c) ∧ (b' 4 = true → vs 4 = .pointer (some ⟨bk, ofs + 8, none⟩)) ∧ (b' 5 = true → vs 5 = .int .u8 kd) ∧ (b' 6 = true → vs 6 = .int .i64 kd) ∧ (b' 7 = true → vs 7 = .slice (some ⟨bk, ofs, none⟩) n c) ∧ (b' 8 = true → vs 8 = .slice (some ⟨bk, ofs + 9, none⟩) 4 (c - 9)) ∧ (b' 9 = true → vs 9 = .int .i64 sq) ∧ (b' 10 = true → vs 10 = .slice (some ⟨bk, ofs, none⟩) n c) ∧ (b' 11 = true → vs 11 = .slice (some ⟨bk, ofs + 13, none⟩) 4 (c - 13)) ∧ (b' 12 = true → vs 12 = .int .i64 lq) ∧ (b' 13 = true → vs 13 = hdV ⟨gq, kd, sq, lq⟩) ∧ (b' 14 = true → vs 14 = .pointer (some ⟨S, 0, none⟩)) ∧ (Hid (Below S w0 w')) ∧ (b' 14 = false → Hid (w'.heap.size = S)) ∧ (b' 14 = true → b' 15 = false → Hid (Blk w' S 33 #[.int .i64 0, .int .i64 0, .int .i64 0, .int .i64 0])) ∧ (b' 15 = true → Hid (Blk w' S 33 (hdC ⟨gq, kd, sq, lq⟩))) ∧ (b' 15 = true → b' 14 = true)) ?_ ?_ ?_
  · intro vs
    exact ⟨fun h => Bool.noConfusion h, fun h => Bool.noConfusion h, fun h => Bool.noConfusion h, fun h => Bool.noConfusion h, fun h => Bool.noConfusion h, fun h => Bool.noConfusion h, fun h => Bool.noConfusion h, fun h => Bool.noConfusion h, fun h => Bool.noConfusion h, fun h => Bool.noConfusion h, fun h => Bool.noConfusion h, fun h => Bool.noConfusion h, fun h => Bool.noConfusion h, fun h => Bool.noConfusion h, fun h => Bool.noConfusion h, below_drewN (Below.refl _ _) 1, fun _ => HS.out.1, fun h => Bool.noConfusion h, fun h => Bool.noConfusion h, fun h => Bool.noConfusion h⟩
  · rintro b' vs w' i op hi hun hall ⟨h0, h1, h2, h3, h4, h5, h6, h7, h8, h9, h10, h11, h12, h13, h14, hB, hZ, hF, hG, hE⟩
    have hil : i < 16 := (List.getElem?_eq_some_iff.1 hi).1
    rcases i with _ | _ | _ | _ | _ | _ | _ | _ | _ | _ | _ | _ | _ | _ | _ | _ | i
    · obtain rfl := Option.some.inj hi
      clear hi hil
      refine wpOp_step rfl (fun K hK => ?_)
      have HKK := Lib.hid hK; clear hK
      simp only [putAll, Act.put, List.setIfInBounds_toArray, List.set_cons_zero, List.set_cons_succ]
      go_simp
      exact HKK.out _ _ ⟨_, by simp only [putAll, Act.put, List.setIfInBounds_toArray, List.set_cons_zero, List.set_cons_succ] <;> rfl, fun _ => rfl, h1, h2, h3, h4, h5, h6, h7, h8, h9, h10, h11, h12, h13, h14, hB, hZ, hF, hG, hE⟩
    · obtain rfl := Option.some.inj hi
      clear hi hil
      have d0 := h0 (hall ⟨0, .data⟩ (by simp) rfl)
      have s1 : (8 : Int) ≤ (c : Int) := by have := HB.out; omega
      have s2 : ¬ c = 0 := by have := HB.out; omega
      refine wpOp_step rfl (fun K hK => ?_)
      have HKK := Lib.hid hK; clear hK
      simp only [putAll, Act.put, List.setIfInBounds_toArray, List.set_cons_zero, List.set_cons_succ]
      go_simp
      exact HKK.out _ _ ⟨_, by simp only [putAll, Act.put, List.setIfInBounds_toArray, List.set_cons_zero, List.set_cons_succ, d0] <;> rfl, h0, fun _ => rfl, h2, h3, h4, h5, h6, h7, h8, h9, h10, h11, h12, h13, h14, hB, hZ, hF, hG, hE⟩
    · obtain rfl := Option.some.inj hi
      clear hi hil
      have d1 := h1 (hall ⟨1, .data⟩ (by simp) rfl)
      have hpb : Below w.heap.size w w' := H0.out.2.trans (hB.out.mono (Nat.le_of_lt HS.out.2))
      refine wpOp_step rfl (fun K hK => ?_)
      have HKK := Lib.hid hK; clear hK
      simp only [putAll, Act.put, List.setIfInBounds_toArray, List.set_cons_zero, List.set_cons_succ]
      go_simp
      refine ((HN.out w' hpb).1).mono ?_
      rintro e w2 ⟨rfl, rfl⟩
      exact HKK.out _ _ ⟨_, by simp only [putAll, Act.put, List.setIfInBounds_toArray, List.set_cons_zero, List.set_cons_succ, d1] <;> rfl, h0, h1, fun _ => rfl, h3, h4, h5, h6, h7, h8, h9, h10, h11, h12, h13, h14, hB, hZ, hF, hG, hE⟩
    · obtain rfl := Option.some.inj hi
      clear hi hil
      refine wpOp_step rfl (fun K hK => ?_)
      have HKK := Lib.hid hK; clear hK
      simp only [putAll, Act.put, List.setIfInBounds_toArray, List.set_cons_zero, List.set_cons_succ]
      go_simp
      exact HKK.out _ _ ⟨_, by simp only [putAll, Act.put, List.setIfInBounds_toArray, List.set_cons_zero, List.set_cons_succ] <;> rfl, h0, h1, h2, fun _ => rfl, h4, h5, h6, h7, h8, h9, h10, h11, h12, h13, h14, hB, hZ, hF, hG, hE⟩
    · obtain rfl := Option.some.inj hi
      clear hi hil
      have d3 := h3 (hall ⟨3, .data⟩ (by simp) rfl)
      have s1 : (8 : Int) < (n : Int) := by have := HB.out; omega
      have s2 : 8 < n := by have := HB.out; omega
      refine wpOp_step rfl (fun K hK => ?_)
      have HKK := Lib.hid hK; clear hK
      simp only [putAll, Act.put, List.setIfInBounds_toArray, List.set_cons_zero, List.set_cons_succ]
      go_simp
      exact HKK.out _ _ ⟨_, by simp only [putAll, Act.put, List.setIfInBounds_toArray, List.set_cons_zero, List.set_cons_succ, d3] <;> rfl, h0, h1, h2, h3, fun _ => rfl, h5, h6, h7, h8, h9, h10, h11, h12, h13, h14, hB, hZ, hF, hG, hE⟩
    · obtain rfl := Option.some.inj hi
      clear hi hil
      have d4 := h4 (hall ⟨4, .data⟩ (by simp) rfl)
      have hpb : Below w.heap.size w w' := H0.out.2.trans (hB.out.mono (Nat.le_of_lt HS.out.2))
      have c8 := (HCUT.out w' hpb).2.2.2
      refine wpOp_step rfl (fun K hK => ?_)
      have HKK := Lib.hid hK; clear hK
      simp only [putAll, Act.put, List.setIfInBounds_toArray, List.set_cons_zero, List.set_cons_succ]
      go_simp
      exact HKK.out _ _ ⟨_, by simp only [putAll, Act.put, List.setIfInBounds_toArray, List.set_cons_zero, List.set_cons_succ, d4] <;> rfl, h0, h1, h2, h3, h4, fun _ => rfl, h6, h7, h8, h9, h10, h11, h12, h13, h14, hB, hZ, hF, hG, hE⟩
    · obtain rfl := Option.some.inj hi
      clear hi hil
      have d5 := h5 (hall ⟨5, .data⟩ (by simp) rfl)
      refine wpOp_step rfl (fun K hK => ?_)
      have HKK := Lib.hid hK; clear hK
      simp only [putAll, Act.put, List.setIfInBounds_toArray, List.set_cons_zero, List.set_cons_succ]
      go_simp
      exact HKK.out _ _ ⟨_, by simp only [putAll, Act.put, List.setIfInBounds_toArray, List.set_cons_zero, List.set_cons_succ, d5] <;> rfl, h0, h1, h2, h3, h4, h5, fun _ => rfl, h7, h8, h9, h10, h11, h12, h13, h14, hB, hZ, hF, hG, hE⟩
    · obtain rfl := Option.some.inj hi
      clear hi hil
      refine wpOp_step rfl (fun K hK => ?_)
      have HKK := Lib.hid hK; clear hK
      simp only [putAll, Act.put, List.setIfInBounds_toArray, List.set_cons_zero, List.set_cons_succ]
      go_simp
      exact HKK.out _ _ ⟨_, by simp only [putAll, Act.put, List.setIfInBounds_toArray, List.set_cons_zero, List.set_cons_succ] <;> rfl, h0, h1, h2, h3, h4, h5, h6, fun _ => rfl, h8, h9, h10, h11, h12, h13, h14, hB, hZ, hF, hG, hE⟩
    · obtain rfl := Option.some.inj hi
      clear hi hil
      have d7 := h7 (hall ⟨7, .data⟩ (by simp) rfl)
      have s1 : (13 : Int) ≤ (c : Int) := by have := HB.out; omega
      have s2 : ¬ c = 9 := by have := HB.out; omega
      have s0 : (9 : Int) ≤ 13 := by decide
      refine wpOp_step rfl (fun K hK => ?_)
      have HKK := Lib.hid hK; clear hK
      simp only [putAll, Act.put, List.setIfInBounds_toArray, List.set_cons_zero, List.set_cons_succ]
      go_simp
      exact HKK.out _ _ ⟨_, by simp only [putAll, Act.put, List.setIfInBounds_toArray, List.set_cons_zero, List.set_cons_succ, d7] <;> rfl, h0, h1, h2, h3, h4, h5, h6, h7, fun _ => rfl, h9, h10, h11, h12, h13, h14, hB, hZ, hF, hG, hE⟩
    · obtain rfl := Option.some.inj hi
      clear hi hil
      have d8 := h8 (hall ⟨8, .data⟩ (by simp) rfl)
      have hpb : Below w.heap.size w w' := H0.out.2.trans (hB.out.mono (Nat.le_of_lt HS.out.2))
      refine wpOp_step rfl (fun K hK => ?_)
      have HKK := Lib.hid hK; clear hK
      simp only [putAll, Act.put, List.setIfInBounds_toArray, List.set_cons_zero, List.set_cons_succ]
      go_simp
      refine ((HN.out w' hpb).2.1).mono ?_
      rintro e w2 ⟨rfl, rfl⟩
      exact HKK.out _ _ ⟨_, by simp only [putAll, Act.put, List.setIfInBounds_toArray, List.set_cons_zero, List.set_cons_succ, d8] <;> rfl, h0, h1, h2, h3, h4, h5, h6, h7, h8, fun _ => rfl, h10, h11, h12, h13, h14, hB, hZ, hF, hG, hE⟩
    · obtain rfl := Option.some.inj hi
      clear hi hil
      refine wpOp_step rfl (fun K hK => ?_)
      have HKK := Lib.hid hK; clear hK
      simp only [putAll, Act.put, List.setIfInBounds_toArray, List.set_cons_zero, List.set_cons_succ]
      go_simp
      exact HKK.out _ _ ⟨_, by simp only [putAll, Act.put, List.setIfInBounds_toArray, List.set_cons_zero, List.set_cons_succ] <;> rfl, h0, h1, h2, h3, h4, h5, h6, h7, h8, h9, fun _ => rfl, h11, h12, h13, h14, hB, hZ, hF, hG, hE⟩
    · obtain rfl := Option.some.inj hi
      clear hi hil
      have d10 := h10 (hall ⟨10, .data⟩ (by simp) rfl)
      have s1 : (17 : Int) ≤ (c : Int) := by have := HB.out; omega
      have s2 : ¬ c = 13 := by have := HB.out; omega
      have s0 : (13 : Int) ≤ 17 := by decide
      refine wpOp_step rfl (fun K hK => ?_)
      have HKK := Lib.hid hK; clear hK
      simp only [putAll, Act.put, List.setIfInBounds_toArray, List.set_cons_zero, List.set_cons_succ]
      go_simp
      exact HKK.out _ _ ⟨_, by simp only [putAll, Act.put, List.setIfInBounds_toArray, List.set_cons_zero, List.set_cons_succ, d10] <;> rfl, h0, h1, h2, h3, h4, h5, h6, h7, h8, h9, h10, fun _ => rfl, h12, h13, h14, hB, hZ, hF, hG, hE⟩
    · obtain rfl := Option.some.inj hi
      clear hi hil
      have d11 := h11 (hall ⟨11, .data⟩ (by simp) rfl)
      have hpb : Below w.heap.size w w' := H0.out.2.trans (hB.out.mono (Nat.le_of_lt HS.out.2))
      refine wpOp_step rfl (fun K hK => ?_)
      have HKK := Lib.hid hK; clear hK
      simp only [putAll, Act.put, List.setIfInBounds_toArray, List.set_cons_zero, List.set_cons_succ]
      go_simp
      refine ((HN.out w' hpb).2.2).mono ?_
      rintro e w2 ⟨rfl, rfl⟩
      exact HKK.out _ _ ⟨_, by simp only [putAll, Act.put, List.setIfInBounds_toArray, List.set_cons_zero, List.set_cons_succ, d11] <;> rfl, h0, h1, h2, h3, h4, h5, h6, h7, h8, h9, h10, h11, fun _ => rfl, h13, h14, hB, hZ, hF, hG, hE⟩
    · obtain rfl := Option.some.inj hi
      clear hi hil
      have d2 := h2 (hall ⟨2, .data⟩ (by simp) rfl)
      have d6 := h6 (hall ⟨6, .data⟩ (by simp) rfl)
      have d9 := h9 (hall ⟨9, .data⟩ (by simp) rfl)
      have d12 := h12 (hall ⟨12, .data⟩ (by simp) rfl)
      refine wpOp_step rfl (fun K hK => ?_)
      have HKK := Lib.hid hK; clear hK
      simp only [putAll, Act.put, List.setIfInBounds_toArray, List.set_cons_zero, List.set_cons_succ]
      go_simp
      exact HKK.out _ _ ⟨_, by simp only [putAll, Act.put, List.setIfInBounds_toArray, List.set_cons_zero, List.set_cons_succ, d2, d6, d9, d12] <;> rfl, h0, h1, h2, h3, h4, h5, h6, h7, h8, h9, h10, h11, h12, fun _ => rfl, h14, hB, hZ, hF, hG, hE⟩
    · obtain rfl := Option.some.inj hi
      clear hi hil
      have hsz := (hZ hun).out
      refine wpOp_step rfl (fun K hK => ?_)
      have HKK := Lib.hid hK; clear hK
      simp only [putAll, Act.put, List.setIfInBounds_toArray, List.set_cons_zero, List.set_cons_succ]
      go_simp
      exact HKK.out _ _ ⟨_, by simp only [putAll, Act.put, List.setIfInBounds_toArray, List.set_cons_zero, List.set_cons_succ] <;> rfl, h0, h1, h2, h3, h4, h5, h6, h7, h8, h9, h10, h11, h12, h13, fun _ => rfl, hB.out.alloc (by omega) _, fun h => Bool.noConfusion h, fun _ _ => Blk.newAt _ _ _ hsz, fun h => absurd (hE h) (by rw [hun]; decide), fun _ => rfl⟩
    · obtain rfl := Option.some.inj hi
      clear hi hil
      have d13 := h13 (hall ⟨13, .data⟩ (by simp) rfl)
      have d14 := h14 (hall ⟨14, .data⟩ (by simp) rfl)
      have hS := (hF (hall ⟨14, .data⟩ (by simp) rfl) hun).out
      have c0 : w'.cell? ⟨S, 0, none⟩ = some (.int .i64 0) := hS.cell 0
      have c1 : w'.cell? ⟨S, 1, none⟩ = some (.int .i64 0) := hS.cell 1
      have c2 : w'.cell? ⟨S, 2, none⟩ = some (.int .i64 0) := hS.cell 2
      have c3 : w'.cell? ⟨S, 3, none⟩ = some (.int .i64 0) := hS.cell 3
      have f0 := hS.free 0
      have f1 := hS.free 1
      have f2 := hS.free 2
      have f3 := hS.free 3
      have hlt := hS.lt
      refine wpOp_step rfl (fun K hK => ?_)
      have HKK := Lib.hid hK; clear hK
      simp only [putAll, Act.put, List.setIfInBounds_toArray, List.set_cons_zero, List.set_cons_succ]
      go_simp
      exact HKK.out _ _ ⟨undef, by simp only [putAll, Act.put, List.setIfInBounds_toArray, List.set_cons_zero, List.set_cons_succ, d13, d14] <;> rfl, h0, h1, h2, h3, h4, h5, h6, h7, h8, h9, h10, h11, h12, h13, h14, below_hd4 hB.out (Nat.le_refl _) _ _ _ _, fun h => absurd (hall ⟨14, .data⟩ (by simp) rfl) (by rw [show b' 14 = false from h]; decide), fun _ h => Bool.noConfusion h, fun _ => Lib.hid (hS.hd4 _ _ _ _), fun _ => hall ⟨14, .data⟩ (by simp) rfl⟩
    · omega
  · rintro b' vs wq hall ⟨h0, h1, h2, h3, h4, h5, h6, h7, h8, h9, h10, h11, h12, h13, h14, hB, hZ, hF, hG, hE⟩
    have d0 := h0 (hall 0 (by simp))
    have d1 := h1 (hall 1 (by simp))
    have d2 := h2 (hall 2 (by simp))
    have d3 := h3 (hall 3 (by simp))
    have d4 := h4 (hall 4 (by simp))
    have d5 := h5 (hall 5 (by simp))
    have d6 := h6 (hall 6 (by simp))
    have d7 := h7 (hall 7 (by simp))
    have d8 := h8 (hall 8 (by simp))
    have d9 := h9 (hall 9 (by simp))
    have d10 := h10 (hall 10 (by simp))
    have d11 := h11 (hall 11 (by simp))
    have d12 := h12 (hall 12 (by simp))
    have d13 := h13 (hall 13 (by simp))
    have d14 := h14 (hall 14 (by simp))
    have HW : Hid (Blk wq S 33 (hdC ⟨gq, kd, sq, lq⟩) ∧ Blk wq w.heap.size 33 #[.int .i64 0, .int .i64 0, .int .i64 0, .int .i64 0] ∧ Below w.heap.size w wq) := ⟨(hG (hall 15 (by simp))).out, H0.out.1.on hB.out HS.out.2, H0.out.2.trans (hB.out.mono (Nat.le_of_lt HS.out.2))⟩
    simp only [putAll, Act.put, List.setIfInBounds_toArray, List.set_cons_zero, List.set_cons_succ, d0, d1, d2, d3, d4, d5, d6, d7, d8, d9, d10, d11, d12, d13, d14]
    clear hall h0 d0 h1 d1 h2 d2 h3 d3 h4 d4 h5 d5 h6 d6 h7 d7 h8 d8 h9 d9 h10 d10 h11 d11 h12 d12 h13 d13 h14 d14 hB hZ hF hG hE HN H0
    generalize vs 15 = v15
    have c10 : wq.cell? ⟨S, 0, none⟩ = some (.int .i64 gq) := HW.out.1.cell 0
    have c11 : wq.cell? ⟨S, 1, none⟩ = some (.int .i64 kd) := HW.out.1.cell 1
    have c12 : wq.cell? ⟨S, 2, none⟩ = some (.int .i64 sq) := HW.out.1.cell 2
    have c13 : wq.cell? ⟨S, 3, none⟩ = some (.int .i64 lq) := HW.out.1.cell 3
    have lt10 := HW.out.1.lt
    have c0 : wq.cell? ⟨w.heap.size, 0, none⟩ = some (.int .i64 0) := HW.out.2.1.cell 0
    have c1 : wq.cell? ⟨w.heap.size, 1, none⟩ = some (.int .i64 0) := HW.out.2.1.cell 1
    have c2 : wq.cell? ⟨w.heap.size, 2, none⟩ = some (.int .i64 0) := HW.out.2.1.cell 2
    have c3 : wq.cell? ⟨w.heap.size, 3, none⟩ = some (.int .i64 0) := HW.out.2.1.cell 3
    have f0 := HW.out.2.1.free 0
    have f1 := HW.out.2.1.free 1
    have f2 := HW.out.2.1.free 2
    have f3 := HW.out.2.1.free 3
    have hlt := HW.out.2.1.lt
    have hI := HI.out
    have hC := HC.out
    by_cases k0 : gq < 1
    · have e0 : decide (gq < 1) = true := by simp; omega
      have e0' : decide (gq < 1) = true := by simp; omega
      have HFR : Hid (res = none) := by rw [Hid, ← HRES.out]; exact if_neg (fun h => by have := h.2.1; unfold okHd at this; dsimp only at this; omega)
      clear hI hC k0
      go_wp2_with fail
      rw [HFR.out]
      exact bodyPost_ret (results_hd (h := zeroHd) rfl rfl rfl (HW.out.2.1.hd4 _ _ _ _)) rfl ⟨rfl, below_hd4 HW.out.2.2 (Nat.le_refl _) _ _ _ _⟩
    have e0 : decide (gq < 1) = false := by simp; omega
    have e0' : decide (gq < 1) = false := by simp; omega
    by_cases k1 : 1 < kd
    · have e1 : decide (kd > 1) = true := by simp; omega
      have e1' : decide (1 < kd) = true := by simp; omega
      have HFR : Hid (res = none) := by rw [Hid, ← HRES.out]; exact if_neg (fun h => by have := h.2.1; unfold okHd at this; dsimp only at this; omega)
      clear hI hC k0 k1
      go_wp2_with fail
      rw [HFR.out]
      exact bodyPost_ret (results_hd (h := zeroHd) rfl rfl rfl (HW.out.2.1.hd4 _ _ _ _)) rfl ⟨rfl, below_hd4 HW.out.2.2 (Nat.le_refl _) _ _ _ _⟩
    have e1 : decide (kd > 1) = false := by simp; omega
    have e1' : decide (1 < kd) = false := by simp; omega
    by_cases k2 : 2147483648 < sq
    · have e2 : decide (sq > 2147483648) = true := by simp; omega
      have e2' : decide (2147483648 < sq) = true := by simp; omega
      have HFR : Hid (res = none) := by rw [Hid, ← HRES.out]; exact if_neg (fun h => by have := h.2.1; unfold okHd at this; dsimp only at this; omega)
      clear hI hC k0 k1 k2
      go_wp2_with fail
      rw [HFR.out]
      exact bodyPost_ret (results_hd (h := zeroHd) rfl rfl rfl (HW.out.2.1.hd4 _ _ _ _)) rfl ⟨rfl, below_hd4 HW.out.2.2 (Nat.le_refl _) _ _ _ _⟩
    have e2 : decide (sq > 2147483648) = false := by simp; omega
    have e2' : decide (2147483648 < sq) = false := by simp; omega
    by_cases k3 : 2147483648 < lq
    · have e3 : decide (lq > 2147483648) = true := by simp; omega
      have e3' : decide (2147483648 < lq) = true := by simp; omega
      have HFR : Hid (res = none) := by rw [Hid, ← HRES.out]; exact if_neg (fun h => by have := h.2.1; unfold okHd at this; dsimp only at this; omega)
      clear hI hC k0 k1 k2 k3
      go_wp2_with fail
      rw [HFR.out]
      exact bodyPost_ret (results_hd (h := zeroHd) rfl rfl rfl (HW.out.2.1.hd4 _ _ _ _)) rfl ⟨rfl, below_hd4 HW.out.2.2 (Nat.le_refl _) _ _ _ _⟩
    have e3 : decide (lq > 2147483648) = false := by simp; omega
    have e3' : decide (2147483648 < lq) = false := by simp; omega
    by_cases k4 : cap < sq
    · have e4 : decide (sq > cap) = true := by simp; omega
      have e4' : decide (cap < sq) = true := by simp; omega
      have HFR : Hid (res = none) := by rw [Hid, ← HRES.out]; exact if_neg (fun h => by have := h.2.1; unfold okHd at this; dsimp only at this; omega)
      clear hI hC k0 k1 k2 k3 k4
      go_wp2_with fail
      rw [HFR.out]
      exact bodyPost_ret (results_hd (h := zeroHd) rfl rfl rfl (HW.out.2.1.hd4 _ _ _ _)) rfl ⟨rfl, below_hd4 HW.out.2.2 (Nat.le_refl _) _ _ _ _⟩
    have e4 : decide (sq > cap) = false := by simp; omega
    have e4' : decide (cap < sq) = false := by simp; omega
    have hws : wrap64 (cap - sq) = cap - sq := wrapR _ (by omega) (by omega)
    by_cases k5 : cap - sq < lq
    · have e5 : decide (lq > cap - sq) = true := by simp; omega
      have e5' : decide (cap - sq < lq) = true := by simp; omega
      have HFR : Hid (res = none) := by rw [Hid, ← HRES.out]; exact if_neg (fun h => by have := h.2.1; unfold okHd at this; dsimp only at this; omega)
      clear hI hC k0 k1 k2 k3 k4 k5
      go_wp2_with fail
      rw [HFR.out]
      exact bodyPost_ret (results_hd (h := zeroHd) rfl rfl rfl (HW.out.2.1.hd4 _ _ _ _)) rfl ⟨rfl, below_hd4 HW.out.2.2 (Nat.le_refl _) _ _ _ _⟩
    have e5 : decide (lq > cap - sq) = false := by simp; omega
    have e5' : decide (cap - sq < lq) = false := by simp; omega
    have HOK : Hid (okHd ⟨gq, kd, sq, lq⟩ cap) := by unfold okHd Hid; dsimp only; omega
    clear hI hC k0 k1 k2 k3 k4 k5
    go_upto_region 6 with fail
    clear e0 e1 e2 e3 e4 e5 e0' e1' e2' e3' e4' e5' hws
    obtain ⟨F, hF⟩ : ∃ F, hdrB ⟨gq, kd, sq, lq⟩ n = F := ⟨_, rfl⟩
    have HF := Lib.hid hF
    have HFO : Hid (OkB F ∧ F.length = n) := ⟨by rw [← hF]; exact hdrB_ok HI.out.2.1, by rw [← hF]; exact hdrB_len (by have := HB.out; omega)⟩
    have HHC : Hid (∀ W, Below wq.heap.size wq W → Calls Try.prog 9 #[.int .i64 gq, .int .i64 kd, .int .i64 sq, .int .i64 lq, .int .i64 (n : Int)] W fun e w' => ∃ v, e = .returned v ∧ OwnB w' W.heap.size v F ∧ Below W.heap.size W w') := fun W hW => by
      have key := refHeader_c ⟨gq, kd, sq, lq⟩ n W (by have := HOK.out.1; have := HOK.out.2.1; dsimp only at *; omega) HI.out.2.1 (by have := HI.out; dsimp only; omega) (by have := HI.out; dsimp only; omega) (by have := HB.out; omega)
      rw [HF.out] at key
      exact key
    have HRB : Hid (∀ W, Below wq.heap.size wq W → RowB W (.slice (some ⟨bk, ofs, none⟩) n c) B) := fun W hW => HR.out.on (HW.out.2.2.trans (hW.mono HW.out.2.2.size))
    have HKW : Hid (∀ W, Below wq.heap.size wq W → Blk W S 33 (hdC ⟨gq, kd, sq, lq⟩)) := fun W hW => HW.out.1.grow hW
    obtain ⟨s1, hs1⟩ : ∃ s, strI F = s := ⟨_, rfl⟩
    have HS1 := Lib.hid hs1
    obtain ⟨s2, hs2⟩ : ∃ s, strI B = s := ⟨_, rfl⟩
    have HS2 := Lib.hid hs2
    clear hs1 hs2 hF c0 c1 c2 c3 c10 c11 c12 c13 f0 f1 f2 f3 hlt lt10
    by_cases hT : F = B
    · have HRR : Hid (res = some ⟨gq, kd, sq, lq⟩) := by rw [Hid, ← HRES.out]; exact if_pos ⟨HB.out.2.2.1, HOK.out, HF.out.trans hT⟩
      have HBQ : Hid ((s1.toList == s2.toList) = true) := Lib.hid (by rw [← HS1.out, ← HS2.out, strI_beq HFO.out.1 HB.out.1]; exact decide_eq_true hT)
      clear hT
      refine wp_region_put (by kernel_rfl) (by kernel_rfl) (by kernel_rfl) (fun b' vs w' => (b' 0 = true → vs 0 = .pointer (some ⟨S, 0, none⟩)) ∧ (b' 1 = true → vs 1 = .int .i64 gq) ∧ (b' 2 = true → vs 2 = .pointer (some ⟨S, 1, none⟩)) ∧ (b' 3 = true → vs 3 = .int .i64 kd) ∧ (b' 4 = true → vs 4 = .pointer (some ⟨S, 2, none⟩)) ∧ (b' 5 = true → vs 5 = .int .i64 sq) ∧ (b' 6 = true → vs 6 = .pointer (some ⟨S, 3, none⟩)) ∧ (b' 7 = true → vs 7 = .int .i64 lq) ∧ (b' 8 = true → vs 8 = .slice (some ⟨bk, ofs, none⟩) n c) ∧ (b' 9 = true → vs 9 = .int .i64 (n : Int)) ∧ (b' 11 = true → vs 11 = .string s1) ∧ (b' 12 = true → vs 12 = .slice (some ⟨bk, ofs, none⟩) n c) ∧ (b' 13 = true → vs 13 = .string s2) ∧ (b' 14 = true → vs 14 = .bool false) ∧ (b' 10 = true → Hid (RowB w' (vs 10) F)) ∧ (Hid (Below wq.heap.size wq w'))) ?_ ?_ ?_
      · intro vs
        exact ⟨fun h => Bool.noConfusion h, fun h => Bool.noConfusion h, fun h => Bool.noConfusion h, fun h => Bool.noConfusion h, fun h => Bool.noConfusion h, fun h => Bool.noConfusion h, fun h => Bool.noConfusion h, fun h => Bool.noConfusion h, fun h => Bool.noConfusion h, fun h => Bool.noConfusion h, fun h => Bool.noConfusion h, fun h => Bool.noConfusion h, fun h => Bool.noConfusion h, fun h => Bool.noConfusion h, fun h => Bool.noConfusion h, below_drewN (Below.refl _ _) 1⟩
      · rintro b' vs w' i op hi hun hall ⟨h0, h1, h2, h3, h4, h5, h6, h7, h8, h9, h11, h12, h13, h14, y10, hB⟩
        have hil : i < 15 := (List.getElem?_eq_some_iff.1 hi).1
        rcases i with _ | _ | _ | _ | _ | _ | _ | _ | _ | _ | _ | _ | _ | _ | _ | i
        · obtain rfl := Option.some.inj hi
          clear hi hil
          refine wpOp_step rfl (fun K hK => ?_)
          have HKK := Lib.hid hK; clear hK
          simp only [putAll, Act.put, List.setIfInBounds_toArray, List.set_cons_zero, List.set_cons_succ]
          go_simp
          exact HKK.out _ _ ⟨_, by simp only [putAll, Act.put, List.setIfInBounds_toArray, List.set_cons_zero, List.set_cons_succ] <;> rfl, fun _ => rfl, h1, h2, h3, h4, h5, h6, h7, h8, h9, h11, h12, h13, h14, y10, hB⟩
        · obtain rfl := Option.some.inj hi
          clear hi hil
          have d0 := h0 (hall ⟨0, .data⟩ (by simp) rfl)
          have cc : w'.cell? ⟨S, 0, none⟩ = some (.int .i64 gq) := (HKW.out w' hB.out).cell 0
          refine wpOp_step rfl (fun K hK => ?_)
          have HKK := Lib.hid hK; clear hK
          simp only [putAll, Act.put, List.setIfInBounds_toArray, List.set_cons_zero, List.set_cons_succ]
          go_simp
          exact HKK.out _ _ ⟨_, by simp only [putAll, Act.put, List.setIfInBounds_toArray, List.set_cons_zero, List.set_cons_succ, d0] <;> rfl, h0, fun _ => rfl, h2, h3, h4, h5, h6, h7, h8, h9, h11, h12, h13, h14, y10, hB⟩
        · obtain rfl := Option.some.inj hi
          clear hi hil
          refine wpOp_step rfl (fun K hK => ?_)
          have HKK := Lib.hid hK; clear hK
          simp only [putAll, Act.put, List.setIfInBounds_toArray, List.set_cons_zero, List.set_cons_succ]
          go_simp
          exact HKK.out _ _ ⟨_, by simp only [putAll, Act.put, List.setIfInBounds_toArray, List.set_cons_zero, List.set_cons_succ] <;> rfl, h0, h1, fun _ => rfl, h3, h4, h5, h6, h7, h8, h9, h11, h12, h13, h14, y10, hB⟩
        · obtain rfl := Option.some.inj hi
          clear hi hil
          have d2 := h2 (hall ⟨2, .data⟩ (by simp) rfl)
          have cc : w'.cell? ⟨S, 1, none⟩ = some (.int .i64 kd) := (HKW.out w' hB.out).cell 1
          refine wpOp_step rfl (fun K hK => ?_)
          have HKK := Lib.hid hK; clear hK
          simp only [putAll, Act.put, List.setIfInBounds_toArray, List.set_cons_zero, List.set_cons_succ]
          go_simp
          exact HKK.out _ _ ⟨_, by simp only [putAll, Act.put, List.setIfInBounds_toArray, List.set_cons_zero, List.set_cons_succ, d2] <;> rfl, h0, h1, h2, fun _ => rfl, h4, h5, h6, h7, h8, h9, h11, h12, h13, h14, y10, hB⟩
        · obtain rfl := Option.some.inj hi
          clear hi hil
          refine wpOp_step rfl (fun K hK => ?_)
          have HKK := Lib.hid hK; clear hK
          simp only [putAll, Act.put, List.setIfInBounds_toArray, List.set_cons_zero, List.set_cons_succ]
          go_simp
          exact HKK.out _ _ ⟨_, by simp only [putAll, Act.put, List.setIfInBounds_toArray, List.set_cons_zero, List.set_cons_succ] <;> rfl, h0, h1, h2, h3, fun _ => rfl, h5, h6, h7, h8, h9, h11, h12, h13, h14, y10, hB⟩
        · obtain rfl := Option.some.inj hi
          clear hi hil
          have d4 := h4 (hall ⟨4, .data⟩ (by simp) rfl)
          have cc : w'.cell? ⟨S, 2, none⟩ = some (.int .i64 sq) := (HKW.out w' hB.out).cell 2
          refine wpOp_step rfl (fun K hK => ?_)
          have HKK := Lib.hid hK; clear hK
          simp only [putAll, Act.put, List.setIfInBounds_toArray, List.set_cons_zero, List.set_cons_succ]
          go_simp
          exact HKK.out _ _ ⟨_, by simp only [putAll, Act.put, List.setIfInBounds_toArray, List.set_cons_zero, List.set_cons_succ, d4] <;> rfl, h0, h1, h2, h3, h4, fun _ => rfl, h6, h7, h8, h9, h11, h12, h13, h14, y10, hB⟩
        · obtain rfl := Option.some.inj hi
          clear hi hil
          refine wpOp_step rfl (fun K hK => ?_)
          have HKK := Lib.hid hK; clear hK
          simp only [putAll, Act.put, List.setIfInBounds_toArray, List.set_cons_zero, List.set_cons_succ]
          go_simp
          exact HKK.out _ _ ⟨_, by simp only [putAll, Act.put, List.setIfInBounds_toArray, List.set_cons_zero, List.set_cons_succ] <;> rfl, h0, h1, h2, h3, h4, h5, fun _ => rfl, h7, h8, h9, h11, h12, h13, h14, y10, hB⟩
        · obtain rfl := Option.some.inj hi
          clear hi hil
          have d6 := h6 (hall ⟨6, .data⟩ (by simp) rfl)
          have cc : w'.cell? ⟨S, 3, none⟩ = some (.int .i64 lq) := (HKW.out w' hB.out).cell 3
          refine wpOp_step rfl (fun K hK => ?_)
          have HKK := Lib.hid hK; clear hK
          simp only [putAll, Act.put, List.setIfInBounds_toArray, List.set_cons_zero, List.set_cons_succ]
          go_simp
          exact HKK.out _ _ ⟨_, by simp only [putAll, Act.put, List.setIfInBounds_toArray, List.set_cons_zero, List.set_cons_succ, d6] <;> rfl, h0, h1, h2, h3, h4, h5, h6, fun _ => rfl, h8, h9, h11, h12, h13, h14, y10, hB⟩
        · obtain rfl := Option.some.inj hi
          clear hi hil
          refine wpOp_step rfl (fun K hK => ?_)
          have HKK := Lib.hid hK; clear hK
          simp only [putAll, Act.put, List.setIfInBounds_toArray, List.set_cons_zero, List.set_cons_succ]
          go_simp
          exact HKK.out _ _ ⟨_, by simp only [putAll, Act.put, List.setIfInBounds_toArray, List.set_cons_zero, List.set_cons_succ] <;> rfl, h0, h1, h2, h3, h4, h5, h6, h7, fun _ => rfl, h9, h11, h12, h13, h14, y10, hB⟩
        · obtain rfl := Option.some.inj hi
          clear hi hil
          have d8 := h8 (hall ⟨8, .data⟩ (by simp) rfl)
          refine wpOp_step rfl (fun K hK => ?_)
          have HKK := Lib.hid hK; clear hK
          simp only [putAll, Act.put, List.setIfInBounds_toArray, List.set_cons_zero, List.set_cons_succ]
          go_simp
          exact HKK.out _ _ ⟨_, by simp only [putAll, Act.put, List.setIfInBounds_toArray, List.set_cons_zero, List.set_cons_succ, d8] <;> rfl, h0, h1, h2, h3, h4, h5, h6, h7, h8, fun _ => rfl, h11, h12, h13, h14, y10, hB⟩
        · obtain rfl := Option.some.inj hi
          clear hi hil
          have d1 := h1 (hall ⟨1, .data⟩ (by simp) rfl)
          have d3 := h3 (hall ⟨3, .data⟩ (by simp) rfl)
          have d5 := h5 (hall ⟨5, .data⟩ (by simp) rfl)
          have d7 := h7 (hall ⟨7, .data⟩ (by simp) rfl)
          have d9 := h9 (hall ⟨9, .data⟩ (by simp) rfl)
          refine wpOp_step rfl (fun K hK => ?_)
          have HKK := Lib.hid hK; clear hK
          simp only [putAll, Act.put, List.setIfInBounds_toArray, List.set_cons_zero, List.set_cons_succ]
          go_simp
          refine (HHC.out w' hB.out).mono ?_
          rintro e w2 ⟨u2, rfl, ho2, hb2⟩
          exact HKK.out _ _ ⟨_, by simp only [putAll, Act.put, List.setIfInBounds_toArray, List.set_cons_zero, List.set_cons_succ, d1, d3, d5, d7, d9] <;> rfl, h0, h1, h2, h3, h4, h5, h6, h7, h8, h9, h11, h12, h13, h14, fun _ => Lib.hid ho2.row, hB.out.trans (hb2.mono hB.out.size)⟩
        · obtain rfl := Option.some.inj hi
          clear hi hil
          have o10 := y10 (hall ⟨10, .data⟩ (by simp) rfl)
          have cv := conv_b o10.out HFO.out.1
          rw [HS1.out] at cv
          refine wpOp_step rfl (fun K hK => ?_)
          have HKK := Lib.hid hK; clear hK
          simp only [putAll, Act.put, List.setIfInBounds_toArray, List.set_cons_zero, List.set_cons_succ]
          go_simp
          exact HKK.out _ _ ⟨_, by simp only [putAll, Act.put, List.setIfInBounds_toArray, List.set_cons_zero, List.set_cons_succ] <;> rfl, h0, h1, h2, h3, h4, h5, h6, h7, h8, h9, fun _ => rfl, h12, h13, h14, y10, hB⟩
        · obtain rfl := Option.some.inj hi
          clear hi hil
          refine wpOp_step rfl (fun K hK => ?_)
          have HKK := Lib.hid hK; clear hK
          simp only [putAll, Act.put, List.setIfInBounds_toArray, List.set_cons_zero, List.set_cons_succ]
          go_simp
          exact HKK.out _ _ ⟨_, by simp only [putAll, Act.put, List.setIfInBounds_toArray, List.set_cons_zero, List.set_cons_succ] <;> rfl, h0, h1, h2, h3, h4, h5, h6, h7, h8, h9, h11, fun _ => rfl, h13, h14, y10, hB⟩
        · obtain rfl := Option.some.inj hi
          clear hi hil
          have d12 := h12 (hall ⟨12, .data⟩ (by simp) rfl)
          have cv := conv_b (HRB.out w' hB.out) HB.out.1
          rw [HS2.out] at cv
          refine wpOp_step rfl (fun K hK => ?_)
          have HKK := Lib.hid hK; clear hK
          simp only [putAll, Act.put, List.setIfInBounds_toArray, List.set_cons_zero, List.set_cons_succ]
          go_simp
          exact HKK.out _ _ ⟨_, by simp only [putAll, Act.put, List.setIfInBounds_toArray, List.set_cons_zero, List.set_cons_succ, d12] <;> rfl, h0, h1, h2, h3, h4, h5, h6, h7, h8, h9, h11, h12, fun _ => rfl, h14, y10, hB⟩
        · obtain rfl := Option.some.inj hi
          clear hi hil
          have d11 := h11 (hall ⟨11, .data⟩ (by simp) rfl)
          have d13 := h13 (hall ⟨13, .data⟩ (by simp) rfl)
          have hq1 := HBQ.out
          refine wpOp_step rfl (fun K hK => ?_)
          have HKK := Lib.hid hK; clear hK
          simp only [putAll, Act.put, List.setIfInBounds_toArray, List.set_cons_zero, List.set_cons_succ]
          go_simp
          exact HKK.out _ _ ⟨_, by simp only [putAll, Act.put, List.setIfInBounds_toArray, List.set_cons_zero, List.set_cons_succ, d11, d13] <;> rfl, h0, h1, h2, h3, h4, h5, h6, h7, h8, h9, h11, h12, h13, fun _ => rfl, y10, hB⟩
        · omega
      · rintro b' vs wz hall ⟨h0, h1, h2, h3, h4, h5, h6, h7, h8, h9, h11, h12, h13, h14, y10, hB⟩
        have d0 := h0 (hall 0 (by simp))
        have d1 := h1 (hall 1 (by simp))
        have d2 := h2 (hall 2 (by simp))
        have d3 := h3 (hall 3 (by simp))
        have d4 := h4 (hall 4 (by simp))
        have d5 := h5 (hall 5 (by simp))
        have d6 := h6 (hall 6 (by simp))
        have d7 := h7 (hall 7 (by simp))
        have d8 := h8 (hall 8 (by simp))
        have d9 := h9 (hall 9 (by simp))
        have d11 := h11 (hall 11 (by simp))
        have d12 := h12 (hall 12 (by simp))
        have d13 := h13 (hall 13 (by simp))
        have d14 := h14 (hall 14 (by simp))
        have HX : Hid (Blk wz S 33 (hdC ⟨gq, kd, sq, lq⟩) ∧ Blk wz w.heap.size 33 #[.int .i64 0, .int .i64 0, .int .i64 0, .int .i64 0] ∧ Below w.heap.size w wz) := ⟨HKW.out wz hB.out, HW.out.2.1.grow hB.out, HW.out.2.2.trans (hB.out.mono HW.out.2.2.size)⟩
        simp only [putAll, Act.put, List.setIfInBounds_toArray, List.set_cons_zero, List.set_cons_succ, d0, d1, d2, d3, d4, d5, d6, d7, d8, d9, d11, d12, d13, d14]
        clear hall y10 hB h0 d0 h1 d1 h2 d2 h3 d3 h4 d4 h5 d5 h6 d6 h7 d7 h8 d8 h9 d9 h11 d11 h12 d12 h13 d13 h14 d14
        generalize vs 10 = v10
        have c10 : wz.cell? ⟨S, 0, none⟩ = some (.int .i64 gq) := HX.out.1.cell 0
        have c11 : wz.cell? ⟨S, 1, none⟩ = some (.int .i64 kd) := HX.out.1.cell 1
        have c12 : wz.cell? ⟨S, 2, none⟩ = some (.int .i64 sq) := HX.out.1.cell 2
        have c13 : wz.cell? ⟨S, 3, none⟩ = some (.int .i64 lq) := HX.out.1.cell 3
        have lt10 := HX.out.1.lt
        have c0 : wz.cell? ⟨w.heap.size, 0, none⟩ = some (.int .i64 0) := HX.out.2.1.cell 0
        have c1 : wz.cell? ⟨w.heap.size, 1, none⟩ = some (.int .i64 0) := HX.out.2.1.cell 1
        have c2 : wz.cell? ⟨w.heap.size, 2, none⟩ = some (.int .i64 0) := HX.out.2.1.cell 2
        have c3 : wz.cell? ⟨w.heap.size, 3, none⟩ = some (.int .i64 0) := HX.out.2.1.cell 3
        have f0 := HX.out.2.1.free 0
        have f1 := HX.out.2.1.free 1
        have f2 := HX.out.2.1.free 2
        have f3 := HX.out.2.1.free 3
        have hlt := HX.out.2.1.lt
        go_wp2_with fail
        rw [HRR.out]
        exact bodyPost_ret (results_hd (h := ⟨gq, kd, sq, lq⟩) rfl rfl rfl (HX.out.2.1.hd4 _ _ _ _)) rfl ⟨rfl, below_hd4 HX.out.2.2 (Nat.le_refl _) _ _ _ _⟩
    · have HRR : Hid (res = none) := by rw [Hid, ← HRES.out]; exact if_neg (fun h => hT (HF.out.symm.trans h.2.2))
      have HBQ : Hid ((s1.toList == s2.toList) = false) := Lib.hid (by rw [← HS1.out, ← HS2.out, strI_beq HFO.out.1 HB.out.1]; exact decide_eq_false hT)
      clear hT
      refine wp_region_put (by kernel_rfl) (by kernel_rfl) (by kernel_rfl) (fun b' vs w' => (b' 0 = true → vs 0 = .pointer (some ⟨S, 0, none⟩)) ∧ (b' 1 = true → vs 1 = .int .i64 gq) ∧ (b' 2 = true → vs 2 = .pointer (some ⟨S, 1, none⟩)) ∧ (b' 3 = true → vs 3 = .int .i64 kd) ∧ (b' 4 = true → vs 4 = .pointer (some ⟨S, 2, none⟩)) ∧ (b' 5 = true → vs 5 = .int .i64 sq) ∧ (b' 6 = true → vs 6 = .pointer (some ⟨S, 3, none⟩)) ∧ (b' 7 = true → vs 7 = .int .i64 lq) ∧ (b' 8 = true → vs 8 = .slice (some ⟨bk, ofs, none⟩) n c) ∧ (b' 9 = true → vs 9 = .int .i64 (n : Int)) ∧ (b' 11 = true → vs 11 = .string s1) ∧ (b' 12 = true → vs 12 = .slice (some ⟨bk, ofs, none⟩) n c) ∧ (b' 13 = true → vs 13 = .string s2) ∧ (b' 14 = true → vs 14 = .bool true) ∧ (b' 10 = true → Hid (RowB w' (vs 10) F)) ∧ (Hid (Below wq.heap.size wq w'))) ?_ ?_ ?_
      · intro vs
        exact ⟨fun h => Bool.noConfusion h, fun h => Bool.noConfusion h, fun h => Bool.noConfusion h, fun h => Bool.noConfusion h, fun h => Bool.noConfusion h, fun h => Bool.noConfusion h, fun h => Bool.noConfusion h, fun h => Bool.noConfusion h, fun h => Bool.noConfusion h, fun h => Bool.noConfusion h, fun h => Bool.noConfusion h, fun h => Bool.noConfusion h, fun h => Bool.noConfusion h, fun h => Bool.noConfusion h, fun h => Bool.noConfusion h, below_drewN (Below.refl _ _) 1⟩
      · rintro b' vs w' i op hi hun hall ⟨h0, h1, h2, h3, h4, h5, h6, h7, h8, h9, h11, h12, h13, h14, y10, hB⟩
        have hil : i < 15 := (List.getElem?_eq_some_iff.1 hi).1
        rcases i with _ | _ | _ | _ | _ | _ | _ | _ | _ | _ | _ | _ | _ | _ | _ | i
        · obtain rfl := Option.some.inj hi
          clear hi hil
          refine wpOp_step rfl (fun K hK => ?_)
          have HKK := Lib.hid hK; clear hK
          simp only [putAll, Act.put, List.setIfInBounds_toArray, List.set_cons_zero, List.set_cons_succ]
          go_simp
          exact HKK.out _ _ ⟨_, by simp only [putAll, Act.put, List.setIfInBounds_toArray, List.set_cons_zero, List.set_cons_succ] <;> rfl, fun _ => rfl, h1, h2, h3, h4, h5, h6, h7, h8, h9, h11, h12, h13, h14, y10, hB⟩
        · obtain rfl := Option.some.inj hi
          clear hi hil
          have d0 := h0 (hall ⟨0, .data⟩ (by simp) rfl)
          have cc : w'.cell? ⟨S, 0, none⟩ = some (.int .i64 gq) := (HKW.out w' hB.out).cell 0
          refine wpOp_step rfl (fun K hK => ?_)
          have HKK := Lib.hid hK; clear hK
          simp only [putAll, Act.put, List.setIfInBounds_toArray, List.set_cons_zero, List.set_cons_succ]
          go_simp
          exact HKK.out _ _ ⟨_, by simp only [putAll, Act.put, List.setIfInBounds_toArray, List.set_cons_zero, List.set_cons_succ, d0] <;> rfl, h0, fun _ => rfl, h2, h3, h4, h5, h6, h7, h8, h9, h11, h12, h13, h14, y10, hB⟩
        · obtain rfl := Option.some.inj hi
          clear hi hil
          refine wpOp_step rfl (fun K hK => ?_)
          have HKK := Lib.hid hK; clear hK
          simp only [putAll, Act.put, List.setIfInBounds_toArray, List.set_cons_zero, List.set_cons_succ]
          go_simp
          exact HKK.out _ _ ⟨_, by simp only [putAll, Act.put, List.setIfInBounds_toArray, List.set_cons_zero, List.set_cons_succ] <;> rfl, h0, h1, fun _ => rfl, h3, h4, h5, h6, h7, h8, h9, h11, h12, h13, h14, y10, hB⟩
        · obtain rfl := Option.some.inj hi
          clear hi hil
          have d2 := h2 (hall ⟨2, .data⟩ (by simp) rfl)
          have cc : w'.cell? ⟨S, 1, none⟩ = some (.int .i64 kd) := (HKW.out w' hB.out).cell 1
          refine wpOp_step rfl (fun K hK => ?_)
          have HKK := Lib.hid hK; clear hK
          simp only [putAll, Act.put, List.setIfInBounds_toArray, List.set_cons_zero, List.set_cons_succ]
          go_simp
          exact HKK.out _ _ ⟨_, by simp only [putAll, Act.put, List.setIfInBounds_toArray, List.set_cons_zero, List.set_cons_succ, d2] <;> rfl, h0, h1, h2, fun _ => rfl, h4, h5, h6, h7, h8, h9, h11, h12, h13, h14, y10, hB⟩
        · obtain rfl := Option.some.inj hi
          clear hi hil
          refine wpOp_step rfl (fun K hK => ?_)
          have HKK := Lib.hid hK; clear hK
          simp only [putAll, Act.put, List.setIfInBounds_toArray, List.set_cons_zero, List.set_cons_succ]
          go_simp
          exact HKK.out _ _ ⟨_, by simp only [putAll, Act.put, List.setIfInBounds_toArray, List.set_cons_zero, List.set_cons_succ] <;> rfl, h0, h1, h2, h3, fun _ => rfl, h5, h6, h7, h8, h9, h11, h12, h13, h14, y10, hB⟩
        · obtain rfl := Option.some.inj hi
          clear hi hil
          have d4 := h4 (hall ⟨4, .data⟩ (by simp) rfl)
          have cc : w'.cell? ⟨S, 2, none⟩ = some (.int .i64 sq) := (HKW.out w' hB.out).cell 2
          refine wpOp_step rfl (fun K hK => ?_)
          have HKK := Lib.hid hK; clear hK
          simp only [putAll, Act.put, List.setIfInBounds_toArray, List.set_cons_zero, List.set_cons_succ]
          go_simp
          exact HKK.out _ _ ⟨_, by simp only [putAll, Act.put, List.setIfInBounds_toArray, List.set_cons_zero, List.set_cons_succ, d4] <;> rfl, h0, h1, h2, h3, h4, fun _ => rfl, h6, h7, h8, h9, h11, h12, h13, h14, y10, hB⟩
        · obtain rfl := Option.some.inj hi
          clear hi hil
          refine wpOp_step rfl (fun K hK => ?_)
          have HKK := Lib.hid hK; clear hK
          simp only [putAll, Act.put, List.setIfInBounds_toArray, List.set_cons_zero, List.set_cons_succ]
          go_simp
          exact HKK.out _ _ ⟨_, by simp only [putAll, Act.put, List.setIfInBounds_toArray, List.set_cons_zero, List.set_cons_succ] <;> rfl, h0, h1, h2, h3, h4, h5, fun _ => rfl, h7, h8, h9, h11, h12, h13, h14, y10, hB⟩
        · obtain rfl := Option.some.inj hi
          clear hi hil
          have d6 := h6 (hall ⟨6, .data⟩ (by simp) rfl)
          have cc : w'.cell? ⟨S, 3, none⟩ = some (.int .i64 lq) := (HKW.out w' hB.out).cell 3
          refine wpOp_step rfl (fun K hK => ?_)
          have HKK := Lib.hid hK; clear hK
          simp only [putAll, Act.put, List.setIfInBounds_toArray, List.set_cons_zero, List.set_cons_succ]
          go_simp
          exact HKK.out _ _ ⟨_, by simp only [putAll, Act.put, List.setIfInBounds_toArray, List.set_cons_zero, List.set_cons_succ, d6] <;> rfl, h0, h1, h2, h3, h4, h5, h6, fun _ => rfl, h8, h9, h11, h12, h13, h14, y10, hB⟩
        · obtain rfl := Option.some.inj hi
          clear hi hil
          refine wpOp_step rfl (fun K hK => ?_)
          have HKK := Lib.hid hK; clear hK
          simp only [putAll, Act.put, List.setIfInBounds_toArray, List.set_cons_zero, List.set_cons_succ]
          go_simp
          exact HKK.out _ _ ⟨_, by simp only [putAll, Act.put, List.setIfInBounds_toArray, List.set_cons_zero, List.set_cons_succ] <;> rfl, h0, h1, h2, h3, h4, h5, h6, h7, fun _ => rfl, h9, h11, h12, h13, h14, y10, hB⟩
        · obtain rfl := Option.some.inj hi
          clear hi hil
          have d8 := h8 (hall ⟨8, .data⟩ (by simp) rfl)
          refine wpOp_step rfl (fun K hK => ?_)
          have HKK := Lib.hid hK; clear hK
          simp only [putAll, Act.put, List.setIfInBounds_toArray, List.set_cons_zero, List.set_cons_succ]
          go_simp
          exact HKK.out _ _ ⟨_, by simp only [putAll, Act.put, List.setIfInBounds_toArray, List.set_cons_zero, List.set_cons_succ, d8] <;> rfl, h0, h1, h2, h3, h4, h5, h6, h7, h8, fun _ => rfl, h11, h12, h13, h14, y10, hB⟩
        · obtain rfl := Option.some.inj hi
          clear hi hil
          have d1 := h1 (hall ⟨1, .data⟩ (by simp) rfl)
          have d3 := h3 (hall ⟨3, .data⟩ (by simp) rfl)
          have d5 := h5 (hall ⟨5, .data⟩ (by simp) rfl)
          have d7 := h7 (hall ⟨7, .data⟩ (by simp) rfl)
          have d9 := h9 (hall ⟨9, .data⟩ (by simp) rfl)
          refine wpOp_step rfl (fun K hK => ?_)
          have HKK := Lib.hid hK; clear hK
          simp only [putAll, Act.put, List.setIfInBounds_toArray, List.set_cons_zero, List.set_cons_succ]
          go_simp
          refine (HHC.out w' hB.out).mono ?_
          rintro e w2 ⟨u2, rfl, ho2, hb2⟩
          exact HKK.out _ _ ⟨_, by simp only [putAll, Act.put, List.setIfInBounds_toArray, List.set_cons_zero, List.set_cons_succ, d1, d3, d5, d7, d9] <;> rfl, h0, h1, h2, h3, h4, h5, h6, h7, h8, h9, h11, h12, h13, h14, fun _ => Lib.hid ho2.row, hB.out.trans (hb2.mono hB.out.size)⟩
        · obtain rfl := Option.some.inj hi
          clear hi hil
          have o10 := y10 (hall ⟨10, .data⟩ (by simp) rfl)
          have cv := conv_b o10.out HFO.out.1
          rw [HS1.out] at cv
          refine wpOp_step rfl (fun K hK => ?_)
          have HKK := Lib.hid hK; clear hK
          simp only [putAll, Act.put, List.setIfInBounds_toArray, List.set_cons_zero, List.set_cons_succ]
          go_simp
          exact HKK.out _ _ ⟨_, by simp only [putAll, Act.put, List.setIfInBounds_toArray, List.set_cons_zero, List.set_cons_succ] <;> rfl, h0, h1, h2, h3, h4, h5, h6, h7, h8, h9, fun _ => rfl, h12, h13, h14, y10, hB⟩
        · obtain rfl := Option.some.inj hi
          clear hi hil
          refine wpOp_step rfl (fun K hK => ?_)
          have HKK := Lib.hid hK; clear hK
          simp only [putAll, Act.put, List.setIfInBounds_toArray, List.set_cons_zero, List.set_cons_succ]
          go_simp
          exact HKK.out _ _ ⟨_, by simp only [putAll, Act.put, List.setIfInBounds_toArray, List.set_cons_zero, List.set_cons_succ] <;> rfl, h0, h1, h2, h3, h4, h5, h6, h7, h8, h9, h11, fun _ => rfl, h13, h14, y10, hB⟩
        · obtain rfl := Option.some.inj hi
          clear hi hil
          have d12 := h12 (hall ⟨12, .data⟩ (by simp) rfl)
          have cv := conv_b (HRB.out w' hB.out) HB.out.1
          rw [HS2.out] at cv
          refine wpOp_step rfl (fun K hK => ?_)
          have HKK := Lib.hid hK; clear hK
          simp only [putAll, Act.put, List.setIfInBounds_toArray, List.set_cons_zero, List.set_cons_succ]
          go_simp
          exact HKK.out _ _ ⟨_, by simp only [putAll, Act.put, List.setIfInBounds_toArray, List.set_cons_zero, List.set_cons_succ, d12] <;> rfl, h0, h1, h2, h3, h4, h5, h6, h7, h8, h9, h11, h12, fun _ => rfl, h14, y10, hB⟩
        · obtain rfl := Option.some.inj hi
          clear hi hil
          have d11 := h11 (hall ⟨11, .data⟩ (by simp) rfl)
          have d13 := h13 (hall ⟨13, .data⟩ (by simp) rfl)
          have hq1 := HBQ.out
          refine wpOp_step rfl (fun K hK => ?_)
          have HKK := Lib.hid hK; clear hK
          simp only [putAll, Act.put, List.setIfInBounds_toArray, List.set_cons_zero, List.set_cons_succ]
          go_simp
          exact HKK.out _ _ ⟨_, by simp only [putAll, Act.put, List.setIfInBounds_toArray, List.set_cons_zero, List.set_cons_succ, d11, d13] <;> rfl, h0, h1, h2, h3, h4, h5, h6, h7, h8, h9, h11, h12, h13, fun _ => rfl, y10, hB⟩
        · omega
      · rintro b' vs wz hall ⟨h0, h1, h2, h3, h4, h5, h6, h7, h8, h9, h11, h12, h13, h14, y10, hB⟩
        have d0 := h0 (hall 0 (by simp))
        have d1 := h1 (hall 1 (by simp))
        have d2 := h2 (hall 2 (by simp))
        have d3 := h3 (hall 3 (by simp))
        have d4 := h4 (hall 4 (by simp))
        have d5 := h5 (hall 5 (by simp))
        have d6 := h6 (hall 6 (by simp))
        have d7 := h7 (hall 7 (by simp))
        have d8 := h8 (hall 8 (by simp))
        have d9 := h9 (hall 9 (by simp))
        have d11 := h11 (hall 11 (by simp))
        have d12 := h12 (hall 12 (by simp))
        have d13 := h13 (hall 13 (by simp))
        have d14 := h14 (hall 14 (by simp))
        have HX : Hid (Blk wz S 33 (hdC ⟨gq, kd, sq, lq⟩) ∧ Blk wz w.heap.size 33 #[.int .i64 0, .int .i64 0, .int .i64 0, .int .i64 0] ∧ Below w.heap.size w wz) := ⟨HKW.out wz hB.out, HW.out.2.1.grow hB.out, HW.out.2.2.trans (hB.out.mono HW.out.2.2.size)⟩
        simp only [putAll, Act.put, List.setIfInBounds_toArray, List.set_cons_zero, List.set_cons_succ, d0, d1, d2, d3, d4, d5, d6, d7, d8, d9, d11, d12, d13, d14]
        clear hall y10 hB h0 d0 h1 d1 h2 d2 h3 d3 h4 d4 h5 d5 h6 d6 h7 d7 h8 d8 h9 d9 h11 d11 h12 d12 h13 d13 h14 d14
        generalize vs 10 = v10
        have c10 : wz.cell? ⟨S, 0, none⟩ = some (.int .i64 gq) := HX.out.1.cell 0
        have c11 : wz.cell? ⟨S, 1, none⟩ = some (.int .i64 kd) := HX.out.1.cell 1
        have c12 : wz.cell? ⟨S, 2, none⟩ = some (.int .i64 sq) := HX.out.1.cell 2
        have c13 : wz.cell? ⟨S, 3, none⟩ = some (.int .i64 lq) := HX.out.1.cell 3
        have lt10 := HX.out.1.lt
        have c0 : wz.cell? ⟨w.heap.size, 0, none⟩ = some (.int .i64 0) := HX.out.2.1.cell 0
        have c1 : wz.cell? ⟨w.heap.size, 1, none⟩ = some (.int .i64 0) := HX.out.2.1.cell 1
        have c2 : wz.cell? ⟨w.heap.size, 2, none⟩ = some (.int .i64 0) := HX.out.2.1.cell 2
        have c3 : wz.cell? ⟨w.heap.size, 3, none⟩ = some (.int .i64 0) := HX.out.2.1.cell 3
        have f0 := HX.out.2.1.free 0
        have f1 := HX.out.2.1.free 1
        have f2 := HX.out.2.1.free 2
        have f3 := HX.out.2.1.free 3
        have hlt := HX.out.2.1.lt
        go_wp2_with fail
        rw [HRR.out]
        exact bodyPost_ret (results_hd (h := zeroHd) rfl rfl rfl (HX.out.2.1.hd4 _ _ _ _)) rfl ⟨rfl, below_hd4 HX.out.2.2 (Nat.le_refl _) _ _ _ _⟩
end Go.Proofs.Ytdcjchakgfpgaaa
