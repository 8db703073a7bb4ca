/- Layer 8: the document's Inside and Count; which inputs are small; the same polygons as the document's own. -/
import Derived.Test.YtopngjpgikpmaaaCk
namespace Go.Proofs.Ytopngjpgikpmaaa
open Go.RowKit
set_option maxHeartbeats 2000000 in
set_option maxRecDepth 100000 in
theorem refInside_c (s : Value) (S : List (Value × List Pt)) (rule x y : Int) (w : World) (row : PolyR w s S) (hS : S.length ≤ 100) (hSl : ∀ x ∈ S, x.2.length ≤ 100) (hSr : ∀ x ∈ S, x.2.all roomP = true) (hs : roomP (x, y) = true) :
    Calls Try.prog 19 #[s, .int .i64 rule, .agg #[.int .i64 x, .int .i64 y]] w fun e w' => e = .returned (.bool (insideI (S.map Prod.snd) rule (x, y))) ∧ Below w.heap.size w w' := by
  obtain ⟨ao, c, rfl⟩ := row.shape
  obtain ⟨n, hn⟩ : ∃ n, S.length = n := ⟨_, rfl⟩
  rw [hn] at row hS ⊢
  have HN := Lib.hid hn; have HROW := Lib.hid row; have HSS := Lib.hid hS; have HSL := Lib.hid hSl; have HSR := Lib.hid hSr; have HS := Lib.hid hs
  clear hn row hS hSl hSr hs
  go_enter Try.func19, Try.ntmps19
  go_wp2_with fail
  go_loopw [7, 8] (fun t i wr => ∃ (k : Nat) (T : Int), k ≤ n ∧ t = .int .i64 T ∧ i = .int .i64 k ∧ Hid (timesI ((S.map Prod.snd).take k) (x, y) = T ∧ Below w.heap.size w wr ∧ Blk wr w.heap.size 43 (two (x, y)))) (fun _ i _ => n - (intOf i).toNat)
  case atStart => exact ⟨0, 0, by omega, rfl, rfl, rfl, (Below.refl _ _).alloc (Nat.le_refl _) _, Blk.new _ _ _⟩
  case round =>
    obtain ⟨k, T, hk, rfl, rfl, hw⟩ := hrel
    by_cases hlt : k < n
    · have hd : decide ((k : Int) < (n : Int)) = true := by simp; omega
      obtain ⟨⟨v, l⟩, hq⟩ : ∃ q, S[k]? = some q := ⟨_, List.getElem?_eq_getElem (by rw [HN.out]; exact hlt)⟩
      have hm := List.mem_of_getElem? hq
      obtain ⟨b, o, rfl, hbs, c0⟩ := (HROW.out.on hw.out.2.1).at hq
      have hrow : Row wr v l := (HROW.out.2 _ hm).on hw.out.2.1
      have hPk : (S.map Prod.snd)[k]? = some l := by rw [List.getElem?_map, hq]; rfl
      obtain ⟨wn, hwn⟩ : ∃ z, windsI l (x, y) = z := ⟨_, rfl⟩
      have HWD : Hid (∀ W, Below wr.heap.size wr W → Calls Try.prog 36 #[v, .agg #[.int .i64 x, .int .i64 y]] W fun e w' => e = .returned (.int .i64 wn) ∧ Below W.heap.size W w') := fun W hW => by
        have := refWinds_c v l x y W (Nat.le_trans (HSL.out _ hm) (by decide)) (hrow.on hW) (HSR.out _ hm) HS.out
        rwa [hwn] at this
      have hnext := times_take (S.map Prod.snd) k l (x, y) hPk
      rw [hw.out.1] at hnext
      have hbd := times_bound ((S.map Prod.snd).take (k + 1)) (x, y) (fun l' hl' => by
        obtain ⟨z, hz, rfl⟩ := List.mem_map.1 (List.mem_of_mem_take hl')
        exact Nat.le_trans (HSL.out _ hz) (by decide))
      rw [hnext] at hbd
      have hlen : ((S.map Prod.snd).take (k + 1)).length = k + 1 := by rw [List.length_take, List.length_map, HN.out]; omega
      rw [hlen] at hbd
      rw [hwn] at hnext hbd
      have hsum : IntKind.i64.wrap (T + wn) = T + wn := by rw [wrap_is]; exact wrapR _ (by have := HSS.out; omega) (by have := HSS.out; omega)
      have hSS := HSS.out
      have HNX := Lib.hid hnext
      have HBL := Lib.hid hbs
      have HC0 := Lib.hid c0
      clear hq hm hbs hrow hPk hnext hbd hlen hwn c0
      go_wp2_with fail
      refine wp_region_quiet (C := Out wr) (by kernel_rfl) (by kernel_rfl) ⟨rfl, rfl, rfl, Nat.le_refl _, fun _ _ => rfl⟩ ?_
      refine BigFrame.wpQuiet_want rfl (fun K hK => ?_)
      refine quiet_val (.int .i64 T) (fun w' hw' => by go_simp) (hK _ ?_)
      clear hK K
      simp only [Act.put, List.setIfInBounds_toArray, List.set_cons_zero, List.set_cons_succ]
      refine BigFrame.wpQuiet_want rfl (fun K hK => ?_)
      refine quiet_val (.slice (some ⟨b, o, none⟩) n c) (fun w' hw' => by go_simp) (hK _ ?_)
      clear hK K
      simp only [Act.put, List.setIfInBounds_toArray, List.set_cons_zero, List.set_cons_succ]
      refine BigFrame.wpQuiet_want rfl (fun K hK => ?_)
      refine quiet_val (.int .i64 (k : Int)) (fun w' hw' => by go_simp) (hK _ ?_)
      clear hK K
      simp only [Act.put, List.setIfInBounds_toArray, List.set_cons_zero, List.set_cons_succ]
      refine BigFrame.wpQuiet_want rfl (fun K hK => ?_)
      refine quiet_val (.pointer (some ⟨b, o + k, none⟩)) (fun w' hw' => by go_simp) (hK _ ?_)
      clear hK K
      simp only [Act.put, List.setIfInBounds_toArray, List.set_cons_zero, List.set_cons_succ]
      refine BigFrame.wpQuiet_want rfl (fun K hK => ?_)
      refine quiet_val (v) (fun w' hw' => by have c0 := (cell_below hw' HBL.out).trans HC0.out; go_simp) (hK _ ?_)
      clear hK K
      simp only [Act.put, List.setIfInBounds_toArray, List.set_cons_zero, List.set_cons_succ]
      refine BigFrame.wpQuiet_want rfl (fun K hK => ?_)
      refine quiet_val (.agg #[.int .i64 x, .int .i64 y]) (fun w' hw' => by have kk := hw.out.2.2.grow hw'; have p0 : w'.cell? ⟨w.heap.size, 0, none⟩ = some (.int .i64 x) := kk.cell 0; have p1 : w'.cell? ⟨w.heap.size, 1, none⟩ = some (.int .i64 y) := kk.cell 1; clear kk; go_simp) (hK _ ?_)
      clear hK K
      simp only [Act.put, List.setIfInBounds_toArray, List.set_cons_zero, List.set_cons_succ]
      refine BigFrame.wpQuiet_want rfl (fun K hK => ?_)
      refine quiet_call 36 #[v, .agg #[.int .i64 x, .int .i64 y]] (.int .i64 wn) (fun w' _ => by go_simp) (fun w' hw' => Calls.out hw' (HWD.out w' hw')) (hK _ ?_)
      clear hK K
      simp only [Act.put, List.setIfInBounds_toArray, List.set_cons_zero, List.set_cons_succ]
      refine BigFrame.wpQuiet_want rfl (fun K hK => ?_)
      refine quiet_val (.int .i64 (T + wn)) (fun w' hw' => by go_simp) (hK _ ?_)
      clear hK K
      simp only [Act.put, List.setIfInBounds_toArray, List.set_cons_zero, List.set_cons_succ]
      refine BigFrame.wpQuiet_want rfl (fun K hK => ?_)
      refine quiet_val (.int .i64 (T + wn)) (fun w' hw' => by go_simp) (hK _ ?_)
      clear hK K
      simp only [Act.put, List.setIfInBounds_toArray, List.set_cons_zero, List.set_cons_succ]
      refine wpQuiet_nil ?_
      intro w2 hb
      have F1 : Hid (Below w.heap.size w w2 ∧ Blk w2 w.heap.size 43 (two (x, y))) := ⟨hw.out.2.1.trans (hb.mono hw.out.2.1.size), hw.out.2.2.grow hb⟩
      clear hb
      go_wp2_with fail
      exact ⟨⟨k + 1, T + wn, by omega, by go_num, by go_num, HNX.out, F1.out⟩, by simp [intOf]; omega⟩
    · have hd : decide ((k : Int) < (n : Int)) = false := by simp; omega
      have hT : timesI (S.map Prod.snd) (x, y) = T := by
        have := hw.out.1
        rwa [List.take_of_length_le (by rw [List.length_map, HN.out]; omega)] at this
      have HV : Hid (inI rule T = insideI (S.map Prod.snd) rule (x, y)) := by unfold Hid insideI; rw [hT]
      have HTM : Hid (decide (T.tmod 2 = 0) = decide (T % 2 = 0)) := by
        unfold Hid
        rw [Bool.eq_iff_iff]
        simp only [decide_eq_true_eq]
        exact ⟨fun h => Int.emod_eq_zero_of_dvd (Int.dvd_of_tmod_eq_zero h), fun h => Int.tmod_eq_zero_of_dvd (Int.dvd_of_emod_eq_zero h)⟩
      clear hT
      go_wp2
      all_goals go_ret
      all_goals refine ⟨retB ?_, hw.out.2.1⟩
      all_goals rw [← HV.out]
      all_goals have htm := HTM.out
      all_goals unfold inI
      all_goals rw [Bool.eq_iff_iff]
      all_goals simp_all
/-- The first samples of a pixel that are inside. -/
def upC (P : List (List Pt)) (rule x y : Int) (k : Nat) : Nat := (List.range k).countP fun i => insideI P rule (sampP x y i)
theorem upC_succ (P : List (List Pt)) (rule x y : Int) (k : Nat) : upC P rule x y (k + 1) = upC P rule x y k + (if insideI P rule (sampP x y k) = true then 1 else 0) := by
  unfold upC
  rw [List.range_succ, List.countP_append, List.countP_singleton]
theorem upC_le (P : List (List Pt)) (rule x y : Int) (k : Nat) : upC P rule x y k ≤ k := by
  unfold upC
  have := List.countP_le_length (p := fun i => insideI P rule (sampP x y i)) (l := List.range k)
  simpa using this
set_option maxHeartbeats 2000000 in
set_option maxRecDepth 100000 in
theorem count_c (s : Value) (S : List (Value × List Pt)) (rule x y : Int) (w : World) (row : PolyR w s S) (hS : S.length ≤ 100) (hSl : ∀ x ∈ S, x.2.length ≤ 100) (hSr : ∀ x ∈ S, x.2.all roomP = true) (hx : -4194304 ≤ x ∧ x ≤ 4194304) (hy : -4194304 ≤ y ∧ y ≤ 4194304) :
    Calls Try.prog 15 #[s, .int .i64 rule, .int .i64 x, .int .i64 y] w fun e w' => e = .returned (.int .i64 (countI (S.map Prod.snd) rule x y : Nat)) ∧ Below w.heap.size w w' := by
  have HI : Hid (∀ (i : Nat) W, i < 16 → Below w.heap.size w W → Calls Try.prog 19 #[s, .int .i64 rule, .agg #[.int .i64 (256 * x + 32 + 64 * ((i : Int) % 4)), .int .i64 (256 * y + 32 + 64 * ((i : Int) / 4))]] W fun e w' => e = .returned (.bool (insideI (S.map Prod.snd) rule (sampP x y i))) ∧ Below W.heap.size W w') := fun i W hi hb => by
    refine refInside_c s S rule _ _ W (row.on hb) hS hSl hSr ?_
    simp only [roomP, Bool.and_eq_true, room_iff]
    omega
  obtain ⟨ao, c, rfl⟩ := row.shape
  obtain ⟨hxa, hxb⟩ := hx
  obtain ⟨hya, hyb⟩ := hy
  clear row hS hSl hSr
  go_enter Try.func15, Try.ntmps15
  go_wp2_with fail
  go_loopw [9, 10] (fun t i wr => ∃ k : Nat, k ≤ 16 ∧ t = .int .i64 (upC (S.map Prod.snd) rule x y k : Nat) ∧ i = .int .i64 k ∧ Hid (Below w.heap.size w wr)) (fun _ i _ => 16 - (intOf i).toNat)
  case atStart => exact ⟨0, by omega, rfl, rfl, Below.refl _ _⟩
  case round =>
    obtain ⟨k, hk, rfl, rfl, hw⟩ := hrel
    by_cases hlt : k < 16
    · have hd : decide ((k : Int) < 16) = true := by simp; omega
      have HNX := Lib.hid (upC_succ (S.map Prod.snd) rule x y k)
      have hle := upC_le (S.map Prod.snd) rule x y k
      obtain ⟨t, ht⟩ : ∃ t, upC (S.map Prod.snd) rule x y k = t := ⟨_, rfl⟩
      rw [ht] at HNX hle ⊢
      have HK : Hid (∀ W, Below w.heap.size w W → Calls Try.prog 19 #[.slice ao S.length c, .int .i64 rule, .agg #[.int .i64 (256 * x + 32 + 64 * ((k : Int) % 4)), .int .i64 (256 * y + 32 + 64 * ((k : Int) / 4))]] W fun e w' => e = .returned (.bool (insideI (S.map Prod.snd) rule (sampP x y k))) ∧ Below W.heap.size W w') := fun W hb => HI.out k W hlt hb
      obtain ⟨r, hr⟩ : ∃ r, insideI (S.map Prod.snd) rule (sampP x y k) = r := ⟨_, rfl⟩
      rw [hr] at HK HNX
      clear ht hr
      go_wp2_with fail
      refine (HK.out _ (hw.out.alloc hw.out.size _)).mono ?_
      rintro e w2 ⟨rfl, hb⟩
      have B2 : Hid (Below w.heap.size w w2) := (hw.out.alloc hw.out.size _).trans (hb.mono (by have := hw.out.size; simp; omega))
      clear hb
      cases r
      · go_wp2_with fail
        exact ⟨⟨k + 1, by omega, by rw [HNX.out]; go_num, by go_num, B2.out⟩, by simp [intOf]; omega⟩
      · go_wp2_with fail
        exact ⟨⟨k + 1, by omega, by rw [HNX.out]; go_num, by go_num, B2.out⟩, by simp [intOf]; omega⟩
    · have hd : decide ((k : Int) < 16) = false := by simp; omega
      obtain rfl : k = 16 := by omega
      go_wp2_with fail
      go_ret
      exact ⟨rfl, hw.out⟩
end Go.Proofs.Ytopngjpgikpmaaa
