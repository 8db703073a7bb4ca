/- Layer 5: the document's Flat. -/
import Derived.Test.YtffgpikhahpomaaDoorX
namespace Go.Proofs.YtffgpikhahpomaaDoor
open Go.RowKit
set_option maxHeartbeats 2000000 in
set_option maxRecDepth 100000 in
theorem refFlat_zero (v : Value) (l : List Pt) (w : World) (row : Row w v l) (h : curveB l = true) :
    Calls Tryd.prog 39 #[v, .int .i64 0] w fun e w' => ∃ u, e = .returned u ∧ Own w' w.heap.size 45 u (flatI 0 l) ∧ Below w.heap.size w w' := by
  obtain ⟨ao, c, rfl⟩ := row.shape
  have hl0 : 3 ≤ l.length ∧ l.length ≤ 4 := by rcases curve_cases h with ⟨p, q, r, rfl, _⟩ | ⟨p, q, r, s, rfl, _⟩ <;> simp
  obtain ⟨bb, o, rfl, hbb, hpa⟩ := row.addr (k := 0) (by omega)
  obtain ⟨m, hm⟩ : ∃ m, l.length - 1 = m := ⟨_, rfl⟩
  obtain ⟨z, hz⟩ : ∃ z, l[m]? = some z := ⟨_, List.getElem?_eq_getElem (by omega)⟩
  have HF : Hid (flatI 0 l = [z]) := by
    unfold Hid
    rw [flatI, List.getLastD_eq_getLast?, List.getLast?_eq_getElem?, hm, hz]; rfl
  obtain ⟨c0, c1⟩ := hpa m z hz
  obtain ⟨N, hN⟩ : ∃ N, l.length = N := ⟨_, rfl⟩
  have hmN : m < N := by omega
  have elast : wrap64 ((N : Int) - 1) = (m : Int) := by rw [wrapR _ (by omega) (by omega)]; omega
  have HO := Lib.hid (Own.made w (Nat.le_refl _) 45 [z] #[.int .i64 z.1, .int .i64 z.2] 1 rfl rfl (by decide))
  rw [hN]
  clear hpa hz hm hN hl0 row
  go_enter Tryd.func39, Tryd.ntmps39
  go_wp2_with fail
  go_ret
  exact ⟨_, rfl, HF.out ▸ HO.out, (Below.refl _ _).alloc (Nat.le_refl _) _⟩
set_option maxHeartbeats 2000000 in
set_option maxRecDepth 100000 in
theorem refFlat_step (v : Value) (d D : Nat) (w : World) (hd : d ≤ 5) (hD : D = d + 1) (la lb FA FB : List Pt) (hla : FA.length + FB.length ≤ 1000)
    (HH : Hid (Calls Tryd.prog 46 #[v] w fun e w' => ∃ a b, e = .returned (.tuple #[a, b]) ∧ Own w' w.heap.size 45 a la ∧ Own w' w.heap.size 45 b lb ∧ Below w.heap.size w w'))
    (HA : Hid (∀ u w', Row w' u la → Calls Tryd.prog 39 #[u, .int .i64 (d : Int)] w' fun e w'' => ∃ r, e = .returned r ∧ Own w'' w'.heap.size 45 r FA ∧ Below w'.heap.size w' w''))
    (HB : Hid (∀ u w', Row w' u lb → Calls Tryd.prog 39 #[u, .int .i64 (d : Int)] w' fun e w'' => ∃ r, e = .returned r ∧ Own w'' w'.heap.size 45 r FB ∧ Below w'.heap.size w' w'')) :
    Calls Tryd.prog 39 #[v, .int .i64 (D : Int)] w fun e w' => ∃ u, e = .returned u ∧ Own w' w.heap.size 45 u (FA ++ FB) ∧ Below w.heap.size w w' := by
  have h0 : ((D : Int) == 0) = false := by simp; omega
  have h0' : decide ((D : Int) = 0) = false := decide_eq_false (by omega)
  have eD : wrap64 ((D : Int) - 1) = (d : Int) := by rw [wrapR _ (by omega) (by omega)]; omega
  obtain ⟨n, hn⟩ : ∃ n, w.heap.size = n := ⟨_, rfl⟩
  have HN := Lib.hid hn
  rw [hn] at HH ⊢
  have HD := Lib.hid hD
  clear hn hD hd
  go_enter Tryd.func39, Tryd.ntmps39
  go_wp2_with fail
  refine HH.out.mono ?_
  rintro e w1 ⟨a, b, rfl, hoa, hob, hb⟩
  have S1 : Hid ((Below n w w1 ∧ n ≤ w1.heap.size) ∧ (Row w1 a la ∧ Row w1 b lb)) := ⟨⟨hb, by have := hb.size; have := HN.out; omega⟩, hoa.row, hob.row⟩
  clear hoa hob hb
  go_wp2_with fail
  refine (HA.out _ _ S1.out.2.1).mono ?_
  rintro e w2 ⟨r, rfl, hor, hb⟩
  have S2 : Hid ((Below n w w2 ∧ n ≤ w2.heap.size) ∧ Own w2 n 45 r FA ∧ Row w2 b lb) := ⟨⟨S1.out.1.1.trans (hb.mono S1.out.1.2), Nat.le_trans S1.out.1.2 hb.size⟩, hor.base S1.out.1.2, S1.out.2.2.on hb⟩
  clear hor hb
  go_wp2_with fail
  refine (HB.out _ _ S2.out.2.2).mono ?_
  rintro e w3 ⟨q, rfl, hoq, hb⟩
  have S3 : Hid ((Below n w w3 ∧ n ≤ w3.heap.size) ∧ Own w3 n 45 r FA ∧ Row w3 q FB) := ⟨⟨S2.out.1.1.trans (hb.mono S2.out.1.2), Nat.le_trans S2.out.1.2 hb.size⟩, S2.out.2.1.grow hb, hoq.row⟩
  clear hoq hb
  go_wp2_with (at_builtin; refine wpList_append_pts rfl _ _ 40 45 rfl Tryd.underlying40 infoR n r FA rfl S3.out.2.1 q FB rfl S3.out.2.2 (Nat.le_trans hla (by decide)) S3.out.1.2 ?_)
  intro r2 w4 ho hg _
  have B4 : Hid (Below n w w4) := own_below S3.out.2.1 hg S3.out.1.1 (Nat.le_refl _) S3.out.1.2
  have O4 := Lib.hid ho
  clear ho hg
  go_wp2_with fail
  go_ret
  exact ⟨_, rfl, O4.out, B4.out⟩
theorem refFlat_c : ∀ (d : Nat), d ≤ 6 → ∀ (l : List Pt), curveB l = true → ∀ (v : Value) (w : World), Row w v l → Calls Tryd.prog 39 #[v, .int .i64 (d : Int)] w fun e w' => ∃ u, e = .returned u ∧ Own w' w.heap.size 45 u (flatI d l) ∧ Below w.heap.size w w'
  | 0, _, l, h, v, w, row => refFlat_zero v l w row h
  | d + 1, hd, l, h, v, w, row =>
    refFlat_step v d (d + 1) w (by omega) rfl (firstI l) (secondI l) (flatI d (firstI l)) (flatI d (secondI l)) (by rw [flatI_length, flatI_length]; have := pow_small (show d ≤ 6 by omega); omega)
      (Lib.hid (refHalves_c v l w row h)) (Lib.hid fun u w' hr => refFlat_c d (by omega) _ (firstI_curve h).1 u w' hr) (Lib.hid fun u w' hr => refFlat_c d (by omega) _ (secondI_curve h).1 u w' hr)
end Go.Proofs.YtffgpikhahpomaaDoor

