/- Layer 11: what bytes say, read run by run; images that are the same byte for byte. -/
import Derived.Test.YtoppmlfibllhlaaRs
import Derived.Test.YtoppmlfibllhlaaKp
namespace Go.Proofs.Ytoppmlfibllhlaa
open Go.RowKit
theorem decB_split : ∀ (j : Nat) (xs ys : List Int), xs.length = 5 * j → decB (xs ++ ys) = decB xs ++ decB ys
  | 0, xs, ys, h => by
    obtain rfl : xs = [] := List.eq_nil_of_length_eq_zero (by omega)
    rfl
  | j + 1, xs, ys, h => by
    match xs, h with
    | m :: a :: b :: c :: d :: t, h =>
      have ih := decB_split j t ys (by simp at h; omega)
      show List.replicate (m + 1).toNat (a, b, c, d) ++ decB (t ++ ys) = (List.replicate (m + 1).toNat (a, b, c, d) ++ decB t) ++ decB ys
      rw [ih, List.append_assoc]
    | [], h => simp at h
    | [_], h => simp at h; omega
    | [_, _], h => simp at h; omega
    | [_, _, _], h => simp at h; omega
    | [_, _, _, _], h => simp at h; omega
theorem decB_short {xs : List Int} (h : xs.length < 5) : decB xs = [] := by
  match xs, h with
  | [], _ => rfl
  | [_], _ => rfl
  | [_, _], _ => rfl
  | [_, _, _], _ => rfl
  | [_, _, _, _], _ => rfl
  | _ :: _ :: _ :: _ :: _ :: _, h => simp at h; omega
theorem decB_step {F : List Int} {i j : Nat} (hi : i = 5 * j) (h : i + 5 ≤ F.length) : decB (F.take (i + 5)) = decB (F.take i) ++ List.replicate (rAt F i + 1).toNat (q4 (rCol F i)) := by
  have e : F.take (i + 5) = F.take i ++ [rAt F i, rAt F (i + 1 + 0), rAt F (i + 1 + 1), rAt F (i + 1 + 2), rAt F (i + 1 + 3)] := by
    rw [List.take_add]
    congr 1
    apply List.ext_getElem?
    intro k
    by_cases hk : k < 5
    · rw [List.getElem?_take_of_lt hk, List.getElem?_drop, rAt_some (by omega)]
      match k, hk with
      | 0, _ => rfl
      | 1, _ => rfl
      | 2, _ => rfl
      | 3, _ => rfl
      | 4, _ => rfl
    · rw [List.getElem?_eq_none (by simp; omega), List.getElem?_eq_none (by simp; omega)]
  rw [e, decB_split j _ _ (by rw [List.length_take]; omega)]
  congr 1
  show List.replicate (rAt F i + 1).toNat _ ++ decB [] = _
  rw [show decB [] = [] from rfl, List.append_nil]
  rfl
theorem decB_all {F : List Int} {i j : Nat} (hi : i = 5 * j) (hle : i ≤ F.length) (h : ¬ i + 5 ≤ F.length) : decB (F.take i) = decB F := by
  have e := decB_split j (F.take i) (F.drop i) (by rw [List.length_take]; omega)
  rw [List.take_append_drop, decB_short (xs := F.drop i) (by rw [List.length_drop]; omega), List.append_nil] at e
  exact e.symm
theorem decB_le {F : List Int} {i j : Nat} (hi : i = 5 * j) (hle : i ≤ F.length) : (decB (F.take i)).length ≤ (decB F).length := by
  have e := decB_split j (F.take i) (F.drop i) (by rw [List.length_take]; omega)
  rw [List.take_append_drop] at e
  rw [e, List.length_append]; omega
theorem eqC_q4 (c d : Col) : eqC c d = decide (q4 c = q4 d) := by rw [Bool.eq_iff_iff, decide_eq_true_eq, q4_iff]
theorem cAt_q4 {l l' : List Col} (h : l.map q4 = l'.map q4) (k : Nat) : q4 (cAt l k) = q4 (cAt l' k) := by
  have hl : l.length = l'.length := by simpa using congrArg List.length h
  by_cases hk : k < l.length
  · have h1 : (l.map q4)[k]? = (l'.map q4)[k]? := by rw [h]
    rw [List.getElem?_map, List.getElem?_map, cAt_some hk, cAt_some (by omega)] at h1
    simpa using h1
  · unfold cAt; rw [List.getD_eq_getElem?_getD, List.getD_eq_getElem?_getD, List.getElem?_eq_none (by omega), List.getElem?_eq_none (by omega)]
theorem runTo_q4 {l l' : List Col} (h : l.map q4 = l'.map q4) (i : Nat) : ∀ f n, runTo l i f n = runTo l' i f n
  | 0, _ => rfl
  | f + 1, n => by
    have hl : l.length = l'.length := by simpa using congrArg List.length h
    unfold runTo
    rw [eqC_q4, eqC_q4, cAt_q4 h (i + n), cAt_q4 h i, hl, runTo_q4 h i f (n + 1)]
theorem runsB_q4 {l l' : List Col} (h : l.map q4 = l'.map q4) : ∀ f i, runsB l f i = runsB l' f i
  | 0, _ => rfl
  | f + 1, i => by
    have hl : l.length = l'.length := by simpa using congrArg List.length h
    have hr : runLen l i = runLen l' i := runTo_q4 h i 257 0
    have hc : colB (cAt l i) = colB (cAt l' i) := by
      have h1 := eqC_iff.1 (q4_iff.1 (cAt_q4 h i))
      unfold colB
      rw [h1 0 (by decide), h1 1 (by decide), h1 2 (by decide), h1 3 (by decide)]
    unfold runsB
    rw [hl, hr, hc, runsB_q4 h f]
theorem bytesI_q4 {W H : Int} {l l' : List Col} (h : l.map q4 = l'.map q4) : bytesI W H l = bytesI W H l' := by
  have hl : l.length = l'.length := by simpa using congrArg List.length h
  unfold bytesI
  rw [hl, runsB_q4 h]
theorem rightIm_q4 {W H : Int} {l l' : List Col} (h : l.map q4 = l'.map q4) : rightIm W H l = rightIm W H l' := by
  have hl : l.length = l'.length := by simpa using congrArg List.length h
  have ha : ∀ {l l' : List Col}, l.map q4 = l'.map q4 → l.all rightC = true → l'.all rightC = true := by
    intro l l' h hr
    have hl : l.length = l'.length := by simpa using congrArg List.length h
    rw [List.all_eq_true]
    intro c hc
    obtain ⟨k, hk, rfl⟩ := List.getElem_of_mem hc
    have h1 := all_right l ▸ hr
    have h2 := List.all_eq_true.1 hr (cAt l k) (List.mem_of_getElem? (cAt_some (by omega)))
    have h3 := eqC_iff.1 (q4_iff.1 (cAt_q4 h k))
    rw [cAt_get hk]
    have h4 := rightC_iff.1 h2
    exact rightC_iff.2 (by rw [← h3 0 (by decide), ← h3 1 (by decide), ← h3 2 (by decide), ← h3 3 (by decide)]; exact h4)
  rw [Bool.eq_iff_iff, rightIm_iff, rightIm_iff, hl]
  exact ⟨fun ⟨a, b, c, d, e, f⟩ => ⟨a, b, c, d, e, ha h f⟩, fun ⟨a, b, c, d, e, f⟩ => ⟨a, b, c, d, e, ha h.symm f⟩⟩
/-- An image whose bytes these are. -/
theorem im_dec {W H e0 e1 : Int} {l : List Col} {F : List Int} (h : IsIm W H l (e0 :: e1 :: F)) : W = e0 + 1 ∧ H = e1 + 1 ∧ l.map q4 = decB F ∧ ((decB F).length : Int) = W * H := by
  obtain ⟨h1, h2, h3⟩ := h
  unfold bytesI at h3
  have a := (List.cons.inj h3).1
  have b := (List.cons.inj (List.cons.inj h3).2).1
  have c := (List.cons.inj (List.cons.inj h3).2).2
  have d := dec_runs l l.length 0 (by omega)
  rw [c, List.drop_zero] at d
  refine ⟨by omega, by omega, d.symm, ?_⟩
  rw [d, List.length_map]
  exact (rightIm_iff.1 h1).2.2.2.2.1
theorem im_long {W H : Int} {l : List Col} {E : List Int} (h : IsIm W H l E) : 2 ≤ E.length := by
  rw [← h.2.2]; unfold bytesI; simp
theorem strI_inj {E E' : List Int} (h : OkB E) (h' : OkB E') (e : strI E = strI E') : E = E' := by
  unfold strI at e
  have e2 : (E.map fun x => UInt8.ofNat x.toNat) = E'.map fun x => UInt8.ofNat x.toNat := by
    have := congrArg (fun b : ByteArray => b.data.toList) e
    simpa using this
  have hl : E.length = E'.length := by simpa using congrArg List.length e2
  apply List.ext_getElem hl
  intro i h1 h2
  have e3 : (E.map fun x => UInt8.ofNat x.toNat)[i]? = (E'.map fun x => UInt8.ofNat x.toNat)[i]? := by rw [e2]
  rw [List.getElem?_map, List.getElem?_map, List.getElem?_eq_getElem h1, List.getElem?_eq_getElem h2] at e3
  have e4 : UInt8.ofNat (E[i]).toNat = UInt8.ofNat (E'[i]).toNat := by simpa using e3
  have b1 := h _ (List.getElem_mem h1)
  have b2 := h' _ (List.getElem_mem h2)
  have e5 := congrArg UInt8.toNat e4
  simp only [UInt8.toNat_ofNat'] at e5
  omega
set_option maxHeartbeats 1000000 in
theorem bytesEqual_c (s s' : Value) (E E' : List Int) (w : World) (row : RowB w s E) (row' : RowB w s' E') (h : OkB E) (h' : OkB E') : Calls Try.prog 50 #[s, s'] w fun e w' => ∃ r : Bool, e = .returned (.bool r) ∧ (r = true ↔ E = E') ∧ w = w' := by
  have c1 := conv_b row h
  have c2 := conv_b row' h'
  obtain ⟨ao, cp, rfl⟩ := row.shape
  obtain ⟨av, cv, rfl⟩ := row'.shape
  obtain ⟨S, hS⟩ : ∃ S, strI E = S := ⟨_, rfl⟩
  obtain ⟨S', hS'⟩ : ∃ S, strI E' = S := ⟨_, rfl⟩
  have HR : Hid ((S.toList == S'.toList) = true ↔ E = E') := by
    unfold Hid
    rw [beq_iff_eq, ByteArray.toList_eq, ByteArray.toList_eq, ← hS, ← hS']
    refine ⟨fun e => strI_inj h h' ?_, fun e => by rw [e]⟩
    have e2 : (strI E).data = (strI E').data := Array.toList_inj.1 e
    exact ByteArray.ext e2
  rw [hS] at c1
  rw [hS'] at c2
  generalize E.length = n at *
  generalize E'.length = n' at *
  clear row row' h h' hS hS'
  obtain ⟨r, hr⟩ : ∃ r, (S.toList == S'.toList) = r := ⟨_, rfl⟩
  rw [hr] at HR
  go_enter Try.func50, Try.ntmps50
  go_wp2_with fail
  go_ret
  exact ⟨r, rfl, HR.out, rfl⟩
end Go.Proofs.Ytoppmlfibllhlaa
