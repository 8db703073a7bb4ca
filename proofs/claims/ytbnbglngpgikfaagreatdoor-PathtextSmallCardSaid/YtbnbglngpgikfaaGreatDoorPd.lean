/- Layer 15: the text of a path in small letters, plain. -/
import Derived.Test.YtbnbglngpgikfaaGreatDoorRa
namespace Go.Proofs.YtbnbglngpgikfaaGreatDoor
open Go.RowKit
def nlT (i : Nat) : Wd := if i % 2 = 0 then [10] else []
def ptR (e p : Pt) : Wd := ptT (p.1 - e.1, p.2 - e.2)
def segS (e : Pt) (s : Sg) : Wd := letC true s.k :: (s.pts.take (needI s.k)).flatMap (ptR e)
def smallT : Nat → Rs → List Sg → Wd
  | _, _, [] => []
  | i, st, s :: l => segS st.e s ++ (nlT i ++ smallT (i + 1) (afterR true st s) l)
theorem need_cases (k : Int) : needI k = 0 ∨ needI k = 1 ∨ needI k = 2 ∨ needI k = 3 := by have := needI_le k; omega
theorem spaced_rel (e : Pt) (s : Sg) : spaced ((relL e s).map textT) = (s.pts.take (needI s.k)).flatMap (ptR e) := by
  unfold relL
  rcases need_cases s.k with h | h | h | h <;> rw [h] <;> simp [Sg.pts, spaced, ptR, ptT]
theorem told_rel {e : Pt} {s : Sg} (h : ∀ p ∈ s.pts.take (needI s.k), inB (p.1 - e.1) = true ∧ inB (p.2 - e.2) = true) : ∀ v ∈ relL e s, inB v = true := by
  revert h
  unfold relL
  rcases need_cases s.k with h | h | h | h <;> rw [h] <;> simp [Sg.pts] <;> intros <;> simp [*]
theorem breaks_small (i : Nat) (st : Rs) : ∀ (l : List Sg) (x : Sg), goI x l = 0 → breaks (smallT i st l)
  | [], _, _ => breaks_nil
  | s :: l, x, hg => by
    rw [goI] at hg
    split at hg
    · rename_i hf
      exact breaks_let (let_word true (fault_parts hf).1) _
    · rename_i hf
      exact absurd hg hf
theorem breaks_nl (i : Nat) {r : Wd} (h : breaks r) : breaks (nlT i ++ r) := by
  unfold nlT
  split
  · exact breaks_gap (by decide) _
  · exact h
theorem words_nl (i : Nat) (r : Wd) : wordsW [] (nlT i ++ r) = wordsW [] r := by
  unfold nlT
  split
  · exact words_gap (by decide) _ _
  · rfl
theorem words_small : ∀ (l : List Sg) (x : Sg) (i : Nat) (st : Rs), goI x l = 0 → toldR true st l → wordsW [] (smallT i st l) = pathW true st l
  | [], _, _, _, _, _ => rfl
  | s :: l, x, i, st, hg, ht => by
    rw [goI] at hg
    split at hg
    · rename_i hf
      have hk := (fault_parts hf).1
      have hb := breaks_nl i (breaks_small (i + 1) (afterR true st s) l s hg)
      have hw : ∀ w ∈ (relL st.e s).map textT, isWord w := fun w hw => by
        obtain ⟨v, hv, rfl⟩ := List.mem_map.1 hw
        exact text_word v (ht.1 v hv)
      rw [smallT, pathW, segS, ← spaced_rel]
      show wordsW [] ([letC true s.k] ++ (spaced ((relL st.e s).map textT) ++ (nlT i ++ smallT (i + 1) (afterR true st s) l))) = _
      rw [word_then (.inl ⟨_, rfl, let_word true hk⟩) (breaks_spaced _ _ hb) [] (fun _ => rfl), words_spaced _ hw _ hb, words_nl, words_small l s (i + 1) _ hg ht.2]
      simp [segW, fP, flushW]
    · rename_i hf
      exact absurd hg hf
theorem read_small {l : List Sg} (h : checkI l = 0) (ht : toldR true Rs.none l) : readT (smallT 0 Rs.none l) = (l, (pathW true Rs.none l).length, 0) := by
  obtain ⟨hl, hg⟩ := check_parts h
  unfold readT wordsL
  rw [words_small l shut0 0 Rs.none hg ht]
  have := read_path true l shut0 Rs.none 0 hg rfl (by simpa [Rs.none] using hl) rfl ht
  simpa [Rs.none] using this
theorem after_1 {st : Rs} {s : Sg} (h : s.k = 1) : (afterR true st s).e = s.p ∧ (afterR true st s).b = s.p := by
  unfold afterR finR; simp only; rw [if_pos h]; exact ⟨rfl, rfl⟩
theorem after_5 {st : Rs} {s : Sg} (h : s.k = 5) : (afterR true st s).e = st.b ∧ (afterR true st s).b = st.b := by
  unfold afterR finR; simp only; rw [if_neg (by omega), if_pos h]; exact ⟨rfl, rfl⟩
theorem after_o {st : Rs} {s : Sg} (h : s.k ≠ 1) (h5 : s.k ≠ 5) : (afterR true st s).e = endP s ∧ (afterR true st s).b = st.b := by
  unfold afterR finR; simp only; rw [if_neg h, if_neg h5]; exact ⟨rfl, rfl⟩
/-- The last point of a segment that has one. -/
theorem last_pt {s : Sg} (hk : isKindB s.k = true) (h5 : s.k ≠ 5) : 0 < needI s.k ∧ s.pts[needI s.k - 1]? = some (endP s) := by
  unfold endP
  rcases isKind_cases hk with h | h | h | h | h <;> simp only [h] <;> first | exact absurd h h5 | exact ⟨by decide, rfl⟩
theorem ends_room {x s : Sg} (hf : faultI x s = 0) (h5 : s.k ≠ 5) : roomP (endP s) = true := by
  obtain ⟨hk, _, h2⟩ := fault_parts hf
  obtain ⟨h0, h1⟩ := last_pt hk h5
  refine (rooms_of h2).2 _ (List.mem_of_getElem? (i := needI s.k - 1) ?_)
  rw [List.getElem?_take, if_pos (by omega)]
  exact h1
theorem drop_next {l : List Sg} {k : Nat} {s : Sg} (h : l[k]? = some s) : l.drop k = s :: l.drop (k + 1) := by
  rw [List.drop_eq_getElem_cons (List.getElem?_eq_some_iff.1 h).1, (List.getElem?_eq_some_iff.1 h).2]
/-- One point alone: its check and its text. -/
theorem one_check {a b : Int} (ha : inB a = true) (hb : inB b = true) : checkI [⟨1, (a, b), (0, 0), (0, 0)⟩] = 0 := by
  have h1 : roomP (a, b) = true := by rw [in_room] at ha hb; simp [roomP, ha, hb]
  simp [checkI, goI, faultI, isKindB, loopsI, needI, Sg.pts, h1]
theorem one_text (a b : Int) : showT [⟨1, (a, b), (0, 0), (0, 0)⟩] = 77 :: ptT (a, b) := by
  have e : showT [⟨1, (a, b), (0, 0), (0, 0)⟩] = textUp [⟨1, (a, b), (0, 0), (0, 0)⟩] := by unfold showT; rw [pathW_big, showT_up]
  rw [e, textUp, segT]
  simp [needI, Sg.pts, letC]
end Go.Proofs.YtbnbglngpgikfaaGreatDoor
