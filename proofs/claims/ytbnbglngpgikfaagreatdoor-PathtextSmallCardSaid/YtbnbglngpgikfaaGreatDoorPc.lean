/- Layer 15: what the words of a path are read as, plain. -/
import Derived.Test.YtbnbglngpgikfaaGreatDoorPb
namespace Go.Proofs.YtbnbglngpgikfaaGreatDoor
open Go.RowKit
def letC (m : Bool) (k : Int) : UInt8 := if m = true then (if k = 1 then 109 else if k = 2 then 108 else if k = 3 then 113 else if k = 4 then 99 else 122) else (if k = 1 then 77 else if k = 2 then 76 else if k = 3 then 81 else if k = 4 then 67 else 90)
/-- What a letter's numbers are told from. -/
def fP (m : Bool) (e : Pt) : Pt := if m = true then e else (0, 0)
def relL (f : Pt) (s : Sg) : List Int := [s.p.1 - f.1, s.p.2 - f.2, s.q.1 - f.1, s.q.2 - f.2, s.r.1 - f.1, s.r.2 - f.2].take (2 * needI s.k)
def segW (m : Bool) (e : Pt) (s : Sg) : List Wd := [letC m s.k] :: (relL (fP m e) s).map textT
def afterR (m : Bool) (st : Rs) (s : Sg) : Rs := finR { st with s := s, due := 0, small := m }
def pathW (m : Bool) : Rs → List Sg → List Wd
  | _, [] => []
  | st, s :: l => segW m st.e s ++ pathW m (afterR m st s) l
/-- All numbers that are told are in room. -/
def toldR (m : Bool) : Rs → List Sg → Prop
  | _, [] => True
  | st, s :: l => (∀ v ∈ relL (fP m st.e) s, inB v = true) ∧ toldR m (afterR m st s) l
theorem doneR_more {st : Rs} (h : 0 < st.due) : doneR st = .ok st := by unfold doneR; rw [if_pos h]
theorem doneR_last {st : Rs} (h : st.due = 0) (hl : st.l.length ≠ 4096) : doneR st = .ok (finR st) := by unfold doneR; rw [if_neg (by omega), if_neg hl]
theorem step_num {st : Rs} (hd : 0 < st.due) (x : Int) (hx : inB x = true) (hr : room (fromR st + x) = true) : stepR st (textT x) = doneR { st with s := setAt st.s (atR st) (fromR st + x), due := st.due - 1 } := by
  obtain ⟨c, r, e, hc⟩ := text_cons x hx
  have hn : numW (c :: r) = some x := by rw [← e]; exact num_text x hx
  rw [e]
  unfold stepR
  simp only [hc, Bool.false_eq_true, if_false]
  unfold numR
  rw [hn]
  have hp : primeR st = st := by unfold primeR; rw [if_neg (by omega)]
  simp only [hp]
  rw [if_neg (by omega)]
  unfold putR
  rw [if_pos hr]
theorem fromR_even {st : Rs} (h : atR st % 2 = 0) : fromR st = (fP st.small st.e).1 := by
  unfold fromR fP
  split
  · rfl
  · rfl
theorem fromR_odd {st : Rs} (h : atR st % 2 = 1) : fromR st = (fP st.small st.e).2 := by
  unfold fromR fP
  split
  · rw [if_neg (by omega)]
  · rfl
/-- One point more. -/
theorem read_point {st : Rs} {d j : Nat} (hd : st.due = d + 2) (hj : atR st = 2 * j) (hdu : st.due ≤ 2 * needI st.s.k) {f : Pt} (hf : fP st.small st.e = f) (x y : Int) (hx : inB (x - f.1) = true) (hy : inB (y - f.2) = true) (rx : room x = true) (ry : room y = true) (a : Nat) (ws : List Wd) :
    readR st a (textT (x - f.1) :: textT (y - f.2) :: ws) = match doneR { st with s := setAt (setAt st.s (2 * j) x) (2 * j + 1) y, due := d } with
      | .error e => ([], a + 1, e)
      | .ok st' => readR st' (a + 2) ws := by
  have f0 : fromR st = f.1 := by rw [fromR_even (by omega), hf]
  have e0 : fromR st + (x - f.1) = x := by rw [f0]; omega
  rw [readR, step_num (by omega) _ hx (by rw [e0]; exact rx), e0, doneR_more (by simp; omega)]
  simp only
  obtain ⟨s1, h1⟩ : ∃ s1 : Rs, s1 = { st with s := setAt st.s (atR st) x, due := st.due - 1 } := ⟨_, rfl⟩
  rw [← h1]
  have a1 : atR s1 = 2 * j + 1 := by
    rw [h1]; unfold atR at hj ⊢; simp only [setAt_k]; omega
  have f1 : fromR s1 = f.2 := by rw [fromR_odd (by omega)]; rw [h1]; exact congrArg Prod.snd hf
  have e1 : fromR s1 + (y - f.2) = y := by rw [f1]; omega
  rw [readR, step_num (by rw [h1]; simp; omega) _ hy (by rw [e1]; exact ry), e1, a1]
  have e2 : ({ s1 with s := setAt s1.s (2 * j + 1) y, due := s1.due - 1 } : Rs) = { st with s := setAt (setAt st.s (2 * j) x) (2 * j + 1) y, due := d } := by
    rw [h1, hj, hd]
    simp
  rw [e2]
  rfl
theorem rooms_of {s : Sg} (h : loopsI (needI s.k) s.pts = 0) : (∀ p ∈ s.pts.drop (needI s.k), p = (0, 0)) ∧ ∀ p ∈ s.pts.take (needI s.k), roomP p = true := by
  unfold loopsI at h
  split at h
  · cases h
  · rename_i h1
    split at h
    · cases h
    · rename_i h2
      simp only [Bool.not_eq_true, List.any_eq_false] at h1 h2
      exact ⟨fun p hp => by simpa using h1 p hp, fun p hp => by simpa using h2 p hp⟩
theorem fault_parts {x s : Sg} (h : faultI x s = 0) : isKindB s.k = true ∧ (s.k = 1 ∨ x.k ≠ 5) ∧ loopsI (needI s.k) s.pts = 0 := by
  unfold faultI at h
  split at h
  · cases h
  · rename_i h1
    simp at h1
    refine ⟨h1.1, ?_, h⟩
    by_cases e : s.k = 1
    · exact .inl e
    · exact .inr (h1.2 e)
theorem step_let (m : Bool) {k : Int} (hk : isKindB k = true) (st : Rs) (hd : st.due = 0) (hl : st.l.length < 4096) (ho : k = 1 ∨ st.opn = true) :
    stepR st [letC m k] = .ok (if k = 5 then finR (startR { st with small := m } 5) else startR { st with small := m } k) := by
  have h1 : letB (letC m k) = true := by rcases isKind_cases hk with rfl | rfl | rfl | rfl | rfl <;> cases m <;> decide
  have h2 : kindL (letC m k) = k := by rcases isKind_cases hk with rfl | rfl | rfl | rfl | rfl <;> cases m <;> decide
  have h3 : smallL (letC m k) = m := by rcases isKind_cases hk with rfl | rfl | rfl | rfl | rfl <;> cases m <;> decide
  have h4 : ¬ (k = 0 ∨ 0 < st.due) := by rcases isKind_cases hk with rfl | rfl | rfl | rfl | rfl <;> omega
  rw [stepR, if_pos h1]
  unfold letR
  rw [h2, h3, if_neg h4, if_neg (by omega), if_neg]
  rintro ⟨h5, h6⟩
  rcases ho with h | h
  · exact h5 h
  · rw [h] at h6; cases h6
/-- A segment's own words are read as it. -/
theorem read_seg (m : Bool) {x s : Sg} (hf : faultI x s = 0) (st : Rs) (hd : st.due = 0) (hl : st.l.length < 4096) (ho : st.opn = decide (x.k ≠ 5)) (ht : ∀ v ∈ relL (fP m st.e) s, inB v = true) (a : Nat) (ws : List Wd) :
    readR st a (segW m st.e s ++ ws) = readR (afterR m st s) (a + 1 + 2 * needI s.k) ws := by
  obtain ⟨hk, h1, h2⟩ := fault_parts hf
  obtain ⟨hz, hr⟩ := rooms_of h2
  have ho' : s.k = 1 ∨ st.opn = true := by
    rcases h1 with h | h
    · exact .inl h
    · exact .inr (by rw [ho]; exact decide_eq_true h)
  unfold segW
  rw [List.cons_append, readR, step_let m hk st hd hl ho']
  simp only
  obtain ⟨k, ⟨p1, p2⟩, ⟨q1, q2⟩, ⟨r1, r2⟩⟩ := s
  obtain ⟨f, hff⟩ : ∃ f, fP m st.e = f := ⟨_, rfl⟩
  rw [hff] at ht ⊢
  simp only [Sg.pts] at hz hr
  unfold relL at ht ⊢
  simp only at hk hz hr ht ⊢
  have hl' : st.l.length ≠ 4096 := by omega
  rcases isKind_cases hk with rfl | rfl | rfl | rfl | rfl
  · have e1 : needI 1 = 1 := rfl
    rw [e1] at hz hr ht
    simp only [List.drop_succ_cons, List.drop_zero, List.take_succ_cons, List.take_zero, Nat.mul_one, List.mem_cons, List.not_mem_nil, or_false, forall_eq_or_imp, forall_eq] at hz hr ht
    obtain ⟨rfl, rfl⟩ : q1 = 0 ∧ q2 = 0 := by simpa using hz.1
    obtain ⟨rfl, rfl⟩ : r1 = 0 ∧ r2 = 0 := by simpa using hz.2
    have hr1 : room p1 = true ∧ room p2 = true := by simpa [roomP] using hr
    rw [if_neg (by decide)]
    refine (read_point (st := startR { st with small := m } 1) (d := 0) (j := 0) rfl (by simp [atR, startR, zeroS]) (Nat.le_refl _) hff p1 p2 ht.1 ht.2 hr1.1 hr1.2 (a + 1) ws).trans ?_
    rw [doneR_last rfl (by exact hl')]
    rfl
  · have e1 : needI 2 = 1 := rfl
    rw [e1] at hz hr ht
    simp only [List.drop_succ_cons, List.drop_zero, List.take_succ_cons, List.take_zero, Nat.mul_one, List.mem_cons, List.not_mem_nil, or_false, forall_eq_or_imp, forall_eq] at hz hr ht
    obtain ⟨rfl, rfl⟩ : q1 = 0 ∧ q2 = 0 := by simpa using hz.1
    obtain ⟨rfl, rfl⟩ : r1 = 0 ∧ r2 = 0 := by simpa using hz.2
    have hr1 : room p1 = true ∧ room p2 = true := by simpa [roomP] using hr
    rw [if_neg (by decide)]
    refine (read_point (st := startR { st with small := m } 2) (d := 0) (j := 0) rfl (by simp [atR, startR, zeroS]) (Nat.le_refl _) hff p1 p2 ht.1 ht.2 hr1.1 hr1.2 (a + 1) ws).trans ?_
    rw [doneR_last rfl (by exact hl')]
    rfl
  · have e3 : needI 3 = 2 := rfl
    rw [e3] at hz hr ht
    simp only [List.drop_succ_cons, List.drop_zero, List.take_succ_cons, List.take_zero, Nat.reduceMul, List.mem_cons, List.not_mem_nil, or_false, forall_eq_or_imp, forall_eq] at hz hr ht
    obtain ⟨rfl, rfl⟩ : r1 = 0 ∧ r2 = 0 := by simpa using hz
    have hr1 : (room p1 = true ∧ room p2 = true) ∧ room q1 = true ∧ room q2 = true := by simpa [roomP] using hr
    rw [if_neg (by decide)]
    refine (read_point (st := startR { st with small := m } 3) (d := 2) (j := 0) rfl (by simp [atR, startR, zeroS]) (Nat.le_refl _) hff p1 p2 ht.1 ht.2.1 hr1.1.1 hr1.1.2 (a + 1) _).trans ?_
    rw [doneR_more (by simp)]
    simp only
    refine (read_point (d := 0) (j := 1) rfl (by simp [atR, startR, zeroS, setAt, needI]) (by simp [startR, zeroS, setAt, needI]) hff q1 q2 ht.2.2.1 ht.2.2.2 hr1.2.1 hr1.2.2 _ ws).trans ?_
    rw [doneR_last rfl (by exact hl')]
    rfl
  · have e3 : needI 4 = 3 := rfl
    rw [e3] at hz hr ht
    simp only [List.take_succ_cons, List.take_zero, Nat.reduceMul, List.mem_cons, List.not_mem_nil, or_false, forall_eq_or_imp, forall_eq] at hr ht
    have hr1 : (room p1 = true ∧ room p2 = true) ∧ (room q1 = true ∧ room q2 = true) ∧ room r1 = true ∧ room r2 = true := by simpa [roomP] using hr
    rw [if_neg (by decide)]
    refine (read_point (st := startR { st with small := m } 4) (d := 4) (j := 0) rfl (by simp [atR, startR, zeroS]) (Nat.le_refl _) hff p1 p2 ht.1 ht.2.1 hr1.1.1 hr1.1.2 (a + 1) _).trans ?_
    rw [doneR_more (by simp)]
    simp only
    refine (read_point (d := 2) (j := 1) rfl (by simp [atR, startR, zeroS, setAt, needI]) (by simp [startR, zeroS, setAt, needI]) hff q1 q2 ht.2.2.1 ht.2.2.2.1 hr1.2.1.1 hr1.2.1.2 _ _).trans ?_
    rw [doneR_more (by simp)]
    simp only
    refine (read_point (d := 0) (j := 2) rfl (by simp [atR, startR, zeroS, setAt, needI]) (by simp [startR, zeroS, setAt, needI]) hff r1 r2 ht.2.2.2.2.1 ht.2.2.2.2.2 hr1.2.2.1 hr1.2.2.2 _ ws).trans ?_
    rw [doneR_last rfl (by exact hl')]
    rfl
  · have e5 : needI 5 = 0 := rfl
    rw [e5] at hz
    simp only [List.drop_zero, List.mem_cons, List.not_mem_nil, or_false, forall_eq_or_imp, forall_eq] at hz
    obtain ⟨rfl, rfl⟩ : p1 = 0 ∧ p2 = 0 := by simpa using hz.1
    obtain ⟨rfl, rfl⟩ : q1 = 0 ∧ q2 = 0 := by simpa using hz.2.1
    obtain ⟨rfl, rfl⟩ : r1 = 0 ∧ r2 = 0 := by simpa using hz.2.2
    rw [if_pos rfl]
    rfl
theorem after_l (m : Bool) (st : Rs) (s : Sg) : (afterR m st s).l = st.l ++ [s] := by
  unfold afterR finR
  split
  · rfl
  · split <;> rfl
theorem after_due (m : Bool) (st : Rs) (s : Sg) : (afterR m st s).due = 0 := by
  unfold afterR finR
  split
  · rfl
  · split <;> rfl
theorem after_opn (m : Bool) (st : Rs) (s : Sg) : (afterR m st s).opn = decide (s.k ≠ 5) := by
  unfold afterR finR
  by_cases h1 : s.k = 1
  · rw [if_pos h1]; simp [h1]
  · rw [if_neg h1]
    by_cases h5 : s.k = 5
    · rw [if_pos h5]; simp [h5]
    · rw [if_neg h5]; simp [h5]
theorem segW_len (m : Bool) (e : Pt) (s : Sg) : (segW m e s).length = 1 + 2 * needI s.k := by
  have := needI_le s.k
  simp [segW, relL]; omega
theorem read_path (m : Bool) : ∀ (l : List Sg) (x : Sg) (st : Rs) (a : Nat), goI x l = 0 → st.due = 0 → st.l.length + l.length ≤ 4096 → st.opn = decide (x.k ≠ 5) → toldR m st l →
    readR st a (pathW m st l) = (st.l ++ l, a + (pathW m st l).length, 0)
  | [], x, st, a, _, hd, _, _, _ => by rw [pathW, readR, if_neg (by omega)]; simp
  | s :: l, x, st, a, hg, hd, hl, ho, ht => by
    rw [goI] at hg
    split at hg
    · rename_i hf
      rw [List.length_cons] at hl
      rw [pathW, read_seg m hf st hd (by omega) ho ht.1, read_path m l s (afterR m st s) _ hg (after_due m st s) (by rw [after_l]; simp; omega) (after_opn m st s) ht.2, after_l, List.length_append, segW_len]
      simp
      omega
    · rename_i hf
      exact absurd hg hf
theorem check_parts {l : List Sg} (h : checkI l = 0) : l.length ≤ 4096 ∧ goI shut0 l = 0 := by
  unfold checkI at h
  split at h
  · cases h
  · exact ⟨by omega, h⟩
/-- With great letters the numbers are the coordinates. -/
theorem told_big : ∀ (l : List Sg) (x : Sg) (st : Rs), goI x l = 0 → toldR false st l
  | [], _, _, _ => trivial
  | s :: l, x, st, hg => by
    rw [goI] at hg
    split at hg
    · rename_i hf
      refine ⟨?_, told_big l s _ hg⟩
      obtain ⟨hk, _, h2⟩ := fault_parts hf
      obtain ⟨_, hr⟩ := rooms_of h2
      obtain ⟨k, ⟨p1, p2⟩, ⟨q1, q2⟩, ⟨r1, r2⟩⟩ := s
      simp only [relL, fP, Sg.pts] at hr ⊢
      simp only at hk hr ⊢
      intro v hv
      rw [in_room]
      rcases isKind_cases hk with rfl | rfl | rfl | rfl | rfl <;> simp [needI, roomP] at hr hv
      · rcases hv with rfl | rfl <;> simp [hr]
      · rcases hv with rfl | rfl <;> simp [hr]
      · rcases hv with rfl | rfl | rfl | rfl <;> simp [hr]
      · rcases hv with rfl | rfl | rfl | rfl | rfl | rfl <;> simp [hr]
    · rename_i hf
      exact absurd hg hf
theorem let_word (m : Bool) {k : Int} (hk : isKindB k = true) : letB (letC m k) = true := by
  rcases isKind_cases hk with rfl | rfl | rfl | rfl | rfl <;> cases m <;> decide
theorem pathW_words (m : Bool) : ∀ (l : List Sg) (x : Sg) (st : Rs), goI x l = 0 → toldR m st l → ∀ w ∈ pathW m st l, isWord w
  | [], _, _, _, _, w, hw => by cases hw
  | s :: l, x, st, hg, ht, w, hw => by
    rw [goI] at hg
    split at hg
    · rename_i hf
      rw [pathW] at hw
      rcases List.mem_append.1 hw with h | h
      · unfold segW at h
        rcases List.mem_cons.1 h with rfl | h
        · exact .inl ⟨_, rfl, let_word m (fault_parts hf).1⟩
        · obtain ⟨v, hv, rfl⟩ := List.mem_map.1 h
          exact text_word v (ht.1 v hv)
      · exact pathW_words m l s _ hg ht.2 w h
    · rename_i hf
      exact absurd hg hf
/-- The text of a path. -/
def showT (l : List Sg) : Wd := joinW (pathW false Rs.none l)
def readT (s : Wd) : List Sg × Nat × Int := readR Rs.none 0 (wordsL s)
theorem show_words {l : List Sg} (h : checkI l = 0) : wordsL (showT l) = pathW false Rs.none l := by
  obtain ⟨_, hg⟩ := check_parts h
  exact words_join _ (pathW_words false l shut0 Rs.none hg (told_big l shut0 Rs.none hg))
theorem read_show {l : List Sg} (h : checkI l = 0) : readT (showT l) = (l, (pathW false Rs.none l).length, 0) := by
  obtain ⟨hl, hg⟩ := check_parts h
  unfold readT
  rw [show_words h]
  have := read_path false l shut0 Rs.none 0 hg rfl (by simpa [Rs.none] using hl) rfl (told_big l shut0 Rs.none hg)
  simpa [Rs.none] using this
theorem readT_right {s : Wd} {l : List Sg} {n : Nat} (h : readT s = (l, n, 0)) : checkI l = 0 := readR_right _ _ _ OkR.none l n h
#print axioms read_show
end Go.Proofs.YtbnbglngpgikfaaGreatDoor
