/- Layer 7: the document's polygons are those that the pen leaves. -/
import Derived.Test.YtdidbejinfkhbaaDoorRb
namespace Go.Proofs.YtdidbejinfkhbaaDoor
open Go.RowKit
/-- A trace goes with a list of polygons, all in order or with an overflow. -/
def Tracks (ok : Bool) (L : List (List Pt)) (st : Tr) : Prop := (ok = true → st = (0, L)) ∧ (ok = false → st.1 = 10)
theorem Tracks.start : Tracks true [] (0, []) := ⟨fun _ => rfl, fun h => by cases h⟩
theorem Tracks.step {ok b : Bool} {L : List (List Pt)} {st : Tr} {P : List Pt} {o : Int × List Pt} (h : Tracks ok L st) (ho : o = if b = true then (0, P) else (10, [])) : Tracks (ok && b) (L ++ [P]) (addT st o) := by
  subst ho
  unfold addT
  cases ok
  · have e := h.2 rfl
    refine ⟨fun k => (by cases k), fun _ => ?_⟩
    rw [if_neg (by rw [e]; decide)]; exact e
  · obtain rfl := h.1 rfl
    cases b
    · exact ⟨fun k => (by cases k), fun _ => rfl⟩
    · exact ⟨fun _ => rfl, fun k => (by cases k)⟩
theorem Tracks.told {ok : Bool} {L : List (List Pt)} {st : Tr} (h : Tracks ok L st) : toldT st = if ok = true then (0, L) else (10, []) := by
  unfold toldT
  cases ok
  · have e := h.2 rfl
    rw [if_neg (by rw [e]; decide), e]; rfl
  · obtain rfl := h.1 rfl
    rfl
theorem Tracks.eq {ok ok' : Bool} {L L' : List (List Pt)} {st : Tr} (h : Tracks ok L st) (e : ok = ok') (e2 : L = L') : Tracks ok' L' st := by subst e e2; exact h
theorem roomL_append (A B : List (List Pt)) : roomL (A ++ B) = (roomL A && roomL B) := by unfold roomL; rw [List.all_append]
theorem roomL_one (P : List Pt) : roomL [P] = P.all roomP := by unfold roomL; simp
theorem roomOut_eq (P : List Pt) : roomOut P = if P.all roomP = true then (0, P) else (10, []) := rfl
theorem lenRoom_eq (b : Bool) (P : List Pt) : (if b = true then roomOut P else (10, [])) = if (b && P.all roomP) = true then (0, P) else (10, []) := by
  cases b
  · rfl
  · rw [roomOut_eq]; rfl
theorem discOut_eq {p : Pt} {h : Int} (hh : penB h = true) (hp : roomP p = true) : discOut p h = if (discI p h).all roomP = true then (0, discI p h) else (10, []) := by
  unfold discOut; rw [hh, hp]; rfl
theorem barOut_eq {p q : Pt} {h : Int} (hh : penB h = true) (hp : roomP p = true) (hq : roomP q = true) (hne : p ≠ q) : barOut p q h = if (lenB (subP q p) && (barI p q h).all roomP) = true then (0, barI p q h) else (10, []) := by
  unfold barOut
  rw [hh, hp, hq, decide_eq_false hne]
  exact lenRoom_eq _ _
/-- No line is too long. -/
def nlF (c : List Pt) : Nat → Bool
  | 0 => true
  | k + 1 => nlF c k && lenB (subP (c.getD ((k + 1) % c.length) (0, 0)) (c.getD k (0, 0)))
theorem nlF_no (c : List Pt) : ∀ nb k, k < nb → lenB (subP (c.getD ((k + 1) % c.length) (0, 0)) (c.getD k (0, 0))) = false → nlF c nb = false
  | 0, k, h, _ => by omega
  | nb + 1, k, h, e => by
    rw [nlF]
    by_cases hk : k = nb
    · subst hk; rw [e, Bool.and_false]
    · rw [nlF_no c nb k (by omega) e, Bool.false_and]
theorem nlF_yes (c : List Pt) : ∀ nb, (∀ k, k < nb → lenB (subP (c.getD ((k + 1) % c.length) (0, 0)) (c.getD k (0, 0))) = true) → nlF c nb = true
  | 0, _ => rfl
  | nb + 1, h => by rw [nlF, nlF_yes c nb (fun k hk => h k (by omega)), h nb (by omega)]; rfl
theorem nlF_at (c : List Pt) (nb k : Nat) (h : nlF c nb = true) (hk : k < nb) : lenB (subP (c.getD ((k + 1) % c.length) (0, 0)) (c.getD k (0, 0))) = true := by
  cases e : lenB (subP (c.getD ((k + 1) % c.length) (0, 0)) (c.getD k (0, 0))) with
  | true => rfl
  | false => rw [nlF_no c nb k hk e] at h; cases h
theorem bars_track {c l : List Pt} {h : Int} (hh : penB h = true) (nb : Nat) (hr : ∀ k, k < c.length → roomP (c.getD k (0, 0)) = true) (hnb : nb ≤ c.length) (h0 : 0 < c.length)
    (hl : ∀ k, k < nb → l.getD k (0, 0) = c.getD k (0, 0) ∧ l.getD (k + 1) (0, 0) = c.getD ((k + 1) % c.length) (0, 0)) (hne : ∀ k, k < nb → c.getD k (0, 0) ≠ c.getD ((k + 1) % c.length) (0, 0)) :
    ∀ k, k ≤ nb → Tracks (nlF c k && roomL (barsR c h k)) (barsR c h k) (barsT l h k (0, []))
  | 0, _ => Tracks.start
  | k + 1, hk => by
    have ih := bars_track hh nb hr hnb h0 hl hne k (by omega)
    obtain ⟨e1, e2⟩ := hl k (by omega)
    have s := ih.step (barOut_eq hh (hr k (by omega)) (hr _ (Nat.mod_lt _ h0)) (hne k (by omega)))
    rw [barsT, e1, e2]
    refine s.eq ?_ rfl
    rw [nlF, barsR, roomL_append, roomL_one]
    cases nlF c k <;> cases roomL (barsR c h k) <;> cases lenB (subP (c.getD ((k + 1) % c.length) (0, 0)) (c.getD k (0, 0))) <;> rfl
theorem discs_track {l : List Pt} {h : Int} (hh : penB h = true) (hr : ∀ k, k < l.length → roomP (l.getD k (0, 0)) = true) {ok : Bool} {L : List (List Pt)} {st : Tr} (ht : Tracks ok L st) :
    ∀ k, k ≤ l.length → Tracks (ok && roomL (discsR l h k)) (L ++ discsR l h k) (discsT l h k st)
  | 0, _ => ht.eq (by show ok = (ok && true); rw [Bool.and_true]) (by rw [discsR, List.append_nil])
  | k + 1, hk => by
    have s := (discs_track hh hr ht k (by omega)).step (discOut_eq hh (hr k (by omega)))
    rw [discsT]
    exact s.eq (by rw [discsR, roomL_append, roomL_one, Bool.and_assoc]) (by rw [discsR, List.append_assoc])
theorem mid_getD (c : List Pt) (k : Nat) (hk : k + 2 < c.length) : (midL c).getD k (0, 0) = c.getD (k + 1) (0, 0) := by
  unfold midL
  rw [List.getD_eq_getElem?_getD, List.getD_eq_getElem?_getD, List.getElem?_take, if_pos (by omega), List.getElem?_drop, Nat.add_comm]
theorem discsO_mid (c : List Pt) (h : Int) : ∀ k, k + 2 ≤ c.length → discsO c h (k + 1) = discsR (midL c) h k
  | 0, _ => by simp [discsO, discsR]
  | k + 1, hk => by
    rw [discsO, discsO_mid c h k (by omega), discsR, if_pos (by omega), mid_getD c k (by omega)]
theorem discsO_all (c : List Pt) (h : Int) (h2 : 2 ≤ c.length) : discsO c h c.length = discsR (midL c) h (c.length - 2) := by
  obtain ⟨j, hj⟩ : ∃ j, c.length = j + 2 := ⟨c.length - 2, by omega⟩
  rw [hj, discsO, if_neg (by omega), List.append_nil, show j + 2 - 2 = j by omega]
  exact discsO_mid c h j (by omega)
noncomputable def capsR (c : List Pt) (h cap : Int) : List (List Pt) :=
  if cap = 1 then [discI (c.getD 0 (0, 0)) h, discI (c.getD (c.length - 1) (0, 0)) h] else if cap = 2 then [headI (c.getD 0 (0, 0)) (c.getD 1 (0, 0)) h, tailI (c.getD (c.length - 2) (0, 0)) (c.getD (c.length - 1) (0, 0)) h] else []
/-- What the document says of points that are told apart: whether all is in room, and the polygons. -/
noncomputable def refOf (c : List Pt) (cl : Bool) (h cap : Int) : Bool × List (List Pt) :=
  if c.length = 0 then (true, [])
  else if c.length = 1 then (if cap = 1 then (roomL [discI (c.getD 0 (0, 0)) h], [discI (c.getD 0 (0, 0)) h]) else if cap = 2 then (roomL [dotI (c.getD 0 (0, 0)) h], [dotI (c.getD 0 (0, 0)) h]) else (true, []))
  else if cl = true then (nlF c c.length && roomL (barsR c h c.length ++ discsR c h c.length), barsR c h c.length ++ discsR c h c.length)
  else (nlF c (c.length - 1) && roomL (barsR c h (c.length - 1) ++ discsO c h c.length ++ capsR c h cap), barsR c h (c.length - 1) ++ discsO c h c.length ++ capsR c h cap)
theorem pens_track (l : List Pt) (cl : Bool) (h cap : Int) (hh : penB h = true) (hr : l.all roomP = true) : Tracks (refOf (apartI l cl) cl h cap).1 (refOf (apartI l cl) cl h cap).2 (strokeT (apartI l cl) cl h cap) := by
  have hadj := apartI_adj l cl
  have hdone : ¬ condB (apartI l cl) cl := apartF_done l cl
  have hroom : ∀ p ∈ apartI l cl, roomP p = true := fun p hp => List.all_eq_true.1 hr p (apartI_mem hp)
  generalize apartI l cl = c at *
  have at_ : ∀ k, k < c.length → c[k]? = some (c.getD k (0, 0)) := fun k hk => by rw [List.getD_eq_getElem?_getD, List.getElem?_eq_getElem hk]; rfl
  have rk : ∀ k, k < c.length → roomP (c.getD k (0, 0)) = true := fun k hk => hroom _ (List.mem_of_getElem? (at_ k hk))
  have ne : ∀ k, k + 1 < c.length → c.getD k (0, 0) ≠ c.getD (k + 1) (0, 0) := fun k hk => hadj k _ _ (at_ k (by omega)) (at_ (k + 1) hk)
  unfold refOf strokeT
  by_cases h0 : c.length = 0
  · rw [if_pos h0, if_pos h0]; exact Tracks.start
  rw [if_neg h0, if_neg h0]
  by_cases h1 : c.length = 1
  · rw [if_pos h1, if_pos h1]
    unfold dotT
    by_cases c1 : cap = 1
    · rw [if_pos c1, if_pos c1]
      exact (Tracks.start.step (discOut_eq hh (rk 0 (by omega)))).eq (by rw [roomL_one]; rfl) rfl
    · rw [if_neg c1, if_neg c1]
      by_cases c2 : cap = 2
      · rw [if_pos c2, if_pos c2]
        exact (Tracks.start.step (roomOut_eq _)).eq (by rw [roomL_one]; rfl) rfl
      · rw [if_neg c2, if_neg c2]; exact Tracks.start
  rw [if_neg h1, if_neg h1]
  cases cl
  · rw [if_neg (by decide), if_neg (by decide)]
    have hmod : ∀ k, k < c.length - 1 → (k + 1) % c.length = k + 1 := fun k hk => Nat.mod_eq_of_lt (by omega)
    have B := bars_track (c := c) (l := c) hh (c.length - 1) rk (by omega) (by omega) (fun k hk => ⟨rfl, by rw [hmod k hk]⟩) (fun k hk => by rw [hmod k hk]; exact ne k (by omega)) (c.length - 1) (Nat.le_refl _)
    have hml : (midL c).length = c.length - 2 := by unfold midL; rw [List.length_take, List.length_drop]; omega
    have D := discs_track (l := midL c) hh (fun k hk => by rw [mid_getD c k (by omega)]; exact rk _ (by omega)) B (c.length - 2) (by omega)
    rw [← discsO_all c h (by omega)] at D
    have hl0 : nlF c (c.length - 1) = true → lenB (subP (c.getD 1 (0, 0)) (c.getD 0 (0, 0))) = true := fun e => by
      have := nlF_at c (c.length - 1) 0 e (by omega)
      rwa [hmod 0 (by omega)] at this
    have hl1 : nlF c (c.length - 1) = true → lenB (subP (c.getD (c.length - 1) (0, 0)) (c.getD (c.length - 2) (0, 0))) = true := fun e => by
      have := nlF_at c (c.length - 1) (c.length - 2) e (by omega)
      rwa [hmod (c.length - 2) (by omega), show c.length - 2 + 1 = c.length - 1 by omega] at this
    unfold capsT capsR
    by_cases c1 : cap = 1
    · rw [if_pos c1, if_pos c1]
      have S := (D.step (discOut_eq hh (rk 0 (by omega)))).step (discOut_eq hh (rk (c.length - 1) (by omega)))
      refine S.eq ?_ (by simp)
      rw [roomL_append, roomL_append]
      simp only [roomL, List.all_cons, List.all_nil, Bool.and_true, Bool.and_assoc]
    · rw [if_neg c1, if_neg c1]
      by_cases c2 : cap = 2
      · rw [if_pos c2, if_pos c2]
        have S := (D.step (lenRoom_eq (lenB (subP (c.getD 1 (0, 0)) (c.getD 0 (0, 0)))) (headI (c.getD 0 (0, 0)) (c.getD 1 (0, 0)) h))).step (lenRoom_eq (lenB (subP (c.getD (c.length - 1) (0, 0)) (c.getD (c.length - 2) (0, 0)))) (tailI (c.getD (c.length - 2) (0, 0)) (c.getD (c.length - 1) (0, 0)) h))
        refine S.eq ?_ (by simp)
        rw [roomL_append, roomL_append]
        simp only [roomL, List.all_cons, List.all_nil, Bool.and_true]
        cases e : nlF c (c.length - 1) with
        | false => simp
        | true => rw [hl0 e, hl1 e]; simp [Bool.and_assoc]
      · rw [if_neg c2, if_neg c2]
        exact D.eq (by rw [List.append_nil, roomL_append, Bool.and_assoc]) (by rw [List.append_nil])
  · rw [if_pos rfl, if_pos rfl]
    have hne : ∀ k, k < c.length → c.getD k (0, 0) ≠ c.getD ((k + 1) % c.length) (0, 0) := fun k hk => by
      by_cases hl : k + 1 < c.length
      · rw [Nat.mod_eq_of_lt hl]; exact ne k hl
      · obtain rfl : k = c.length - 1 := by omega
        rw [show c.length - 1 + 1 = c.length by omega, Nat.mod_self]
        intro e
        refine hdone ⟨rfl, by omega, ?_⟩
        rw [at_ _ (by omega), at_ 0 (by omega), e]
    have B := bars_track (c := c) (l := c ++ [c.getD 0 (0, 0)]) hh c.length rk (Nat.le_refl _) (by omega) (fun k hk => ⟨by rw [List.getD_eq_getElem?_getD, List.getElem?_append_left hk, ← List.getD_eq_getElem?_getD], by
      by_cases hl : k + 1 < c.length
      · rw [Nat.mod_eq_of_lt hl, List.getD_eq_getElem?_getD, List.getElem?_append_left hl, ← List.getD_eq_getElem?_getD]
      · obtain rfl : k = c.length - 1 := by omega
        rw [show c.length - 1 + 1 = c.length by omega, Nat.mod_self, List.getD_eq_getElem?_getD, List.getElem?_append_right (Nat.le_refl _), Nat.sub_self]; rfl⟩) hne c.length (Nat.le_refl _)
    have D := discs_track (l := c) hh rk B c.length (Nat.le_refl _)
    exact D.eq (by rw [roomL_append, Bool.and_assoc]) rfl
/-- What a pen leaves is what the document says, or an overflow. -/
theorem pens_out (l : List Pt) (cl : Bool) (h cap : Int) (hh : penB h = true) (hc : capB cap = true) (hr : l.all roomP = true) : strokeOut l cl h cap = if (refOf (apartI l cl) cl h cap).1 = true then (0, (refOf (apartI l cl) cl h cap).2) else (10, []) := by
  unfold strokeOut
  rw [hh, hc, hr]
  exact (pens_track l cl h cap hh hr).told
theorem pens_bad (l : List Pt) (cl : Bool) (h cap : Int) (hb : (penB h && capB cap && l.all roomP) = false) : strokeOut l cl h cap = (30, []) := by
  unfold strokeOut
  rw [hb]; rfl
end Go.Proofs.YtdidbejinfkhbaaDoor
