/- Layer 15: reading, plain. -/
import Derived.Test.YtbnbglngpgikfaaGreatDoorPa
import Derived.Test.YtbnbglngpgikfaaGreatDoorNs2
import Derived.Test.YtbnbglngpgikfaaGreatDoorSd
namespace Go.Proofs.YtbnbglngpgikfaaGreatDoor
open Go.RowKit
/-! Texts of numbers are words. -/
theorem digit_plain {c : UInt8} (h : 48 ≤ c.toNat ∧ c.toNat ≤ 57) : plainB c = true := by
  have e : c = UInt8.ofNat c.toNat := by simp
  obtain ⟨n, hn⟩ : ∃ n, c.toNat = n := ⟨_, rfl⟩
  rw [hn] at h e
  rcases (by omega : n = 48 ∨ n = 49 ∨ n = 50 ∨ n = 51 ∨ n = 52 ∨ n = 53 ∨ n = 54 ∨ n = 55 ∨ n = 56 ∨ n = 57) with rfl | rfl | rfl | rfl | rfl | rfl | rfl | rfl | rfl | rfl <;> subst e <;> decide
theorem digs_plain {l : List UInt8} (h : digs l) : plainL l := fun c hc => digit_plain (h c hc)
theorem trim_mem {l : List UInt8} {c x : UInt8} (h : x ∈ Lib.trimRightB l c) : x ∈ l := by
  unfold Lib.trimRightB at h
  rw [List.mem_reverse] at h
  have := (List.dropWhile_suffix (l := l.reverse) (fun x => x == c)).subset h
  simpa using this
theorem part_plain (p : Int) (h0 : 0 ≤ p) (h1 : p ≤ 255) : plainL (partT p) := by
  by_cases h : p = 0
  · subst h; intro c hc; simp [partT] at hc
  · rw [partT_pos p (by omega) h1]
    intro c hc
    rcases List.mem_cons.1 hc with rfl | hc
    · decide
    · obtain ⟨n, rfl⟩ := Int.eq_ofNat_of_zero_le h0
      exact digs_plain (padD_val 8 _ (by simp; omega)).1 c (trim_mem hc)
theorem itoa_digs (n : Int) (h : 0 ≤ n) : digs (Lib.itoa n) ∧ Lib.itoa n ≠ [] := by
  obtain ⟨u, rfl⟩ := Int.eq_ofNat_of_zero_le h
  rw [itoa_nat]
  exact ⟨(dec_digs u).1, dec_ne u⟩
theorem text_plain (a : Int) (h : inB a = true) : plainL (textT a) := by
  have := inB_iff.1 h
  unfold textT
  split
  · intro c hc
    rcases List.mem_cons.1 hc with rfl | hc
    · decide
    · exact plainL_append (digs_plain (itoa_digs _ (by omega)).1) (part_plain _ (by omega) (by omega)) c hc
  · exact plainL_append (digs_plain (itoa_digs _ (by omega)).1) (part_plain _ (by omega) (by omega))
theorem text_word (a : Int) (h : inB a = true) : isWord (textT a) := .inr ⟨text_ne a, text_plain a h⟩
theorem text_cons (a : Int) (h : inB a = true) : ∃ c r, textT a = c :: r ∧ letB c = false := by
  have h1 := text_plain a h
  have h2 := text_ne a
  revert h1 h2
  generalize textT a = t
  intro h1 h2
  cases t with
  | nil => exact absurd rfl h2
  | cons c r => exact ⟨c, r, rfl, (plain_iff.1 (h1 c (List.mem_cons_self ..))).2⟩
/-- The number that a word is. -/
def numW (w : Wd) : Option Int := (readF w).bind fun a => if inB a = true ∧ textT a = w then some a else none
theorem num_text (a : Int) (h : inB a = true) : numW (textT a) = some a := by
  unfold numW
  rw [read_text a h, Option.bind_some, if_pos ⟨h, rfl⟩]
theorem num_some {w : Wd} {a : Int} (h : numW w = some a) : inB a = true ∧ textT a = w := by
  unfold numW at h
  obtain ⟨x, h1, h2⟩ := Option.bind_eq_some_iff.1 h
  split at h2
  · rename_i hx
    cases h2
    exact hx
  · cases h2
theorem num_iff {w : Wd} {a : Int} : numW w = some a ↔ inB a = true ∧ textT a = w := ⟨num_some, fun h => h.2 ▸ num_text a h.1⟩
theorem in_room (a : Int) : inB a = room a := by
  simp [inB, room]
/-! A segment's coordinates. -/
def setAt (s : Sg) : Nat → Int → Sg
  | 0, v => { s with p := (v, s.p.2) }
  | 1, v => { s with p := (s.p.1, v) }
  | 2, v => { s with q := (v, s.q.2) }
  | 3, v => { s with q := (s.q.1, v) }
  | 4, v => { s with r := (v, s.r.2) }
  | _, v => { s with r := (s.r.1, v) }
def zeroS (k : Int) : Sg := ⟨k, (0, 0), (0, 0), (0, 0)⟩
/-- How far a text has been read. -/
structure Rs where
  l : List Sg
  s : Sg
  due : Nat
  small : Bool
  opn : Bool
  b : Pt
  e : Pt
def Rs.none : Rs := ⟨[], zeroS 0, 0, false, false, (0, 0), (0, 0)⟩
def startR (st : Rs) (k : Int) : Rs := { st with s := zeroS k, due := 2 * needI k }
def endP (s : Sg) : Pt := if s.k = 3 then s.q else if s.k = 4 then s.r else s.p
def finR (st : Rs) : Rs :=
  if st.s.k = 1 then { st with l := st.l ++ [st.s], opn := true, b := st.s.p, e := st.s.p, s := { st.s with k := 2 } }
  else if st.s.k = 5 then { st with l := st.l ++ [st.s], opn := false, e := st.b }
  else { st with l := st.l ++ [st.s], opn := true, e := endP st.s }
def kindL (c : UInt8) : Int := if c = 77 ∨ c = 109 then 1 else if c = 76 ∨ c = 108 then 2 else if c = 81 ∨ c = 113 then 3 else if c = 67 ∨ c = 99 then 4 else if c = 90 ∨ c = 122 then 5 else 0
def smallL (c : UInt8) : Bool := decide (97 ≤ c.toNat)
def letR (st : Rs) (c : UInt8) : Except Int Rs :=
  if kindL c = 0 ∨ 0 < st.due then .error 20
  else if kindL c = 5 ∧ st.l.length = 4096 then .error 36
  else if kindL c ≠ 1 ∧ st.opn = false then .error 33
  else .ok (if kindL c = 5 then finR (startR { st with small := smallL c } 5) else startR { st with small := smallL c } (kindL c))
def primeR (st : Rs) : Rs := if st.due = 0 then startR st st.s.k else st
def atR (st : Rs) : Nat := 2 * needI st.s.k - st.due
def fromR (st : Rs) : Int := if st.small = true then (if atR st % 2 = 0 then st.e.1 else st.e.2) else 0
def putR (st : Rs) (n : Int) : Except Int Rs := if room (fromR st + n) = true then .ok { st with s := setAt st.s (atR st) (fromR st + n), due := st.due - 1 } else .error 10
def doneR (st : Rs) : Except Int Rs := if 0 < st.due then .ok st else if st.l.length = 4096 then .error 36 else .ok (finR st)
def numR (st : Rs) (w : Wd) : Except Int Rs :=
  match numW w with
  | .none => .error 20
  | .some n => if st.due = 0 then .error 20 else match putR st n with
    | .error e => .error e
    | .ok st => doneR st
def stepR (st : Rs) : Wd → Except Int Rs
  | [] => .error 20
  | c :: r => if letB c = true then letR st c else numR (primeR st) (c :: r)
def readR (st : Rs) (a : Nat) : List Wd → List Sg × Nat × Int
  | [] => if 0 < st.due then ([], a, 20) else (st.l, a, 0)
  | w :: ws => match stepR st w with
    | .error e => ([], a, e)
    | .ok st' => readR st' (a + 1) ws
/-! What is read is right. -/
theorem goI_snoc : ∀ (l : List Sg) (x s : Sg), goI x (l ++ [s]) = if goI x l = 0 then faultI ((x :: l).getLast (by simp)) s else goI x l
  | [], x, s => by
    rw [List.nil_append, goI, goI, goI, if_pos rfl]
    split
    · rename_i h; exact h.symm
    · rfl
  | y :: l, x, s => by
    rw [List.cons_append, goI, goI]
    by_cases h : faultI x y = 0
    · rw [if_pos h, if_pos h, goI_snoc l y s]
      simp
    · rw [if_neg h, if_neg h, if_neg h]
def lastS (l : List Sg) : Sg := (shut0 :: l).getLast (by simp)
theorem lastS_snoc (l : List Sg) (s : Sg) : lastS (l ++ [s]) = s := by
  show ((shut0 :: l) ++ [s]).getLast _ = s
  exact List.getLast_concat
def coordsL (s : Sg) : List Int := [s.p.1, s.p.2, s.q.1, s.q.2, s.r.1, s.r.2]
/-- The segment under way is right as far as it goes. -/
structure OkR (st : Rs) : Prop where
  go : goI shut0 st.l = 0
  len : st.l.length ≤ 4096
  opn : st.opn = decide ((lastS st.l).k ≠ 5)
  e : roomP st.e = true
  b : roomP st.b = true
  kind : 0 < st.due → isKindB st.s.k = true ∧ (st.s.k = 1 ∨ st.opn = true)
  next : st.due = 0 → 0 < needI st.s.k → isKindB st.s.k = true ∧ st.s.k ≠ 1 ∧ st.opn = true
  due : st.due ≤ 2 * needI st.s.k
  zero : 0 < st.due → ∀ j v, (coordsL st.s)[j]? = some v → atR st ≤ j → v = 0
  rm : 0 < st.due → ∀ v ∈ coordsL st.s, room v = true
theorem OkR.none : OkR Rs.none := ⟨rfl, by decide, by decide, by decide, by decide, fun h => absurd h (by decide), fun _ h => absurd h (by decide), by decide, fun h => absurd h (by decide), fun h => absurd h (by decide)⟩
theorem needI_kind {k : Int} (h : 0 < needI k) : k = 1 ∨ k = 2 ∨ k = 3 ∨ k = 4 := by
  unfold needI at h
  by_cases h1 : k = 1
  · exact .inl h1
  by_cases h2 : k = 2
  · exact .inr (.inl h2)
  by_cases h3 : k = 3
  · exact .inr (.inr (.inl h3))
  by_cases h4 : k = 4
  · exact .inr (.inr (.inr h4))
  simp [h1, h2, h3, h4] at h
theorem zeroS_all (k : Int) : ∀ v ∈ coordsL (zeroS k), v = 0 := by simp [coordsL, zeroS]
theorem OkR.start {st : Rs} (h : OkR st) (k : Int) (m : Bool) (hk : isKindB k = true) (ho : k = 1 ∨ st.opn = true) (hp : 0 < needI k) : OkR (startR { st with small := m } k) :=
  ⟨h.go, h.len, h.opn, h.e, h.b, fun _ => ⟨hk, ho⟩, fun hd => by simp [startR] at hd; omega, Nat.le_refl _,
    fun _ j v hv _ => zeroS_all k v (List.mem_of_getElem? hv), fun _ v hv => by rw [zeroS_all k v hv]; decide⟩
theorem OkR.prime {st : Rs} (h : OkR st) : primeR st = startR st st.s.k ∧ needI st.s.k = 0 ∧ st.due = 0 ∨ OkR (primeR st) ∧ 0 < (primeR st).due := by
  unfold primeR
  by_cases hd : st.due = 0
  · rw [if_pos hd]
    by_cases hn : needI st.s.k = 0
    · exact .inl ⟨rfl, hn, hd⟩
    · obtain ⟨h1, h2, h3⟩ := h.next hd (by omega)
      refine .inr ⟨h.start st.s.k st.small h1 (.inr h3) (by omega), ?_⟩
      simp [startR]; omega
  · rw [if_neg hd]
    exact .inr ⟨h, by omega⟩
theorem coords_set (s : Sg) (j : Nat) (v : Int) (hj : j ≤ 5) : coordsL (setAt s j v) = (coordsL s).set j v := by
  rcases (by omega : j = 0 ∨ j = 1 ∨ j = 2 ∨ j = 3 ∨ j = 4 ∨ j = 5) with rfl | rfl | rfl | rfl | rfl | rfl <;> rfl
theorem setAt_k (s : Sg) (j : Nat) (v : Int) : (setAt s j v).k = s.k := by
  rcases j with _ | _ | _ | _ | _ | j <;> rfl
theorem OkR.from_room {st : Rs} (h : OkR st) : room (fromR st) = true := by
  have he := h.e
  unfold roomP at he
  rw [Bool.and_eq_true] at he
  unfold fromR
  split
  · split
    · exact he.1
    · exact he.2
  · decide
theorem loops_zero {n : Nat} {l : List Pt} (h1 : ∀ p ∈ l.drop n, p = (0, 0)) (h2 : ∀ p ∈ l.take n, roomP p = true) : loopsI n l = 0 := by
  unfold loopsI
  rw [if_neg, if_neg]
  · rw [Bool.not_eq_true, List.any_eq_false]
    intro p hp
    rw [h2 p hp]; decide
  · rw [Bool.not_eq_true, List.any_eq_false]
    intro p hp
    rw [h1 p hp]; decide
/-- A segment whose coordinates are right, behind a right path. -/
theorem fault_zero {x s : Sg} (hk : isKindB s.k = true) (ho : s.k = 1 ∨ x.k ≠ 5) (hz : ∀ j v, (coordsL s)[j]? = some v → 2 * needI s.k ≤ j → v = 0) (hr : ∀ v ∈ coordsL s, room v = true) : faultI x s = 0 := by
  unfold faultI
  rw [if_neg (by
    rw [hk]
    simp
    intro h
    rcases ho with h1 | h1
    · exact absurd h1 h
    · exact h1)]
  obtain ⟨k, ⟨p1, p2⟩, ⟨q1, q2⟩, ⟨r1, r2⟩⟩ := s
  have hn : needI k ≤ 3 := needI_le k
  simp only [coordsL] at hr hz
  refine loops_zero (fun p hp => ?_) (fun p hp => ?_)
  · rcases (by omega : needI k = 0 ∨ needI k = 1 ∨ needI k = 2 ∨ needI k = 3) with e | e | e | e
    · simp only [e] at hp hz
      have z0 := hz 0 p1 rfl (by omega); have z1 := hz 1 p2 rfl (by omega); have z2 := hz 2 q1 rfl (by omega); have z3 := hz 3 q2 rfl (by omega); have z4 := hz 4 r1 rfl (by omega); have z5 := hz 5 r2 rfl (by omega)
      subst z0 z1 z2 z3 z4 z5
      simp [Sg.pts] at hp
      exact hp
    · simp only [e] at hp hz
      have z2 := hz 2 q1 rfl (by omega); have z3 := hz 3 q2 rfl (by omega); have z4 := hz 4 r1 rfl (by omega); have z5 := hz 5 r2 rfl (by omega)
      subst z2 z3 z4 z5
      simp [Sg.pts] at hp
      exact hp
    · simp only [e] at hp hz
      have z4 := hz 4 r1 rfl (by omega); have z5 := hz 5 r2 rfl (by omega)
      subst z4 z5
      simp [Sg.pts] at hp
      exact hp
    · simp [Sg.pts, e] at hp
  · have hp := List.mem_of_mem_take hp
    simp only [Sg.pts, List.mem_cons, List.not_mem_nil, or_false] at hp
    rcases hp with rfl | rfl | rfl
    · simp [roomP, hr p1 (by simp), hr p2 (by simp)]
    · simp [roomP, hr q1 (by simp), hr q2 (by simp)]
    · simp [roomP, hr r1 (by simp), hr r2 (by simp)]
theorem roomP_of {s : Sg} (hr : ∀ v ∈ coordsL s, room v = true) : roomP s.p = true ∧ roomP s.q = true ∧ roomP s.r = true := by
  simp [coordsL] at hr
  simp [roomP, hr]
theorem OkR.fin {st : Rs} (go : goI shut0 st.l = 0) (len : st.l.length < 4096) (opn : st.opn = decide ((lastS st.l).k ≠ 5)) (_e : roomP st.e = true) (b : roomP st.b = true)
    (kind : isKindB st.s.k = true) (may : st.s.k = 1 ∨ st.opn = true) (hz : ∀ j v, (coordsL st.s)[j]? = some v → 2 * needI st.s.k ≤ j → v = 0) (hr : ∀ v ∈ coordsL st.s, room v = true) (hd : st.due = 0) : OkR (finR st) := by
  have hg : goI shut0 (st.l ++ [st.s]) = 0 := by
    rw [goI_snoc, if_pos go]
    refine fault_zero kind ?_ hz hr
    rcases may with h | h
    · exact .inl h
    · rw [opn] at h
      exact .inr (of_decide_eq_true h)
  have hl : (st.l ++ [st.s]).length ≤ 4096 := by simp; omega
  obtain ⟨r1, r2, r3⟩ := roomP_of hr
  unfold finR
  by_cases h1 : st.s.k = 1
  · rw [if_pos h1]
    exact ⟨hg, hl, by simp [lastS_snoc, h1], r1, r1, fun h => absurd h (by simp [hd]), fun _ _ => ⟨by simp [isKindB], by simp, rfl⟩, by simp [hd], fun h => absurd h (by simp [hd]), fun h => absurd h (by simp [hd])⟩
  · rw [if_neg h1]
    by_cases h5 : st.s.k = 5
    · rw [if_pos h5]
      exact ⟨hg, hl, by simp [lastS_snoc, h5], b, b, fun h => absurd h (by simp [hd]), fun _ h => absurd h (by simp [h5, needI]), by simp [hd], fun h => absurd h (by simp [hd]), fun h => absurd h (by simp [hd])⟩
    · rw [if_neg h5]
      refine ⟨hg, hl, by simp [lastS_snoc, h5], ?_, b, fun h => absurd h (by simp [hd]), fun _ _ => ⟨kind, h1, rfl⟩, by simp [hd], fun h => absurd h (by simp [hd]), fun h => absurd h (by simp [hd])⟩
      show roomP (endP st.s) = true
      unfold endP
      split
      · exact r2
      · split
        · exact r3
        · exact r1
theorem OkR.step {st st' : Rs} (h : OkR st) (w : Wd) (hs : stepR st w = .ok st') : OkR st' := by
  cases w with
  | nil => cases hs
  | cons c r =>
    rw [stepR] at hs
    split at hs
    · unfold letR at hs
      split at hs
      · cases hs
      · rename_i h0
        split at hs
        · cases hs
        · rename_i h1
          split at hs
          · cases hs
          · rename_i h2
            cases hs
            have hk : isKindB (kindL c) = true := by
              revert h0; unfold kindL isKindB
              repeat' split
              all_goals simp
            have hopn : kindL c = 1 ∨ st.opn = true := by
              by_cases e : kindL c = 1
              · exact .inl e
              · exact .inr (by cases ho : st.opn with | true => rfl | false => exact absurd ⟨e, ho⟩ h2)
            split
            · rename_i h5
              rw [h5] at hopn h1
              refine OkR.fin (st := startR { st with small := smallL c } 5) h.go ?_ h.opn h.e h.b rfl hopn (fun j v hv _ => zeroS_all 5 v (List.mem_of_getElem? hv)) (fun v hv => by rw [zeroS_all 5 v hv]; decide) rfl
              have := h.len
              have h3 : ¬ st.l.length = 4096 := fun e => h1 ⟨rfl, e⟩
              show st.l.length < 4096
              omega
            · rename_i h5
              refine h.start _ _ hk hopn ?_
              rcases isKind_cases hk with e | e | e | e | e <;> rw [e] <;> first | decide | exact absurd e h5
    · unfold numR at hs
      split at hs
      · cases hs
      · rename_i n hn
        split at hs
        · cases hs
        · rename_i hd0
          rcases h.prime with ⟨e1, e2, _⟩ | ⟨hp, hd⟩
          · rw [e1] at hd0
            exact absurd (by simp [startR, e2]) hd0
          · generalize primeR st = sp at *
            split at hs
            · cases hs
            · rename_i sq hq
              unfold putR at hq
              split at hq
              · rename_i hroom
                cases hq
                obtain ⟨hk1, hk2⟩ := hp.kind hd
                have hdue := hp.due
                have hn3 := needI_le sp.s.k
                have hj : atR sp ≤ 5 := by unfold atR; omega
                have hlt : atR sp < 6 := by omega
                have hz : ∀ j v, (coordsL (setAt sp.s (atR sp) (fromR sp + n)))[j]? = some v → atR sp + 1 ≤ j → v = 0 := fun j v hv hjj => by
                  rw [coords_set _ _ _ hj, List.getElem?_set_ne (by omega)] at hv
                  exact hp.zero hd j v hv (by omega)
                have hr : ∀ v ∈ coordsL (setAt sp.s (atR sp) (fromR sp + n)), room v = true := fun v hv => by
                  rw [coords_set _ _ _ hj] at hv
                  rcases List.mem_or_eq_of_mem_set hv with h | h
                  · exact hp.rm hd v h
                  · rw [h]; exact hroom
                unfold doneR at hs
                split at hs
                · rename_i hd1
                  cases hs
                  refine ⟨hp.go, hp.len, hp.opn, hp.e, hp.b, fun _ => ⟨by rw [setAt_k]; exact hk1, by rw [setAt_k]; exact hk2⟩, fun e => absurd e (by simp at hd1 ⊢; omega), by simp [setAt_k]; omega, fun _ j v hv hjj => hz j v hv ?_, fun _ => hr⟩
                  unfold atR at hjj ⊢
                  simp only [setAt_k] at hjj
                  simp at hd1
                  omega
                · rename_i hd1
                  split at hs
                  · cases hs
                  · rename_i hfull
                    cases hs
                    simp at hd1 hfull
                    refine OkR.fin hp.go (by have := hp.len; show sp.l.length < 4096; omega) hp.opn hp.e hp.b (by rw [setAt_k]; exact hk1) (by rw [setAt_k]; exact hk2) (fun j v hv hjj => hz j v hv ?_) hr (by simp; omega)
                    simp only [setAt_k] at hjj
                    unfold atR
                    omega
              · cases hq
theorem readR_right : ∀ (ws : List Wd) (st : Rs) (a : Nat), OkR st → ∀ l n, readR st a ws = (l, n, 0) → checkI l = 0
  | [], st, a, h, l, n, e => by
    rw [readR] at e
    split at e
    · simp at e
    · cases e
      unfold checkI
      rw [if_neg (by have := h.len; omega)]
      exact h.go
  | w :: ws, st, a, h, l, n, e => by
    rw [readR] at e
    split at e
    · rename_i x hx
      cases e
      exfalso
      cases w with
      | nil => cases hx
      | cons c r =>
        have key : stepR st (c :: r) ≠ .error 0 := by
          rw [stepR]
          unfold letR numR putR doneR
          repeat' split
          all_goals first | simp | skip
          all_goals (intro hh; cases hh; rename_i hq; repeat' split at hq; all_goals cases hq)
        exact key hx
    · rename_i st' hst
      exact readR_right ws st' (a + 1) (h.step w hst) l n e
#print axioms readR_right
end Go.Proofs.YtbnbglngpgikfaaGreatDoor
