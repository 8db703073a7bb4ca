/- Layer 6: the document's From; what an append to a subpath's points leaves; folding on. -/
import Derived.Test.YtffgpikhahpomaaDoorSk
namespace Go.Proofs.YtffgpikhahpomaaDoor
open Go.RowKit
/-- What holds in a region that appends Y to a row and stores it: ib yields Y, ia appends, ic stores. -/
def AddG (ib ia ic : Nat) (t : TypeId) (w0 : World) (g o base : Nat) (v : Value) (L Y : List Pt) (b : Nat → Bool) (vs : Nat → Value) (w : World) : Prop :=
  (b ia = false → Below w0.heap.size w0 w ∧ (b ib = true → Row w (vs ib) Y)) ∧ (b ia = true → b ic = false → Grew w0 base t v (L ++ Y) (vs ia) w) ∧ (b ic = true → ∃ W1, w = W1.setCell ⟨g, o, none⟩ (vs ia) ∧ Grew w0 base t v (L ++ Y) (vs ia) W1)
section
variable {ib ia ic : Nat} {t : TypeId} {w0 w w' : World} {g o base : Nat} {v : Value} {L Y : List Pt} {b : Nat → Bool} {vs : Nat → Value}
theorem AddG.start (hb : Below w0.heap.size w0 w) (vs : Nat → Value) : AddG ib ia ic t w0 g o base v L Y (fun _ => false) vs w.drew :=
  ⟨fun _ => ⟨below_drewN hb 1, fun h => Bool.noConfusion h⟩, fun h => Bool.noConfusion h, fun h => Bool.noConfusion h⟩
theorem AddG.other (h : AddG ib ia ic t w0 g o base v L Y b vs w) (i : Nat) (u : Value) (h7 : ib ≠ i) (h8 : ia ≠ i) (h11 : ic ≠ i) : AddG ib ia ic t w0 g o base v L Y (upd b i true) (upd vs i u) w := by
  unfold AddG
  rw [upd_other _ _ _ _ h7, upd_other _ _ _ _ h8, upd_other _ _ _ _ h11, upd_other _ _ _ _ h7, upd_other _ _ _ _ h8]
  exact h
theorem AddG.made (h : AddG ib ia ic t w0 g o base v L Y b vs w) (h1 : ia ≠ ib) (h2 : ic ≠ ib) (b8 : b ia = false) (b11 : b ic = false) (u : Value) (hr : Row w' u Y) (hb : Below w.heap.size w w') : AddG ib ia ic t w0 g o base v L Y (upd b ib true) (upd vs ib u) w' := by
  unfold AddG
  rw [upd_same, upd_same, upd_other _ _ _ _ h1, upd_other _ _ _ _ h2, b8, b11]
  exact ⟨fun _ => ⟨below_next (h.1 b8).1 hb, fun _ => hr⟩, fun h => Bool.noConfusion h, fun h => Bool.noConfusion h⟩
theorem AddG.app (_ : AddG ib ia ic t w0 g o base v L Y b vs w) (h1 : ic ≠ ia) (b11 : b ic = false) (u : Value) (hg : Grew w0 base t v (L ++ Y) u w') : AddG ib ia ic t w0 g o base v L Y (upd b ia true) (upd vs ia u) w' := by
  have e11 : upd b ia true ic = false := by rw [upd_other _ _ _ _ h1]; exact b11
  refine ⟨fun h => ?_, fun _ _ => ?_, fun h => ?_⟩
  · rw [upd_same] at h; cases h
  · rw [upd_same]; exact hg
  · rw [e11] at h; cases h
theorem AddG.stored (h : AddG ib ia ic t w0 g o base v L Y b vs w) (h1 : ia ≠ ic) (b8 : b ia = true) (b11 : b ic = false) (x : Value) : AddG ib ia ic t w0 g o base v L Y (upd b ic true) (upd vs ic x) (w.setCell ⟨g, o, none⟩ (vs ia)) := by
  have e8 : upd b ic true ia = true := by rw [upd_other _ _ _ _ h1]; exact b8
  refine ⟨fun h => ?_, fun _ h => ?_, fun _ => ⟨w, ?_, ?_⟩⟩
  · rw [e8] at h; cases h
  · rw [upd_same] at h; cases h
  · rw [upd_other _ _ _ _ h1]
  · rw [upd_other _ _ _ _ h1]; exact h.2.1 b8 b11
end
/-- Folding on. -/
theorem fold_next {d k m : Nat} {l : List Sg} {S S2 : List Sb} {x s : Sg} {y y' : Sb} (hf : subsI d l = foldI d (aheadL l k) (l.drop k) (S.map Sb.plain)) (few : ∀ (i : Nat) (x : Sb), S[i]? = some x → x.L.length ≤ 64 * k) (len : S.length ≤ k) (hd : d ≤ 6) (hs : l[k]? = some s) (hx : aheadL l k = x)
    (hmap : S2.map Sb.plain = if s.k = 1 then S.map Sb.plain ++ [([], false)] else S.map Sb.plain) (hm : S2.length = m + 1) (hy : S2[m]? = some y) (hp : y'.plain = addI d x s y.plain) :
    subsI d l = foldI d (aheadL l (k + 1)) (l.drop (k + 1)) ((S2.set m y').map Sb.plain) ∧ S2.set m y' ≠ [] ∧ (∀ (i : Nat) (x : Sb), (S2.set m y')[i]? = some x → x.L.length ≤ 64 * (k + 1)) ∧ (S2.set m y').length ≤ k + 1 := by
  have hmk : ∀ (i : Nat) (z : Sb), S2[i]? = some z → z.L.length ≤ 64 * k := fun i z hz => by
    have hz' : (S2.map Sb.plain)[i]? = some z.plain := by rw [List.getElem?_map, hz]; rfl
    rw [hmap] at hz'
    have old : ∀ i, (S.map Sb.plain)[i]? = some z.plain → z.L.length ≤ 64 * k := fun i h => by
      rw [List.getElem?_map] at h
      cases hq : S[i]? with
      | none => rw [hq] at h; cases h
      | some q =>
        rw [hq] at h
        have e : q.L = z.L := congrArg Prod.fst (Option.some.inj h)
        rw [← e]; exact few i q hq
    split at hz'
    · rcases Nat.lt_or_ge i (S.map Sb.plain).length with hi | hi
      · rw [List.getElem?_append_left hi] at hz'; exact old i hz'
      · rw [List.getElem?_append_right hi] at hz'
        cases hq : i - (S.map Sb.plain).length with
        | zero =>
          rw [hq] at hz'
          have e : ([] : List Pt) = z.L := congrArg Prod.fst (Option.some.inj hz')
          rw [← e]; simp
        | succ q => rw [hq] at hz'; simp at hz'
    · exact old i hz'
  have hS2l : S2.length ≤ k + 1 := by
    have e : S2.length = (if s.k = 1 then S.map Sb.plain ++ [([], false)] else S.map Sb.plain).length := by rw [← hmap]; simp
    rw [e]
    split
    · simp; omega
    · simp; omega
  refine ⟨?_, fun e => ?_, fun i z hz => ?_, by rw [List.length_set]; exact hS2l⟩
  · rw [hf, drop_at hs, hx, aheadL_succ hs]
    simp only [foldI, stepI]
    rw [← hmap, lastI_set (addI d x s) (S2.map Sb.plain) m y.plain (by simpa using hm) (by rw [List.getElem?_map, hy]; rfl), ← hp, List.map_set]
  · have := congrArg List.length e
    rw [List.length_set, hm] at this
    cases this
  · by_cases e : i = m
    · subst e
      have hlt : i < S2.length := by omega
      rw [List.getElem?_set_self hlt] at hz
      cases hz
      have h1 := addI_len hd x s y.plain
      rw [← hp] at h1
      have h2 := hmk i y hy
      have h3 : y'.plain.1 = y'.L := rfl
      have h4 : y.plain.1 = y.L := rfl
      rw [h3, h4] at h1
      omega
    · rw [List.getElem?_set_ne (Ne.symm e)] at hz
      have := hmk i z hz
      omega
/-- One more subpath, with points. -/
theorem SubsAt.push {w w' : World} {base : Nat} {tS tP : TypeId} {u u' v : Value} {L : List Pt} {S : List Sb} (h : SubsAt w base tS tP u S) (hne : tP ≠ tS) (ho : Own w base tP v L) (ha : ∀ (i : Nat) (y : Sb), S[i]? = some y → Apart y.v v) (hg : w.grownBy w' u.ownBlock) (hrow : w'.ownsRow base tS 2 u' (S.length + 1) (cellsB S ++ [v, .bool false])) :
    SubsAt w' base tS tP u' (S ++ [⟨v, L, false⟩]) := by
  have at_ : ∀ (i : Nat) (x : Sb), (S ++ [⟨v, L, false⟩])[i]? = some x → S[i]? = some x ∨ (i = S.length ∧ x = ⟨v, L, false⟩) := fun i x hx => by
    rcases Nat.lt_or_ge i S.length with hi | hi
    · rw [List.getElem?_append_left hi] at hx; exact .inl hx
    · rw [List.getElem?_append_right hi] at hx
      cases hq : i - S.length with
      | zero => rw [hq] at hx; exact .inr ⟨by omega, by simpa using hx.symm⟩
      | succ q => rw [hq] at hx; simp at hx
  refine ⟨by rw [List.length_append, cellsB_append]; exact hrow, fun i x hx => ?_, fun i j x y hx hy hij => ?_⟩
  · rcases at_ i x hx with h1 | ⟨_, rfl⟩
    · exact World.ownsRow.kept (h.own i x h1) hg (apart_types (h.own i x h1) h.row hne)
    · exact World.ownsRow.kept ho hg (apart_types ho h.row hne)
  · rcases at_ i x hx with h1 | ⟨e1, rfl⟩
    · rcases at_ j y hy with h2 | ⟨e2, rfl⟩
      · exact h.apart i j x y h1 h2 hij
      · exact ha i x h1
    · rcases at_ j y hy with h2 | ⟨e2, rfl⟩
      · exact (ha j y h2).symm
      · omega
set_option maxHeartbeats 2000000 in
theorem from_1 (x : Sg) (b o c n i : Nat) (l : List Sg) (w : World) (hq : l[i - 1]? = some x) (hl : l.length = n) (hn : n ≤ 5000) (hi : 1 ≤ i) (hb : b < w.heap.size) (hs : SegsAt w b o l) (hk : needI x.k = 1) :
    Calls Tryd.prog 26 #[.slice (some ⟨b, o, none⟩) n c, .int .i64 (i : Int)] w fun e w' => e = .returned (.agg (two x.p)) ∧ Below w.heap.size w w' := by
  have hlt := (List.getElem?_eq_some_iff.1 hq).1
  have c0 := hs.c0 hq
  have cA := hs.c1 hq
  have cB := hs.c2 hq
  have HN := Lib.hid (refNeed_c x.k)
  rw [hk] at HN
  have hin : i - 1 < n := by omega
  have hi2 : i ≤ 5001 := by omega
  clear hq hl hs hk hlt hn
  go_enter Tryd.func26, Tryd.ntmps26
  go_wp2_with fail
  refine (HN.out _).mono ?_
  rintro e w' ⟨rfl, rfl⟩
  go_wp2_with fail
  go_returns
  exact ⟨rfl, by go_grown⟩
set_option maxHeartbeats 2000000 in
theorem from_2 (x : Sg) (b o c n i : Nat) (l : List Sg) (w : World) (hq : l[i - 1]? = some x) (hl : l.length = n) (hn : n ≤ 5000) (hi : 1 ≤ i) (hb : b < w.heap.size) (hs : SegsAt w b o l) (hk : needI x.k = 2) :
    Calls Tryd.prog 26 #[.slice (some ⟨b, o, none⟩) n c, .int .i64 (i : Int)] w fun e w' => e = .returned (.agg (two x.q)) ∧ Below w.heap.size w w' := by
  have hlt := (List.getElem?_eq_some_iff.1 hq).1
  have c0 := hs.c0 hq
  have cA := hs.c3 hq
  have cB := hs.c4 hq
  have HN := Lib.hid (refNeed_c x.k)
  rw [hk] at HN
  have hin : i - 1 < n := by omega
  have hi2 : i ≤ 5001 := by omega
  clear hq hl hs hk hlt hn
  go_enter Tryd.func26, Tryd.ntmps26
  go_wp2_with fail
  refine (HN.out _).mono ?_
  rintro e w' ⟨rfl, rfl⟩
  go_wp2_with fail
  go_returns
  exact ⟨rfl, by go_grown⟩
set_option maxHeartbeats 2000000 in
theorem from_3 (x : Sg) (b o c n i : Nat) (l : List Sg) (w : World) (hq : l[i - 1]? = some x) (hl : l.length = n) (hn : n ≤ 5000) (hi : 1 ≤ i) (hb : b < w.heap.size) (hs : SegsAt w b o l) (hk : needI x.k = 3) :
    Calls Tryd.prog 26 #[.slice (some ⟨b, o, none⟩) n c, .int .i64 (i : Int)] w fun e w' => e = .returned (.agg (two x.r)) ∧ Below w.heap.size w w' := by
  have hlt := (List.getElem?_eq_some_iff.1 hq).1
  have c0 := hs.c0 hq
  have cA := hs.c5 hq
  have cB := hs.c6 hq
  have HN := Lib.hid (refNeed_c x.k)
  rw [hk] at HN
  have hin : i - 1 < n := by omega
  have hi2 : i ≤ 5001 := by omega
  clear hq hl hs hk hlt hn
  go_enter Tryd.func26, Tryd.ntmps26
  go_wp2_with fail
  refine (HN.out _).mono ?_
  rintro e w' ⟨rfl, rfl⟩
  go_wp2_with fail
  go_returns
  exact ⟨rfl, by go_grown⟩
theorem from_c (x : Sg) (b o c n i : Nat) (l : List Sg) (w : World) (hq : l[i - 1]? = some x) (hl : l.length = n) (hn : n ≤ 5000) (hi : 1 ≤ i) (hb : b < w.heap.size) (hs : SegsAt w b o l) (hk : 1 ≤ needI x.k) :
    Calls Tryd.prog 26 #[.slice (some ⟨b, o, none⟩) n c, .int .i64 (i : Int)] w fun e w' => e = .returned (.agg (two (endI x))) ∧ Below w.heap.size w w' := by
  have h3 := needI_le x.k
  rcases (by omega : needI x.k = 1 ∨ needI x.k = 2 ∨ needI x.k = 3) with h | h | h
  · have e : endI x = x.p := by simp [endI, h, Sg.pts]
    rw [e]; exact from_1 x b o c n i l w hq hl hn hi hb hs h
  · have e : endI x = x.q := by simp [endI, h, Sg.pts]
    rw [e]; exact from_2 x b o c n i l w hq hl hn hi hb hs h
  · have e : endI x = x.r := by simp [endI, h, Sg.pts]
    rw [e]; exact from_3 x b o c n i l w hq hl hn hi hb hs h
end Go.Proofs.YtffgpikhahpomaaDoor
