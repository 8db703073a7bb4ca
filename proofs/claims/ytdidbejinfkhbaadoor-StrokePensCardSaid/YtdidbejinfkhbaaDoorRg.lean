/- Layer 7: the document's Stroke, whole. -/
import Derived.Test.YtdidbejinfkhbaaDoorRd
import Derived.Test.YtdidbejinfkhbaaDoorRe
import Derived.Test.YtdidbejinfkhbaaDoorRf
namespace Go.Proofs.YtdidbejinfkhbaaDoor
open Go.RowKit
theorem mid_of_getD {c : List Pt} (hroom : ∀ p ∈ c, roomP p = true) {k : Nat} (hk : k < c.length) : c[k]? = some (c.getD k (0, 0)) ∧ roomP (c.getD k (0, 0)) = true := by
  have e : c[k]? = some (c.getD k (0, 0)) := by rw [List.getD_eq_getElem?_getD, List.getElem?_eq_getElem hk]; rfl
  exact ⟨e, hroom _ (List.mem_of_getElem? e)⟩
theorem barsR_le (c : List Pt) (h : Int) : ∀ k, ∀ L ∈ barsR c h k, L.length ≤ 100000
  | 0, L, hL => by cases hL
  | k + 1, L, hL => by
    rw [barsR] at hL
    rcases List.mem_append.1 hL with hL | hL
    · exact barsR_le c h k L hL
    · obtain rfl := List.mem_singleton.1 hL; simp [barI, slabI]
theorem discsR_le (c : List Pt) (h : Int) : ∀ k, ∀ L ∈ discsR c h k, L.length ≤ 100000
  | 0, L, hL => by cases hL
  | k + 1, L, hL => by
    rw [discsR] at hL
    rcases List.mem_append.1 hL with hL | hL
    · exact discsR_le c h k L hL
    · obtain rfl := List.mem_singleton.1 hL; rw [disc_len]; decide
theorem discsO_le (c : List Pt) (h : Int) : ∀ k, ∀ L ∈ discsO c h k, L.length ≤ 100000
  | 0, L, hL => by cases hL
  | k + 1, L, hL => by
    rw [discsO] at hL
    rcases List.mem_append.1 hL with hL | hL
    · exact discsO_le c h k L hL
    · split at hL
      · obtain rfl := List.mem_singleton.1 hL; rw [disc_len]; decide
      · cases hL
theorem inAll_c : ∀ (s : Value) (L : List Pt) (w' : World), Row w' s L → L.length ≤ 100000 → Calls Tryd.prog 13 #[s] w' fun e w'' => e = .returned (.bool (L.all roomP)) ∧ Below w'.heap.size w' w'' := fun s L w' hrow hl => refIn7_c s L w' hl hrow
theorem rstroke_c (ao : Option Addr) (n cc : Nat) (l : List Pt) (cl : Bool) (h cap : Int) (w : World) (row : Row w (.slice ao n cc) l) (hl : l.length ≤ 30) (hh : penB h = true) (hcap : cap = 0 ∨ cap = 1 ∨ cap = 2) (hr : l.all roomP = true) :
    Calls Tryd.prog 18 #[.slice ao n cc, .bool cl, .int .i64 h, .int .i64 cap] w (RPost w (refOf (apartI l cl) cl h cap).1 (refOf (apartI l cl) cl h cap).2) := by
  have HPL := Lib.hid (rplain_c (.slice ao n cc) l cl w row (by omega))
  have hp := penB_iff.1 hh
  have hlen := apartI_len l cl
  have hroom : ∀ p ∈ apartI l cl, roomP p = true := fun p hp => List.all_eq_true.1 hr p (apartI_mem hp)
  have hadj := apartI_adj l cl
  have hdone : ¬ condB (apartI l cl) cl := apartF_done l cl
  generalize apartI l cl = c at *
  have at_ : ∀ k, k < c.length → c[k]? = some (c.getD k (0, 0)) ∧ roomP (c.getD k (0, 0)) = true := fun k hk => mid_of_getD hroom hk
  have ne : ∀ k, k + 1 < c.length → c.getD k (0, 0) ≠ c.getD (k + 1) (0, 0) := fun k hk => hadj k _ _ (at_ k (by omega)).1 (at_ (k + 1) hk).1
  have HD : ∀ k, k < c.length → ∀ w, Calls Tryd.prog 11 #[.agg #[.int .i64 (c.getD k (0, 0)).1, .int .i64 (c.getD k (0, 0)).2], .int .i64 h] w fun e w' => ∃ v, e = .returned v ∧ Own w' w.heap.size 32 v (discI (c.getD k (0, 0)) h) ∧ Below w.heap.size w w' := fun k hk w => rdisc_c _ h (mid_of_room (at_ k hk).2) hp w
  unfold refOf
  by_cases h0 : c.length = 0
  · rw [if_pos h0]
    obtain rfl := List.eq_nil_of_length_eq_zero h0
    exact rnone_walk ao n cc cl h w cap HPL
  rw [if_neg h0]
  by_cases h1 : c.length = 1
  · rw [if_pos h1]
    have e1 : c = [c.getD 0 (0, 0)] := by
      match c, h1 with
      | [p], _ => rfl
    have r0 := roomP_iff.1 (at_ 0 (by omega)).2
    have HD0 := HD 0 (by omega)
    generalize c.getD 0 (0, 0) = p at *
    subst e1
    rcases hcap with rfl | rfl | rfl
    · exact rone_0 ao n cc cl h w p HPL
    · exact rone_1 ao n cc cl h w p HPL (Lib.hid HD0) (Lib.hid fun L hL => by obtain rfl := List.mem_singleton.1 hL; rw [disc_len]; decide) inAll_c
    · have ed : dotI p h = [(p.1 - h, p.2 - h), (p.1 + h, p.2 - h), (p.1 + h, p.2 + h), (p.1 - h, p.2 + h)] := by
        simp only [dotI, slabI, subP, addP]
        simp
      show Calls _ _ _ _ (RPost w (roomL [dotI p h]) [dotI p h])
      rw [ed]
      exact rone_2 ao n cc cl h w p _ _ _ _ (wrapR _ (by omega) (by omega)) (wrapR _ (by omega) (by omega)) (wrapR _ (by omega) (by omega)) (wrapR _ (by omega) (by omega)) HPL (Lib.hid fun L hL => by obtain rfl := List.mem_singleton.1 hL; simp) inAll_c
  rw [if_neg h1]
  obtain ⟨m, hm⟩ : ∃ m, c.length = m := ⟨_, rfl⟩
  have HLONG : ∀ k, k < m → ∀ w, Calls Tryd.prog 43 #[.agg #[.int .i64 (c.getD k (0, 0)).1, .int .i64 (c.getD k (0, 0)).2], .agg #[.int .i64 (c.getD ((k + 1) % c.length) (0, 0)).1, .int .i64 (c.getD ((k + 1) % c.length) (0, 0)).2]] w fun e w' => e = .returned (.bool (!lenB (subP (c.getD ((k + 1) % c.length) (0, 0)) (c.getD k (0, 0))))) ∧ Below w.heap.size w w' := fun k hk w =>
    long_c _ _ (at_ k (by omega)).2 (at_ _ (Nat.mod_lt _ (by omega))).2 w
  have HBAR : ∀ k, k < m → c.getD k (0, 0) ≠ c.getD ((k + 1) % c.length) (0, 0) → lenB (subP (c.getD ((k + 1) % c.length) (0, 0)) (c.getD k (0, 0))) = true → ∀ w, Calls Tryd.prog 44 #[.agg #[.int .i64 (c.getD k (0, 0)).1, .int .i64 (c.getD k (0, 0)).2], .agg #[.int .i64 (c.getD ((k + 1) % c.length) (0, 0)).1, .int .i64 (c.getD ((k + 1) % c.length) (0, 0)).2], .int .i64 h] w fun e w' => ∃ v, e = .returned v ∧ Own w' w.heap.size 32 v (barI (c.getD k (0, 0)) (c.getD ((k + 1) % c.length) (0, 0)) h) ∧ Below w.heap.size w w' := fun k hk hne hlb w =>
    rbar_c _ _ h (at_ k (by omega)).2 (at_ _ (Nat.mod_lt _ (by omega))).2 (lenB_iff.1 hlb) (ne_sub hne) hp w
  cases cl
  · rw [if_neg (by decide)]
    have hmod : ∀ k, k < m - 1 → (k + 1) % c.length = k + 1 := fun k hk => Nat.mod_eq_of_lt (by omega)
    have hne : ∀ k, k < m - 1 → c.getD k (0, 0) ≠ c.getD ((k + 1) % c.length) (0, 0) := fun k hk => by rw [hmod k hk]; exact ne k (by omega)
    have hP0 := (at_ 0 (by omega)).1
    have hP1 := (at_ 1 (by omega)).1
    have hPK := (at_ (m - 2) (by omega)).1
    have hPZ := (at_ (m - 1) (by omega)).1
    have w1 : wrap64 ((m : Int) - 1) = ((m - 1 : Nat) : Int) := by rw [wrapR _ (by omega) (by omega)]; omega
    have w2 : wrap64 ((m : Int) - 2) = ((m - 2 : Nat) : Int) := by rw [wrapR _ (by omega) (by omega)]; omega
    have HSB : ∀ L ∈ barsR c h (m - 1) ++ discsO c h m, L.length ≤ 100000 := fun L hL => (List.mem_append.1 hL).elim (barsR_le c h _ L) (discsO_le c h _ L)
    unfold capsR
    rw [hm]
    rcases hcap with rfl | rfl | rfl
    · rw [if_neg (by decide), if_neg (by decide), List.append_nil]
      exact ropen_0 ao n cc h w c m hm (by omega) (by omega) _ HPL (Lib.hid fun k hk => HLONG k (by omega)) (Lib.hid fun k hk => HBAR k (by omega) (hne k hk)) (Lib.hid fun k hk => HD k (by omega)) (Lib.hid fun k hk => nlF_no c (m - 1) k hk) (Lib.hid fun hk => nlF_yes c (m - 1) hk) (Lib.hid HSB) inAll_c
    · rw [if_pos rfl]
      exact ropen_1 ao n cc h w c m hm (by omega) (by omega) _ HPL (Lib.hid fun k hk => HLONG k (by omega)) (Lib.hid fun k hk => HBAR k (by omega) (hne k hk)) (Lib.hid fun k hk => HD k (by omega)) (Lib.hid fun k hk => nlF_no c (m - 1) k hk) (Lib.hid fun hk => nlF_yes c (m - 1) hk) _ _ (m - 1) hP0 hPZ w1 (by unfold Hid; rw [wrap_is]; exact w1) (by unfold Hid; omega) (by unfold Hid; omega) (Lib.hid (HD 0 (by omega))) (Lib.hid (HD (m - 1) (by omega)))
        (Lib.hid fun L hL => (List.mem_append.1 hL).elim (HSB L) (fun hL => by rcases List.mem_cons.1 hL with rfl | hL; rw [disc_len]; decide; obtain rfl := List.mem_singleton.1 hL; rw [disc_len]; decide)) inAll_c
    · rw [if_neg (by decide), if_pos rfl]
      have l0 : nlF c (m - 1) = true → lenB (subP (c.getD 1 (0, 0)) (c.getD 0 (0, 0))) = true := fun e => by
        have := nlF_at c (m - 1) 0 e (by omega)
        rwa [hmod 0 (by omega)] at this
      have l1 : nlF c (m - 1) = true → lenB (subP (c.getD (m - 1) (0, 0)) (c.getD (m - 2) (0, 0))) = true := fun e => by
        have := nlF_at c (m - 1) (m - 2) e (by omega)
        rwa [hmod (m - 2) (by omega), show m - 2 + 1 = m - 1 by omega] at this
      have ne1 : c.getD (m - 2) (0, 0) ≠ c.getD (m - 1) (0, 0) := by
        have := ne (m - 2) (by omega)
        rwa [show m - 2 + 1 = m - 1 by omega] at this
      exact ropen_2 ao n cc h w c m hm (by omega) (by omega) _ HPL (Lib.hid fun k hk => HLONG k (by omega)) (Lib.hid fun k hk => HBAR k (by omega) (hne k hk)) (Lib.hid fun k hk => HD k (by omega)) (Lib.hid fun k hk => nlF_no c (m - 1) k hk) (Lib.hid fun hk => nlF_yes c (m - 1) hk) _ _ _ _ (m - 1) (m - 2) hP0 hP1 hPK hPZ w1 (by unfold Hid; rw [wrap_is]; exact w1) (by unfold Hid; omega) (by unfold Hid; omega) w2 (by unfold Hid; rw [wrap_is]; exact w2) (by unfold Hid; omega)
        (Lib.hid fun e w => rfirst_c _ _ h (at_ 0 (by omega)).2 (at_ 1 (by omega)).2 (lenB_iff.1 (l0 e)) (ne_sub (ne 0 (by omega))) hp w) (Lib.hid fun e w => rlast_c _ _ h (at_ (m - 2) (by omega)).2 (at_ (m - 1) (by omega)).2 (lenB_iff.1 (l1 e)) (ne_sub ne1) hp w)
        (Lib.hid fun L hL => (List.mem_append.1 hL).elim (HSB L) (fun hL => by rcases List.mem_cons.1 hL with rfl | hL; simp [headI, slabI]; obtain rfl := List.mem_singleton.1 hL; simp [tailI, slabI])) inAll_c
  · rw [if_pos rfl]
    have hne : ∀ k, k < m → c.getD k (0, 0) ≠ c.getD ((k + 1) % c.length) (0, 0) := fun k hk => by
      by_cases hl : k + 1 < c.length
      · rw [Nat.mod_eq_of_lt hl]; exact ne k hl
      · obtain rfl : k = c.length - 1 := by omega
        rw [show c.length - 1 + 1 = c.length by omega, Nat.mod_self]
        intro e
        refine hdone ⟨rfl, by omega, ?_⟩
        rw [(at_ _ (by omega)).1, (at_ 0 (by omega)).1, e]
    rw [hm]
    exact rclosed_walk ao n cc h cap w c m hm (by omega) (by omega) _ HPL (Lib.hid HLONG) (Lib.hid fun k hk => HBAR k hk (hne k hk)) (Lib.hid fun k hk => HD k (by omega)) (Lib.hid fun k hk => nlF_no c m k hk) (Lib.hid fun hk => nlF_yes c m hk) (Lib.hid fun L hL => (List.mem_append.1 hL).elim (barsR_le c h _ L) (discsR_le c h _ L)) inAll_c
end Go.Proofs.YtdidbejinfkhbaaDoor
