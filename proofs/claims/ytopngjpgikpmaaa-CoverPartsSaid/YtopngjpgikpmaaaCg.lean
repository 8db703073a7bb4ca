/- Layer 8: what a polygon adds to the numbers of a field: how often it goes round each sample. -/
import Derived.Test.YtopngjpgikpmaaaCf
namespace Go.Proofs.Ytopngjpgikpmaaa
open Go.RowKit
/-- Where the point ahead of the k-th one stands. -/
def prevN (n k : Nat) : Nat := if k = 0 then n - 1 else k - 1
theorem prev_fold (l : List Pt) (p0 : Pt) (s : Pt) (h0 : l[l.length - 1]? = some p0) : ∀ k, k ≤ l.length → l[prevN l.length k]? = some ((l.take k).foldl (wstep s) (p0, 0)).1
  | 0, _ => by unfold prevN; rw [if_pos rfl]; exact h0
  | k + 1, hk => by
    obtain ⟨q, hq⟩ : ∃ q, l[k]? = some q := ⟨_, List.getElem?_eq_getElem (by omega)⟩
    unfold prevN
    rw [if_neg (by omega), take_fold _ _ _ _ hq, show k + 1 - 1 = k by omega, hq]
    rfl
theorem winds_fold {l : List Pt} {p0 : Pt} (s : Pt) (h0 : l[l.length - 1]? = some p0) : windsI l s = (l.foldl (wstep s) (p0, 0)).2 := by
  unfold windsI
  rw [List.getLast?_eq_getElem?, h0]
theorem prev_mod (n k : Nat) (hk : k < n) : prevN n k = (k + n - 1) % n := by
  unfold prevN
  split
  · rw [Nat.mod_eq_of_lt (by omega)]; omega
  · rw [show k + n - 1 = (k - 1) + n by omega, Nat.add_mod_right, Nat.mod_eq_of_lt (by omega)]
set_option maxHeartbeats 4000000 in
set_option maxRecDepth 100000 in
theorem take_c (w0 : World) (g h : Nat) (fx fy : Int) (cols rows N E : Nat) (L : List Int) (s : Value) (l : List Pt) (w : World) (hB : Below w0.heap.size w0 w) (row : Row w0 s l) (hh : w0.heap.size ≤ h) (hF : FieldAt w g h fx fy cols rows N L) (hl : l.length ≤ 1000) (hlr : l.all roomP = true)
    (hfx : -2147483648 ≤ fx ∧ fx ≤ 2147483648) (hfy : -2147483648 ≤ fy ∧ fy ≤ 2147483648) (hN : cols * rows = N) (hc : cols ≤ 1024) (hr : rows ≤ 1024) (hE : E ≤ 100000) (hL : ∀ v ∈ L, -(E : Int) ≤ v ∧ v ≤ E) :
    Calls Try.prog 32 #[.pointer (some ⟨g, 0, none⟩), s] w fun e w' => e = .returned (.tuple #[]) ∧ ∃ L' : List Int, FieldAt w' g h fx fy cols rows N L' ∧ Keep (fun j => j ≠ h) w w' ∧
      (∀ v ∈ L', -((E + l.length : Nat) : Int) ≤ v ∧ v ≤ ((E + l.length : Nat) : Int)) ∧ (∀ r k, r < rows → k < cols → suf L' cols r k = suf L cols r k + windsI l (sampF fx fy r k)) := by
  have HE : Hid (∀ (E' : Nat) (L' : List Int) (a q : Pt) (n : Int) (W : World), FieldAt W g h fx fy cols rows N L' → roomP a = true → roomP q = true → (n = 1 ∨ n = -1) → E' ≤ 1000000 → (∀ v ∈ L', -(E' : Int) ≤ v ∧ v ≤ E') →
      Calls Try.prog 50 #[.pointer (some ⟨g, 0, none⟩), .agg #[.int .i64 a.1, .int .i64 a.2], .agg #[.int .i64 q.1, .int .i64 q.2], .int .i64 n] W fun e w' => e = .returned (.tuple #[]) ∧ ∃ L'' : List Int, FieldAt w' g h fx fy cols rows N L'' ∧ Keep (fun j => j ≠ h) W w' ∧
      (∀ v ∈ L'', -((E' + 1 : Nat) : Int) ≤ v ∧ v ≤ ((E' + 1 : Nat) : Int)) ∧ (∀ r k, r < rows → k < cols → suf L'' cols r k = suf L' cols r k + addE a q n (sampF fx fy r k))) :=
    fun E' L' a q n W h1 h2 h3 h4 h5 h6 => edge_c g h fx fy cols rows N E' L' a q n W h1 h2 h3 hfx hfy hN hc hr h4 h5 h6
  obtain ⟨ao, c, rfl⟩ := row.shape
  obtain ⟨n, hn⟩ : ∃ n, l.length = n := ⟨_, rfl⟩
  rw [hn] at row hl ⊢
  have HN := Lib.hid hn; have HROW := Lib.hid row; have HLL := Lib.hid hl; have HB := Lib.hid hB; have HH := Lib.hid hh; have HF := Lib.hid hF; have HLR := Lib.hid hlr; have HEE := Lib.hid hE; have HL := Lib.hid hL
  obtain ⟨p0, hp0⟩ : ∃ p0 : Pt, n = 0 ∨ l[l.length - 1]? = some p0 := by
    rcases Nat.eq_zero_or_pos n with h | h
    · exact ⟨(0, 0), .inl h⟩
    · exact ⟨_, .inr (List.getElem?_eq_getElem (by omega))⟩
  have HP0 := Lib.hid hp0
  clear hn row hl hB hh hF hlr hE hL hp0 hfx hfy hN hc hr
  go_enter Try.func32, Try.ntmps32
  go_wp2_with fail
  go_loopw [9] (fun i wr => ∃ (k : Nat) (L' : List Int), k ≤ n ∧ i = .int .i64 k ∧ Hid (FieldAt wr g h fx fy cols rows N L' ∧ Keep (fun j => j ≠ h) w wr ∧ (∀ v ∈ L', -((E + k : Nat) : Int) ≤ v ∧ v ≤ ((E + k : Nat) : Int)) ∧
      (∀ r k', r < rows → k' < cols → suf L' cols r k' = suf L cols r k' + ((l.take k).foldl (wstep (sampF fx fy r k')) (p0, 0)).2))) (fun i _ => n - (intOf i).toNat)
  case atStart => exact ⟨0, L, by omega, rfl, HF.out, Keep.refl _ _, HL.out, fun r k' _ _ => by simp⟩
  case round =>
    obtain ⟨k, L', hk, rfl, hw⟩ := hrel
    by_cases hlt : k < n
    · have hd : decide ((k : Int) < (n : Int)) = true := by simp; omega
      have hp0 : l[l.length - 1]? = some p0 := by
        rcases HP0.out with h | h
        · omega
        · exact h
      obtain ⟨⟨qx, qy⟩, hq⟩ : ∃ q, l[k]? = some q := ⟨_, List.getElem?_eq_getElem (by rw [HN.out]; exact hlt)⟩
      have hpm : prevN n k < n := by unfold prevN; split <;> omega
      obtain ⟨⟨px, py⟩, hp⟩ : ∃ p, l[prevN n k]? = some p := ⟨_, List.getElem?_eq_getElem (by rw [HN.out]; exact hpm)⟩
      have hst : ∀ s, ((l.take k).foldl (wstep s) (p0, 0)).1 = (px, py) := fun s => by
        have := prev_fold l p0 s hp0 k (by rw [HN.out]; exact hk)
        rw [HN.out, hp] at this
        exact (Option.some.inj this).symm
      have hbw : Below w0.heap.size w0 wr := HB.out.trans (hw.out.2.1.below (B := w0.heap.size) (fun j hj => by have := HH.out; omega) HB.out.size)
      obtain ⟨b, o, rfl, hbs, hpa⟩ := Row.addr HROW.out (k := k) (by rw [HN.out]; exact hlt)
      obtain ⟨c0, c1⟩ := (hpa.on hbw hbs) k (qx, qy) hq
      obtain ⟨c2, c3⟩ := (hpa.on hbw hbs) (prevN n k) (px, py) hp
      have hrq : roomP (qx, qy) = true := List.all_eq_true.1 HLR.out _ (List.mem_of_getElem? hq)
      have hrp : roomP (px, py) = true := List.all_eq_true.1 HLR.out _ (List.mem_of_getElem? hp)
      rw [prev_mod n k hlt] at c2 c3
      have hn0 : ((n : Int) == 0) = false := by simp; omega
      have hmn : (k + n - 1) % n < n := Nat.mod_lt _ (by omega)
      have hmi : ((k : Int) + (n : Int) - 1) % (n : Int) < (n : Int) := Int.emod_lt_of_pos _ (by omega)
      have hmi0 : 0 ≤ ((k : Int) + (n : Int) - 1) % (n : Int) := Int.emod_nonneg _ (by omega)
      have hbl : b < wr.heap.size := Nat.lt_of_lt_of_le hbs hbw.size
      have HQ := Lib.hid hq; have HST := Lib.hid hst; have HRQ := Lib.hid hrq; have HRP := Lib.hid hrp
      have HLLo := HLL.out
      clear hq hp hst hbw hpa hbs hrq hrp hpm hp0
      simp only at c0 c1 c2 c3
      by_cases hpq : py < qy
      · have hd2 : decide (py < qy) = true := by simp; omega
        have HPQ := Lib.hid hpq
        clear hpq
        go_wp2_with fail
        refine (HE.out (E + k) L' (px, py) (qx, qy) (1) _ ((hw.out.1.alloc _).alloc _) HRP.out HRQ.out (.inl rfl) (by have := HEE.out; omega) hw.out.2.2.1).mono ?_
        rintro e w' ⟨rfl, L'', f1, f2, f3, f4⟩
        have F1 : Hid (FieldAt w' g h fx fy cols rows N L'' ∧ Keep (fun j => j ≠ h) w w' ∧ (∀ v ∈ L'', -((E + (k + 1) : Nat) : Int) ≤ v ∧ v ≤ ((E + (k + 1) : Nat) : Int)) ∧
            (∀ r k', r < rows → k' < cols → suf L'' cols r k' = suf L cols r k' + ((l.take (k + 1)).foldl (wstep (sampF fx fy r k')) (p0, 0)).2)) := by
          refine ⟨f1, hw.out.2.1.trans (((Keep.alloc _ _ _).trans (Keep.alloc _ _ _)).trans f2), f3, fun r k' h1 h2 => ?_⟩
          rw [f4 r k' h1 h2, hw.out.2.2.2 r k' h1 h2, take_fold _ _ _ _ HQ.out, Int.add_assoc]
          congr 1
          unfold wstep
          simp only
          congr 1
          rw [show ((l.take k).foldl (fun st q => (q, st.2 + cntP st.1 q (sampF fx fy r k'))) (p0, 0)).1 = (px, py) from HST.out _, cnt_edge, if_pos HPQ.out]
        clear f1 f2 f3 f4
        go_wp2_with fail
        exact ⟨⟨k + 1, L'', by omega, by go_num, F1.out⟩, by simp [intOf]; omega⟩
      · have hd2 : decide (py < qy) = false := by simp; omega
        have HPQ := Lib.hid hpq
        clear hpq
        go_wp2_with fail
        refine (HE.out (E + k) L' (qx, qy) (px, py) (-1) _ ((hw.out.1.alloc _).alloc _) HRQ.out HRP.out (.inr rfl) (by have := HEE.out; omega) hw.out.2.2.1).mono ?_
        rintro e w' ⟨rfl, L'', f1, f2, f3, f4⟩
        have F1 : Hid (FieldAt w' g h fx fy cols rows N L'' ∧ Keep (fun j => j ≠ h) w w' ∧ (∀ v ∈ L'', -((E + (k + 1) : Nat) : Int) ≤ v ∧ v ≤ ((E + (k + 1) : Nat) : Int)) ∧
            (∀ r k', r < rows → k' < cols → suf L'' cols r k' = suf L cols r k' + ((l.take (k + 1)).foldl (wstep (sampF fx fy r k')) (p0, 0)).2)) := by
          refine ⟨f1, hw.out.2.1.trans (((Keep.alloc _ _ _).trans (Keep.alloc _ _ _)).trans f2), f3, fun r k' h1 h2 => ?_⟩
          rw [f4 r k' h1 h2, hw.out.2.2.2 r k' h1 h2, take_fold _ _ _ _ HQ.out, Int.add_assoc]
          congr 1
          unfold wstep
          simp only
          congr 1
          rw [show ((l.take k).foldl (fun st q => (q, st.2 + cntP st.1 q (sampF fx fy r k'))) (p0, 0)).1 = (px, py) from HST.out _, cnt_edge, if_neg (Int.not_lt.2 HPQ.out)]
        clear f1 f2 f3 f4
        go_wp2_with fail
        exact ⟨⟨k + 1, L'', by omega, by go_num, F1.out⟩, by simp [intOf]; omega⟩
    · have hd : decide ((k : Int) < (n : Int)) = false := by simp; omega
      go_wp2_with fail
      go_end0
      have hkn : k = n := by omega
      subst hkn
      refine ⟨rfl, L', hw.out.1, hw.out.2.1, hw.out.2.2.1, fun r k' h1 h2 => ?_⟩
      rw [hw.out.2.2.2 r k' h1 h2, ← HN.out, List.take_length]
      congr 1
      rcases HP0.out with h | h
      · have : l = [] := List.length_eq_zero_iff.1 (by rw [HN.out]; exact h)
        subst this
        rfl
      · exact (winds_fold _ h).symm
end Go.Proofs.Ytopngjpgikpmaaa
