/- Layer 7: whether all points of a row are in room; the statements' refs and same. -/
import Derived.Test.YtclkkdhfdoidfaaSa
import Derived.Deep.QuietTactic
namespace Go.Proofs.Ytclkkdhfdoidfaa
open Go.RowKit
set_option maxHeartbeats 2000000 in
set_option maxRecDepth 100000 in
theorem refIn7_c (s : Value) (l : List Pt) (w : World) (hl : l.length ≤ 100000) (row : Row w s l) :
    Calls Try.prog 22 #[s] w fun e w' => e = .returned (.bool (l.all roomP)) ∧ Below w.heap.size w w' := by
  obtain ⟨ao, c, rfl⟩ := row.shape
  obtain ⟨n, hn⟩ : ∃ n, l.length = n := ⟨_, rfl⟩
  rw [hn] at row hl ⊢
  have HN := Lib.hid hn
  have HROW := Lib.hid row
  have HL := Lib.hid hl
  clear hn row hl
  have HX := Lib.hid (fun x : Int => refIn_c x)
  go_enter Try.func22, Try.ntmps22
  go_wp2_with fail
  go_loopw [3] (fun i wr => ∃ k : Nat, k ≤ n ∧ i = .int .i64 k ∧ Hid ((l.take k).all roomP = true ∧ Below w.heap.size w wr)) (fun i _ => n - (intOf i).toNat)
  case atStart => exact ⟨0, by omega, rfl, by simp, Below.refl _ _⟩
  case round =>
    obtain ⟨k, hk, rfl, hw⟩ := hrel
    by_cases hlt : k < n
    · have hd : decide ((k : Int) < (n : Int)) = true := by simp; omega
      obtain ⟨b, o, rfl, hbs, hpa⟩ := Row.addr HROW.out (k := k) (by rw [HN.out]; exact hlt)
      obtain ⟨⟨x, y⟩, hp⟩ : ∃ p, l[k]? = some p := ⟨_, List.getElem?_eq_getElem (by rw [HN.out]; exact hlt)⟩
      obtain ⟨c0, c1⟩ := (hpa.on hw.out.2 hbs) k (x, y) hp
      have Hp := Lib.hid hp
      clear hp hpa hbs
      simp only at c0 c1
      have hnot : room x = false ∨ room y = false → l.all roomP = false := fun h => by
        rw [List.all_eq_false]
        exact ⟨(x, y), List.mem_of_getElem? Hp.out, by unfold roomP; rcases h with h | h <;> simp [h]⟩
      have hyes : room x = true → room y = true → (l.take (k + 1)).all roomP = true := fun h1 h2 => by
        rw [List.take_add_one, List.all_append, hw.out.1, Hp.out]
        simp [roomP, h1, h2]
      have HN' := Lib.hid hnot; have HY := Lib.hid hyes
      clear hnot hyes
      have hl := HL.out
      generalize hx : room x = rx at *
      generalize hy : room y = ry at *
      have hX := Lib.hid hx; have hY := Lib.hid hy
      clear hx hy
      cases rx
      · go_wp2_with fail
        refine (HX.out _ _).mono ?_
        rw [hX.out]
        rintro e w' ⟨rfl, rfl⟩
        go_wp2_with fail
        go_ret
        exact ⟨retB (HN'.out (.inl trivial)).symm, hw.out.2⟩
      · go_wp2_with fail
        refine (HX.out _ _).mono ?_
        rw [hX.out]
        rintro e w' ⟨rfl, rfl⟩
        go_wp2_with fail
        refine (HX.out _ _).mono ?_
        rw [hY.out]
        rintro e w' ⟨rfl, rfl⟩
        cases ry
        · go_wp2_with fail
          go_ret
          exact ⟨retB (HN'.out (.inr trivial)).symm, hw.out.2⟩
        · go_wp2_with fail
          exact ⟨⟨k + 1, by omega, by go_num, HY.out trivial trivial, hw.out.2⟩, by simp [intOf]; omega⟩
    · have hd : decide ((k : Int) < (n : Int)) = false := by simp; omega
      have hkn : Hid (k = n) := by unfold Hid; omega
      go_wp2_with fail
      go_ret
      have := hw.out.1
      rw [hkn.out, ← HN.out, List.take_length] at this
      exact ⟨retB this.symm, hw.out.2⟩
set_option maxHeartbeats 2000000 in
set_option maxRecDepth 100000 in
/-- The same points, as the document's own: in memory of the call's own. -/
theorem refs_c (w : World) (v : Value) (l : List Pt) (hl : l.length ≤ 1000) (row : Row w v l) : Calls Try.prog 20 #[v] w fun e w' => ∃ u, e = .returned u ∧ Own w' w.heap.size 39 u l ∧ Below w.heap.size w w' := by
  obtain ⟨ao, c, rfl⟩ := row.shape
  obtain ⟨n, hn⟩ : ∃ n, l.length = n := ⟨_, rfl⟩
  rw [hn] at row hl ⊢
  have HN := Lib.hid hn
  have HROW := Lib.hid row
  have HL := Lib.hid hl
  obtain ⟨m, hm⟩ : ∃ m, w.heap.size = m := ⟨_, rfl⟩
  rw [hm]
  have Hm := Lib.hid hm
  have HRF := Lib.hid ref1_c
  clear hn row hm hl
  go_enter Try.func20, Try.ntmps20
  go_wp2_with fail
  go_loopw [3, 8] (fun x i wr => ∃ k : Nat, k ≤ n ∧ i = .int .i64 k ∧ Hid (Own wr m 39 x (l.take k) ∧ Below m w wr ∧ m ≤ wr.heap.size)) (fun _ i _ => n - (intOf i).toNat)
  case atStart => exact ⟨0, by omega, rfl, Own.nil _ _ _, by rw [← Hm.out]; exact Below.refl _ _, by rw [Hm.out]; omega⟩
  case round =>
    obtain ⟨k, hk, rfl, hw⟩ := hrel
    by_cases hlt : k < n
    · have hd : decide ((k : Int) < (n : Int)) = true := by simp; omega
      obtain ⟨b, o, rfl, hbs, hpa⟩ := Row.addr HROW.out (k := k) (by rw [HN.out]; exact hlt)
      obtain ⟨⟨px, py⟩, hq⟩ : ∃ p, l[k]? = some p := ⟨_, List.getElem?_eq_getElem (by rw [HN.out]; exact hlt)⟩
      obtain ⟨c0, c1⟩ := (hpa.on hw.out.2.1 (by rw [← Hm.out]; exact hbs)) k (px, py) hq
      have HQ := Lib.hid hq
      have hl := HL.out
      simp only at c0 c1
      clear hpa hq hbs
      go_wp2_with fail
      refine (HRF.out _ _ _).mono ?_
      rintro e w2 ⟨rfl, hb2⟩
      have W2 : Hid (Own w2 m 39 u3 (l.take k) ∧ Below m w w2 ∧ m ≤ w2.heap.size) := by
        have h0 : Below wr.heap.size wr w2 := ((Below.refl _ _).alloc (Nat.le_refl _) _).trans (hb2.mono (by simp))
        exact ⟨hw.out.1.grow h0, hw.out.2.1.trans (h0.mono hw.out.2.2), Nat.le_trans hw.out.2.2 h0.size⟩
      clear hb2 c0 c1 hw
      have hlen : (l.take k).length = k := by rw [List.length_take, HN.out]; omega
      have HLEN := Lib.hid hlen
      clear hlen
      have hs2 := W2.out.2.2
      go_wp2_with (at_builtin; refine wpList_append_pts rfl _ _ 47 39 rfl Try.underlying47 infoR m _ _ rfl (W2.out.1.grow ((Below.refl _ _).alloc (Nat.le_refl _) _)) _ [(px, py)] rfl (Row.new w2 [(px, py)] 39 _ 1 rfl rfl) ?c3 ?c5 ?_)
      case c3 => rw [HLEN.out]; simp; omega
      case c5 => simp; omega
      intro v' w5 hown hgrow _
      have O5 : Hid (Own w5 m 39 v' (l.take (k + 1))) := by
        have e1 : l.take (k + 1) = l.take k ++ [(px, py)] := by rw [List.take_add_one, HQ.out]; rfl
        rw [e1]; exact hown
      have B5 : Hid (Below m w w5) := own_below (W2.out.1.grow ((Below.refl _ _).alloc (Nat.le_refl _) _)) hgrow (W2.out.2.1.alloc W2.out.2.2 _) (Nat.le_refl _) (by simp; omega)
      have S5 : m ≤ w5.heap.size := by have := hgrow.size; simp at this; omega
      clear hown hgrow
      go_wp2_with fail
      exact ⟨⟨k + 1, by omega, by go_num, O5.out, B5.out, S5⟩, by simp [intOf]; omega⟩
    · have hd : decide ((k : Int) < (n : Int)) = false := by simp; omega
      have HK : Hid (l.take k = l) := by unfold Hid; rw [show k = n by omega, ← HN.out, List.take_length]
      go_wp2_with fail
      go_ret
      exact ⟨_, rfl, HK.out ▸ hw.out.1, hw.out.2.1⟩
set_option maxHeartbeats 1000000 in
set_option maxRecDepth 100000 in
theorem same_empty (ao bo : Option Addr) (c d : Nat) (w : World) : Calls Try.prog 24 #[.slice ao 0 c, .slice bo 0 d] w fun e w' => e = .returned (.bool true) ∧ Below w.heap.size w w' := by
  go_enter Try.func24, Try.ntmps24
  go_wp2_with fail
  go_loopw [13] (fun i wr => i = .int .i64 0 ∧ Hid (wr = w)) (fun _ _ => 0)
  case atStart => exact ⟨rfl, rfl⟩
  case round =>
    obtain ⟨rfl, hw⟩ := hrel
    go_wp2_with fail
    go_ret
    exact ⟨rfl, by rw [hw.out]; exact Below.refl _ _⟩
set_option maxHeartbeats 2000000 in
set_option maxRecDepth 100000 in
theorem same_some (w : World) (b o c b2 o2 c2 n : Nat) (l : List Pt) (hn : l.length = n) (hl : n ≤ 1000) (hb : b < w.heap.size) (hp : PtsAt w b o l) (hb2 : b2 < w.heap.size) (hp2 : PtsAt w b2 o2 l) :
    Calls Try.prog 24 #[.slice (some ⟨b, o, none⟩) n c, .slice (some ⟨b2, o2, none⟩) n c2] w fun e w' => e = .returned (.bool true) ∧ Below w.heap.size w w' := by
  have HP := Lib.hid hp
  have HB := Lib.hid hb
  have HP2 := Lib.hid hp2
  have HB2 := Lib.hid hb2
  have HN := Lib.hid hn
  have e0 : ((n : Int) == (n : Int)) = true := by simp
  clear hp hb hp2 hb2 hn
  go_enter Try.func24, Try.ntmps24
  go_wp2_with fail
  go_loopw [13] (fun i wr => ∃ k : Nat, k ≤ n ∧ i = .int .i64 k ∧ Hid (Below w.heap.size w wr)) (fun i _ => n - (intOf i).toNat)
  case atStart => exact ⟨0, by omega, rfl, Below.refl _ _⟩
  case round =>
    obtain ⟨k, hk, rfl, hw⟩ := hrel
    by_cases hlt : k < n
    · have hd : decide ((k : Int) < (n : Int)) = true := by simp; omega
      obtain ⟨⟨x, y⟩, hp⟩ : ∃ p, l[k]? = some p := ⟨_, List.getElem?_eq_getElem (by rw [HN.out]; exact hlt)⟩
      obtain ⟨c0, c1⟩ := (HP.out.on hw.out HB.out) k (x, y) hp
      obtain ⟨c3, c4⟩ := (HP2.out.on hw.out HB2.out) k (x, y) hp
      have Hp := Lib.hid hp
      clear hp
      simp only at c0 c1 c3 c4
      have ex : (x == x) = true := by simp
      have ey : (y == y) = true := by simp
      go_wp2_with fail
      go_quiet (fail)
      go_wp2_with fail
      exact ⟨⟨k + 1, by omega, by go_num, below_drewN hw.out _⟩, by simp [intOf]; omega⟩
    · have hd : decide ((k : Int) < (n : Int)) = false := by simp; omega
      go_wp2_with fail
      go_ret
      exact ⟨rfl, hw.out⟩
theorem same_c (s u : Value) (l : List Pt) (w : World) (hl : l.length ≤ 1000) (h : Row w s l) (k : Row w u l) : Calls Try.prog 24 #[s, u] w fun e w' => e = .returned (.bool true) ∧ Below w.heap.size w w' := by
  obtain ⟨ao, c, rfl⟩ := h.shape
  obtain ⟨bo, d, rfl⟩ := k.shape
  by_cases h0 : l.length = 0
  · rw [h0]; exact same_empty ao bo c d w
  · obtain ⟨b, o, rfl, h1, h2⟩ := h.addr (k := 0) (by omega)
    obtain ⟨b2, o2, rfl, h3, h4⟩ := k.addr (k := 0) (by omega)
    exact same_some w b o c b2 o2 d l.length l rfl hl h1 h2 h3 h4
end Go.Proofs.Ytclkkdhfdoidfaa

