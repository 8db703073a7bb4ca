/- Layer 5: the statements' ref and at. -/
import Derived.Test.YthlealndopppaaaE
namespace Go.Proofs.Ythlealndopppaaa
open Go.RowKit
set_option maxHeartbeats 400000 in
theorem at_c (x y : Int) (w : World) : Calls Try.prog 23 #[.int .i64 x, .int .i64 y] w fun e w' => e = .returned (.agg #[.int .i64 x, .int .i64 y]) ∧ Below w.heap.size w w' := by
  go_enter Try.func23, Try.ntmps23
  go_wp2_with fail
  go_returns
  exact ⟨rfl, by go_grown⟩
set_option maxHeartbeats 2000000 in
set_option maxRecDepth 100000 in
/-- The same points, as the document's own: in memory of the call's own. -/
theorem ref_c (w : World) (v : Value) (l : List Pt) (hl : l.length ≤ 1000) (row : Row w v l) : Calls Try.prog 10 #[v] w fun e w' => ∃ u, e = .returned u ∧ Own w' w.heap.size 36 u l ∧ Below w.heap.size w w' := by
  obtain ⟨ao, c, rfl⟩ := row.shape
  obtain ⟨n, hn⟩ : ∃ n, l.length = n := ⟨_, rfl⟩
  rw [hn] at row hl ⊢
  have HN := Lib.hid hn
  have HROW := Lib.hid row
  have HL := Lib.hid hl
  obtain ⟨m, hm⟩ : ∃ m, w.heap.size = m := ⟨_, rfl⟩
  rw [hm]
  have Hm := Lib.hid hm
  clear hn row hm hl
  obtain ⟨i0, hi, hz0, hz1, hz2⟩ := info_parts infoR
  go_enter Try.func10, Try.ntmps10
  go_wp2_with fail
  go_loopw [3, 8] (fun x i wr => ∃ k : Nat, k ≤ n ∧ i = .int .i64 k ∧ Hid (Own wr m 36 x (l.take k) ∧ Below m w wr ∧ m ≤ wr.heap.size)) (fun _ i _ => n - (intOf i).toNat)
  case atStart => exact ⟨0, by omega, rfl, Own.nil _ _ _, by rw [← Hm.out]; exact Below.refl _ _, by rw [Hm.out]; omega⟩
  case round =>
    obtain ⟨k, hk, rfl, hw⟩ := hrel
    by_cases hlt : k < n
    · have hd : decide ((k : Int) < (n : Int)) = true := by simp; omega
      obtain ⟨b, o, rfl, hbs, hpa⟩ := Row.addr HROW.out (k := k) (by rw [HN.out]; exact hlt)
      obtain ⟨⟨px, py⟩, hq⟩ : ∃ p, l[k]? = some p := ⟨_, List.getElem?_eq_getElem (by rw [HN.out]; exact hlt)⟩
      obtain ⟨c0, c1⟩ := (hpa.on hw.out.2.1 (by rw [← Hm.out]; exact hbs)) k (px, py) hq
      have HQ := Lib.hid hq
      have hl := HL.out
      simp only at c0 c1
      clear hpa hq hbs
      have O4 : Hid (Own ((wr.alloc (.cells #[.int .i64 px, .int .i64 py] 34)).alloc (.cells #[.int .i64 px, .int .i64 py] 36)) m 36 u3 (l.take k)) := (hw.out.1.grow ((Below.refl _ _).alloc (Nat.le_refl _) _)).grow ((Below.refl _ _).alloc (Nat.le_refl _) _)
      have B4 : Hid (Below m w ((wr.alloc (.cells #[.int .i64 px, .int .i64 py] 34)).alloc (.cells #[.int .i64 px, .int .i64 py] 36))) := (hw.out.2.1.alloc hw.out.2.2 _).alloc (by have := hw.out.2.2; simp; omega) _
      have hs4 := hw.out.2.2
      have N4 : Hid (Blk ((wr.alloc (.cells #[.int .i64 px, .int .i64 py] 34)).alloc (.cells #[.int .i64 px, .int .i64 py] 36)) (wr.heap.size + 1) 36 (two (px, py))) := Blk.newAt _ _ _ (by simp)
      have hlen : (l.take k).length = k := by rw [List.length_take, HN.out]; omega
      have HLEN := Lib.hid hlen
      clear hlen
      go_wp2_with (at_builtin; refine wpList_append_own _ rfl _ _ 24 rfl m 36 i0 (.agg (two (0, 0))) 2 16 Try.underlying24 hi hz0 hz1 hz2 rfl (by decide) _ _ _ rfl O4.out ⟨wr.heap.size + 1, 0, none⟩ 1 1 [.int .i64 px, .int .i64 py] rfl rfl ?c1 ?c2 ?c3 ?c4 ?c5 ?_)
      case c1 =>
        intro j u hj
        have e0 := N4.out.p0
        have e1 := N4.out.p1
        match j, hj with
        | 0, hj => simp at hj; subst hj; simp [Addr.add, e0]
        | 1, hj => simp at hj; subst hj; simp [Addr.add, e1]
      case c2 => intro u hu; simp at hu; rcases hu with rfl | rfl <;> rfl
      case c3 => rw [HLEN.out]; unfold maxLen; omega
      case c4 => rw [HLEN.out]; omega
      case c5 => simp; omega
      · intro v' w5 hown hgrow _
        have O5 : Hid (Own w5 m 36 v' (l.take (k + 1))) := by
          have e1 : l.take (k + 1) = l.take k ++ [(px, py)] := by rw [List.take_add_one, HQ.out]; rfl
          have e2 : (l.take (k + 1)).length = min k l.length + 1 := by rw [List.length_take]; have := HN.out; omega
          unfold Hid Own
          rw [e2, e1, flatL_append]
          exact hown
        have B5 : Hid (Below m w w5) := own_below O4.out hgrow B4.out (Nat.le_refl _) (by simp; omega)
        have S5 : m ≤ w5.heap.size := by have := hgrow.size; simp at this; omega
        clear hown hgrow
        go_wp2_with fail
        exact ⟨⟨k + 1, by omega, by go_num, O5.out, B5.out, S5⟩, by simp [intOf]; omega⟩
    · have hd : decide ((k : Int) < (n : Int)) = false := by simp; omega
      have HK : Hid (l.take k = l) := by unfold Hid; rw [show k = n by omega, ← HN.out, List.take_length]
      go_wp2_with fail
      go_ret
      exact ⟨_, rfl, HK.out ▸ hw.out.1, hw.out.2.1⟩
end Go.Proofs.Ythlealndopppaaa
