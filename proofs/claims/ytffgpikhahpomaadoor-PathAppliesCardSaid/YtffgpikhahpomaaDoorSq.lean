/- Layer 6: Concat of three rows. -/
import Derived.Test.YtffgpikhahpomaaDoorSp
namespace Go.Proofs.YtffgpikhahpomaaDoor
open Go.RowKit
def sz3 (n0 n1 n2 : Nat) : Nat → Nat
  | 0 => 0
  | 1 => n0
  | 2 => n0 + n1
  | _ => n0 + n1 + n2
def cat3 (l0 l1 l2 : List Sg) : Nat → List Sg
  | 0 => []
  | 1 => l0
  | 2 => l0 ++ l1
  | _ => l0 ++ l1 ++ l2
set_option maxHeartbeats 2000000 in
set_option maxRecDepth 100000 in
theorem concat_walk (d : Nat) (a0 a1 a2 : Option Addr) (n0 n1 n2 c0 c1 c2 : Nat) (l0 l1 l2 : List Sg) (w : World) (h0 : w.cell? ⟨d, 0, none⟩ = some (.slice a0 n0 c0)) (h1 : w.cell? ⟨d, 1, none⟩ = some (.slice a1 n1 c1)) (h2 : w.cell? ⟨d, 2, none⟩ = some (.slice a2 n2 c2)) (hd : d < w.heap.size)
    (HR : Hid (RowS w (.slice a0 n0 c0) l0 ∧ RowS w (.slice a1 n1 c1) l1 ∧ RowS w (.slice a2 n2 c2) l2 ∧ l0.length = n0 ∧ l1.length = n1 ∧ l2.length = n2 ∧ n0 + n1 + n2 ≤ 100000)) :
    Calls Tryd.prog 57 #[.slice (some ⟨d, 0, none⟩) 3 3] w fun e w' => ∃ v, e = .returned v ∧ OwnS w' w.heap.size 48 v (l0 ++ l1 ++ l2) ∧ Below w.heap.size w w' := by
  obtain ⟨m, hm⟩ : ∃ m, w.heap.size = m := ⟨_, rfl⟩
  rw [hm] at hd ⊢
  have Hm := Lib.hid hm
  have HC := Lib.hid (And.intro h0 (And.intro h1 (And.intro h2 hd)))
  have L0 : decide ((n0 : Int) < 0) = false := decide_eq_false (by omega)
  have HG : Hid (∀ W, Calls Tryd.prog 67 #[.slice none 0 0, .int .i64 ((n0 + n1 + n2 : Nat) : Int)] W fun e w' => ∃ v, e = .returned v ∧ OwnS w' W.heap.size 48 v [] ∧ Below W.heap.size W w') := fun W => grow_c (n0 + n1 + n2) HR.out.2.2.2.2.2.2 W
  clear hm
  go_enter Tryd.func57, Tryd.ntmps57
  go_wp2_with fail
  go_loopw [3, 11] (fun x i wr => wr = w ∧ ∃ k : Nat, k ≤ 3 ∧ i = .int .i64 k ∧ x = .int .i64 (sz3 n0 n1 n2 k : Nat)) (fun _ i _ => 3 - (intOf i).toNat)
  case atStart => exact ⟨rfl, 0, by omega, rfl, rfl⟩
  case round =>
    obtain ⟨rfl, k, hk, rfl, rfl⟩ := hrel
    obtain ⟨w, rfl⟩ : ∃ x, x = wr := ⟨_, rfl⟩
    rcases (by omega : k = 0 ∨ k = 1 ∨ k = 2 ∨ k = 3) with rfl | rfl | rfl | rfl
    · have HZ : Hid (((sz3 n0 n1 n2 0 : Nat) : Int) + (n0 : Int) = ((sz3 n0 n1 n2 (0 + 1) : Nat) : Int) ∧ sz3 n0 n1 n2 (0 + 1) ≤ 100000) := by have := HR.out.2.2.2.2.2.2; refine ⟨?_, ?_⟩ <;> simp only [sz3] <;> omega
      have w1 : wrap64 (((sz3 n0 n1 n2 0 : Nat) : Int) + (n0 : Int)) = ((sz3 n0 n1 n2 (0 + 1) : Nat) : Int) := by rw [HZ.out.1]; exact wrapR _ (by omega) (by have := HZ.out.2; omega)
      have w2 : IntKind.wrap .i64 (((sz3 n0 n1 n2 0 : Nat) : Int) + (n0 : Int)) = ((sz3 n0 n1 n2 (0 + 1) : Nat) : Int) := (wrap_is _).trans w1
      have w3 : decide (((sz3 n0 n1 n2 (0 + 1) : Nat) : Int) < 0) = false := decide_eq_false (by omega)
      go_wp2_with fail
      exact ⟨⟨trivial, 0 + 1, by omega, by go_num, rfl⟩, by simp [intOf]⟩
    · have HZ : Hid (((sz3 n0 n1 n2 1 : Nat) : Int) + (n1 : Int) = ((sz3 n0 n1 n2 (1 + 1) : Nat) : Int) ∧ sz3 n0 n1 n2 (1 + 1) ≤ 100000) := by have := HR.out.2.2.2.2.2.2; refine ⟨?_, ?_⟩ <;> simp only [sz3] <;> omega
      have w1 : wrap64 (((sz3 n0 n1 n2 1 : Nat) : Int) + (n1 : Int)) = ((sz3 n0 n1 n2 (1 + 1) : Nat) : Int) := by rw [HZ.out.1]; exact wrapR _ (by omega) (by have := HZ.out.2; omega)
      have w2 : IntKind.wrap .i64 (((sz3 n0 n1 n2 1 : Nat) : Int) + (n1 : Int)) = ((sz3 n0 n1 n2 (1 + 1) : Nat) : Int) := (wrap_is _).trans w1
      have w3 : decide (((sz3 n0 n1 n2 (1 + 1) : Nat) : Int) < 0) = false := decide_eq_false (by omega)
      go_wp2_with fail
      exact ⟨⟨trivial, 1 + 1, by omega, by go_num, rfl⟩, by simp [intOf]⟩
    · have HZ : Hid (((sz3 n0 n1 n2 2 : Nat) : Int) + (n2 : Int) = ((sz3 n0 n1 n2 (2 + 1) : Nat) : Int) ∧ sz3 n0 n1 n2 (2 + 1) ≤ 100000) := by have := HR.out.2.2.2.2.2.2; refine ⟨?_, ?_⟩ <;> simp only [sz3] <;> omega
      have w1 : wrap64 (((sz3 n0 n1 n2 2 : Nat) : Int) + (n2 : Int)) = ((sz3 n0 n1 n2 (2 + 1) : Nat) : Int) := by rw [HZ.out.1]; exact wrapR _ (by omega) (by have := HZ.out.2; omega)
      have w2 : IntKind.wrap .i64 (((sz3 n0 n1 n2 2 : Nat) : Int) + (n2 : Int)) = ((sz3 n0 n1 n2 (2 + 1) : Nat) : Int) := (wrap_is _).trans w1
      have w3 : decide (((sz3 n0 n1 n2 (2 + 1) : Nat) : Int) < 0) = false := decide_eq_false (by omega)
      go_wp2_with fail
      exact ⟨⟨trivial, 2 + 1, by omega, by go_num, rfl⟩, by simp [intOf]⟩
    · simp only [sz3]
      go_wp2_with fail
      have HGW := Lib.hid (HG.out w); clear HG
      refine HGW.out.mono ?_
      rintro e w1 ⟨v1, rfl, ho, hb⟩
      have HO : Hid (OwnS w1 m 48 v1 (cat3 l0 l1 l2 0) ∧ Below m w w1 ∧ m ≤ w1.heap.size) := ⟨Hm.out ▸ ho, Hm.out ▸ hb, by rw [← Hm.out]; exact hb.size⟩
      clear ho hb
      go_wp2_with fail
      go_loopw [6, 27] (fun x i wr => ∃ k : Nat, k ≤ 3 ∧ i = .int .i64 k ∧ Hid (OwnS wr m 48 x (cat3 l0 l1 l2 k) ∧ Below m w wr ∧ m ≤ wr.heap.size)) (fun _ i _ => 3 - (intOf i).toNat)
      case atStart => exact ⟨0, by omega, rfl, HO.out⟩
      case round =>
      obtain ⟨k, hk, rfl, hw⟩ := hrel
      obtain ⟨w2, rfl⟩ : ∃ x, x = wr := ⟨_, rfl⟩
      rcases (by omega : k = 0 ∨ k = 1 ∨ k = 2 ∨ k = 3) with rfl | rfl | rfl | rfl
      · have O2 : OwnS w2 m 48 u6 (cat3 l0 l1 l2 0) := hw.out.1
        have R2 : RowS w2 (.slice a0 n0 c0) l0 := HR.out.1.on (by rw [Hm.out]; exact hw.out.2.1)
        have C2 : w2.cell? ⟨d, 0, none⟩ = some (.slice a0 n0 c0) := (cell_below hw.out.2.1 HC.out.2.2.2).trans HC.out.1
        have HX := Lib.hid (And.intro O2 R2)
        clear O2 R2
        go_wp2_with (at_builtin; refine wpList_append_segs rfl _ _ rfl m _ _ rfl HX.out.1 _ _ rfl HX.out.2 ?c1 ?c2 ?_)
        case c1 => have := HR.out.2.2.2; simp [cat3]; omega
        case c2 => exact hw.out.2.2
        · intro v' w5 hown hgrow
          have HY : Hid (OwnS w5 m 48 v' (cat3 l0 l1 l2 (0 + 1)) ∧ Below m w w5 ∧ m ≤ w5.heap.size) := ⟨hown, own_below HX.out.1 hgrow hw.out.2.1 (Nat.le_refl _) hw.out.2.2, by have := hgrow.size; have := hw.out.2.2; omega⟩
          clear hown hgrow
          go_wp2_with fail
          exact ⟨⟨0 + 1, by omega, by go_num, HY.out⟩, by simp [intOf]⟩
      · have O2 : OwnS w2 m 48 u6 (cat3 l0 l1 l2 1) := hw.out.1
        have R2 : RowS w2 (.slice a1 n1 c1) l1 := HR.out.2.1.on (by rw [Hm.out]; exact hw.out.2.1)
        have C2 : w2.cell? ⟨d, 1, none⟩ = some (.slice a1 n1 c1) := (cell_below hw.out.2.1 HC.out.2.2.2).trans HC.out.2.1
        have HX := Lib.hid (And.intro O2 R2)
        clear O2 R2
        go_wp2_with (at_builtin; refine wpList_append_segs rfl _ _ rfl m _ _ rfl HX.out.1 _ _ rfl HX.out.2 ?c1 ?c2 ?_)
        case c1 => have := HR.out.2.2.2; simp [cat3]; omega
        case c2 => exact hw.out.2.2
        · intro v' w5 hown hgrow
          have HY : Hid (OwnS w5 m 48 v' (cat3 l0 l1 l2 (1 + 1)) ∧ Below m w w5 ∧ m ≤ w5.heap.size) := ⟨hown, own_below HX.out.1 hgrow hw.out.2.1 (Nat.le_refl _) hw.out.2.2, by have := hgrow.size; have := hw.out.2.2; omega⟩
          clear hown hgrow
          go_wp2_with fail
          exact ⟨⟨1 + 1, by omega, by go_num, HY.out⟩, by simp [intOf]⟩
      · have O2 : OwnS w2 m 48 u6 (cat3 l0 l1 l2 2) := hw.out.1
        have R2 : RowS w2 (.slice a2 n2 c2) l2 := HR.out.2.2.1.on (by rw [Hm.out]; exact hw.out.2.1)
        have C2 : w2.cell? ⟨d, 2, none⟩ = some (.slice a2 n2 c2) := (cell_below hw.out.2.1 HC.out.2.2.2).trans HC.out.2.2.1
        have HX := Lib.hid (And.intro O2 R2)
        clear O2 R2
        go_wp2_with (at_builtin; refine wpList_append_segs rfl _ _ rfl m _ _ rfl HX.out.1 _ _ rfl HX.out.2 ?c1 ?c2 ?_)
        case c1 => have := HR.out.2.2.2; simp [cat3]; omega
        case c2 => exact hw.out.2.2
        · intro v' w5 hown hgrow
          have HY : Hid (OwnS w5 m 48 v' (cat3 l0 l1 l2 (2 + 1)) ∧ Below m w w5 ∧ m ≤ w5.heap.size) := ⟨hown, own_below HX.out.1 hgrow hw.out.2.1 (Nat.le_refl _) hw.out.2.2, by have := hgrow.size; have := hw.out.2.2; omega⟩
          clear hown hgrow
          go_wp2_with fail
          exact ⟨⟨2 + 1, by omega, by go_num, HY.out⟩, by simp [intOf]⟩
      · go_wp2_with fail
        go_ret
        exact ⟨_, rfl, hw.out.1, hw.out.2.1⟩
end Go.Proofs.YtffgpikhahpomaaDoor
