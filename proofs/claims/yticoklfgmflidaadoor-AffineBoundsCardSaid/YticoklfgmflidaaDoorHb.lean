/- geom.Bound. -/
import Derived.Test.YticoklfgmflidaaDoorHa
namespace Go.Proofs.YticoklfgmflidaaDoor
open Go.RowKit
def ptBox (p : Pt) : Bx := ⟨p.1, p.2, p.1 + 1, p.2 + 1⟩
def bstep (b : Bx) (p : Pt) : Bx := joinI b (ptBox p)
def boundI (l : List Pt) : Bx := l.foldl bstep ⟨0, 0, 0, 0⟩
set_option maxHeartbeats 1000000 in
set_option maxRecDepth 100000 in
theorem bound_some (w : World) (b o c : Nat) (l : List Pt) (hl : l.length ≤ 1000) (hb : b < w.heap.size) (hp : PtsAt w b o l) (hr : l.all roomP = true) :
    Calls Tryd.prog 25 #[.slice (some ⟨b, o, none⟩) l.length c] w fun e w' => e = .returned (.agg (four (boundI l))) ∧ Below w.heap.size w w' := by
  obtain ⟨n, hn⟩ : ∃ n, l.length = n := ⟨_, rfl⟩
  rw [hn] at hl ⊢
  have HP := Lib.hid hp
  have HB := Lib.hid hb
  have HN := Lib.hid hn
  have HR := Lib.hid hr
  obtain ⟨res, hres⟩ : ∃ r, boundI l = r := ⟨_, rfl⟩
  rw [hres]
  have HRes := Lib.hid hres
  clear hp hb hn hr hres
  go_enter Tryd.func25, Tryd.ntmps25
  go_wp2_with fail
  go_loopw [8] (fun i wr => ∃ (k : Nat) (x : Bx), k ≤ n ∧ i = .int .i64 k ∧ Hid ((l.take k).foldl bstep ⟨0, 0, 0, 0⟩ = x) ∧ Hid (Blk wr w.heap.size 54 (four ⟨0, 0, 0, 0⟩) ∧ Blk wr (w.heap.size + 1) 54 (four x) ∧ Below w.heap.size w wr)) (fun i _ => n - (intOf i).toNat)
  case atStart =>
    exact ⟨0, ⟨0, 0, 0, 0⟩, by omega, rfl, rfl, (Blk.newAt _ _ _ rfl).alloc _, Blk.newAt _ _ _ (by simp), ((Below.refl _ _).alloc (Nat.le_refl _) _).alloc (by simp) _⟩
  case round =>
    obtain ⟨k, x, hk, rfl, hf, hw⟩ := hrel
    have k1 := hw.out.2.1
    have z0 := k1.b0
    have z1 := k1.b1
    have z2 := k1.b2
    have z3 := k1.b3
    have l1 := k1.lt
    by_cases hlt : k < n
    · have hd : decide ((k : Int) < (n : Int)) = true := by simp; omega
      obtain ⟨⟨px, py⟩, hq⟩ : ∃ p, l[k]? = some p := ⟨_, List.getElem?_eq_getElem (by rw [HN.out]; exact hlt)⟩
      obtain ⟨c0, c1⟩ := (HP.out.on hw.out.2.2 HB.out) k (px, py) hq
      have hrm : roomP (px, py) = true := List.all_eq_true.1 HR.out _ (List.mem_of_getElem? hq)
      simp only [roomP, Bool.and_eq_true, room_iff] at hrm
      obtain ⟨⟨r1, r2⟩, r3, r4⟩ := hrm
      have hnext : (l.take (k + 1)).foldl bstep ⟨0, 0, 0, 0⟩ = joinI x ⟨px, py, px + 1, py + 1⟩ := by
        rw [take_fold _ _ _ _ hq, hf.out]; rfl
      have HF := Lib.hid hnext
      have HJ := Lib.hid (join_c x ⟨px, py, px + 1, py + 1⟩)
      obtain ⟨y, hy⟩ : ∃ y, joinI x ⟨px, py, px + 1, py + 1⟩ = y := ⟨_, rfl⟩
      rw [hy] at HF HJ
      have HK := Lib.hid k1
      simp only at c0 c1
      clear hq hnext hy k1
      go_wp2_with fail
      refine (HJ.out _).mono ?_
      rintro e w1 ⟨rfl, hb1⟩
      have kb : Blk w1 (w.heap.size + 1) 54 (four x) := (HK.out.alloc _).grow hb1
      have kz : Blk w1 w.heap.size 54 (four ⟨0, 0, 0, 0⟩) := (hw.out.1.alloc _).grow hb1
      have hB : Below w.heap.size w w1 := below_next (hw.out.2.2.alloc hw.out.2.2.size _) hb1
      clear z0 z1 z2 z3
      have z0 := kb.b0
      have z1 := kb.b1
      have z2 := kb.b2
      have z3 := kb.b3
      have f0 := kb.free 0
      have f1 := kb.free 1
      have f2 := kb.free 2
      have f3 := kb.free 3
      have KB := Lib.hid kb; have KZ := Lib.hid kz; have BB := Lib.hid hB
      clear kb kz hB hb1
      go_wp2_with fail
      exact ⟨⟨k + 1, y, by omega, by go_num, HF, KZ.out.otherB (by omega) _ _ _ _, KB.out.setB y, below_four (g := w.heap.size + 1) BB.out (by omega) _ _ _ _⟩, by simp [intOf]; omega⟩
    · have hd : decide ((k : Int) < (n : Int)) = false := by simp; omega
      have hkn : Hid (k = n) := by unfold Hid; omega
      have hv : Hid (x = res) := by
        have := hf.out
        rw [hkn.out, ← HN.out, List.take_length] at this
        exact this.symm.trans HRes.out
      have k0 := hw.out.1
      have y0 := k0.b0
      have y1 := k0.b1
      have y2 := k0.b2
      have y3 := k0.b3
      have f0 := k0.free 0
      have f1 := k0.free 1
      have f2 := k0.free 2
      have f3 := k0.free 3
      have l0 := k0.lt
      simp only at y0 y1 y2 y3
      have K0 := Lib.hid k0
      clear k0 k1
      go_wp2_with fail
      refine bodyPost_ret (v := .agg (four x)) (results_box 2 rfl rfl (K0.out.setB x)) rfl ⟨by rw [hv.out], below_four (g := w.heap.size) hw.out.2.2 (by omega) _ _ _ _⟩
set_option maxHeartbeats 1000000 in
set_option maxRecDepth 100000 in
theorem bound_nil (w : World) : Calls Tryd.prog 25 #[.slice none 0 0] w fun e w' => e = .returned (.agg (four ⟨0, 0, 0, 0⟩)) ∧ Below w.heap.size w w' := by
  go_enter Tryd.func25, Tryd.ntmps25
  go_wp2_with fail
  go_loopw [8] (fun i wr => i = .int .i64 0 ∧ Hid (Blk wr w.heap.size 54 (four ⟨0, 0, 0, 0⟩) ∧ Blk wr (w.heap.size + 1) 54 (four ⟨0, 0, 0, 0⟩) ∧ Below w.heap.size w wr)) (fun _ _ => 0)
  case atStart => exact ⟨rfl, (Blk.newAt _ _ _ rfl).alloc _, Blk.newAt _ _ _ (by simp), ((Below.refl _ _).alloc (Nat.le_refl _) _).alloc (by simp) _⟩
  case round =>
    obtain ⟨rfl, hw⟩ := hrel
    have k1 := hw.out.2.1
    have z0 := k1.b0
    have z1 := k1.b1
    have z2 := k1.b2
    have z3 := k1.b3
    have l1 := k1.lt
    have k0 := hw.out.1
    have y0 := k0.b0
    have y1 := k0.b1
    have y2 := k0.b2
    have y3 := k0.b3
    have f0 := k0.free 0
    have f1 := k0.free 1
    have f2 := k0.free 2
    have f3 := k0.free 3
    have l0 := k0.lt
    simp only at y0 y1 y2 y3 z0 z1 z2 z3
    have K0 := Lib.hid k0
    clear k0 k1
    go_wp2_with fail
    refine bodyPost_ret (v := .agg (four ⟨0, 0, 0, 0⟩)) (results_box 2 rfl rfl (K0.out.setB ⟨0, 0, 0, 0⟩)) rfl ⟨rfl, below_four (g := w.heap.size) hw.out.2.2 (by omega) _ _ _ _⟩
set_option maxHeartbeats 1000000 in
set_option maxRecDepth 100000 in
theorem bound_none (a : Addr) (c : Nat) (w : World) : Calls Tryd.prog 25 #[.slice (some a) 0 c] w fun e w' => e = .returned (.agg (four ⟨0, 0, 0, 0⟩)) ∧ Below w.heap.size w w' := by
  go_enter Tryd.func25, Tryd.ntmps25
  go_wp2_with fail
  go_loopw [8] (fun i wr => i = .int .i64 0 ∧ Hid (Blk wr w.heap.size 54 (four ⟨0, 0, 0, 0⟩) ∧ Blk wr (w.heap.size + 1) 54 (four ⟨0, 0, 0, 0⟩) ∧ Below w.heap.size w wr)) (fun _ _ => 0)
  case atStart => exact ⟨rfl, (Blk.newAt _ _ _ rfl).alloc _, Blk.newAt _ _ _ (by simp), ((Below.refl _ _).alloc (Nat.le_refl _) _).alloc (by simp) _⟩
  case round =>
    obtain ⟨rfl, hw⟩ := hrel
    have k1 := hw.out.2.1
    have z0 := k1.b0
    have z1 := k1.b1
    have z2 := k1.b2
    have z3 := k1.b3
    have l1 := k1.lt
    have k0 := hw.out.1
    have y0 := k0.b0
    have y1 := k0.b1
    have y2 := k0.b2
    have y3 := k0.b3
    have f0 := k0.free 0
    have f1 := k0.free 1
    have f2 := k0.free 2
    have f3 := k0.free 3
    have l0 := k0.lt
    simp only at y0 y1 y2 y3 z0 z1 z2 z3
    have K0 := Lib.hid k0
    clear k0 k1
    go_wp2_with fail
    refine bodyPost_ret (v := .agg (four ⟨0, 0, 0, 0⟩)) (results_box 2 rfl rfl (K0.out.setB ⟨0, 0, 0, 0⟩)) rfl ⟨rfl, below_four (g := w.heap.size) hw.out.2.2 (by omega) _ _ _ _⟩
theorem bound_c (s : Value) (l : List Pt) (w : World) (hl : l.length ≤ 1000) (h : Row w s l) (hr : l.all roomP = true) :
    Calls Tryd.prog 25 #[s] w fun e w' => e = .returned (.agg (four (boundI l))) ∧ Below w.heap.size w w' := by
  rcases h with ⟨rfl, rfl⟩ | ⟨a, c, rfl, rfl⟩ | ⟨b, o, c, rfl, hb, hp⟩
  · exact bound_nil w
  · exact bound_none a c w
  · exact bound_some w b o c l hl hb hp hr
end Go.Proofs.YticoklfgmflidaaDoor

