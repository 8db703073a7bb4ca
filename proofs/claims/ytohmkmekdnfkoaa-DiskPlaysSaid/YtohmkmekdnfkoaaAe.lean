/- Layer 12: the document's Sync. -/
import Derived.Test.YtohmkmekdnfkoaaAd
namespace Go.Proofs.Ytohmkmekdnfkoaa
open Go.RowKit
set_option maxHeartbeats 4000000 in
set_option maxRecDepth 100000 in
theorem refSync_down (T : Nat → Prop) (w : World) (g : Nat) (safe : List Int) (size : Int) (L : List Wr) (left done : Int) (armed : Bool) (sv wv : Value) (h : RefAt T w g safe size L left done armed true sv wv) : Calls Try.prog 27 #[.pointer (some ⟨g, 0, none⟩)] w fun e w' => e = .returned (.int .i64 40) ∧ w = w' := by
  obtain ⟨d0, d1, d2, d3, d4, d5, d6⟩ := h.blk.d7
  clear h
  go_enter Try.func27, Try.ntmps27
  go_wp2_with fail
  go_ret
  exact ⟨rfl, rfl⟩
set_option maxHeartbeats 4000000 in
set_option maxRecDepth 100000 in
theorem refSync_up (T : Nat → Prop) (w : World) (g : Nat) (safe : List Int) (size : Int) (L : List Wr) (left done : Int) (armed : Bool) (sv wv : Value) (h : RefAt T w g safe size L left done armed false sv wv) (hd : 0 ≤ done ∧ done ≤ 1000000) (hl : armed = true → 0 ≤ left ∧ left ≤ 9223372036854775807) (hc : (cmdOut left done armed false).2 = 40) : Calls Try.prog 27 #[.pointer (some ⟨g, 0, none⟩)] w fun e w' => e = .returned (.int .i64 40) ∧ RefAt T w' g safe size L (cmdOut left done armed false).1.1 (cmdOut left done armed false).1.2.1 (cmdOut left done armed false).1.2.2.1 (cmdOut left done armed false).1.2.2.2 sv wv ∧ Keep (fun k => k ≠ g) w w' := by
  have HC := Lib.hid (refCommand_c g sv wv size left done armed false w h.blk hd hl)
  rw [hc] at HC
  have HH := Lib.hid h
  obtain ⟨d0, d1, d2, d3, d4, d5, d6⟩ := h.blk.d7
  clear h hd hl hc
  go_enter Try.func27, Try.ntmps27
  go_wp2_with fail
  refine (HC.out).mono ?_
  rintro e w1 ⟨rfl, hb, hk⟩
  have H1 : Hid (RefAt T w1 g safe size L (cmdOut left done armed false).1.1 (cmdOut left done armed false).1.2.1 (cmdOut left done armed false).1.2.2.1 (cmdOut left done armed false).1.2.2.2 sv wv ∧ Keep (fun k => k ≠ g) w w1) := ⟨HH.out.cells hb hk, hk⟩
  clear hb hk d0 d1 d2 d3 d4 d5 d6
  go_wp2_with fail
  go_ret
  exact ⟨rfl, H1.out⟩
set_option maxHeartbeats 4000000 in
set_option maxRecDepth 100000 in
theorem refSync_ok (T : Nat → Prop) (w : World) (g : Nat) (safe : List Int) (size : Int) (L : List Wr) (left done : Int) (armed : Bool) (sv wv : Value) (h : RefAt T w g safe size L left done armed false sv wv) (hd : 0 ≤ done ∧ done ≤ 1000000) (hl : armed = true → 0 ≤ left ∧ left ≤ 9223372036854775807) (hs : safe.length ≤ 70000) (hz : 1 ≤ size ∧ size ≤ 512) (hw : OkW L) (hc : (cmdOut left done armed false).2 = 0) : Calls Try.prog 27 #[.pointer (some ⟨g, 0, none⟩)] w fun e w' => ∃ v, e = .returned (.int .i64 0) ∧ RefAt (fun k => T k ∨ w.heap.size ≤ k) w' g (nowB safe size L) size [] (cmdOut left done armed false).1.1 (cmdOut left done armed false).1.2.1 (cmdOut left done armed false).1.2.2.1 (cmdOut left done armed false).1.2.2.2 v (.slice none 0 0) ∧ Keep (fun k => k ≠ g) w w' := by
  have HC := Lib.hid (refCommand_c g sv wv size left done armed false w h.blk hd hl)
  rw [hc] at HC
  obtain ⟨co, hco⟩ : ∃ o, cmdOut left done armed false = o := ⟨_, rfl⟩
  rw [hco] at HC ⊢
  have HH := Lib.hid h
  have HS := Lib.hid (And.intro hs (And.intro hz hw))
  obtain ⟨d0, d1, d2, d3, d4, d5, d6⟩ := h.blk.d7
  clear h hd hl hc hs hz hw hco
  go_enter Try.func27, Try.ntmps27
  go_wp2_with fail
  refine (HC.out).mono ?_
  rintro e w1 ⟨rfl, hb, hk⟩
  have H1 : Hid (RefAt T w1 g safe size L co.1.1 co.1.2.1 co.1.2.2.1 co.1.2.2.2 sv wv ∧ Keep (fun k => k ≠ g) w w1) := ⟨HH.out.cells hb hk, hk⟩
  clear hb hk d0 d1 d2 d3 d4 d5 d6
  go_wp2_with fail
  refine (refNow_c g sv wv size co.1.1 co.1.2.1 co.1.2.2.1 co.1.2.2.2 safe L w1 H1.out.1.blk H1.out.1.safe.row H1.out.1.waitR HS.out.1 HS.out.2.1 HS.out.2.2).mono ?_
  rintro e w2 ⟨v, rfl, hv, hb⟩
  have H2 : Hid (RefAt T w2 g safe size L co.1.1 co.1.2.1 co.1.2.2.1 co.1.2.2.2 sv wv ∧ OwnB w2 w1.heap.size v (nowB safe size L) ∧ Keep (fun k => k ≠ g) w w2 ∧ w.heap.size ≤ w1.heap.size ∧ Below w1.heap.size w1 w2) := ⟨H1.out.1.grow hb, hv, H1.out.2.trans (Keep.of_below hb), H1.out.2.size, hb⟩
  clear hv hb H1
  obtain ⟨d0, d1, d2, d3, d4, d5, d6⟩ := H2.out.1.blk.d7
  have f0 := H2.out.1.blk.free 0
  have lg := H2.out.1.blk.lt
  obtain ⟨va, vc, rfl⟩ := OwnB.shape H2.out.2.1
  generalize (nowB safe size L).length = vn at *
  go_upto_region 6 with fail
  obtain ⟨w3, hw3⟩ : ∃ WW, w2.setCell ⟨g, 0, none⟩ (.slice va vn vc) = WW := ⟨_, rfl⟩
  have H3 : Hid (Blk w3 g 31 (cellsD (.slice va vn vc) size wv co.1.1 co.1.2.1 co.1.2.2.1 co.1.2.2.2) ∧ Keep (fun k => k ≠ g) w2 w3) := by
    rw [← hw3]
    exact ⟨H2.out.1.blk.set 0 (.slice va vn vc), Keep.setCell _ _ _ (by simp)⟩
  rw [hw3]
  clear hw3 d0 d1 d2 d3 d4 d5 d6 f0 lg
  obtain ⟨d0, d1, d2, d3, d4, d5, d6⟩ := H3.out.1.d7
  have f2 := H3.out.1.free 2
  have lg := H3.out.1.lt
  go_wp2_with fail
  go_ret
  have hk4 : Keep (fun k => k ≠ g) w2 (w3.setCell ⟨g, 2, none⟩ (.slice none 0 0)) := H3.out.2.trans (Keep.setCell _ _ _ (by simp))
  have hgv : ∀ k, (Value.slice va vn vc).ownBlock = some k → k ≠ g := fun k e => fun hg => owns_off H2.out.2.1 H2.out.1.blk (by decide) (hg ▸ e)
  exact ⟨_, rfl, ⟨.inl H2.out.1.tg, H3.out.1.set 2 (.slice none 0 0), owns_keep (owns_base H2.out.2.1 (Nat.zero_le _)) hk4 hgv, fun k e => .inr (Nat.le_trans H2.out.2.2.2.1 (World.ownsRow.lt H2.out.2.1 k e).1), World.ownsRow_nil _ _ _ _, fun k e => (by cases e), fun x hx => (by cases hx)⟩, H2.out.2.2.1.trans hk4⟩
end Go.Proofs.Ytohmkmekdnfkoaa
