/- Layer 12: the document's Write, where it tells an error ahead of the command. -/
import Derived.Test.YtohmkmekdnfkoaaAe
namespace Go.Proofs.Ytohmkmekdnfkoaa
open Go.RowKit
set_option maxHeartbeats 4000000 in
set_option maxRecDepth 100000 in
theorem refWrite_down (T : Nat → Prop) (w : World) (g : Nat) (safe : List Int) (size : Int) (L : List Wr) (left done : Int) (armed : Bool) (sv wv : Value) (h : RefAt T w g safe size L left done armed true sv wv) (i : Int) (v : Value) : Calls Try.prog 25 #[.pointer (some ⟨g, 0, none⟩), .int .i64 i, v] w fun e w' => e = .returned (.int .i64 40) ∧ w = w' := by
  obtain ⟨d0, d1, d2, d3, d4, d5, d6⟩ := h.blk.d7
  clear h
  go_enter Try.func25, Try.ntmps25
  go_wp2_with fail
  go_ret
  exact ⟨rfl, rfl⟩
set_option maxHeartbeats 4000000 in
set_option maxRecDepth 100000 in
theorem refWrite_range (T : Nat → Prop) (w : World) (g : Nat) (safe : List Int) (size : Int) (L : List Wr) (left done : Int) (armed : Bool) (sv wv : Value) (h : RefAt T w g safe size L left done armed false sv wv) (i : Int) (v : Value) (hz : 1 ≤ size) (hs : safe.length ≤ 70000) (hi : hasI safe.length size i = false) : Calls Try.prog 25 #[.pointer (some ⟨g, 0, none⟩), .int .i64 i, v] w fun e w' => e = .returned (.int .i64 30) ∧ Below w.heap.size w w' := by
  obtain ⟨sa, sc, rfl⟩ := OwnB.shape h.safe
  have HC := Lib.hid (refHas_c g sa safe.length sc size i wv left done armed false w h.blk hz (by omega))
  rw [hi] at HC
  obtain ⟨d0, d1, d2, d3, d4, d5, d6⟩ := h.blk.d7
  clear h hi hs hz
  go_enter Try.func25, Try.ntmps25
  go_wp2_with fail
  refine (HC.out).mono ?_
  rintro e w1 ⟨rfl, hb⟩
  have HB := Lib.hid hb
  clear hb
  go_wp2_with fail
  go_ret
  exact ⟨rfl, HB.out⟩
set_option maxHeartbeats 4000000 in
set_option maxRecDepth 100000 in
theorem refWrite_size (T : Nat → Prop) (w : World) (g : Nat) (safe : List Int) (size : Int) (L : List Wr) (left done : Int) (armed : Bool) (sv wv : Value) (h : RefAt T w g safe size L left done armed false sv wv) (i : Int) (vo : Option Addr) (vn vc : Nat) (hz : 1 ≤ size) (hs : safe.length ≤ 70000) (hi : hasI safe.length size i = true) (hn : (vn : Int) ≠ size) : Calls Try.prog 25 #[.pointer (some ⟨g, 0, none⟩), .int .i64 i, .slice vo vn vc] w fun e w' => e = .returned (.int .i64 41) ∧ Below w.heap.size w w' := by
  obtain ⟨sa, sc, rfl⟩ := OwnB.shape h.safe
  have HC := Lib.hid (refHas_c g sa safe.length sc size i wv left done armed false w h.blk hz (by omega))
  rw [hi] at HC
  obtain ⟨d0, d1, d2, d3, d4, d5, d6⟩ := h.blk.d7
  have HK := Lib.hid h.blk
  have hne : ((vn : Int) != size) = true := by simpa using hn
  clear h hi hs hz hn
  go_enter Try.func25, Try.ntmps25
  go_wp2_with fail
  refine (HC.out).mono ?_
  rintro e w1 ⟨rfl, hb⟩
  have HB := Lib.hid hb
  obtain ⟨z0, z1, z2, z3, z4, z5, z6⟩ := (HK.out.grow hb).d7
  clear hb d0 d1 d2 d3 d4 d5 d6
  go_wp2_with fail
  go_ret
  exact ⟨rfl, HB.out⟩
end Go.Proofs.Ytohmkmekdnfkoaa
