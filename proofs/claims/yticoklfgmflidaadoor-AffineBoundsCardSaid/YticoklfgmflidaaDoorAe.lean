/- The document's answers for layer 4: Round, ref, Right. -/
import Derived.Test.YticoklfgmflidaaDoorAd
import Derived.Test.YticoklfgmflidaaDoorM
namespace Go.Proofs.YticoklfgmflidaaDoor
open Go.RowKit

theorem ret_int {k : IntKind} {a b : Int} (h : a = b) : Ending.returned (.int k a) = .returned (.int k b) := by rw [h]
set_option maxHeartbeats 400000 in
theorem below_any (a b : Int) (w : World) (h0 : -9223372036854775808 ≤ a) (h1 : a ≤ 9223372036854775807) (hb : 1 ≤ b) :
    Calls Tryd.prog 46 #[.int .i64 a, .int .i64 b] w fun e w' => e = .returned (.int .i64 (a / b)) ∧ w = w' := by
  have key := below_key a b (by omega) h0 h1
  have Key := Lib.hid key
  clear key
  go_enter Tryd.func46, Tryd.ntmps46
  go_wp2
  · have h : a < wrap64 (a.tdiv b * b) := by assumption
    rw [Key.out.1] at h
    go_ret
    exact ⟨ret_int (Key.out.2.2 h), rfl⟩
  · have h : wrap64 (a.tdiv b * b) ≤ a := by assumption
    rw [Key.out.1] at h
    go_ret
    exact ⟨ret_int (Key.out.2.1 h), rfl⟩
set_option maxHeartbeats 400000 in
theorem round_any (a b : Int) (w : World) (h0 : -9223372036854775808 ≤ a) (h1 : a ≤ 9223372036854775807) (hb : 1 ≤ b) (hb2 : b ≤ 2147483648) (d0 : -4611686018427387904 ≤ a / b) (d1 : a / b ≤ 4611686018427387904) :
    Calls Tryd.prog 35 #[.int .i64 a, .int .i64 b] w fun e w' => e = .returned (.int .i64 (rnd a b)) ∧ w = w' := by
  have hm := mul_div_le a b
  have hr0 := Int.emod_nonneg a (show b ≠ 0 by omega)
  have hr1 := Int.emod_lt_of_pos a (show 0 < b by omega)
  have eR : rnd a b = if b - a % b ≤ a % b then a / b + 1 else a / b := rfl
  generalize rnd a b = R at eR ⊢
  generalize hq : a / b = q at *
  generalize hr : a % b = r at *
  generalize hx : q * b = x at hm
  have Hm : Hid (wrap64 (a - wrap64 x) = r ∧ wrap64 (b - r) = b - r) := by
    unfold wrap64
    exact ⟨by omega, by omega⟩
  have Hq : Hid (a / b = q) := hq
  have Hx : Hid (q * b = x) := hx
  have HR := Lib.hid eR
  clear eR hq hr hm hx
  go_enter Tryd.func35, Tryd.ntmps35
  go_wp2_with (go_at_call 46; refine (below_any _ _ _ (by omega) (by omega) hb).mono ?_; rintro e w' ⟨rfl, rfl⟩; rw [Hq.out])
  · have h : wrap64 (b - wrap64 (a - wrap64 (q * b))) ≤ wrap64 (a - wrap64 (q * b)) := by assumption
    rw [Hx.out, Hm.out.1, Hm.out.2] at h
    go_ret
    exact ⟨ret_int (by rw [HR.out, if_pos h]), rfl⟩
  · have h : wrap64 (a - wrap64 (q * b)) < wrap64 (b - wrap64 (a - wrap64 (q * b))) := by assumption
    rw [Hx.out, Hm.out.1, Hm.out.2] at h
    go_ret
    exact ⟨ret_int (by rw [HR.out, if_neg (by omega)]), rfl⟩
theorem rnd_16 (n : Int) : rnd n 65536 = near16 n := by unfold rnd near16; split <;> omega
theorem round_c (n : Int) (h0 : -288230376151711744 ≤ n) (h1 : n ≤ 288230376151711744) (w : World) : Calls Tryd.prog 35 #[.int .i64 n, .int .i64 65536] w fun e w' => e = .returned (.int .i64 (near16 n)) ∧ w = w' := by
  rw [← rnd_16]
  exact round_any n 65536 w (by omega) (by omega) (by omega) (by omega) (by omega) (by omega)
theorem results_mat {fn : Func} {tmps : Array Value} {w : World} {g : Nat} {m : Mx} (t : Nat) (hres : fn.results = #[.cell t 23]) (ht : tmps[t]? = some (.pointer (some ⟨g, 0, none⟩))) (h : Blk w g 23 (six m)) :
    (results fn tmps).run Tryd.prog w = .ok (.agg (six m)) w := by
  have h0 := h.m0
  have h1 := h.m1
  have h2 := h.m2
  have h3 := h.m3
  have h4 := h.m4
  have h5 := h.m5
  simp [results, hres, ht, go_sem, h0, h1, h2, h3, h4, h5]
theorem results_ref {fn : Func} {tmps : Array Value} {w : World} {g : Nat} {m : Mx} (t : Nat) (hres : fn.results = #[.cell t 31]) (ht : tmps[t]? = some (.pointer (some ⟨g, 0, none⟩))) (h : Blk w g 31 (six m)) :
    (results fn tmps).run Tryd.prog w = .ok (.agg (six m)) w := by
  have h0 := h.m0
  have h1 := h.m1
  have h2 := h.m2
  have h3 := h.m3
  have h4 := h.m4
  have h5 := h.m5
  simp [results, hres, ht, go_sem, h0, h1, h2, h3, h4, h5]
theorem results_rb {fn : Func} {tmps : Array Value} {w : World} {g : Nat} {m : Mx} {e : Bool} (t s : Nat) (hres : fn.results = #[.cell t 31, .tmp s]) (ht : tmps[t]? = some (.pointer (some ⟨g, 0, none⟩))) (hs : tmps[s]? = some (.bool e)) (h : Blk w g 31 (six m)) :
    (results fn tmps).run Tryd.prog w = .ok (.tuple #[.agg (six m), .bool e]) w := by
  have h0 := h.m0
  have h1 := h.m1
  have h2 := h.m2
  have h3 := h.m3
  have h4 := h.m4
  have h5 := h.m5
  simp [results, hres, ht, hs, go_sem, h0, h1, h2, h3, h4, h5]
set_option maxHeartbeats 400000 in
theorem ref_c (m : Mx) (w : World) : Calls Tryd.prog 11 #[.agg (six m)] w fun e w' => e = .returned (.agg (six m)) ∧ Below w.heap.size w w' := by
  go_enter Tryd.func11, Tryd.ntmps11
  go_wp2_with fail
  go_returns
  exact ⟨rfl, by go_grown⟩
end Go.Proofs.YticoklfgmflidaaDoor
