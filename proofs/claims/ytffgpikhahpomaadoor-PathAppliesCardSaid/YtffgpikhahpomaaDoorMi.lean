/- Layer 6: the law PathApplies. -/
import Derived.Test.YtffgpikhahpomaaDoorMh
namespace Go.Proofs.YtffgpikhahpomaaDoor
open Go.RowKit
theorem applies_law (ao : Option Addr) (n c : Nat) (l : List Sg) (x0 x1 x2 x3 x4 x5 : Int) (w : World) (hr : Rd w) (row : RowS w (.slice ao n c) l) :
    Calls Tryd.prog 7 #[.slice ao n c, .agg #[.int .i64 x0, .int .i64 x1, .int .i64 x2, .int .i64 x3, .int .i64 x4, .int .i64 x5]] w fun e w' => e = .returned (.bool true) ∧ Below w.heap.size w w' := by
  obtain ⟨m, hm⟩ : ∃ m : Mx, m = ⟨x0, x1, x2, x3, x4, x5⟩ := ⟨_, rfl⟩
  rw [show (Value.agg #[.int .i64 x0, .int .i64 x1, .int .i64 x2, .int .i64 x3, .int .i64 x4, .int .i64 x5]) = .agg (six m) by rw [hm]]
  have hn := row.len
  by_cases h100 : 100 < n
  · exact applies_long ao n c m w hr h100
  have HA : Hid (Rd w ∧ RowS w (.slice ao n c) l ∧ l.length = n ∧ n ≤ 100) := ⟨hr, row, hn, by omega⟩
  by_cases hz : checkI l = 0
  · have hroom : (l.flatMap needPts).all roomP = true := by
      rw [List.all_eq_true]
      intro p hp
      obtain ⟨s, hs, hps⟩ := List.mem_flatMap.1 hp
      obtain ⟨k, hk⟩ := List.getElem?_of_mem hs
      exact (fine_of ((check_good hz).1 k s hk)).room p hps
    have hlen := flat_len l
    refine applies_walk ao n c l m w HA (applyI m l).1 (applyI m l).2 (!rightI m) (boundI (l.flatMap needPts)) ⟨hz, rfl⟩ (fun W => by have := right_c m W; rw [Bool.not_not]; exact this) ?_ (fun W hW => pbound_walk ao n c l W (by omega) (hr.on hW) (row.on hW) hz _ rfl) (fun W v hv => bound_c v _ W (by omega) hv hroom)
    unfold applyI
    refine ⟨fun h => ?_, fun h => ?_⟩
    · rw [if_neg (by simp [hz]), if_neg (by
        intro h2
        rw [Bool.and_eq_true] at h2
        rw [h2.1, h2.2] at h
        cases h)]
      exact ⟨rfl, rfl⟩
    · have h1 : rightI m = true := by cases hk : rightI m with
        | true => rfl
        | false => rw [hk] at h; cases h
      have h2 : l.all (madeOk m) = true := by cases hk : l.all (madeOk m) with
        | true => rfl
        | false => rw [hk, h1] at h; cases h
      rw [if_neg (by simp [hz]), if_pos (by rw [h1, h2]; rfl)]
      refine ⟨rfl, ?_⟩
      exact List.map_congr_left fun s hs => (madeX_ok (List.all_eq_true.1 h2 s hs)).symm
  · exact applies_bad ao n c l m w HA (checkI l) (by simpa using hz) ⟨rfl, by unfold applyI; rw [if_pos hz]⟩
end Go.Proofs.YtffgpikhahpomaaDoor
