/- Layer 12: what package disk answers. -/
import Derived.Test.YtdcjchakgfpgaaaCl
namespace Go.Proofs.Ytdcjchakgfpgaaa
open Go.RowKit
theorem kRead_c (T : Nat → Prop) (w : World) (g : Nat) (d : DM) (i : Int) (h : At12 T w g d) (ok : OkD d 1000) (_hi : rngI i) : Calls Try.prog 49 #[ptrD g, .int .i64 i] w fun e w' => ∃ T' v, e = .returned (.tuple #[v, .int .i64 (readD d i).2.1]) ∧ At12 T' w' g (readD d i).1 ∧ To T w T' w' ∧ OwnB w' w.heap.size v (readD d i).2.2 ∧ ∀ k, v.ownBlock = some k → ¬ T' k := by
  obtain ⟨x, hx, hr⟩ := h
  obtain ⟨z, hz⟩ := hr.okL ok
  have hh := hr.has ok i
  have hlt := hx.lt
  unfold readD
  by_cases hd : d.down = true
  · rw [if_pos hd]
    refine (readK_down T w g x i hx (by rw [hr.down]; exact hd)).mono ?_
    rintro e w' ⟨v, rfl, hk, hK, ho⟩
    exact ⟨T, v, rfl, ⟨x, hk, hr⟩, ⟨hK, fun _ h => .inl h⟩, ho, fun k e hT => by have := (ho.lt k e).1; have := hlt k hT; omega⟩
  · rw [if_neg hd]
    have hd' : d.down = false := by simpa using hd
    by_cases hi : hasD d i = false
    · rw [if_pos hi]
      refine (readK_range T w g x i hx (by rw [hr.down]; exact hd') (by rw [hh]; exact hi)).mono ?_
      rintro e w' ⟨v, rfl, hk, hK, ho⟩
      exact ⟨T, v, rfl, ⟨x, hk, hr⟩, ⟨hK, fun _ h => .inl h⟩, ho, fun k e hT => by have := (ho.lt k e).1; have := hlt k hT; omega⟩
    · rw [if_neg hi]
      have hi' : hasK x.R.length i = true := by rw [hh]; simpa using hi
      unfold hasK at hi'
      simp only [Bool.and_eq_true, decide_eq_true_eq] at hi'
      obtain ⟨q, rfl⟩ : ∃ q : Nat, i = (q : Int) := ⟨i.toNat, by omega⟩
      have hq : q < x.R.length := by omega
      have hm : x.R.getD q 0 ∈ d.reads := by
        rw [← hr.reads, List.getD_eq_getElem?_getD, List.getElem?_eq_getElem hq]
        exact List.getElem_mem hq
      have hrr := ok.reads _ hm
      refine (readK_ok T w g x q z hx hz (by rw [hr.down]; exact hd') hq (by omega) hrr.1).mono ?_
      rintro e w' ⟨v, rfl, hk, hK, ho⟩
      refine ⟨T, v, rfl, ⟨_, hk, ?_⟩, ⟨hK, fun _ h => .inl h⟩, ?_, fun k e hT => by have := (ho.lt k e).1; have := hlt k hT; omega⟩
      · refine ⟨hr.size, hr.all, hr.wait, ?_, hr.done, hr.down, hr.armed, hr.free, hr.rng⟩
        show x.R.set q (x.R.getD q 0 + 1) = d.reads.set (q : Int).toNat (d.reads.getD (q : Int).toNat 0 + 1)
        rw [hr.reads, Int.toNat_natCast]
      · show OwnB w' w.heap.size v (secD d q)
        have e1 : secD d q = secZ z q (nowK x.size x.A x.L x.L.length) := by
          unfold secD secZ
          rw [nowK_all hr, ← hr.size, hz.size]
          have e2 : ((q : Int) * (z : Int)).toNat = q * z := by
            rw [show (q : Int) * (z : Int) = ((q * z : Nat) : Int) by simp, Int.toNat_natCast]
          rw [e2, Int.toNat_natCast]
        rw [e1]
        exact ho
end Go.Proofs.Ytdcjchakgfpgaaa
