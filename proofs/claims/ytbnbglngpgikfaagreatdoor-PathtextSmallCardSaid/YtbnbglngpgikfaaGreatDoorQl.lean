/- Layer 15: package fixed: Parse, whole; how steps of the reader go on. -/
import Derived.Test.YtbnbglngpgikfaaGreatDoorQk
import Derived.Test.YtbnbglngpgikfaaGreatDoorShelf3
namespace Go.Proofs.YtbnbglngpgikfaaGreatDoor
open Go.RowKit Go.Shelf
attribute [local go_sem] Oper.semAt_some
theorem Parse_c (l : Wd) (hl : l.length ≤ 4294967280) (w : World) (hr : Rd2 w) : Calls Tryz.prog 63 #[.string ⟨l.toArray⟩] w fun e w' => e = twoE ((numW l).getD 0) (if (numW l).isSome = true then 0 else 20) ∧ Below w.heap.size w w' := by
  cases h : readF l with
  | none =>
    have e : numW l = none := by unfold numW; rw [h]; rfl
    rw [e]
    exact parse_none l hl h w hr
  | some a =>
    cases hi : inB a with
    | false =>
      have e : numW l = none := by unfold numW; rw [h, Option.bind_some, if_neg (by rw [hi]; simp)]
      rw [e]
      refine parse_other l hl a h [] (fun hn => ?_) w hr fun W hW => (text_out a W hi).mono fun _ _ ⟨he, hw⟩ => ⟨he, hw ▸ Below.refl _ _⟩
      rw [← hn, readF_nil] at h
      cases h
    | true =>
      by_cases ht : textT a = l
      · have e : numW l = some a := by unfold numW; rw [h, Option.bind_some, if_pos ⟨hi, ht⟩]
        rw [e]
        exact parse_same l hl a h w hr fun W hW => by rw [← ht]; exact text_in a W hi hW.rd
      · have e : numW l = none := by unfold numW; rw [h, Option.bind_some, if_neg (fun h => ht h.2)]
        rw [e]
        exact parse_other l hl a h (textT a) ht w hr fun W hW => text_in a W hi hW.rd
theorem Keep.trans_lt {S T : Nat → Prop} {w w1 w2 : World} (h : Keep S w w1) (k : Keep T w1 w2) (hT : ∀ j, S j → j < w.heap.size → T j) : Keep S w w2 :=
  ⟨k.os.trans h.os, k.tape.trans h.tape, k.output.trans h.output, Nat.le_trans h.size k.size, fun j hj hl => (k.block j (hT j hj hl) (Nat.lt_of_lt_of_le hl h.size)).trans (h.block j hj hl)⟩
theorem StepQ.pre {N g : Nat} {st : Rs} {v : Value} {w w1 w2 : World} (hk : Keep (fun j => j ≠ g ∧ v.ownBlock ≠ some j) w w1) (h : StepQ N g st v w1 w2) : StepQ N g st v w w2 := by
  obtain ⟨v', h1, h2, h3⟩ := h
  refine ⟨v', h1, hk.trans h2, ?_⟩
  rcases h3 with e | ⟨k, e, hk2⟩
  · exact .inl e
  · exact .inr ⟨k, e, Nat.le_trans hk.size hk2⟩
theorem moved_apart {w : World} {v v1 : Value} (h : Moved w v v1) {j : Nat} (hj : v.ownBlock ≠ some j) (hl : j < w.heap.size) : v1.ownBlock ≠ some j := by
  rcases h with e | ⟨k, e, hk⟩
  · rw [e]; exact hj
  · rw [e]; intro h; cases h; omega
theorem StepQ.next {N g : Nat} {st2 : Rs} {v v1 : Value} {w w1 w2 : World} (h2 : Keep (fun j => j ≠ g ∧ v.ownBlock ≠ some j) w w1) (h3 : Moved w v v1) (h : StepQ N g st2 v1 w1 w2) : StepQ N g st2 v w w2 := by
  obtain ⟨v', k1, k2, k3⟩ := h
  refine ⟨v', k1, h2.trans_lt k2 fun j hj hl => ⟨hj.1, moved_apart h3 hj.2 hl⟩, ?_⟩
  rcases k3 with e | ⟨k, e, hk2⟩
  · rcases h3 with e2 | ⟨k, e2, hk2⟩
    · exact .inl (e.trans e2)
    · exact .inr ⟨k, e.trans e2, hk2⟩
  · exact .inr ⟨k, e, Nat.le_trans h2.size hk2⟩
theorem StopQ.next {g : Nat} {v v1 : Value} {w w1 w2 : World} (h2 : Keep (fun j => j ≠ g ∧ v.ownBlock ≠ some j) w w1) (h3 : Moved w v v1) (h : StopQ g v1 w1 w2) : StopQ g v w w2 :=
  h2.trans_lt h fun _ hj hl => ⟨hj.1, moved_apart h3 hj.2 hl⟩
theorem keep_own {N g : Nat} {v : Value} {st : Rs} {w w1 : World} (h : RdAt N g st v w) (hk : Keep (fun j => j ≠ g ∧ v.ownBlock ≠ some j) w w1) : Below N w w1 :=
  hk.below (fun j hj => ⟨by have := h.ge; omega, fun e => by have := (World.ownsRow.lt h.row j e).1; omega⟩) h.hb
theorem idx_all : ∀ n : Fin 256, letB (UInt8.ofNat n.val) = true → Lib.indexByte [77, 76, 81, 67, 90] ((bits .andNot .u8 (n.val : Int) 32).toNat.toUInt8) = kindL (UInt8.ofNat n.val) - 1 ∧ (bits .and .u8 (n.val : Int) 32 != 0) = smallL (UInt8.ofNat n.val) := by decide +kernel
theorem idx_at (c : UInt8) (h : letB c = true) : Lib.indexByte [77, 76, 81, 67, 90] ((bits .andNot .u8 (c.toNat : Int) 32).toNat.toUInt8) = kindL c - 1 ∧ (bits .and .u8 (c.toNat : Int) 32 != 0) = smallL c := by
  have := idx_all ⟨c.toNat, UInt8.toNat_lt c⟩
  simp only [UInt8.ofNat_toNat] at this
  exact this h
end Go.Proofs.YtbnbglngpgikfaaGreatDoor
