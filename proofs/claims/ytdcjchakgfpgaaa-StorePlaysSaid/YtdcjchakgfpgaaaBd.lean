/- Layer 12: a disk stays right under its calls. -/
import Derived.Test.YtdcjchakgfpgaaaBb
namespace Go.Proofs.Ytdcjchakgfpgaaa
open Go.RowKit
theorem OkD.mono {d : DM} {m m' : Int} (h : OkD d m) (hm : m ≤ m') : OkD d m' :=
  ⟨h.made, h.len, h.few, h.byts, h.wait, Int.le_trans h.waits hm, h.left, h.rng, ⟨h.done.1, Int.le_trans h.done.2 hm⟩, h.rlen, fun x hx => ⟨(h.reads x hx).1, Int.le_trans (h.reads x hx).2 hm⟩⟩
theorem bAt_ok {E : List Int} (h : OkB E) (k : Nat) : 0 ≤ bAt E k ∧ bAt E k ≤ 255 := by
  unfold bAt
  rw [List.getD_eq_getElem?_getD]
  cases e : E[k]? with
  | none => simp
  | some x => exact h x (List.mem_of_getElem? e)
theorem OkB.lay {A B : List Int} (hA : OkB A) (hB : OkB B) (at0 : Int) : OkB (layB A B at0) := fun x hx => by
  unfold layB layTo at hx
  obtain ⟨k, _, rfl⟩ := List.mem_map.1 hx
  unfold layV
  split
  · exact bAt_ok hB _
  · exact bAt_ok hA _
theorem nowM_len (size : Int) : ∀ (L : List (Int × List Int)) (s : List Int), (nowM size s L).length = s.length
  | [], _ => rfl
  | x :: l, s => by unfold nowM; rw [List.foldl_cons]; exact (nowM_len size l _).trans (layB_len ..)
theorem nowM_ok (size : Int) : ∀ (L : List (Int × List Int)) (s : List Int), OkB s → (∀ x ∈ L, OkB x.2) → OkB (nowM size s L)
  | [], _, hs, _ => hs
  | x :: l, s, hs, hl => by
    unfold nowM; rw [List.foldl_cons]
    exact nowM_ok size l _ (hs.lay (hl x (by simp)) _) fun y hy => hl y (by simp [hy])
theorem tornB_ok {keep : List Bool} {torn cut : Int} {k : Nat} {b : List Int} (h : OkB b) : OkB (tornB keep torn cut k b) := by
  unfold tornB
  split
  · exact fun x hx => h x (List.mem_of_mem_take hx)
  · split
    · exact h
    · exact fun x hx => (by cases hx)
theorem crashM_len (keep : List Bool) (torn cut size : Int) : ∀ (L : List (Int × List Int)) (k : Nat) (s : List Int), (crashM keep torn cut size k L s).length = s.length
  | [], _, _ => rfl
  | x :: l, k, s => by unfold crashM; exact (crashM_len keep torn cut size l _ _).trans (layB_len ..)
theorem crashM_ok (keep : List Bool) (torn cut size : Int) : ∀ (L : List (Int × List Int)) (k : Nat) (s : List Int), OkB s → (∀ x ∈ L, OkB x.2) → OkB (crashM keep torn cut size k L s)
  | [], _, _, hs, _ => hs
  | x :: l, k, s, hs, hl => by
    unfold crashM
    exact crashM_ok keep torn cut size l _ _ (hs.lay (tornB_ok (hl x (by simp))) _) fun y hy => hl y (by simp [hy])
theorem cmdOut_rng {left done : Int} {armed down : Bool} {m : Int} (hd : 0 ≤ done ∧ done ≤ m) (hl : armed = true → 0 ≤ left) (hr : -9223372036854775808 ≤ left ∧ left ≤ 9223372036854775807) :
    (0 ≤ (cmdOut left done armed down).1.2.1 ∧ (cmdOut left done armed down).1.2.1 ≤ m + 1) ∧ ((cmdOut left done armed down).1.2.2.1 = true → 0 ≤ (cmdOut left done armed down).1.1) ∧ (-9223372036854775808 ≤ (cmdOut left done armed down).1.1 ∧ (cmdOut left done armed down).1.1 ≤ 9223372036854775807) := by
  unfold cmdOut
  split
  · next h => exact ⟨⟨hd.1, by show done ≤ m + 1; omega⟩, hl, hr⟩
  · split
    · next h1 h => 
      have := hl h
      have hne : left ≠ 0 := fun e => h1 ⟨h, e⟩
      exact ⟨⟨by show 0 ≤ done + 1; omega, by show done + 1 ≤ m + 1; omega⟩, fun _ => by show 0 ≤ left - 1; omega, by show _ ≤ left - 1; omega, by show left - 1 ≤ _; omega⟩
    · exact ⟨⟨by show 0 ≤ done + 1; omega, by show done + 1 ≤ m + 1; omega⟩, hl, hr⟩
theorem OkD.cmd {d : DM} {m : Int} (h : OkD d m) : OkD (cmdD d).1 (m + 1) := by
  obtain ⟨h1, h2, h3⟩ := cmdOut_rng (down := d.down) h.done h.left h.rng
  exact ⟨h.made, h.len, h.few, h.byts, h.wait, by have := h.waits; show (d.wait.length : Int) ≤ _; omega, h2, h3, h1, h.rlen, fun x hx => ⟨(h.reads x hx).1, by have := (h.reads x hx).2; omega⟩⟩
theorem OkD.more {d : DM} {m : Int} (h : OkD d m) {i : Int} {b : List Int} (hi : hasD d i = true) (hl : (b.length : Int) = d.size) (hb : OkB b) : OkD (cmdD { d with wait := d.wait ++ [(i, b)] }).1 (m + 1) := by
  obtain ⟨h1, h2, h3⟩ := cmdOut_rng (down := d.down) h.done h.left h.rng
  unfold hasD at hi
  rw [Bool.and_eq_true, decide_eq_true_eq, decide_eq_true_eq] at hi
  refine ⟨h.made, h.len, h.few, h.byts, fun x hx => ?_, ?_, h2, h3, h1, h.rlen, fun x hx => ⟨(h.reads x hx).1, by have := (h.reads x hx).2; omega⟩⟩
  · rcases List.mem_append.1 hx with hx | hx
    · exact h.wait x hx
    · obtain rfl := List.mem_singleton.1 hx
      exact ⟨hi.1, hi.2, hl, hb⟩
  · have := h.waits
    show ((d.wait ++ [(i, b)]).length : Int) ≤ m + 1
    simp; omega
theorem OkD.write {d : DM} {m : Int} (h : OkD d m) (i : Int) {b : List Int} (hb : OkB b) : OkD (writeD d i b).1 (m + 1) := by
  unfold writeD
  split
  · exact h.mono (by omega)
  · split
    · exact h.mono (by omega)
    · split
      · exact h.mono (by omega)
      · next h1 h2 h3 => exact h.more (by simpa using h2) (by omega) hb
theorem OkD.read {d : DM} {m : Int} (h : OkD d m) (hm : 0 ≤ m) (i : Int) : OkD (readD d i).1 (m + 1) := by
  unfold readD
  split
  · exact h.mono (by omega)
  · split
    · exact h.mono (by omega)
    · refine ⟨h.made, h.len, h.few, h.byts, h.wait, by have := h.waits; show (d.wait.length : Int) ≤ _; omega, h.left, h.rng, ⟨h.done.1, by have := h.done.2; show d.done ≤ _; omega⟩, by show ((d.reads.set _ _).length : Int) = d.sectors; rw [List.length_set]; exact h.rlen, fun x hx => ?_⟩
      rcases List.mem_or_eq_of_mem_set hx with hx | rfl
      · exact ⟨(h.reads x hx).1, by have := (h.reads x hx).2; omega⟩
      · rw [List.getD_eq_getElem?_getD]
        cases e : d.reads[i.toNat]? with
        | none => simp; omega
        | some y => have := h.reads y (List.mem_of_getElem? e); simp; omega
theorem OkD.sync {d : DM} {m : Int} (h : OkD d m) (hm : 0 ≤ m) : OkD (syncD d).1 (m + 1) := by
  unfold syncD
  split
  · exact h.mono (by omega)
  · split
    · have k := h.cmd
      exact ⟨k.made, by show ((nowD d).length : Int) = _; unfold nowD; rw [nowM_len]; exact h.len, by show (nowD d).length ≤ _; unfold nowD; rw [nowM_len]; exact h.few, nowM_ok _ _ _ h.byts fun x hx => (h.wait x hx).2.2.2, fun x hx => (by cases hx), by show (0 : Int) ≤ _; omega, k.left, k.rng, k.done, k.rlen, k.reads⟩
    · exact h.cmd
theorem OkD.arm {d : DM} {m : Int} (h : OkD d m) {n : Int} (hn : rngI n) : OkD (armD d n) m :=
  ⟨h.made, h.len, h.few, h.byts, h.wait, h.waits, fun e => by have h : decide (n ≥ 0) = true := e; exact of_decide_eq_true h, hn, h.done, h.rlen, h.reads⟩
theorem OkD.crash {d : DM} {m : Int} (h : OkD d m) (hm : 0 ≤ m) (keep : List Bool) (torn cut : Int) : OkD (crashD d keep torn cut) m :=
  ⟨h.made, by show ((crashM keep torn cut d.size 0 d.wait d.safe).length : Int) = _; rw [crashM_len]; exact h.len, by show (crashM keep torn cut d.size 0 d.wait d.safe).length ≤ _; rw [crashM_len]; exact h.few, crashM_ok _ _ _ _ _ _ _ h.byts fun x hx => (h.wait x hx).2.2.2, fun x hx => (by cases hx), hm, fun e => (by cases e), h.rng, h.done, by show ((List.replicate d.reads.length (0 : Int)).length : Int) = _; rw [List.length_replicate]; exact h.rlen, fun x hx => by obtain ⟨_, rfl⟩ := List.mem_replicate.1 hx; omega⟩
theorem OkD.new {s z : Int} (h : diskOkI s z) (hf : s * z ≤ 1000) {m : Int} (hm : 0 ≤ m) : OkD (newD s z) m := by
  have h0 : 0 ≤ s * z := Int.mul_nonneg (by unfold diskOkI at h; omega) (by unfold diskOkI at h; omega)
  refine ⟨h, by show ((List.replicate _ _).length : Int) = s * z; rw [List.length_replicate]; omega, by show (List.replicate _ _).length ≤ _; rw [List.length_replicate]; omega, fun x hx => by obtain ⟨_, rfl⟩ := List.mem_replicate.1 hx; omega, fun x hx => (by cases hx), hm, fun e => (by cases e), by show _ ≤ (0 : Int) ∧ (0 : Int) ≤ _; omega, ⟨Int.le_refl _, hm⟩, by show ((List.replicate _ _).length : Int) = s; rw [List.length_replicate]; unfold diskOkI at h; omega, fun x hx => by obtain ⟨_, rfl⟩ := List.mem_replicate.1 hx; omega⟩
theorem okB_rep {n : Nat} {c : Int} (h : 0 ≤ c ∧ c ≤ 255) : OkB (List.replicate n c) := fun x hx => by obtain ⟨_, rfl⟩ := List.mem_replicate.1 hx; exact h
end Go.Proofs.Ytdcjchakgfpgaaa
