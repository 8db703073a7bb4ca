/- Layer 12: what the law DiskKeeps knows of its disk. -/
import Derived.Test.YtohmkmekdnfkoaaBg
namespace Go.Proofs.Ytohmkmekdnfkoaa
open Go.RowKit
variable {At : (Nat → Prop) → World → Nat → DM → Prop}
/-- A sector's sixteen bytes. -/
def secS (S : List Int) (i : Nat) : List Int := (S.drop (16 * i)).take 16
theorem bAt_ext {A B : List Int} (hl : A.length = B.length) (h : ∀ k, k < A.length → bAt A k = bAt B k) : A = B := by
  apply List.ext_getElem? 
  intro k
  by_cases hk : k < A.length
  · rw [bAt_some hk, bAt_some (by omega), h k hk]
  · rw [List.getElem?_eq_none (by omega), List.getElem?_eq_none (by omega)]
theorem layB_at {A B : List Int} {at0 : Int} {k : Nat} (hk : k < A.length) : (layB A B at0)[k]? = some (layV A B at0 k) := by
  unfold layB layTo
  rw [List.getElem?_map, List.getElem?_range hk]; rfl
theorem tornB_len (keep : List Bool) (torn cut : Int) (k : Nat) (b : List Int) : (tornB keep torn cut k b).length ≤ b.length := by
  unfold tornB
  split
  · rw [List.length_take]; omega
  · split
    · exact Nat.le_refl _
    · exact Nat.zero_le _
/-- Bytes laid into another sector leave this one. -/
theorem secS_lay {S B : List Int} {x : Int} {i : Nat} (hb : B.length ≤ 16) (hx : x ≠ (i : Int)) : secS (layB S B (x * 16)) i = secS S i := by
  unfold secS
  apply List.ext_getElem?
  intro k
  rw [List.getElem?_take, List.getElem?_take]
  split
  · next hk =>
    rw [List.getElem?_drop, List.getElem?_drop]
    by_cases hl : 16 * i + k < S.length
    · rw [layB_at hl, bAt_some hl]
      unfold layV
      rw [if_neg (by omega)]
    · rw [List.getElem?_eq_none (by rw [layB_len]; omega), List.getElem?_eq_none (by omega)]
  · rfl
theorem secS_crash (keep : List Bool) (torn cut : Int) (i : Nat) : ∀ (L : List (Int × List Int)) (k : Nat) (S : List Int), (∀ x ∈ L, x.1 ≠ (i : Int) ∧ x.2.length ≤ 16) → secS (crashM keep torn cut 16 k L S) i = secS S i
  | [], _, _, _ => rfl
  | x :: l, k, S, h => by
    unfold crashM
    rw [secS_crash keep torn cut i l _ _ fun y hy => h y (by simp [hy])]
    exact secS_lay (Nat.le_trans (tornB_len ..) (h x (by simp)).2) (h x (by simp)).1
def tchV (t : Nat → Bool) : Array Value := #[.bool (t 0), .bool (t 1), .bool (t 2), .bool (t 3)]
/-- Where the law stands: its disk, its row of what is safe, its marks. -/
structure KpW (At : (Nat → Prop) → World → Nat → DM → Prop) (w0 wr : World) (T : Nat → Prop) (g G : Nat) (sv : Value) (S : List Int) (t : Nat → Bool) (d : DM) (m : Int) : Prop where
  st : St At w0 wr T g d
  ok : OkD d m
  row : OwnB wr w0.heap.size sv S
  offS : ∀ k, sv.ownBlock = some k → ¬ T k
  blk : Blk wr G 43 (tchV t)
  off : ¬ T G
  far : w0.heap.size ≤ G
  four : d.sectors = 4 ∧ d.size = 16
theorem OwnB.keep {S : Nat → Prop} {w w' : World} {base : Nat} {v : Value} {E : List Int} (h : OwnB w base v E) (hk : Keep S w w') (hS : ∀ k, v.ownBlock = some k → S k) : OwnB w' base v E := owns_keep h hk hS
theorem KpW.grow (H : DiskOk At) {w0 wr w' : World} {T : Nat → Prop} {g G : Nat} {sv : Value} {S : List Int} {t : Nat → Bool} {d : DM} {m : Int} (h : KpW At w0 wr T g G sv S t d m) (hb : Below wr.heap.size wr w') : KpW At w0 w' T g G sv S t d m :=
  ⟨h.st.grow H hb, h.ok, h.row.grow hb, h.offS, h.blk.grow hb, h.off, h.far, h.four⟩
theorem KpW.next {w0 wr w' : World} {T T' : Nat → Prop} {g G : Nat} {sv : Value} {S : List Int} {t : Nat → Bool} {d d' : DM} {m m' : Int} (h : KpW At w0 wr T g G sv S t d m) (ht : To T wr T' w') (ha : At T' w' g d') (ok : OkD d' m') (hs : d'.sectors = d.sectors ∧ d'.size = d.size) : KpW At w0 w' T' g G sv S t d' m' :=
  ⟨h.st.step ht ha, ok, h.row.keep ht.keep h.offS, fun k e hT => (ht.new k hT).elim (h.offS k e) fun hk => absurd (h.row.lt k e).2 (by omega), (ht.blk h.blk h.off).1, (ht.blk h.blk h.off).2, h.far, hs.1.trans h.four.1, hs.2.trans h.four.2⟩
theorem KpW.mono {w0 wr : World} {T : Nat → Prop} {g G : Nat} {sv : Value} {S : List Int} {t : Nat → Bool} {d : DM} {m m' : Int} (h : KpW At w0 wr T g G sv S t d m) (hm : m ≤ m') : KpW At w0 wr T g G sv S t d m' := ⟨h.st, h.ok.mono hm, h.row, h.offS, h.blk, h.off, h.far, h.four⟩
/-- The marks change, and the row that is held. -/
theorem KpW.marks (H : DiskOk At) {w0 wr w' : World} {T : Nat → Prop} {g G : Nat} {sv sv' : Value} {S S' : List Int} {t t' : Nat → Bool} {d : DM} {m : Int} (h : KpW At w0 wr T g G sv S t d m) (hk : Keep (fun k => k ≠ G) wr w') (hb : Blk w' G 43 (tchV t')) (row : OwnB wr w0.heap.size sv' S') (offS : ∀ k, sv'.ownBlock = some k → ¬ T k) : KpW At w0 w' T g G sv' S' t' d m :=
  ⟨⟨H.keep h.st.at' (hk.mono fun k hT e => h.off (e ▸ hT)), h.st.far, h.st.below.trans (hk.below (fun k hlt e => absurd h.far (by omega)) h.st.below.size)⟩, h.ok, row.keep hk fun k e hG => owns_off row h.blk (by decide) (hG ▸ e), offS, hb, h.off, h.far, h.four⟩
/-- What the law holds is what is safe; where no mark is, no write waits. -/
def KpI (S : List Int) (t : Nat → Bool) (d : DM) : Prop := S = d.safe ∧ ∀ x ∈ d.wait, t x.1.toNat = true
def setT (t : Nat → Bool) (q : Nat) : Nat → Bool := fun i => if i = q then true else t i
theorem KpI.write {S : List Int} {t : Nat → Bool} {d : DM} (h : KpI S t d) {q : Nat} (b : List Int) : KpI S (setT t q) (writeD d (q : Int) b).1 := by
  have hm : ∀ x ∈ d.wait, setT t q x.1.toNat = true := fun x hx => by
    by_cases e : x.1.toNat = q
    · unfold setT; rw [if_pos e]
    · unfold setT; rw [if_neg e]; exact h.2 x hx
  unfold writeD
  split
  · exact ⟨h.1, hm⟩
  · split
    · exact ⟨h.1, hm⟩
    · split
      · exact ⟨h.1, hm⟩
      · refine ⟨h.1, fun x hx => ?_⟩
        rcases List.mem_append.1 (show x ∈ d.wait ++ [((q : Int), b)] from hx) with hx | hx
        · exact hm x hx
        · obtain rfl := List.mem_singleton.1 hx
          unfold setT
          rw [if_pos (Int.toNat_natCast q)]
/-- A write that names no sector of the disk does nothing. -/
theorem write_none {d : DM} {i : Int} {b : List Int} (h : (writeD d i b).2 = 30 ∨ ¬ (0 ≤ i ∧ i < d.sectors)) : (writeD d i b).1 = d := by
  unfold writeD at *
  split
  · rfl
  · next hd =>
    split
    · rfl
    · next hh =>
      split
      · rfl
      · next hl =>
        rw [if_neg hd, if_neg hh, if_neg hl] at h
        have hi : 0 ≤ i ∧ i < d.sectors := by
          have hh : hasD d i = true := by simpa using hh
          unfold hasD at hh
          rw [Bool.and_eq_true, decide_eq_true_eq, decide_eq_true_eq] at hh
          exact hh
        rcases h with h | h
        · exfalso
          have : (cmdD { d with wait := d.wait ++ [(i, b)] }).2 = 40 ∨ (cmdD { d with wait := d.wait ++ [(i, b)] }).2 = 0 := by
            unfold cmdD cmdOut
            split
            · exact .inl rfl
            · split <;> exact .inr rfl
          omega
        · exact absurd hi h
theorem sync_cases (d : DM) : (syncD d).2 = 0 ∧ (syncD d).1.wait = [] ∧ (syncD d).1.safe = nowD d ∨ (syncD d).2 = 40 ∧ (syncD d).1.wait = d.wait ∧ (syncD d).1.safe = d.safe := by
  unfold syncD
  split
  · exact .inr ⟨rfl, rfl, rfl⟩
  · split
    · exact .inl ⟨rfl, rfl, rfl⟩
    · next h =>
      refine .inr ⟨?_, rfl, rfl⟩
      unfold cmdD cmdOut at *
      split
      · rfl
      · next h1 =>
        rw [if_neg h1] at h
        split
        · next h2 => rw [if_pos h2] at h; exact absurd rfl h
        · next h2 => rw [if_neg h2] at h; exact absurd rfl h
theorem KpI.crash {S : List Int} {t : Nat → Bool} {d : DM} {m : Int} (h : KpI S t d) (hk : OkD d m) (hz : d.size = 16) (keep : List Bool) (torn cut : Int) (i : Nat) (hi : t i = false) : secS (crashD d keep torn cut).safe i = secS S i := by
  rw [h.1]
  show secS (crashM keep torn cut d.size 0 d.wait d.safe) i = _
  rw [hz]
  refine secS_crash keep torn cut i d.wait 0 d.safe fun x hx => ⟨fun e => ?_, ?_⟩
  · have := h.2 x hx
    rw [e, Int.toNat_natCast, hi] at this
    cases this
  · have := (hk.wait x hx).2.2.1
    omega
end Go.Proofs.Ytohmkmekdnfkoaa
