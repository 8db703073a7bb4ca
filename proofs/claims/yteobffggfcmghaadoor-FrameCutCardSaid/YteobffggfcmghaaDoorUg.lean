/- Layer 13: package frame: an In, and what it tells. -/
import Derived.Test.YteobffggfcmghaaDoorUf
namespace Go.Proofs.YteobffggfcmghaaDoor
open Go.RowKit
theorem RowB.keep {T : Nat → Prop} {w w' : World} {v : Value} {L : List Int} (h : RowB w v L) (hk : Keep T w w') (ht : L.length ≠ 0 → ∀ k, v.ownBlock = some k → T k) : RowB w' v L := by
  rcases h with h | h | ⟨b, o, c, h1, h2, h3⟩
  · exact .inl h
  · exact .inr (.inl h)
  · by_cases h0 : L.length = 0
    · have e : L = [] := List.eq_nil_of_length_eq_zero h0
      subst e
      exact .inr (.inl ⟨_, c, h1, rfl⟩)
    · refine .inr (.inr ⟨b, o, c, h1, Nat.lt_of_lt_of_le h2 hk.size, fun i x hx => ?_⟩)
      rw [← h3 i x hx]
      have hT : T b := ht h0 b (by rw [h1]; rfl)
      simp only [World.cell?, hk.block b hT h2]
/-- What is left of bytes; nothing, if it is bad. -/
def leftD (B : List Int) : Option Nat → List Int
  | some q => B.drop q
  | none => []
/-- What an In has left, in memory of its own. -/
structure InA (T : Nat → Prop) (w : World) (g : Nat) (B : List Int) (a : Option Nat) (v : Value) : Prop where
  blk : Blk w g 70 #[v, .bool a.isNone]
  tg : T g
  lt : ∀ k, T k → k < w.heap.size
  cap : CapS v
  ok : OkB B
  len : B.length ≤ 20000
  row : RowB w v (leftD B a)
  own : (leftD B a).length ≠ 0 → ∀ k, v.ownBlock = some k → T k ∧ k ≠ g
  nil : a = none → v = .slice none 0 0
def InAt (T : Nat → Prop) (w : World) (g : Nat) (B : List Int) (a : Option Nat) : Prop := ∃ v, InA T w g B a v
theorem InA.keep {T : Nat → Prop} {w w' : World} {g : Nat} {B : List Int} {a : Option Nat} {v : Value} (h : InA T w g B a v) (hk : Keep T w w') : InA T w' g B a v :=
  ⟨hk.blk h.blk h.tg, h.tg, fun k ht => Nat.lt_of_lt_of_le (h.lt k ht) hk.size, h.cap, h.ok, h.len, h.row.keep hk fun h0 k e => (h.own h0 k e).1, h.own, h.nil⟩
theorem capS_slice {ao : Option Addr} {n c : Nat} (h : n ≤ c) : CapS (.slice ao n c) := fun _ _ _ e => by cases e; exact h
set_option maxHeartbeats 4000000 in
set_option maxRecDepth 100000 in
theorem newIn_c (s : Value) (B : List Int) (w : World) (row : RowB w s B) (hB : OkB B) (hl : B.length ≤ 20000) : Calls Tryd.prog 21 #[s] w fun e w' => ∃ T g, e = .returned (ptrG g) ∧ InAt T w' g B (some 0) ∧ Below w.heap.size w w' ∧ ∀ k, T k → w.heap.size ≤ k := by
  have HR := Lib.hid row
  have HB := Lib.hid hB
  have HL := Lib.hid hl
  clear row hB hl
  go_enter Tryd.func21, Tryd.ntmps21
  go_wp2_with fail
  refine (clone_c s B w HR.out (by have := HL.out; omega)).mono ?_
  rintro e w1 ⟨v, rfl, ho, hb⟩
  have HO : Hid (OwnB w1 w.heap.size v B ∧ Below w.heap.size w w1) := ⟨ho, hb⟩
  obtain ⟨ao, c, rfl⟩ := ho.shape
  have HF : Hid (InAt (fun k => k = w1.heap.size ∨ (Value.slice ao B.length c).ownBlock = some k) (w1.alloc (.cells #[.slice ao B.length c, .bool false] 70)) w1.heap.size B (some 0) ∧ Below w.heap.size w (w1.alloc (.cells #[.slice ao B.length c, .bool false] 70)) ∧ ∀ k, (k = w1.heap.size ∨ (Value.slice ao B.length c).ownBlock = some k) → w.heap.size ≤ k) := by
    refine ⟨⟨.slice ao B.length c, Blk.new _ _ _, .inl rfl, ?_, ho.cap, HB.out, HL.out, ?_, ?_, fun h => by cases h⟩, hb.alloc hb.size _, ?_⟩
    · rintro k (rfl | hk)
      · simp
      · have := (ho.lt k hk).2
        simp
        omega
    · exact (ho.grow ((Below.refl _ _).alloc (Nat.le_refl _) _)).row
    · intro _ k hk
      have := (ho.lt k hk).2
      exact ⟨.inr hk, by omega⟩
    · rintro k (rfl | hk)
      · exact hb.size
      · exact (ho.lt k hk).1
  clear ho hb HO
  go_wp2_with fail
  go_ret
  exact ⟨_, _, rfl, HF.out⟩
/-- A call stores into an In. -/
theorem InA.gone {T : Nat → Prop} {w : World} {g : Nat} {B : List Int} {a : Option Nat} {v : Value} (h : InA T w g B a v) : InAt T ((w.setCell ⟨g, 0, none⟩ (.slice none 0 0)).setCell ⟨g, 1, none⟩ (.bool true)) g B none ∧ To T w T ((w.setCell ⟨g, 0, none⟩ (.slice none 0 0)).setCell ⟨g, 1, none⟩ (.bool true)) := by
  have hk : Keep (fun k => ¬ T k) w ((w.setCell ⟨g, 0, none⟩ (.slice none 0 0)).setCell ⟨g, 1, none⟩ (.bool true)) := (Keep.setCell _ _ _ (fun q => q h.tg)).trans (Keep.setCell _ _ _ (fun q => q h.tg))
  refine ⟨⟨.slice none 0 0, ?_, h.tg, fun k ht => Nat.lt_of_lt_of_le (h.lt k ht) hk.size, capS_slice (Nat.le_refl _), h.ok, h.len, .inl ⟨rfl, rfl⟩, fun q => absurd rfl q, fun _ => rfl⟩, hk, fun k ht => .inl ht⟩
  exact (h.blk.set 0 _).set 1 _
theorem InA.moved {T : Nat → Prop} {w : World} {g : Nat} {B : List Int} {q : Nat} {v : Value} (h : InA T w g B (some q) v) {ao : Option Addr} {n c m : Nat} (hv : v = .slice ao n c) (hn : (B.drop q).length = n) (hm : m ≤ n) : InAt T (w.setCell ⟨g, 0, none⟩ (.slice (cutA ao m c) (n - m) (c - m))) g B (some (q + m)) ∧ To T w T (w.setCell ⟨g, 0, none⟩ (.slice (cutA ao m c) (n - m) (c - m))) := by
  subst hv
  have hc : n ≤ c := h.cap _ _ _ rfl
  have hk : Keep (fun k => ¬ T k) w (w.setCell ⟨g, 0, none⟩ (.slice (cutA ao m c) (n - m) (c - m))) := Keep.setCell _ _ _ (fun q => q h.tg)
  have hg : Keep (fun k => k ≠ g) w (w.setCell ⟨g, 0, none⟩ (.slice (cutA ao m c) (n - m) (c - m))) := Keep.setCell _ _ _ (by simp)
  have hrow : RowB w (.slice (cutA ao m c) (n - m) (c - m)) (B.drop (q + m)) := by
    have key := RowB.cutU (show RowB w (.slice ao n c) (B.drop q) from h.row) hn (l := m) (k := n - m) (m := c) (by omega) (by omega) (Nat.le_refl _)
    have e : cutL (B.drop q) m (n - m) = B.drop (q + m) := by
      unfold cutL
      rw [List.drop_drop, List.take_of_length_le]
      rw [List.length_drop] at hn ⊢
      omega
    rw [e] at key
    exact key
  have hown : (B.drop (q + m)).length ≠ 0 → ∀ k, (Value.slice (cutA ao m c) (n - m) (c - m)).ownBlock = some k → T k ∧ k ≠ g := fun h0 k e => by
    rw [cutA_block ao m c (n - m) (c - m) n c] at e
    refine h.own ?_ k e
    show (B.drop q).length ≠ 0
    rw [List.length_drop] at h0 ⊢
    omega
  refine ⟨⟨_, h.blk.set 0 _, h.tg, fun k ht => Nat.lt_of_lt_of_le (h.lt k ht) hk.size, capS_slice (by omega), h.ok, h.len, ?_, hown, fun e => by cases e⟩, hk, fun k ht => .inl ht⟩
  exact hrow.keep hg fun h0 k e => (hown h0 k e).2
set_option maxHeartbeats 4000000 in
set_option maxRecDepth 100000 in
theorem fail_c (g : Nat) (v b : Value) (w : World) (hb : Blk w g 70 #[v, b]) : Calls Tryd.prog 35 #[ptrG g] w fun e w' => e = .returned (.tuple #[]) ∧ w' = (w.setCell ⟨g, 0, none⟩ (.slice none 0 0)).setCell ⟨g, 1, none⟩ (.bool true) := by
  have c0 : w.cell? ⟨g, 0, none⟩ = some v := hb.cell 0
  have f0 := hb.free 0
  have c1 : (w.setCell ⟨g, 0, none⟩ (.slice none 0 0)).cell? ⟨g, 1, none⟩ = some b := (hb.set 0 (.slice none 0 0)).cell 1
  have f1 := (hb.set 0 (.slice none 0 0)).free 1
  have hlt := hb.lt
  clear hb
  go_enter Tryd.func35, Tryd.ntmps35
  go_wp2_with fail
  go_end0
  exact ⟨rfl, rfl⟩
set_option maxHeartbeats 4000000 in
set_option maxRecDepth 100000 in
theorem int_bad (g : Nat) (v b : Value) (L : List Int) (w : World) (hb : Blk w g 70 #[v, b]) (row : RowB w v L) (hL : OkB L) (hl : L.length ≤ 20000) (hn : numF L 0 0 = none) : Calls Tryd.prog 22 #[ptrG g] w fun e w' => e = .returned (.int .i64 0) ∧ w' = (w.setCell ⟨g, 0, none⟩ (.slice none 0 0)).setCell ⟨g, 1, none⟩ (.bool true) := by
  have HF := Lib.hid (first_c v L w row hL (by omega))
  rw [hn] at HF
  have HB := Lib.hid hb
  have c0 : w.cell? ⟨g, 0, none⟩ = some v := hb.cell 0
  have hlt := hb.lt
  have HV : Hid (numV none = .tuple #[.int .u64 0, .int .i64 0]) := rfl
  rw [HV.out] at HF
  clear hb row hL hl hn
  go_enter Tryd.func22, Tryd.ntmps22
  go_wp2_with fail
  refine (HF.out).mono ?_
  rintro e w' ⟨rfl, rfl⟩
  go_wp2_with fail
  refine (fail_c g v b w HB.out).mono ?_
  rintro e w' ⟨rfl, rfl⟩
  go_wp2_with fail
  go_ret
  exact ⟨rfl, rfl⟩
set_option maxHeartbeats 4000000 in
set_option maxRecDepth 100000 in
theorem int_good (g : Nat) (ao : Option Addr) (n c m : Nat) (b : Value) (L : List Int) (z : Int) (w : World) (hb : Blk w g 70 #[.slice ao n c, b]) (row : RowB w (.slice ao n c) L) (hL : OkB L) (hl : L.length ≤ 20000) (hln : L.length = n) (hc : n ≤ c) (hn : numF L 0 0 = some (z, m)) (hz : 0 ≤ z ∧ z ≤ 18446744073709551615) : Calls Tryd.prog 22 #[ptrG g] w fun e w' => e = .returned (.int .i64 (unzigI z)) ∧ w' = w.setCell ⟨g, 0, none⟩ (.slice (cutA ao m c) (n - m) (c - m)) := by
  have HF := Lib.hid (first_c _ L w row hL (by omega))
  rw [hn] at HF
  have hm := numF_snd hn
  have HB := Lib.hid hb
  have c0 : w.cell? ⟨g, 0, none⟩ = some (.slice ao n c) := hb.cell 0
  have f0 := hb.free 0
  have hlt := hb.lt
  have HZ := Lib.hid hz
  have d1 : ((m : Int) == 0) = false := by simp; omega
  have HM : Hid (m ≤ n ∧ n ≤ c) := ⟨by omega, hc⟩
  have HV : Hid (numV (some (z, m)) = .tuple #[.int .u64 z, .int .i64 (m : Int)]) := rfl
  rw [HV.out] at HF
  clear hb row hL hl hn hm hz hc
  go_enter Tryd.func22, Tryd.ntmps22
  go_wp2_with fail
  refine (HF.out).mono ?_
  rintro e w' ⟨rfl, rfl⟩
  go_wp2_with (refine wpList_cut rfl _ _ _ _ rfl ao n c m n c (n - m) rfl (.inl rfl) (.inr ⟨rfl, rfl, .inr ⟨rfl, rfl⟩⟩) HM.out.1 HM.out.2 rfl ?_)
  refine (unzigzag_c z _ HZ.out).mono ?_
  rintro e w' ⟨rfl, rfl⟩
  go_wp2_with fail
  go_ret
  exact ⟨rfl, rfl⟩
theorem InA.okL {T : Nat → Prop} {w : World} {g : Nat} {B : List Int} {a : Option Nat} {v : Value} (h : InA T w g B a v) : OkB (leftD B a) ∧ (leftD B a).length ≤ 20000 := by
  have hl := h.len
  cases a with
  | none => exact ⟨fun x hx => by simp [leftD] at hx, by simp [leftD]⟩
  | some q => exact ⟨fun x hx => h.ok x (List.mem_of_mem_drop hx), by simp [leftD]; omega⟩
theorem int_c (T : Nat → Prop) (w : World) (g : Nat) (B : List Int) (a : Option Nat) (h : InAt T w g B a) (hw : WithinD B a) : Calls Tryd.prog 22 #[ptrG g] w fun e w' => ∃ T', e = .returned (.int .i64 (intD B a).1) ∧ InAt T' w' g B (intD B a).2 ∧ To T w T' w' := by
  obtain ⟨v, h⟩ := h
  obtain ⟨o1, o2⟩ := h.okL
  cases hn : numF (leftD B a) 0 0 with
  | none =>
    have hd : intD B a = (0, none) := by
      cases a with
      | none => rfl
      | some q =>
        have := num_none (hw q rfl) hn
        rw [intD, this]
        rfl
    rw [hd]
    refine (int_bad g v _ _ w h.blk h.row o1 o2 hn).mono ?_
    rintro e w' ⟨rfl, rfl⟩
    exact ⟨T, rfl, h.gone.1, h.gone.2⟩
  | some r =>
    obtain ⟨z, m⟩ := r
    cases a with
    | none => simp [leftD, numF] at hn
    | some q =>
      obtain ⟨h1, h2, h3, h4⟩ := num_some h.ok (hw q rfl) hn
      have hd : intD B (some q) = (unzigI z, some (q + m)) := by
        rw [intD, h1]
        show (if ((q + m : Nat) : Int) < 0 then _ else _) = _
        rw [if_neg (by omega)]
        rfl
      rw [hd]
      obtain ⟨ao, c, rfl⟩ := h.row.shape
      have hc : (leftD B (some q)).length ≤ c := h.cap _ _ _ rfl
      refine (int_good g ao _ c m _ _ z w h.blk h.row o1 o2 rfl hc hn h2).mono ?_
      rintro e w' ⟨rfl, rfl⟩
      have hm := h.moved rfl rfl (m := m) (by have := numF_snd hn; simp [leftD] at this ⊢; omega)
      exact ⟨T, rfl, hm.1, hm.2⟩
end Go.Proofs.YteobffggfcmghaaDoor
