/- Layer 7: what a trace takes: bars, discs, caps, dots. -/
import Derived.Test.YtdidbejinfkhbaaDoorTc
namespace Go.Proofs.YtdidbejinfkhbaaDoor
open Go.RowKit
theorem Rd.under {w w' : World} {B : Nat} (h : Rd w) (hb : Below B w w') (hB : 0 < B) : Rd w' := var?_below hb gN hB h
theorem Row.keep {w w' : World} {S : Nat → Prop} {v : Value} {l : List Pt} (h : Row w v l) (hk : Keep S w w') (hS : ∀ k, v.ownBlock = some k → S k) : Row w' v l := by
  rcases h with h | h | ⟨b, o, c, rfl, hb, hp⟩
  · exact .inl h
  · exact .inr (.inl h)
  · refine .inr (.inr ⟨b, o, c, rfl, Nat.lt_of_lt_of_le hb hk.size, fun i p hi => ?_⟩)
    have e : w'.heap[b]? = w.heap[b]? := hk.block b (hS b rfl) hb
    have := hp i p hi
    unfold World.cell? at this ⊢
    simp only at this ⊢
    rw [e]; exact this
theorem Row.pts {w : World} {b o n c k : Nat} {l : List Pt} {p : Pt} (h : Row w (.slice (some ⟨b, o, none⟩) n c) l) (hp : l[k]? = some p) : w.cell? ⟨b, o + k * 2, none⟩ = some (.int .i64 p.1) ∧ w.cell? ⟨b, o + k * 2 + 1, none⟩ = some (.int .i64 p.2) := by
  rcases h with ⟨e, _⟩ | ⟨a, c', e, rfl⟩ | ⟨b', o', c', e, hb, hpa⟩
  · cases e
  · cases hp
  · cases e; exact hpa k p hp
theorem Row.some {w : World} {v : Value} {l : List Pt} (h : Row w v l) (hl : l ≠ []) : ∃ b o c, v = .slice (some ⟨b, o, none⟩) l.length c := by
  rcases h with ⟨_, rfl⟩ | ⟨a, c', _, rfl⟩ | ⟨b', o', c', rfl, hb, hpa⟩
  · exact absurd rfl hl
  · exact absurd rfl hl
  · exact ⟨_, _, _, rfl⟩
/-- What a trace's own work leaves below. -/
theorem TrTo.below {C C' : World} {base g : Nat} {u u' : Value} {st : Tr} (h : TrTo g u C u' C') (hT : TraceAt C base g u st) (hg : base ≤ g) (hb : base ≤ C.heap.size) : Below base C C' := by
  obtain ⟨S, hS, _⟩ := hT.polys
  refine h.keep.below (fun j hj => ⟨by omega, fun e => ?_⟩) hb
  have := (hS.row.lt j e).1
  omega
theorem addT_len (st : Tr) (o : Int × List Pt) : (addT st o).2.length ≤ st.2.length + 1 := by
  unfold addT; split
  · simp
  · omega
noncomputable def discsT (l : List Pt) (h : Int) : Nat → Tr → Tr
  | 0, st => st
  | k + 1, st => addT (discsT l h k st) (discOut (l.getD k (0, 0)) h)
noncomputable def barsT (l : List Pt) (h : Int) : Nat → Tr → Tr
  | 0, st => st
  | k + 1, st => addT (barsT l h k st) (barOut (l.getD k (0, 0)) (l.getD (k + 1) (0, 0)) h)
theorem discsT_len (l : List Pt) (h : Int) : ∀ k st, (discsT l h k st).2.length ≤ st.2.length + k
  | 0, st => Nat.le_refl _
  | k + 1, st => by
    have h1 := discsT_len l h k st
    have h2 := addT_len (discsT l h k st) (discOut (l.getD k (0, 0)) h)
    rw [discsT]; omega
theorem barsT_len (l : List Pt) (h : Int) : ∀ k st, (barsT l h k st).2.length ≤ st.2.length + k
  | 0, st => Nat.le_refl _
  | k + 1, st => by
    have h1 := barsT_len l h k st
    have h2 := addT_len (barsT l h k st) (barOut (l.getD k (0, 0)) (l.getD (k + 1) (0, 0)) h)
    rw [barsT]; omega
/-- What a call of a trace's method leaves. -/
def TrPost (g base : Nat) (u : Value) (C : World) (st : Tr) (e : Ending) (w' : World) : Prop := e = .returned (.tuple #[]) ∧ ∃ u', TraceAt w' base g u' st ∧ TrTo g u C u' w'
set_option maxHeartbeats 2000000 in
set_option maxRecDepth 100000 in
theorem discs_c (g base : Nat) (u v : Value) (l : List Pt) (h : Int) (st : Tr) (C : World) (hT : TraceAt C base g u st) (row : Row C v l) (hoff : ∀ k, v.ownBlock = some k → k ≠ g ∧ u.ownBlock ≠ some k)
    (hr : Rd C) (hgl : 0 < base) (hbg : base ≤ g) (hb : base ≤ C.heap.size) (hlen : st.2.length + l.length ≤ 1000) :
    Calls Tryd.prog 39 #[.pointer (some ⟨g, 0, none⟩), v, .int .i64 h] C (TrPost g base u C (discsT l h l.length st)) := by
  have HT := Lib.hid hT
  have HROW := Lib.hid row
  have HOFF := Lib.hid hoff
  have HR := Lib.hid hr
  have HS := Lib.hid (show _ ∧ _ ∧ _ from ⟨hgl, hbg, hb⟩)
  obtain ⟨ao, c, rfl⟩ := row.shape
  obtain ⟨n, hn⟩ : ∃ n, l.length = n := ⟨_, rfl⟩
  rw [hn] at HROW HOFF hlen ⊢
  have HN := Lib.hid hn
  have HLEN := Lib.hid hlen
  have hn2 : n ≤ 1000 := by omega
  clear hT row hoff hr hgl hbg hb hlen hn
  go_enter Tryd.func39, Tryd.ntmps39
  go_wp2_with fail
  go_loopw [10] (fun i wr => ∃ (k : Nat) (u' : Value), k ≤ n ∧ i = .int .i64 k ∧ Hid (TraceAt wr base g u' (discsT l h k st) ∧ TrTo g u C u' wr)) (fun i _ => n - (intOf i).toNat)
  case atStart => exact ⟨0, u, by omega, rfl, HT.out, TrTo.refl _ _ _⟩
  case round =>
    obtain ⟨k, u', hk, rfl, hw⟩ := hrel
    by_cases hlt : k < n
    · have hd : decide ((k : Int) < (n : Int)) = true := by simp; omega
      have hne : l ≠ [] := fun e => by have := HN.out; rw [e] at this; simp at this; omega
      obtain ⟨b, o, c', hbe⟩ := HROW.out.some hne
      cases hbe
      obtain ⟨⟨x, y⟩, hp⟩ : ∃ p, l[k]? = some p := ⟨_, List.getElem?_eq_getElem (by rw [HN.out]; exact hlt)⟩
      obtain ⟨c0, c1⟩ := (HROW.out.keep hw.out.2.keep HOFF.out).pts hp
      have BW : Hid (Below base C wr) := hw.out.2.below HT.out HS.out.2.1 HS.out.2.2
      have RW := Lib.hid (HR.out.under BW.out HS.out.1)
      have HP := Lib.hid hp
      have HBS : Hid (base ≤ wr.heap.size) := Nat.le_trans HS.out.2.2 BW.out.size
      clear hp hne
      simp only at c0 c1
      have HA : Hid (Below wr.heap.size wr (wr.alloc (.cells #[.int .i64 x, .int .i64 y] 23))) := (Below.refl _ _).alloc (Nat.le_refl _) _
      have HDC := Lib.hid (disc_c (x, y) h (wr.alloc (.cells #[.int .i64 x, .int .i64 y] 23)) (RW.out.on HA.out))
      go_wp2_with fail
      refine HDC.out.mono ?_
      rintro e w2 ⟨v2, rfl, ho2, hb2⟩
      have B2 : Hid (Below wr.heap.size wr w2) := below_next HA.out hb2
      have T2 := Lib.hid (hw.out.1.grow B2.out)
      have HADD := Lib.hid (tadd_c g base u' v2 (discOut (x, y) h).2 (discOut (x, y) h).1 (discsT l h k st) w2 T2.out (ho2.base (Nat.le_trans HBS.out HA.out.size)) (Nat.le_trans HBS.out B2.out.size) (by have := discsT_len l h k st; have := HLEN.out; omega))
      clear ho2 hb2
      go_wp2_with fail
      refine HADD.out.mono ?_
      rintro e w3 ⟨rfl, u3, hT3, hG3⟩
      have T3 := Lib.hid hT3
      have G3 : Hid (TrTo g u C u3 w3) := hw.out.2.trans (TrTo.first B2.out hG3)
      clear hT3 hG3
      have HE : Hid (discsT l h (k + 1) st = addT (discsT l h k st) ((discOut (x, y) h).1, (discOut (x, y) h).2)) := by
        unfold Hid
        rw [discsT, List.getD_eq_getElem?_getD, HP.out]; rfl
      go_wp2_with fail
      exact ⟨⟨k + 1, u3, by omega, by go_num, by rw [HE.out]; exact T3.out, G3.out⟩, by simp [intOf]; omega⟩
    · have hd : decide ((k : Int) < (n : Int)) = false := by simp; omega
      have hkn : Hid (k = n) := by unfold Hid; omega
      go_wp2_with fail
      go_end0
      exact ⟨rfl, u', by rw [← hkn.out]; exact hw.out.1, hw.out.2⟩
set_option maxHeartbeats 4000000 in
set_option maxRecDepth 100000 in
theorem bars_some (g base : Nat) (u : Value) (b o n1 c : Nat) (l : List Pt) (h : Int) (st : Tr) (C : World) (hT : TraceAt C base g u st) (row : Row C (.slice (some ⟨b, o, none⟩) (n1 + 1) c) l) (hn : l.length = n1 + 1) (_hnc : n1 + 1 ≤ c) (hc2 : ¬ c = 1) (hoff : b ≠ g ∧ u.ownBlock ≠ some b)
    (hbg : base ≤ g) (hb : base ≤ C.heap.size) (hlen : st.2.length + l.length ≤ 1000) :
    Calls Tryd.prog 38 #[.pointer (some ⟨g, 0, none⟩), .slice (some ⟨b, o, none⟩) (n1 + 1) c, .int .i64 h] C (TrPost g base u C (barsT l h n1 st)) := by
  have HT := Lib.hid hT
  have HROW := Lib.hid row
  have HOFF : Hid (∀ k, (Value.slice (some ⟨b, o, none⟩) (n1 + 1) c).ownBlock = some k → k ≠ g ∧ u.ownBlock ≠ some k) := fun k hk => by
    simp [Value.ownBlock] at hk; subst hk; exact hoff
  have HS := Lib.hid (show _ ∧ _ from ⟨hbg, hb⟩)
  have HN := Lib.hid hn
  have HLEN := Lib.hid hlen
  have hn2 : n1 ≤ 1000 := by omega
  clear hT row hoff hbg hb hlen hn
  go_enter Tryd.func38, Tryd.ntmps38
  go_wp2_with fail
  go_loopw [11] (fun i wr => ∃ (k : Nat) (u' : Value), k ≤ n1 ∧ i = .int .i64 k ∧ Hid (TraceAt wr base g u' (barsT l h k st) ∧ TrTo g u C u' wr)) (fun i _ => n1 - (intOf i).toNat)
  case atStart => exact ⟨0, u, by omega, rfl, HT.out, TrTo.refl _ _ _⟩
  case round =>
    obtain ⟨k, u', hk, rfl, hw⟩ := hrel
    by_cases hlt : k < n1
    · have hd : decide ((k : Int) < (n1 : Int)) = true := by simp; omega
      obtain ⟨p, hp⟩ : ∃ p, l[k]? = some p := ⟨_, List.getElem?_eq_getElem (by rw [HN.out]; omega)⟩
      obtain ⟨q, hq⟩ : ∃ p, l[k + 1]? = some p := ⟨_, List.getElem?_eq_getElem (by rw [HN.out]; omega)⟩
      have HRW := Lib.hid (HROW.out.keep hw.out.2.keep HOFF.out)
      obtain ⟨c0, c1⟩ := HRW.out.pts hq
      rw [show o + (k + 1) * 2 = o + 2 + k * 2 by omega] at c0 c1
      have HP := Lib.hid hp
      have HQ := Lib.hid hq
      have BW : Hid (Below base C wr) := hw.out.2.below HT.out HS.out.1 HS.out.2
      clear hp hq
      have HE : Hid (barsT l h (k + 1) st = addT (barsT l h k st) (barOut p q h)) := by
        unfold Hid
        rw [barsT, List.getD_eq_getElem?_getD, List.getD_eq_getElem?_getD, HP.out, HQ.out]; rfl
      have HL9 : Hid ((barsT l h k st).2.length ≤ 1000) := by unfold Hid; have := barsT_len l h k st; have := HLEN.out; have := HN.out; omega
      generalize barsT l h k st = stk at hw HE HL9
      have hk1 : k < n1 + 1 := by omega
      have hk2 : (k : Int) < (n1 : Int) + 1 := by omega
      go_wp2_with fail
      obtain ⟨g7, hg7⟩ : ∃ g, wr.heap.size = g := ⟨_, rfl⟩
      obtain ⟨W, hW⟩ : ∃ W, wr.alloc (.cells #[.int .i64 q.1, .int .i64 q.2] 23) = W := ⟨_, rfl⟩
      have HA : Hid (Below wr.heap.size wr W) := by rw [← hW]; exact (Below.refl _ _).alloc (Nat.le_refl _) _
      have HBW : Hid (base ≤ W.heap.size) := Nat.le_trans HS.out.2 (Nat.le_trans BW.out.size HA.out.size)
      have FW : Hid (TraceAt W base g u' stk ∧ Row W (.slice (some ⟨b, o, none⟩) (n1 + 1) c) l ∧ Blk W g7 23 (two q)) := ⟨hw.out.1.grow HA.out, HRW.out.on HA.out, by rw [← hW]; exact Blk.newAt _ _ _ hg7⟩
      rw [hW, hg7]
      clear hW hg7 c0 c1
      refine wp_region_put (by kernel_rfl) (by kernel_rfl) (by kernel_rfl) (fun b' vs w' => (b' 0 = true → vs 0 = .pointer (some ⟨g, 0, none⟩)) ∧ (b' 1 = true → vs 1 = .slice (some ⟨b, o, none⟩) (n1 + 1) c) ∧ (b' 2 = true → vs 2 = .int .i64 (k : Int)) ∧ (b' 3 = true → vs 3 = .pointer (some ⟨b, o + k * 2, none⟩)) ∧ (b' 4 = true → vs 4 = .agg #[.int .i64 p.1, .int .i64 p.2]) ∧ (b' 5 = true → vs 5 = .agg #[.int .i64 q.1, .int .i64 q.2]) ∧ (b' 6 = true → vs 6 = .int .i64 h) ∧ (b' 9 = true → vs 9 = .int .i64 (barOut p q h).1) ∧ (b' 7 = true → b' 10 = false → Hid (TupR W.heap.size 23 (barOut p q h).1 (barOut p q h).2 (vs 7) w')) ∧ (b' 8 = true → b' 10 = false → Hid (Own w' W.heap.size 23 (vs 8) ((barOut p q h).2))) ∧ (b' 10 = false → Hid (Below W.heap.size W w' ∧ W.heap.size ≤ w'.heap.size)) ∧ (b' 10 = false → Hid (TraceAt w' base g u' stk ∧ Row w' (.slice (some ⟨b, o, none⟩) (n1 + 1) c) l ∧ Blk w' g7 23 (two q))) ∧ (b' 10 = true → Hid (∃ u2, TraceAt w' base g u2 (addT stk (barOut p q h)) ∧ TrTo g u' W u2 w')) ∧ (b' 8 = true → b' 7 = true) ∧ (b' 7 = true → b' 4 = true) ∧ (b' 7 = true → b' 5 = true) ∧ (b' 10 = true → b' 4 = true) ∧ (b' 10 = true → b' 5 = true) ∧ (b' 10 = true → b' 7 = true) ∧ (b' 10 = true → b' 8 = true) ∧ (b' 10 = true → b' 9 = true)) ?_ ?_ ?_
      · intro vs
        exact ⟨fun h => Bool.noConfusion h, fun h => Bool.noConfusion h, fun h => Bool.noConfusion h, fun h => Bool.noConfusion h, fun h => Bool.noConfusion h, fun h => Bool.noConfusion h, fun h => Bool.noConfusion h, fun h => Bool.noConfusion h, fun h => Bool.noConfusion h, fun h => Bool.noConfusion h, fun _ => Lib.hid ⟨below_drewN (Below.refl _ _) 1, Nat.le_refl _⟩, fun _ => Lib.hid ⟨FW.out.1.grow ⟨rfl, rfl, rfl, Nat.le_refl _, fun _ _ => rfl⟩, FW.out.2.1.on ⟨rfl, rfl, rfl, Nat.le_refl _, fun _ _ => rfl⟩, FW.out.2.2.grow ⟨rfl, rfl, rfl, Nat.le_refl _, fun _ _ => rfl⟩⟩, fun h => Bool.noConfusion h, fun h => Bool.noConfusion h, fun h => Bool.noConfusion h, fun h => Bool.noConfusion h, fun h => Bool.noConfusion h, fun h => Bool.noConfusion h, fun h => Bool.noConfusion h, fun h => Bool.noConfusion h, fun h => Bool.noConfusion h⟩
      · rintro b' vs w' i op hi hun hall ⟨h0, h1, h2, h3, h4, h5, h6, h9, y7, y8, hB, hF, hG, hE8_7, hE7_4, hE7_5, hW4, hW5, hW7, hW8, hW9⟩
        have hil : i < 11 := (List.getElem?_eq_some_iff.1 hi).1
        rcases i with _ | _ | _ | _ | _ | _ | _ | _ | _ | _ | _ | i
        · obtain rfl := Option.some.inj hi
          clear hi hil
          refine wpOp_step rfl (fun K hK => ?_)
          have HKK := Lib.hid hK; clear hK
          simp only [putAll, Act.put, List.setIfInBounds_toArray, List.set_cons_zero, List.set_cons_succ]
          go_simp
          exact HKK.out _ _ ⟨_, by simp only [putAll, Act.put, List.setIfInBounds_toArray, List.set_cons_zero, List.set_cons_succ] <;> rfl, fun _ => rfl, h1, h2, h3, h4, h5, h6, h9, y7, y8, hB, hF, hG, hE8_7, hE7_4, hE7_5, hW4, hW5, hW7, hW8, hW9⟩
        · obtain rfl := Option.some.inj hi
          clear hi hil
          refine wpOp_step rfl (fun K hK => ?_)
          have HKK := Lib.hid hK; clear hK
          simp only [putAll, Act.put, List.setIfInBounds_toArray, List.set_cons_zero, List.set_cons_succ]
          go_simp
          exact HKK.out _ _ ⟨_, by simp only [putAll, Act.put, List.setIfInBounds_toArray, List.set_cons_zero, List.set_cons_succ] <;> rfl, h0, fun _ => rfl, h2, h3, h4, h5, h6, h9, y7, y8, hB, hF, hG, hE8_7, hE7_4, hE7_5, hW4, hW5, hW7, hW8, hW9⟩
        · obtain rfl := Option.some.inj hi
          clear hi hil
          refine wpOp_step rfl (fun K hK => ?_)
          have HKK := Lib.hid hK; clear hK
          simp only [putAll, Act.put, List.setIfInBounds_toArray, List.set_cons_zero, List.set_cons_succ]
          go_simp
          exact HKK.out _ _ ⟨_, by simp only [putAll, Act.put, List.setIfInBounds_toArray, List.set_cons_zero, List.set_cons_succ] <;> rfl, h0, h1, fun _ => rfl, h3, h4, h5, h6, h9, y7, y8, hB, hF, hG, hE8_7, hE7_4, hE7_5, hW4, hW5, hW7, hW8, hW9⟩
        · obtain rfl := Option.some.inj hi
          clear hi hil
          have d1 := h1 (hall ⟨1, .data⟩ (by simp) rfl)
          have d2 := h2 (hall ⟨2, .data⟩ (by simp) rfl)
          refine wpOp_step rfl (fun K hK => ?_)
          have HKK := Lib.hid hK; clear hK
          simp only [putAll, Act.put, List.setIfInBounds_toArray, List.set_cons_zero, List.set_cons_succ]
          go_simp
          exact HKK.out _ _ ⟨_, by simp only [putAll, Act.put, List.setIfInBounds_toArray, List.set_cons_zero, List.set_cons_succ, d1, d2] <;> rfl, h0, h1, h2, fun _ => rfl, h4, h5, h6, h9, y7, y8, hB, hF, hG, hE8_7, hE7_4, hE7_5, hW4, hW5, hW7, hW8, hW9⟩
        · obtain rfl := Option.some.inj hi
          clear hi hil
          have hap : b' 10 = false := by
            cases hz : b' 10 with
            | false => rfl
            | true => exact absurd (hW4 hz) (by rw [hun]; decide)
          have d3 := h3 (hall ⟨3, .data⟩ (by simp) rfl)
          obtain ⟨x0, x1⟩ := (hF hap).out.2.1.pts HP.out
          refine wpOp_step rfl (fun K hK => ?_)
          have HKK := Lib.hid hK; clear hK
          simp only [putAll, Act.put, List.setIfInBounds_toArray, List.set_cons_zero, List.set_cons_succ]
          go_simp
          exact HKK.out _ _ ⟨_, by simp only [putAll, Act.put, List.setIfInBounds_toArray, List.set_cons_zero, List.set_cons_succ, d3] <;> rfl, h0, h1, h2, h3, fun _ => rfl, h5, h6, h9, y7, y8, hB, hF, hG, hE8_7, fun _ => rfl, hE7_5, fun _ => rfl, hW5, hW7, hW8, hW9⟩
        · obtain rfl := Option.some.inj hi
          clear hi hil
          have hap : b' 10 = false := by
            cases hz : b' 10 with
            | false => rfl
            | true => exact absurd (hW5 hz) (by rw [hun]; decide)
          have k7 := (hF hap).out.2.2
          have x0 := k7.p0
          have x1 := k7.p1
          clear k7
          refine wpOp_step rfl (fun K hK => ?_)
          have HKK := Lib.hid hK; clear hK
          simp only [putAll, Act.put, List.setIfInBounds_toArray, List.set_cons_zero, List.set_cons_succ]
          go_simp
          exact HKK.out _ _ ⟨_, by simp only [putAll, Act.put, List.setIfInBounds_toArray, List.set_cons_zero, List.set_cons_succ] <;> rfl, h0, h1, h2, h3, h4, fun _ => rfl, h6, h9, y7, y8, hB, hF, hG, hE8_7, hE7_4, fun _ => rfl, hW4, fun _ => rfl, hW7, hW8, hW9⟩
        · obtain rfl := Option.some.inj hi
          clear hi hil
          refine wpOp_step rfl (fun K hK => ?_)
          have HKK := Lib.hid hK; clear hK
          simp only [putAll, Act.put, List.setIfInBounds_toArray, List.set_cons_zero, List.set_cons_succ]
          go_simp
          exact HKK.out _ _ ⟨_, by simp only [putAll, Act.put, List.setIfInBounds_toArray, List.set_cons_zero, List.set_cons_succ] <;> rfl, h0, h1, h2, h3, h4, h5, fun _ => rfl, h9, y7, y8, hB, hF, hG, hE8_7, hE7_4, hE7_5, hW4, hW5, hW7, hW8, hW9⟩
        · obtain rfl := Option.some.inj hi
          clear hi hil
          have hap : b' 10 = false := by
            cases hz : b' 10 with
            | false => rfl
            | true => exact absurd (hW7 hz) (by rw [hun]; decide)
          have d4 := h4 (hall ⟨4, .data⟩ (by simp) rfl)
          have d5 := h5 (hall ⟨5, .data⟩ (by simp) rfl)
          have d6 := h6 (hall ⟨6, .data⟩ (by simp) rfl)
          refine wpOp_step rfl (fun K hK => ?_)
          have HKK := Lib.hid hK; clear hK
          simp only [putAll, Act.put, List.setIfInBounds_toArray, List.set_cons_zero, List.set_cons_succ]
          go_simp
          refine (bar_c p q h w').mono ?_
          rintro e w2 ⟨v2, rfl, ho2, hb2⟩
          exact HKK.out _ _ ⟨_, by simp only [putAll, Act.put, List.setIfInBounds_toArray, List.set_cons_zero, List.set_cons_succ, d4, d5, d6] <;> rfl, h0, h1, h2, h3, h4, h5, h6, h9, fun _ _ => Lib.hid (⟨v2, rfl, ho2.base (hB hap).out.2⟩), fun h ha => Lib.hid (Own.grow (y8 h ha).out hb2), fun ha => Lib.hid ⟨(hB ha).out.1.trans (hb2.mono (hB ha).out.2), Nat.le_trans (hB ha).out.2 hb2.size⟩, fun ha => Lib.hid (⟨(hF ha).out.1.grow hb2, (hF ha).out.2.1.on hb2, (hF ha).out.2.2.grow hb2⟩), fun h => absurd (show b' 10 = true from h) (by rw [hap]; decide), fun _ => rfl, fun _ => hall ⟨4, .data⟩ (by simp) rfl, fun _ => hall ⟨5, .data⟩ (by simp) rfl, hW4, hW5, fun _ => rfl, hW8, hW9⟩
        · obtain rfl := Option.some.inj hi
          clear hi hil
          have hap : b' 10 = false := by
            cases hz : b' 10 with
            | false => rfl
            | true => exact absurd (hW8 hz) (by rw [hun]; decide)
          have o7 := y7 (hall ⟨7, .data⟩ (by simp) rfl) hap
          obtain ⟨r, er, hor⟩ := o7.out
          refine wpOp_step rfl (fun K hK => ?_)
          have HKK := Lib.hid hK; clear hK
          simp only [putAll, Act.put, List.setIfInBounds_toArray, List.set_cons_zero, List.set_cons_succ]
          go_simp
          exact HKK.out _ _ ⟨_, by simp only [putAll, Act.put, List.setIfInBounds_toArray, List.set_cons_zero, List.set_cons_succ, er] <;> rfl, h0, h1, h2, h3, h4, h5, h6, h9, y7, fun _ _ => Lib.hid (hor), hB, hF, hG, fun _ => hall ⟨7, .data⟩ (by simp) rfl, hE7_4, hE7_5, hW4, hW5, hW7, fun _ => rfl, hW9⟩
        · obtain rfl := Option.some.inj hi
          clear hi hil
          have hap : b' 10 = false := by
            cases hz : b' 10 with
            | false => rfl
            | true => exact absurd (hW9 hz) (by rw [hun]; decide)
          have o7 := y7 (hall ⟨7, .data⟩ (by simp) rfl) hap
          obtain ⟨r, er, hor⟩ := o7.out
          clear hor
          refine wpOp_step rfl (fun K hK => ?_)
          have HKK := Lib.hid hK; clear hK
          simp only [putAll, Act.put, List.setIfInBounds_toArray, List.set_cons_zero, List.set_cons_succ]
          go_simp
          exact HKK.out _ _ ⟨_, by simp only [putAll, Act.put, List.setIfInBounds_toArray, List.set_cons_zero, List.set_cons_succ, er] <;> rfl, h0, h1, h2, h3, h4, h5, h6, fun _ => rfl, y7, y8, hB, hF, hG, hE8_7, hE7_4, hE7_5, hW4, hW5, hW7, hW8, fun _ => rfl⟩
        · obtain rfl := Option.some.inj hi
          clear hi hil
          have hap : b' 10 = false := hun
          have d0 := h0 (hall ⟨0, .data⟩ (by simp) rfl)
          have o8 := y8 (hall ⟨8, .data⟩ (by simp) rfl) hap
          have d9 := h9 (hall ⟨9, .data⟩ (by simp) rfl)
          refine wpOp_step rfl (fun K hK => ?_)
          have HKK := Lib.hid hK; clear hK
          simp only [putAll, Act.put, List.setIfInBounds_toArray, List.set_cons_zero, List.set_cons_succ]
          go_simp
          refine (tadd_c g base u' _ _ _ stk w' (hF hap).out.1 (o8.out.base HBW.out) (Nat.le_trans HBW.out (hB hap).out.2) HL9.out).mono ?_
          rintro e w2 ⟨rfl, u2, hT2, hG2⟩
          exact HKK.out _ _ ⟨_, by simp only [putAll, Act.put, List.setIfInBounds_toArray, List.set_cons_zero, List.set_cons_succ, d0, d9] <;> rfl, h0, h1, h2, h3, h4, h5, h6, h9, fun _ h => Bool.noConfusion h, fun _ h => Bool.noConfusion h, fun h => Bool.noConfusion h, fun h => Bool.noConfusion h, fun _ => Lib.hid (⟨u2, hT2, TrTo.first (hB hap).out.1 hG2⟩), hE8_7, hE7_4, hE7_5, fun _ => hE7_4 (hE8_7 (hall ⟨8, .data⟩ (by simp) rfl)), fun _ => hE7_5 (hE8_7 (hall ⟨8, .data⟩ (by simp) rfl)), fun _ => hE8_7 (hall ⟨8, .data⟩ (by simp) rfl), fun _ => hall ⟨8, .data⟩ (by simp) rfl, fun _ => hall ⟨9, .data⟩ (by simp) rfl⟩
        · omega
      · rintro b' vs w2 hall ⟨h0, h1, h2, h3, h4, h5, h6, h9, y7, y8, hB, hF, hG, hE8_7, hE7_4, hE7_5, hW4, hW5, hW7, hW8, hW9⟩
        have d0 := h0 (hall 0 (by simp))
        have d1 := h1 (hall 1 (by simp))
        have d2 := h2 (hall 2 (by simp))
        have d3 := h3 (hall 3 (by simp))
        have d4 := h4 (hall 4 (by simp))
        have d5 := h5 (hall 5 (by simp))
        have d6 := h6 (hall 6 (by simp))
        have d9 := h9 (hall 9 (by simp))
        have GG := hG (hall 10 (by simp))
        obtain ⟨u3, hT3, hG3⟩ := GG.out
        have T3 := Lib.hid hT3
        have G3 : Hid (TrTo g u C u3 w2) := hw.out.2.trans (TrTo.first HA.out hG3)
        clear hT3 hG3 GG
        simp only [putAll, Act.put, List.setIfInBounds_toArray, List.set_cons_zero, List.set_cons_succ, d0, d1, d2, d3, d4, d5, d6, d9]
        clear hall h0 d0 h1 d1 h2 d2 h3 d3 h4 d4 h5 d5 h6 d6 h9 d9 y7 y8 hB hF hG hE8_7 hE7_4 hE7_5 hW4 hW5 hW7 hW8 hW9
        go_wp2_with fail
        exact ⟨⟨k + 1, u3, by omega, by go_num, by rw [HE.out]; exact T3.out, G3.out⟩, by simp [intOf]; omega⟩
    · have hd : decide ((k : Int) < (n1 : Int)) = false := by simp; omega
      have hkn : Hid (k = n1) := by unfold Hid; omega
      go_wp2_with fail
      go_end0
      exact ⟨rfl, u', by rw [← hkn.out]; exact hw.out.1, hw.out.2⟩
noncomputable def capsT (l : List Pt) (h cap : Int) (st : Tr) : Tr :=
  if cap = 1 then addT (addT st (discOut (l.getD 0 (0, 0)) h)) (discOut (l.getD (l.length - 1) (0, 0)) h)
  else if cap = 2 then addT (addT st (headOut (l.getD 0 (0, 0)) (l.getD 1 (0, 0)) h)) (tailOut (l.getD (l.length - 2) (0, 0)) (l.getD (l.length - 1) (0, 0)) h) else st
def dotI (c : Pt) (h : Int) : List Pt := slabI (subP c (h, 0)) (addP c (h, 0)) (0, h)
def dotT (c : Pt) (h cap : Int) (st : Tr) : Tr := if cap = 1 then addT st (discOut c h) else if cap = 2 then addT st (roomOut (dotI c h)) else st
theorem capsT_len (l : List Pt) (h cap : Int) (st : Tr) : (capsT l h cap st).2.length ≤ st.2.length + 2 := by
  unfold capsT
  split
  · have h1 := addT_len (addT st (discOut (l.getD 0 (0, 0)) h)) (discOut (l.getD (l.length - 1) (0, 0)) h)
    have h2 := addT_len st (discOut (l.getD 0 (0, 0)) h)
    omega
  · split
    · have h1 := addT_len (addT st (headOut (l.getD 0 (0, 0)) (l.getD 1 (0, 0)) h)) (tailOut (l.getD (l.length - 2) (0, 0)) (l.getD (l.length - 1) (0, 0)) h)
      have h2 := addT_len st (headOut (l.getD 0 (0, 0)) (l.getD 1 (0, 0)) h)
      omega
    · omega
set_option maxHeartbeats 1000000 in
set_option maxRecDepth 100000 in
theorem caps_0 (g base : Nat) (u : Value) (b o j c : Nat) (h : Int) (st : Tr) (C : World) (hT : TraceAt C base g u st) (hj : j ≤ 1000) :
    Calls Tryd.prog 40 #[.pointer (some ⟨g, 0, none⟩), .slice (some ⟨b, o, none⟩) (j + 2) c, .int .i64 h, .int .i64 0] C (TrPost g base u C st) := by
  have HT := Lib.hid hT
  clear hT
  go_enter Tryd.func40, Tryd.ntmps40
  go_wp2_with fail
  go_end0
  exact ⟨rfl, u, HT.out, TrTo.refl _ _ _⟩
set_option maxHeartbeats 2000000 in
set_option maxRecDepth 100000 in
theorem caps_1 (g base : Nat) (u : Value) (b o j c : Nat) (p q : Pt) (h : Int) (st : Tr) (C : World) (hT : TraceAt C base g u st) (c0 : C.cell? ⟨b, o, none⟩ = some (.int .i64 p.1)) (c1 : C.cell? ⟨b, o + 1, none⟩ = some (.int .i64 p.2))
    (c2 : C.cell? ⟨b, o + (j + 1) * 2, none⟩ = some (.int .i64 q.1)) (c3 : C.cell? ⟨b, o + (j + 1) * 2 + 1, none⟩ = some (.int .i64 q.2)) (hlb : b < C.heap.size) (hoff : b ≠ g ∧ u.ownBlock ≠ some b)
    (hr : Rd C) (hgl : 0 < base) (hbg : base ≤ g) (hb : base ≤ C.heap.size) (hlen : st.2.length ≤ 900) (hj : j ≤ 1000) :
    Calls Tryd.prog 40 #[.pointer (some ⟨g, 0, none⟩), .slice (some ⟨b, o, none⟩) (j + 2) c, .int .i64 h, .int .i64 1] C (TrPost g base u C (addT (addT st (discOut p h)) (discOut q h))) := by
  have HT := Lib.hid hT
  have HS := Lib.hid (show _ ∧ _ ∧ _ from ⟨hgl, hbg, hb⟩)
  have HLEN := Lib.hid hlen
  have HR := Lib.hid hr
  have HD := Lib.hid (disc_c p h C hr)
  have C2 := Lib.hid (show _ ∧ _ from ⟨c2, c3⟩)
  have HOFF := Lib.hid (show _ ∧ _ from ⟨hlb, hoff⟩)
  clear hT hgl hbg hb hlen hr c2 c3 hlb hoff
  go_enter Tryd.func40, Tryd.ntmps40
  go_wp2_with fail
  refine HD.out.mono ?_
  rintro e w2 ⟨v2, rfl, ho2, hb2⟩
  have B2 := Lib.hid hb2
  have HADD := Lib.hid (tadd_c g base u v2 (discOut p h).2 (discOut p h).1 st w2 (HT.out.grow hb2) (ho2.base HS.out.2.2) (Nat.le_trans HS.out.2.2 hb2.size) (by have := HLEN.out; omega))
  clear ho2 hb2 c0 c1
  go_wp2_with fail
  refine HADD.out.mono ?_
  rintro e w3 ⟨rfl, u3, hT3, hG3⟩
  have T3 : Hid (TraceAt w3 base g u3 (addT st (discOut p h))) := hT3
  have G3 : Hid (TrTo g u C u3 w3) := TrTo.first B2.out hG3
  have K3 := Lib.hid (G3.out.keep.block b ⟨HOFF.out.2.1, HOFF.out.2.2⟩ HOFF.out.1)
  have c2 : w3.cell? ⟨b, o + (j + 1) * 2, none⟩ = some (.int .i64 q.1) := by rw [← C2.out.1]; unfold World.cell?; simp only; rw [K3.out]
  have c3 : w3.cell? ⟨b, o + (j + 1) * 2 + 1, none⟩ = some (.int .i64 q.2) := by rw [← C2.out.2]; unfold World.cell?; simp only; rw [K3.out]
  have BW : Hid (Below base C w3) := G3.out.below HT.out HS.out.2.1 HS.out.2.2
  have HD3 := Lib.hid (disc_c q h w3 (HR.out.under BW.out HS.out.1))
  clear hT3 hG3
  have hw1 : wrap64 ((j : Int) + 1 + 1 - 1) = (j : Int) + 1 := by rw [wrapR _ (by omega) (by omega)]; omega
  have hw2 : wrap64 ((j : Int) + 2 - 1) = (j : Int) + 1 := by rw [wrapR _ (by omega) (by omega)]; omega
  go_wp2_with fail
  refine HD3.out.mono ?_
  rintro e w4 ⟨v4, rfl, ho4, hb4⟩
  have B4 := Lib.hid hb4
  have HBS : Hid (base ≤ w3.heap.size) := Nat.le_trans HS.out.2.2 BW.out.size
  have HADD4 := Lib.hid (tadd_c g base u3 v4 (discOut q h).2 (discOut q h).1 (addT st (discOut p h)) w4 (T3.out.grow hb4) (ho4.base HBS.out) (Nat.le_trans HBS.out hb4.size) (by have := HLEN.out; have := addT_len st (discOut p h); omega))
  clear ho4 hb4 c2 c3
  go_wp2_with fail
  refine HADD4.out.mono ?_
  rintro e w5 ⟨rfl, u5, hT5, hG5⟩
  have T5 := Lib.hid hT5
  have G5 : Hid (TrTo g u C u5 w5) := G3.out.trans (TrTo.first B4.out hG5)
  clear hT5 hG5
  go_wp2_with fail
  go_end0
  exact ⟨rfl, u5, T5.out, G5.out⟩
/-- A trace, and two points of a row, in memory. -/
structure CapM (w : World) (base g : Nat) (u : Value) (st : Tr) (b o1 o2 : Nat) (p q : Pt) : Prop where
  tr : TraceAt w base g u st
  fst : w.cell? ⟨b, o1, none⟩ = some (.int .i64 p.1) ∧ w.cell? ⟨b, o1 + 1, none⟩ = some (.int .i64 p.2)
  snd : w.cell? ⟨b, o2, none⟩ = some (.int .i64 q.1) ∧ w.cell? ⟨b, o2 + 1, none⟩ = some (.int .i64 q.2)
  lt : b < w.heap.size
theorem CapM.grow {w w' : World} {base g : Nat} {u : Value} {st : Tr} {b o1 o2 : Nat} {p q : Pt} (h : CapM w base g u st b o1 o2 p q) (hb : Below w.heap.size w w') : CapM w' base g u st b o1 o2 p q :=
  ⟨h.tr.grow hb, ⟨(cell_below hb h.lt).trans h.fst.1, (cell_below hb h.lt).trans h.fst.2⟩, ⟨(cell_below hb h.lt).trans h.snd.1, (cell_below hb h.lt).trans h.snd.2⟩, Nat.lt_of_lt_of_le h.lt hb.size⟩
set_option maxHeartbeats 4000000 in
set_option maxRecDepth 100000 in
theorem caps_2 (g base : Nat) (u : Value) (b o j c : Nat) (p0 p1 q0 q1 : Pt) (h : Int) (st : Tr) (C : World) (hF : CapM C base g u st b o (o + 2) p0 p1) (hQ : ((C.cell? ⟨b, o + j * 2, none⟩ = some (.int .i64 q0.1) ∧ C.cell? ⟨b, o + j * 2 + 1, none⟩ = some (.int .i64 q0.2)) ∧ C.cell? ⟨b, o + (j + 1) * 2, none⟩ = some (.int .i64 q1.1) ∧ C.cell? ⟨b, o + (j + 1) * 2 + 1, none⟩ = some (.int .i64 q1.2)))
    (hoff : b ≠ g ∧ u.ownBlock ≠ some b) (hbg : base ≤ g) (hb : base ≤ C.heap.size) (hlen : st.2.length ≤ 900) (hj : j ≤ 1000)
    (HCALLC : Hid (∀ w, Calls Tryd.prog 65 #[.agg #[.int .i64 p0.1, .int .i64 p0.2], .agg #[.int .i64 p1.1, .int .i64 p1.2], .int .i64 h] w (ToldP w (headOut p0 p1 h))))
    (HCALLw2 : Hid (∀ w, Calls Tryd.prog 66 #[.agg #[.int .i64 q0.1, .int .i64 q0.2], .agg #[.int .i64 q1.1, .int .i64 q1.2], .int .i64 h] w (ToldP w (tailOut q0 q1 h)))) :
    Calls Tryd.prog 40 #[.pointer (some ⟨g, 0, none⟩), .slice (some ⟨b, o, none⟩) (j + 2) c, .int .i64 h, .int .i64 2] C (TrPost g base u C (addT (addT st (headOut p0 p1 h)) (tailOut q0 q1 h))) := by
  have FWC := Lib.hid hF
  have HT := Lib.hid hF.tr
  have HQ := Lib.hid hQ
  have HS := Lib.hid (show _ ∧ _ from ⟨hbg, hb⟩)
  have HOFF := Lib.hid (show _ ∧ _ from hoff)
  have HLEN := Lib.hid hlen
  have HBWC : Hid (base ≤ C.heap.size) := hb
  have HL9C : Hid (st.2.length ≤ 1000) := by unfold Hid; omega
  have hw1 : wrap64 ((j : Int) + 1 + 1 - 1) = (j : Int) + 1 := by rw [wrapR _ (by omega) (by omega)]; omega
  have hw2 : wrap64 ((j : Int) + 2 - 1) = (j : Int) + 1 := by rw [wrapR _ (by omega) (by omega)]; omega
  have hw3 : wrap64 ((j : Int) + 1 - 1) = (j : Int) := by rw [wrapR _ (by omega) (by omega)]; omega
  have ha0 : (0 : Int) < (j : Int) + 2 := by omega
  have ha1 : (1 : Int) < (j : Int) + 2 := by omega
  have ha2 : 0 < j + 2 := by omega
  have ha3 : 1 < j + 2 := by omega
  have HW2 := Lib.hid hw2
  have HW3 := Lib.hid hw3
  have HW5 : Hid (wrap64 (j : Int) = (j : Int)) := wrapR _ (by omega) (by omega)
  clear hF hQ hoff hbg hb hlen hj hw1 hw2 hw3
  go_enter Tryd.func40, Tryd.ntmps40
  go_wp2_with fail
  rw [HW2.out]
  refine wp_region_put (by kernel_rfl) (by kernel_rfl) (by kernel_rfl) (fun b' vs w' => (b' 0 = true → vs 0 = .pointer (some ⟨g, 0, none⟩)) ∧ (b' 1 = true → vs 1 = .slice (some ⟨b, o, none⟩) (j + 2) c) ∧ (b' 2 = true → vs 2 = .pointer (some ⟨b, o, none⟩)) ∧ (b' 3 = true → vs 3 = .agg #[.int .i64 p0.1, .int .i64 p0.2]) ∧ (b' 4 = true → vs 4 = .slice (some ⟨b, o, none⟩) (j + 2) c) ∧ (b' 5 = true → vs 5 = .pointer (some ⟨b, o + 2, none⟩)) ∧ (b' 6 = true → vs 6 = .agg #[.int .i64 p1.1, .int .i64 p1.2]) ∧ (b' 7 = true → vs 7 = .int .i64 h) ∧ (b' 10 = true → vs 10 = .int .i64 (headOut p0 p1 h).1) ∧ (b' 8 = true → b' 11 = false → Hid (TupR C.heap.size 23 (headOut p0 p1 h).1 (headOut p0 p1 h).2 (vs 8) w')) ∧ (b' 9 = true → b' 11 = false → Hid (Own w' C.heap.size 23 (vs 9) ((headOut p0 p1 h).2))) ∧ (b' 11 = false → Hid (Below C.heap.size C w' ∧ C.heap.size ≤ w'.heap.size)) ∧ (b' 11 = false → Hid (CapM w' base g u (st) b (o) (o + 2) p0 p1)) ∧ (b' 11 = true → Hid (∃ u2, TraceAt w' base g u2 (addT (st) (headOut p0 p1 h)) ∧ TrTo g u C u2 w')) ∧ (b' 9 = true → b' 8 = true) ∧ (b' 8 = true → b' 3 = true) ∧ (b' 8 = true → b' 6 = true) ∧ (b' 11 = true → b' 3 = true) ∧ (b' 11 = true → b' 6 = true) ∧ (b' 11 = true → b' 8 = true) ∧ (b' 11 = true → b' 9 = true) ∧ (b' 11 = true → b' 10 = true)) ?_ ?_ ?_
  · intro vs
    exact ⟨fun h => Bool.noConfusion h, fun h => Bool.noConfusion h, fun h => Bool.noConfusion h, fun h => Bool.noConfusion h, fun h => Bool.noConfusion h, fun h => Bool.noConfusion h, fun h => Bool.noConfusion h, fun h => Bool.noConfusion h, fun h => Bool.noConfusion h, fun h => Bool.noConfusion h, fun h => Bool.noConfusion h, fun _ => Lib.hid ⟨below_drewN (Below.refl _ _) 1, Nat.le_refl _⟩, fun _ => Lib.hid (FWC.out.grow ⟨rfl, rfl, rfl, Nat.le_refl _, fun _ _ => rfl⟩), fun h => Bool.noConfusion h, fun h => Bool.noConfusion h, fun h => Bool.noConfusion h, fun h => Bool.noConfusion h, fun h => Bool.noConfusion h, fun h => Bool.noConfusion h, fun h => Bool.noConfusion h, fun h => Bool.noConfusion h, fun h => Bool.noConfusion h⟩
  · rintro b' vs w' i op hi hun hall ⟨h0, h1, h2, h3, h4, h5, h6, h7, h10, y8, y9, hB, hF, hG, hE9_8, hE8_3, hE8_6, hW3, hW6, hW8, hW9, hW10⟩
    have hil : i < 12 := (List.getElem?_eq_some_iff.1 hi).1
    rcases i with _ | _ | _ | _ | _ | _ | _ | _ | _ | _ | _ | _ | i
    · obtain rfl := Option.some.inj hi
      clear hi hil
      refine wpOp_step rfl (fun K hK => ?_)
      have HKK := Lib.hid hK; clear hK
      simp only [putAll, Act.put, List.setIfInBounds_toArray, List.set_cons_zero, List.set_cons_succ]
      go_simp
      exact HKK.out _ _ ⟨_, by simp only [putAll, Act.put, List.setIfInBounds_toArray, List.set_cons_zero, List.set_cons_succ] <;> rfl, fun _ => rfl, h1, h2, h3, h4, h5, h6, h7, h10, y8, y9, hB, hF, hG, hE9_8, hE8_3, hE8_6, hW3, hW6, hW8, hW9, hW10⟩
    · obtain rfl := Option.some.inj hi
      clear hi hil
      refine wpOp_step rfl (fun K hK => ?_)
      have HKK := Lib.hid hK; clear hK
      simp only [putAll, Act.put, List.setIfInBounds_toArray, List.set_cons_zero, List.set_cons_succ]
      go_simp
      exact HKK.out _ _ ⟨_, by simp only [putAll, Act.put, List.setIfInBounds_toArray, List.set_cons_zero, List.set_cons_succ] <;> rfl, h0, fun _ => rfl, h2, h3, h4, h5, h6, h7, h10, y8, y9, hB, hF, hG, hE9_8, hE8_3, hE8_6, hW3, hW6, hW8, hW9, hW10⟩
    · obtain rfl := Option.some.inj hi
      clear hi hil
      have d1 := h1 (hall ⟨1, .data⟩ (by simp) rfl)
      refine wpOp_step rfl (fun K hK => ?_)
      have HKK := Lib.hid hK; clear hK
      simp only [putAll, Act.put, List.setIfInBounds_toArray, List.set_cons_zero, List.set_cons_succ]
      go_simp
      exact HKK.out _ _ ⟨_, by simp only [putAll, Act.put, List.setIfInBounds_toArray, List.set_cons_zero, List.set_cons_succ, d1] <;> rfl, h0, h1, fun _ => rfl, h3, h4, h5, h6, h7, h10, y8, y9, hB, hF, hG, hE9_8, hE8_3, hE8_6, hW3, hW6, hW8, hW9, hW10⟩
    · obtain rfl := Option.some.inj hi
      clear hi hil
      have hap : b' 11 = false := by
        cases hz : b' 11 with
        | false => rfl
        | true => exact absurd (hW3 hz) (by rw [hun]; decide)
      have d2 := h2 (hall ⟨2, .data⟩ (by simp) rfl)
      have k := (hF hap).out.fst
      have x0 := k.1
      have x1 := k.2
      clear k
      refine wpOp_step rfl (fun K hK => ?_)
      have HKK := Lib.hid hK; clear hK
      simp only [putAll, Act.put, List.setIfInBounds_toArray, List.set_cons_zero, List.set_cons_succ]
      go_simp
      exact HKK.out _ _ ⟨_, by simp only [putAll, Act.put, List.setIfInBounds_toArray, List.set_cons_zero, List.set_cons_succ, d2] <;> rfl, h0, h1, h2, fun _ => rfl, h4, h5, h6, h7, h10, y8, y9, hB, hF, hG, hE9_8, fun _ => rfl, hE8_6, fun _ => rfl, hW6, hW8, hW9, hW10⟩
    · obtain rfl := Option.some.inj hi
      clear hi hil
      refine wpOp_step rfl (fun K hK => ?_)
      have HKK := Lib.hid hK; clear hK
      simp only [putAll, Act.put, List.setIfInBounds_toArray, List.set_cons_zero, List.set_cons_succ]
      go_simp
      exact HKK.out _ _ ⟨_, by simp only [putAll, Act.put, List.setIfInBounds_toArray, List.set_cons_zero, List.set_cons_succ] <;> rfl, h0, h1, h2, h3, fun _ => rfl, h5, h6, h7, h10, y8, y9, hB, hF, hG, hE9_8, hE8_3, hE8_6, hW3, hW6, hW8, hW9, hW10⟩
    · obtain rfl := Option.some.inj hi
      clear hi hil
      have d4 := h4 (hall ⟨4, .data⟩ (by simp) rfl)
      refine wpOp_step rfl (fun K hK => ?_)
      have HKK := Lib.hid hK; clear hK
      simp only [putAll, Act.put, List.setIfInBounds_toArray, List.set_cons_zero, List.set_cons_succ]
      go_simp
      exact HKK.out _ _ ⟨_, by simp only [putAll, Act.put, List.setIfInBounds_toArray, List.set_cons_zero, List.set_cons_succ, d4] <;> rfl, h0, h1, h2, h3, h4, fun _ => rfl, h6, h7, h10, y8, y9, hB, hF, hG, hE9_8, hE8_3, hE8_6, hW3, hW6, hW8, hW9, hW10⟩
    · obtain rfl := Option.some.inj hi
      clear hi hil
      have hap : b' 11 = false := by
        cases hz : b' 11 with
        | false => rfl
        | true => exact absurd (hW6 hz) (by rw [hun]; decide)
      have d5 := h5 (hall ⟨5, .data⟩ (by simp) rfl)
      have k := (hF hap).out.snd
      have x0 := k.1
      have x1 := k.2
      clear k
      refine wpOp_step rfl (fun K hK => ?_)
      have HKK := Lib.hid hK; clear hK
      simp only [putAll, Act.put, List.setIfInBounds_toArray, List.set_cons_zero, List.set_cons_succ]
      go_simp
      exact HKK.out _ _ ⟨_, by simp only [putAll, Act.put, List.setIfInBounds_toArray, List.set_cons_zero, List.set_cons_succ, d5] <;> rfl, h0, h1, h2, h3, h4, h5, fun _ => rfl, h7, h10, y8, y9, hB, hF, hG, hE9_8, hE8_3, fun _ => rfl, hW3, fun _ => rfl, hW8, hW9, hW10⟩
    · obtain rfl := Option.some.inj hi
      clear hi hil
      refine wpOp_step rfl (fun K hK => ?_)
      have HKK := Lib.hid hK; clear hK
      simp only [putAll, Act.put, List.setIfInBounds_toArray, List.set_cons_zero, List.set_cons_succ]
      go_simp
      exact HKK.out _ _ ⟨_, by simp only [putAll, Act.put, List.setIfInBounds_toArray, List.set_cons_zero, List.set_cons_succ] <;> rfl, h0, h1, h2, h3, h4, h5, h6, fun _ => rfl, h10, y8, y9, hB, hF, hG, hE9_8, hE8_3, hE8_6, hW3, hW6, hW8, hW9, hW10⟩
    · obtain rfl := Option.some.inj hi
      clear hi hil
      have hap : b' 11 = false := by
        cases hz : b' 11 with
        | false => rfl
        | true => exact absurd (hW8 hz) (by rw [hun]; decide)
      have d3 := h3 (hall ⟨3, .data⟩ (by simp) rfl)
      have d6 := h6 (hall ⟨6, .data⟩ (by simp) rfl)
      have d7 := h7 (hall ⟨7, .data⟩ (by simp) rfl)
      refine wpOp_step rfl (fun K hK => ?_)
      have HKK := Lib.hid hK; clear hK
      simp only [putAll, Act.put, List.setIfInBounds_toArray, List.set_cons_zero, List.set_cons_succ]
      go_simp
      refine (HCALLC.out w').mono ?_
      rintro e w2 ⟨v2, rfl, ho2, hb2⟩
      exact HKK.out _ _ ⟨_, by simp only [putAll, Act.put, List.setIfInBounds_toArray, List.set_cons_zero, List.set_cons_succ, d3, d6, d7] <;> rfl, h0, h1, h2, h3, h4, h5, h6, h7, h10, fun _ _ => Lib.hid (⟨v2, rfl, ho2.base (hB hap).out.2⟩), fun h ha => Lib.hid (Own.grow (y9 h ha).out hb2), fun ha => Lib.hid ⟨(hB ha).out.1.trans (hb2.mono (hB ha).out.2), Nat.le_trans (hB ha).out.2 hb2.size⟩, fun ha => Lib.hid ((hF ha).out.grow hb2), fun h => absurd (show b' 11 = true from h) (by rw [hap]; decide), fun _ => rfl, fun _ => hall ⟨3, .data⟩ (by simp) rfl, fun _ => hall ⟨6, .data⟩ (by simp) rfl, hW3, hW6, fun _ => rfl, hW9, hW10⟩
    · obtain rfl := Option.some.inj hi
      clear hi hil
      have hap : b' 11 = false := by
        cases hz : b' 11 with
        | false => rfl
        | true => exact absurd (hW9 hz) (by rw [hun]; decide)
      have o8 := y8 (hall ⟨8, .data⟩ (by simp) rfl) hap
      obtain ⟨r, er, hor⟩ := o8.out
      refine wpOp_step rfl (fun K hK => ?_)
      have HKK := Lib.hid hK; clear hK
      simp only [putAll, Act.put, List.setIfInBounds_toArray, List.set_cons_zero, List.set_cons_succ]
      go_simp
      exact HKK.out _ _ ⟨_, by simp only [putAll, Act.put, List.setIfInBounds_toArray, List.set_cons_zero, List.set_cons_succ, er] <;> rfl, h0, h1, h2, h3, h4, h5, h6, h7, h10, y8, fun _ _ => Lib.hid (hor), hB, hF, hG, fun _ => hall ⟨8, .data⟩ (by simp) rfl, hE8_3, hE8_6, hW3, hW6, hW8, fun _ => rfl, hW10⟩
    · obtain rfl := Option.some.inj hi
      clear hi hil
      have hap : b' 11 = false := by
        cases hz : b' 11 with
        | false => rfl
        | true => exact absurd (hW10 hz) (by rw [hun]; decide)
      have o8 := y8 (hall ⟨8, .data⟩ (by simp) rfl) hap
      obtain ⟨r, er, hor⟩ := o8.out
      clear hor
      refine wpOp_step rfl (fun K hK => ?_)
      have HKK := Lib.hid hK; clear hK
      simp only [putAll, Act.put, List.setIfInBounds_toArray, List.set_cons_zero, List.set_cons_succ]
      go_simp
      exact HKK.out _ _ ⟨_, by simp only [putAll, Act.put, List.setIfInBounds_toArray, List.set_cons_zero, List.set_cons_succ, er] <;> rfl, h0, h1, h2, h3, h4, h5, h6, h7, fun _ => rfl, y8, y9, hB, hF, hG, hE9_8, hE8_3, hE8_6, hW3, hW6, hW8, hW9, fun _ => rfl⟩
    · obtain rfl := Option.some.inj hi
      clear hi hil
      have hap : b' 11 = false := hun
      have d0 := h0 (hall ⟨0, .data⟩ (by simp) rfl)
      have o9 := y9 (hall ⟨9, .data⟩ (by simp) rfl) hap
      have d10 := h10 (hall ⟨10, .data⟩ (by simp) rfl)
      refine wpOp_step rfl (fun K hK => ?_)
      have HKK := Lib.hid hK; clear hK
      simp only [putAll, Act.put, List.setIfInBounds_toArray, List.set_cons_zero, List.set_cons_succ]
      go_simp
      refine (tadd_c g base u _ _ _ (st) w' (hF hap).out.tr (o9.out.base HBWC.out) (Nat.le_trans HBWC.out (hB hap).out.2) HL9C.out).mono ?_
      rintro e w2 ⟨rfl, u2, hT2, hG2⟩
      exact HKK.out _ _ ⟨_, by simp only [putAll, Act.put, List.setIfInBounds_toArray, List.set_cons_zero, List.set_cons_succ, d0, d10] <;> rfl, h0, h1, h2, h3, h4, h5, h6, h7, h10, fun _ h => Bool.noConfusion h, fun _ h => Bool.noConfusion h, fun h => Bool.noConfusion h, fun h => Bool.noConfusion h, fun _ => Lib.hid (⟨u2, hT2, TrTo.first (hB hap).out.1 hG2⟩), hE9_8, hE8_3, hE8_6, fun _ => hE8_3 (hE9_8 (hall ⟨9, .data⟩ (by simp) rfl)), fun _ => hE8_6 (hE9_8 (hall ⟨9, .data⟩ (by simp) rfl)), fun _ => hE9_8 (hall ⟨9, .data⟩ (by simp) rfl), fun _ => hall ⟨9, .data⟩ (by simp) rfl, fun _ => hall ⟨10, .data⟩ (by simp) rfl⟩
    · omega
  · rintro b' vs w2 hall ⟨h0, h1, h2, h3, h4, h5, h6, h7, h10, y8, y9, hB, hF, hG, hE9_8, hE8_3, hE8_6, hW3, hW6, hW8, hW9, hW10⟩
    have d0 := h0 (hall 0 (by simp))
    have d1 := h1 (hall 1 (by simp))
    have d2 := h2 (hall 2 (by simp))
    have d3 := h3 (hall 3 (by simp))
    have d4 := h4 (hall 4 (by simp))
    have d5 := h5 (hall 5 (by simp))
    have d6 := h6 (hall 6 (by simp))
    have d7 := h7 (hall 7 (by simp))
    have d10 := h10 (hall 10 (by simp))
    have GG := hG (hall 11 (by simp))
    obtain ⟨u3, hT3, hG3⟩ := GG.out
    simp only [putAll, Act.put, List.setIfInBounds_toArray, List.set_cons_zero, List.set_cons_succ, d0, d1, d2, d3, d4, d5, d6, d7, d10]
    clear hall h0 d0 h1 d1 h2 d2 h3 d3 h4 d4 h5 d5 h6 d6 h7 d7 h10 d10 y8 y9 hB hF hG hE9_8 hE8_3 hE8_6 hW3 hW6 hW8 hW9 hW10
    have T3 : Hid (TraceAt w2 base g u3 (addT st (headOut p0 p1 h))) := hT3
    have G3 : Hid (TrTo g u C u3 w2) := hG3
    clear hT3 hG3 GG
    have K3 := Lib.hid (G3.out.keep.block b ⟨HOFF.out.1, HOFF.out.2⟩ FWC.out.lt)
    have BW : Hid (Below base C w2) := G3.out.below HT.out HS.out.1 HS.out.2
    have FWw2 : Hid (CapM w2 base g u3 (addT st (headOut p0 p1 h)) b (o + j * 2) (o + (j + 1) * 2) q0 q1) := ⟨T3.out, ⟨(World.cell?_of_block K3.out).trans HQ.out.1.1, (World.cell?_of_block K3.out).trans HQ.out.1.2⟩, ⟨(World.cell?_of_block K3.out).trans HQ.out.2.1, (World.cell?_of_block K3.out).trans HQ.out.2.2⟩, Nat.lt_of_lt_of_le FWC.out.lt G3.out.keep.size⟩
    have HBWw2 : Hid (base ≤ w2.heap.size) := Nat.le_trans HS.out.2 BW.out.size
    have HL9w2 : Hid ((addT st (headOut p0 p1 h)).2.length ≤ 1000) := by unfold Hid; have := HLEN.out; have := addT_len st (headOut p0 p1 h); omega
    generalize vs 8 = ra
    generalize vs 9 = rb
    generalize vs 11 = rc
    go_wp2_with fail
    refine wp_region_put (by kernel_rfl) (by kernel_rfl) (by kernel_rfl) (fun b' vs w' => (b' 0 = true → vs 0 = .pointer (some ⟨g, 0, none⟩)) ∧ (b' 1 = true → vs 1 = .slice (some ⟨b, o, none⟩) (j + 2) c) ∧ (b' 2 = true → vs 2 = .int .i64 ((j : Int) + 1)) ∧ (b' 3 = true → vs 3 = .int .i64 (j : Int)) ∧ (b' 4 = true → vs 4 = .pointer (some ⟨b, o + j * 2, none⟩)) ∧ (b' 5 = true → vs 5 = .agg #[.int .i64 q0.1, .int .i64 q0.2]) ∧ (b' 6 = true → vs 6 = .slice (some ⟨b, o, none⟩) (j + 2) c) ∧ (b' 7 = true → vs 7 = .int .i64 ((j : Int) + 1)) ∧ (b' 8 = true → vs 8 = .pointer (some ⟨b, o + (j + 1) * 2, none⟩)) ∧ (b' 9 = true → vs 9 = .agg #[.int .i64 q1.1, .int .i64 q1.2]) ∧ (b' 10 = true → vs 10 = .int .i64 h) ∧ (b' 13 = true → vs 13 = .int .i64 (tailOut q0 q1 h).1) ∧ (b' 11 = true → b' 14 = false → Hid (TupR w2.heap.size 23 (tailOut q0 q1 h).1 (tailOut q0 q1 h).2 (vs 11) w')) ∧ (b' 12 = true → b' 14 = false → Hid (Own w' w2.heap.size 23 (vs 12) ((tailOut q0 q1 h).2))) ∧ (b' 14 = false → Hid (Below w2.heap.size w2 w' ∧ w2.heap.size ≤ w'.heap.size)) ∧ (b' 14 = false → Hid (CapM w' base g u3 (addT st (headOut p0 p1 h)) b (o + j * 2) (o + (j + 1) * 2) q0 q1)) ∧ (b' 14 = true → Hid (∃ u2, TraceAt w' base g u2 (addT (addT st (headOut p0 p1 h)) (tailOut q0 q1 h)) ∧ TrTo g u3 w2 u2 w')) ∧ (b' 12 = true → b' 11 = true) ∧ (b' 11 = true → b' 5 = true) ∧ (b' 11 = true → b' 9 = true) ∧ (b' 14 = true → b' 5 = true) ∧ (b' 14 = true → b' 9 = true) ∧ (b' 14 = true → b' 11 = true) ∧ (b' 14 = true → b' 12 = true) ∧ (b' 14 = true → b' 13 = true)) ?_ ?_ ?_
    · intro vs
      exact ⟨fun h => Bool.noConfusion h, fun h => Bool.noConfusion h, fun h => Bool.noConfusion h, fun h => Bool.noConfusion h, fun h => Bool.noConfusion h, fun h => Bool.noConfusion h, fun h => Bool.noConfusion h, fun h => Bool.noConfusion h, fun h => Bool.noConfusion h, fun h => Bool.noConfusion h, fun h => Bool.noConfusion h, fun h => Bool.noConfusion h, fun h => Bool.noConfusion h, fun h => Bool.noConfusion h, fun _ => Lib.hid ⟨below_drewN (Below.refl _ _) 1, Nat.le_refl _⟩, fun _ => Lib.hid (FWw2.out.grow ⟨rfl, rfl, rfl, Nat.le_refl _, fun _ _ => rfl⟩), fun h => Bool.noConfusion h, fun h => Bool.noConfusion h, fun h => Bool.noConfusion h, fun h => Bool.noConfusion h, fun h => Bool.noConfusion h, fun h => Bool.noConfusion h, fun h => Bool.noConfusion h, fun h => Bool.noConfusion h, fun h => Bool.noConfusion h⟩
    · rintro b' vs w' i op hi hun hall ⟨h0, h1, h2, h3, h4, h5, h6, h7, h8, h9, h10, h13, y11, y12, hB, hF, hG, hE12_11, hE11_5, hE11_9, hW5, hW9, hW11, hW12, hW13⟩
      have hil : i < 15 := (List.getElem?_eq_some_iff.1 hi).1
      rcases i with _ | _ | _ | _ | _ | _ | _ | _ | _ | _ | _ | _ | _ | _ | _ | i
      · obtain rfl := Option.some.inj hi
        clear hi hil
        refine wpOp_step rfl (fun K hK => ?_)
        have HKK := Lib.hid hK; clear hK
        simp only [putAll, Act.put, List.setIfInBounds_toArray, List.set_cons_zero, List.set_cons_succ]
        go_simp
        exact HKK.out _ _ ⟨_, by simp only [putAll, Act.put, List.setIfInBounds_toArray, List.set_cons_zero, List.set_cons_succ] <;> rfl, fun _ => rfl, h1, h2, h3, h4, h5, h6, h7, h8, h9, h10, h13, y11, y12, hB, hF, hG, hE12_11, hE11_5, hE11_9, hW5, hW9, hW11, hW12, hW13⟩
      · obtain rfl := Option.some.inj hi
        clear hi hil
        refine wpOp_step rfl (fun K hK => ?_)
        have HKK := Lib.hid hK; clear hK
        simp only [putAll, Act.put, List.setIfInBounds_toArray, List.set_cons_zero, List.set_cons_succ]
        go_simp
        exact HKK.out _ _ ⟨_, by simp only [putAll, Act.put, List.setIfInBounds_toArray, List.set_cons_zero, List.set_cons_succ] <;> rfl, h0, fun _ => rfl, h2, h3, h4, h5, h6, h7, h8, h9, h10, h13, y11, y12, hB, hF, hG, hE12_11, hE11_5, hE11_9, hW5, hW9, hW11, hW12, hW13⟩
      · obtain rfl := Option.some.inj hi
        clear hi hil
        refine wpOp_step rfl (fun K hK => ?_)
        have HKK := Lib.hid hK; clear hK
        simp only [putAll, Act.put, List.setIfInBounds_toArray, List.set_cons_zero, List.set_cons_succ]
        go_simp
        exact HKK.out _ _ ⟨_, by simp only [putAll, Act.put, List.setIfInBounds_toArray, List.set_cons_zero, List.set_cons_succ] <;> rfl, h0, h1, fun _ => rfl, h3, h4, h5, h6, h7, h8, h9, h10, h13, y11, y12, hB, hF, hG, hE12_11, hE11_5, hE11_9, hW5, hW9, hW11, hW12, hW13⟩
      · obtain rfl := Option.some.inj hi
        clear hi hil
        have d2 := h2 (hall ⟨2, .data⟩ (by simp) rfl)
        have hw3 := HW3.out
        have hw4 : IntKind.i64.wrap ((j : Int) + 1 - 1) = (j : Int) := by rw [wrap_is]; exact hw3
        have hw5 := HW5.out
        have hw6 : IntKind.i64.wrap (j : Int) = (j : Int) := by rw [wrap_is]; exact hw5
        refine wpOp_step rfl (fun K hK => ?_)
        have HKK := Lib.hid hK; clear hK
        simp only [putAll, Act.put, List.setIfInBounds_toArray, List.set_cons_zero, List.set_cons_succ]
        go_simp
        exact HKK.out _ _ ⟨_, by simp only [putAll, Act.put, List.setIfInBounds_toArray, List.set_cons_zero, List.set_cons_succ, d2] <;> rfl, h0, h1, h2, fun _ => rfl, h4, h5, h6, h7, h8, h9, h10, h13, y11, y12, hB, hF, hG, hE12_11, hE11_5, hE11_9, hW5, hW9, hW11, hW12, hW13⟩
      · obtain rfl := Option.some.inj hi
        clear hi hil
        have d1 := h1 (hall ⟨1, .data⟩ (by simp) rfl)
        have d3 := h3 (hall ⟨3, .data⟩ (by simp) rfl)
        have hj1 : (j : Int) < (j : Int) + 2 := by omega
        have hj2 : j < j + 2 := by omega
        refine wpOp_step rfl (fun K hK => ?_)
        have HKK := Lib.hid hK; clear hK
        simp only [putAll, Act.put, List.setIfInBounds_toArray, List.set_cons_zero, List.set_cons_succ]
        go_simp
        exact HKK.out _ _ ⟨_, by simp only [putAll, Act.put, List.setIfInBounds_toArray, List.set_cons_zero, List.set_cons_succ, d1, d3] <;> rfl, h0, h1, h2, h3, fun _ => rfl, h5, h6, h7, h8, h9, h10, h13, y11, y12, hB, hF, hG, hE12_11, hE11_5, hE11_9, hW5, hW9, hW11, hW12, hW13⟩
      · obtain rfl := Option.some.inj hi
        clear hi hil
        have hap : b' 14 = false := by
          cases hz : b' 14 with
          | false => rfl
          | true => exact absurd (hW5 hz) (by rw [hun]; decide)
        have d4 := h4 (hall ⟨4, .data⟩ (by simp) rfl)
        have k := (hF hap).out.fst
        have x0 := k.1
        have x1 := k.2
        clear k
        refine wpOp_step rfl (fun K hK => ?_)
        have HKK := Lib.hid hK; clear hK
        simp only [putAll, Act.put, List.setIfInBounds_toArray, List.set_cons_zero, List.set_cons_succ]
        go_simp
        exact HKK.out _ _ ⟨_, by simp only [putAll, Act.put, List.setIfInBounds_toArray, List.set_cons_zero, List.set_cons_succ, d4] <;> rfl, h0, h1, h2, h3, h4, fun _ => rfl, h6, h7, h8, h9, h10, h13, y11, y12, hB, hF, hG, hE12_11, fun _ => rfl, hE11_9, fun _ => rfl, hW9, hW11, hW12, hW13⟩
      · obtain rfl := Option.some.inj hi
        clear hi hil
        refine wpOp_step rfl (fun K hK => ?_)
        have HKK := Lib.hid hK; clear hK
        simp only [putAll, Act.put, List.setIfInBounds_toArray, List.set_cons_zero, List.set_cons_succ]
        go_simp
        exact HKK.out _ _ ⟨_, by simp only [putAll, Act.put, List.setIfInBounds_toArray, List.set_cons_zero, List.set_cons_succ] <;> rfl, h0, h1, h2, h3, h4, h5, fun _ => rfl, h7, h8, h9, h10, h13, y11, y12, hB, hF, hG, hE12_11, hE11_5, hE11_9, hW5, hW9, hW11, hW12, hW13⟩
      · obtain rfl := Option.some.inj hi
        clear hi hil
        refine wpOp_step rfl (fun K hK => ?_)
        have HKK := Lib.hid hK; clear hK
        simp only [putAll, Act.put, List.setIfInBounds_toArray, List.set_cons_zero, List.set_cons_succ]
        go_simp
        exact HKK.out _ _ ⟨_, by simp only [putAll, Act.put, List.setIfInBounds_toArray, List.set_cons_zero, List.set_cons_succ] <;> rfl, h0, h1, h2, h3, h4, h5, h6, fun _ => rfl, h8, h9, h10, h13, y11, y12, hB, hF, hG, hE12_11, hE11_5, hE11_9, hW5, hW9, hW11, hW12, hW13⟩
      · obtain rfl := Option.some.inj hi
        clear hi hil
        have d6 := h6 (hall ⟨6, .data⟩ (by simp) rfl)
        have d7 := h7 (hall ⟨7, .data⟩ (by simp) rfl)
        have hj1 : (j : Int) + 1 < (j : Int) + 2 := by omega
        have hj2 : j + 1 < j + 2 := by omega
        refine wpOp_step rfl (fun K hK => ?_)
        have HKK := Lib.hid hK; clear hK
        simp only [putAll, Act.put, List.setIfInBounds_toArray, List.set_cons_zero, List.set_cons_succ]
        go_simp
        exact HKK.out _ _ ⟨_, by simp only [putAll, Act.put, List.setIfInBounds_toArray, List.set_cons_zero, List.set_cons_succ, d6, d7] <;> rfl, h0, h1, h2, h3, h4, h5, h6, h7, fun _ => rfl, h9, h10, h13, y11, y12, hB, hF, hG, hE12_11, hE11_5, hE11_9, hW5, hW9, hW11, hW12, hW13⟩
      · obtain rfl := Option.some.inj hi
        clear hi hil
        have hap : b' 14 = false := by
          cases hz : b' 14 with
          | false => rfl
          | true => exact absurd (hW9 hz) (by rw [hun]; decide)
        have d8 := h8 (hall ⟨8, .data⟩ (by simp) rfl)
        have k := (hF hap).out.snd
        have x0 := k.1
        have x1 := k.2
        clear k
        refine wpOp_step rfl (fun K hK => ?_)
        have HKK := Lib.hid hK; clear hK
        simp only [putAll, Act.put, List.setIfInBounds_toArray, List.set_cons_zero, List.set_cons_succ]
        go_simp
        exact HKK.out _ _ ⟨_, by simp only [putAll, Act.put, List.setIfInBounds_toArray, List.set_cons_zero, List.set_cons_succ, d8] <;> rfl, h0, h1, h2, h3, h4, h5, h6, h7, h8, fun _ => rfl, h10, h13, y11, y12, hB, hF, hG, hE12_11, hE11_5, fun _ => rfl, hW5, fun _ => rfl, hW11, hW12, hW13⟩
      · obtain rfl := Option.some.inj hi
        clear hi hil
        refine wpOp_step rfl (fun K hK => ?_)
        have HKK := Lib.hid hK; clear hK
        simp only [putAll, Act.put, List.setIfInBounds_toArray, List.set_cons_zero, List.set_cons_succ]
        go_simp
        exact HKK.out _ _ ⟨_, by simp only [putAll, Act.put, List.setIfInBounds_toArray, List.set_cons_zero, List.set_cons_succ] <;> rfl, h0, h1, h2, h3, h4, h5, h6, h7, h8, h9, fun _ => rfl, h13, y11, y12, hB, hF, hG, hE12_11, hE11_5, hE11_9, hW5, hW9, hW11, hW12, hW13⟩
      · obtain rfl := Option.some.inj hi
        clear hi hil
        have hap : b' 14 = false := by
          cases hz : b' 14 with
          | false => rfl
          | true => exact absurd (hW11 hz) (by rw [hun]; decide)
        have d5 := h5 (hall ⟨5, .data⟩ (by simp) rfl)
        have d9 := h9 (hall ⟨9, .data⟩ (by simp) rfl)
        have d10 := h10 (hall ⟨10, .data⟩ (by simp) rfl)
        refine wpOp_step rfl (fun K hK => ?_)
        have HKK := Lib.hid hK; clear hK
        simp only [putAll, Act.put, List.setIfInBounds_toArray, List.set_cons_zero, List.set_cons_succ]
        go_simp
        refine (HCALLw2.out w').mono ?_
        rintro e w2 ⟨v2, rfl, ho2, hb2⟩
        exact HKK.out _ _ ⟨_, by simp only [putAll, Act.put, List.setIfInBounds_toArray, List.set_cons_zero, List.set_cons_succ, d5, d9, d10] <;> rfl, h0, h1, h2, h3, h4, h5, h6, h7, h8, h9, h10, h13, fun _ _ => Lib.hid (⟨v2, rfl, ho2.base (hB hap).out.2⟩), fun h ha => Lib.hid (Own.grow (y12 h ha).out hb2), fun ha => Lib.hid ⟨(hB ha).out.1.trans (hb2.mono (hB ha).out.2), Nat.le_trans (hB ha).out.2 hb2.size⟩, fun ha => Lib.hid ((hF ha).out.grow hb2), fun h => absurd (show b' 14 = true from h) (by rw [hap]; decide), fun _ => rfl, fun _ => hall ⟨5, .data⟩ (by simp) rfl, fun _ => hall ⟨9, .data⟩ (by simp) rfl, hW5, hW9, fun _ => rfl, hW12, hW13⟩
      · obtain rfl := Option.some.inj hi
        clear hi hil
        have hap : b' 14 = false := by
          cases hz : b' 14 with
          | false => rfl
          | true => exact absurd (hW12 hz) (by rw [hun]; decide)
        have o11 := y11 (hall ⟨11, .data⟩ (by simp) rfl) hap
        obtain ⟨r, er, hor⟩ := o11.out
        refine wpOp_step rfl (fun K hK => ?_)
        have HKK := Lib.hid hK; clear hK
        simp only [putAll, Act.put, List.setIfInBounds_toArray, List.set_cons_zero, List.set_cons_succ]
        go_simp
        exact HKK.out _ _ ⟨_, by simp only [putAll, Act.put, List.setIfInBounds_toArray, List.set_cons_zero, List.set_cons_succ, er] <;> rfl, h0, h1, h2, h3, h4, h5, h6, h7, h8, h9, h10, h13, y11, fun _ _ => Lib.hid (hor), hB, hF, hG, fun _ => hall ⟨11, .data⟩ (by simp) rfl, hE11_5, hE11_9, hW5, hW9, hW11, fun _ => rfl, hW13⟩
      · obtain rfl := Option.some.inj hi
        clear hi hil
        have hap : b' 14 = false := by
          cases hz : b' 14 with
          | false => rfl
          | true => exact absurd (hW13 hz) (by rw [hun]; decide)
        have o11 := y11 (hall ⟨11, .data⟩ (by simp) rfl) hap
        obtain ⟨r, er, hor⟩ := o11.out
        clear hor
        refine wpOp_step rfl (fun K hK => ?_)
        have HKK := Lib.hid hK; clear hK
        simp only [putAll, Act.put, List.setIfInBounds_toArray, List.set_cons_zero, List.set_cons_succ]
        go_simp
        exact HKK.out _ _ ⟨_, by simp only [putAll, Act.put, List.setIfInBounds_toArray, List.set_cons_zero, List.set_cons_succ, er] <;> rfl, h0, h1, h2, h3, h4, h5, h6, h7, h8, h9, h10, fun _ => rfl, y11, y12, hB, hF, hG, hE12_11, hE11_5, hE11_9, hW5, hW9, hW11, hW12, fun _ => rfl⟩
      · obtain rfl := Option.some.inj hi
        clear hi hil
        have hap : b' 14 = false := hun
        have d0 := h0 (hall ⟨0, .data⟩ (by simp) rfl)
        have o12 := y12 (hall ⟨12, .data⟩ (by simp) rfl) hap
        have d13 := h13 (hall ⟨13, .data⟩ (by simp) rfl)
        refine wpOp_step rfl (fun K hK => ?_)
        have HKK := Lib.hid hK; clear hK
        simp only [putAll, Act.put, List.setIfInBounds_toArray, List.set_cons_zero, List.set_cons_succ]
        go_simp
        refine (tadd_c g base u3 _ _ _ (addT st (headOut p0 p1 h)) w' (hF hap).out.tr (o12.out.base HBWw2.out) (Nat.le_trans HBWw2.out (hB hap).out.2) HL9w2.out).mono ?_
        rintro e w2 ⟨rfl, u2, hT2, hG2⟩
        exact HKK.out _ _ ⟨_, by simp only [putAll, Act.put, List.setIfInBounds_toArray, List.set_cons_zero, List.set_cons_succ, d0, d13] <;> rfl, h0, h1, h2, h3, h4, h5, h6, h7, h8, h9, h10, h13, fun _ h => Bool.noConfusion h, fun _ h => Bool.noConfusion h, fun h => Bool.noConfusion h, fun h => Bool.noConfusion h, fun _ => Lib.hid (⟨u2, hT2, TrTo.first (hB hap).out.1 hG2⟩), hE12_11, hE11_5, hE11_9, fun _ => hE11_5 (hE12_11 (hall ⟨12, .data⟩ (by simp) rfl)), fun _ => hE11_9 (hE12_11 (hall ⟨12, .data⟩ (by simp) rfl)), fun _ => hE12_11 (hall ⟨12, .data⟩ (by simp) rfl), fun _ => hall ⟨12, .data⟩ (by simp) rfl, fun _ => hall ⟨13, .data⟩ (by simp) rfl⟩
      · omega
    · rintro b' vs w2 hall ⟨h0, h1, h2, h3, h4, h5, h6, h7, h8, h9, h10, h13, y11, y12, hB, hF, hG, hE12_11, hE11_5, hE11_9, hW5, hW9, hW11, hW12, hW13⟩
      have d0 := h0 (hall 0 (by simp))
      have d1 := h1 (hall 1 (by simp))
      have d2 := h2 (hall 2 (by simp))
      have d3 := h3 (hall 3 (by simp))
      have d4 := h4 (hall 4 (by simp))
      have d5 := h5 (hall 5 (by simp))
      have d6 := h6 (hall 6 (by simp))
      have d7 := h7 (hall 7 (by simp))
      have d8 := h8 (hall 8 (by simp))
      have d9 := h9 (hall 9 (by simp))
      have d10 := h10 (hall 10 (by simp))
      have d13 := h13 (hall 13 (by simp))
      have GG := hG (hall 14 (by simp))
      obtain ⟨u5, hT5, hG5⟩ := GG.out
      simp only [putAll, Act.put, List.setIfInBounds_toArray, List.set_cons_zero, List.set_cons_succ, d0, d1, d2, d3, d4, d5, d6, d7, d8, d9, d10, d13]
      clear hall h0 d0 h1 d1 h2 d2 h3 d3 h4 d4 h5 d5 h6 d6 h7 d7 h8 d8 h9 d9 h10 d10 h13 d13 y11 y12 hB hF hG hE12_11 hE11_5 hE11_9 hW5 hW9 hW11 hW12 hW13
      go_wp2_with fail
      go_end0
      exact ⟨rfl, u5, hT5, G3.out.trans hG5⟩
set_option maxHeartbeats 1000000 in
set_option maxRecDepth 100000 in
theorem dot_0 (g base : Nat) (u : Value) (c : Pt) (h : Int) (st : Tr) (C : World) (hT : TraceAt C base g u st) :
    Calls Tryd.prog 37 #[.pointer (some ⟨g, 0, none⟩), .agg #[.int .i64 c.1, .int .i64 c.2], .int .i64 h, .int .i64 0] C (TrPost g base u C st) := by
  have HT := Lib.hid hT
  clear hT
  go_enter Tryd.func37, Tryd.ntmps37
  go_wp2_with fail
  go_end0
  exact ⟨rfl, u, HT.out.grow ((Below.refl _ _).alloc (Nat.le_refl _) _), (TrTo.refl _ _ _).grow ((Below.refl _ _).alloc (Nat.le_refl _) _)⟩
set_option maxHeartbeats 1000000 in
set_option maxRecDepth 100000 in
theorem dot_1 (g base : Nat) (u : Value) (c : Pt) (h : Int) (st : Tr) (C : World) (hT : TraceAt C base g u st) (hr : Rd C) (hb : base ≤ C.heap.size) (hlen : st.2.length ≤ 900) :
    Calls Tryd.prog 37 #[.pointer (some ⟨g, 0, none⟩), .agg #[.int .i64 c.1, .int .i64 c.2], .int .i64 h, .int .i64 1] C (TrPost g base u C (addT st (discOut c h))) := by
  have HT := Lib.hid hT
  have HS := Lib.hid hb
  have HLEN := Lib.hid hlen
  have HA : Hid (Below C.heap.size C (C.alloc (.cells #[.int .i64 c.1, .int .i64 c.2] 23))) := (Below.refl _ _).alloc (Nat.le_refl _) _
  have HD := Lib.hid (disc_c c h _ (hr.on HA.out))
  clear hT hb hlen hr
  go_enter Tryd.func37, Tryd.ntmps37
  go_wp2_with fail
  refine HD.out.mono ?_
  rintro e w2 ⟨v2, rfl, ho2, hb2⟩
  have B2 : Hid (Below C.heap.size C w2) := below_next HA.out hb2
  have HADD := Lib.hid (tadd_c g base u v2 (discOut c h).2 (discOut c h).1 st w2 (HT.out.grow B2.out) (ho2.base (Nat.le_trans HS.out HA.out.size)) (Nat.le_trans HS.out B2.out.size) (by have := HLEN.out; omega))
  clear ho2 hb2
  go_wp2_with fail
  refine HADD.out.mono ?_
  rintro e w3 ⟨rfl, u3, hT3, hG3⟩
  have T3 := Lib.hid hT3
  have G3 := Lib.hid hG3
  clear hT3 hG3
  go_wp2_with fail
  go_end0
  exact ⟨rfl, u3, T3.out, TrTo.first B2.out G3.out⟩
set_option maxHeartbeats 4000000 in
set_option maxRecDepth 100000 in
theorem dot_2 (g base : Nat) (u : Value) (c : Pt) (h : Int) (st : Tr) (C : World) (hT : TraceAt C base g u st) (hb : base ≤ C.heap.size) (hlen : st.2.length ≤ 900)
    (HLE : Hid (∀ w, Calls Tryd.prog 64 #[.agg #[.int .i64 c.1, .int .i64 c.2], .agg #[.int .i64 h, .int .i64 0]] w fun e w' => e = .returned (.agg #[.int .i64 (subP c (h, 0)).1, .int .i64 (subP c (h, 0)).2]) ∧ Below w.heap.size w w'))
    (HPL : Hid (∀ w, Calls Tryd.prog 27 #[.agg #[.int .i64 c.1, .int .i64 c.2], .agg #[.int .i64 h, .int .i64 0]] w fun e w' => e = .returned (.agg #[.int .i64 (addP c (h, 0)).1, .int .i64 (addP c (h, 0)).2]) ∧ Below w.heap.size w w'))
    (HSL : Hid (∀ w, Calls Tryd.prog 56 #[.agg #[.int .i64 (subP c (h, 0)).1, .int .i64 (subP c (h, 0)).2], .agg #[.int .i64 (addP c (h, 0)).1, .int .i64 (addP c (h, 0)).2], .agg #[.int .i64 0, .int .i64 h]] w (ToldP w (roomOut (dotI c h))))) :
    Calls Tryd.prog 37 #[.pointer (some ⟨g, 0, none⟩), .agg #[.int .i64 c.1, .int .i64 c.2], .int .i64 h, .int .i64 2] C (TrPost g base u C (addT st (roomOut (dotI c h)))) := by
  have HT := Lib.hid hT
  have HS := Lib.hid hb
  have HLEN := Lib.hid hlen
  have HL9 : Hid (st.2.length ≤ 1000) := by unfold Hid; omega
  clear hT hb hlen
  go_enter Tryd.func37, Tryd.ntmps37
  go_wp2_with fail
  obtain ⟨g5, hg5⟩ : ∃ g, C.heap.size = g := ⟨_, rfl⟩
  obtain ⟨g8, hg8⟩ : ∃ g, C.heap.size + 1 = g := ⟨_, rfl⟩
  obtain ⟨W, hW⟩ : ∃ W, (C.alloc (.cells #[.int .i64 c.1, .int .i64 c.2] 23)).alloc (.cells #[.int .i64 h, .int .i64 0] 23) = W := ⟨_, rfl⟩
  have HBC : Hid (Below C.heap.size C W) := by rw [← hW]; exact ((Below.refl _ _).alloc (Nat.le_refl _) _).alloc (by simp) _
  have FW : Hid (TraceAt W base g u st ∧ Blk W g5 23 (two c) ∧ Blk W g8 23 (two (h, 0))) := ⟨HT.out.grow HBC.out, by rw [← hW]; exact (Blk.newAt _ _ _ hg5).alloc _, by rw [← hW]; exact Blk.newAt _ _ _ (by simp [hg8])⟩
  have HBW : Hid (base ≤ W.heap.size) := Nat.le_trans HS.out HBC.out.size
  rw [hW]
  simp only [hg8]
  rw [hg5]
  clear hW hg5 hg8
  refine wp_region_put (by kernel_rfl) (by kernel_rfl) (by kernel_rfl) (fun b' vs w' => (b' 0 = true → vs 0 = .pointer (some ⟨g, 0, none⟩)) ∧ (b' 1 = true → vs 1 = .agg #[.int .i64 c.1, .int .i64 c.2]) ∧ (b' 2 = true → vs 2 = .agg #[.int .i64 h, .int .i64 0]) ∧ (b' 3 = true → vs 3 = .agg #[.int .i64 (subP c (h, 0)).1, .int .i64 (subP c (h, 0)).2]) ∧ (b' 4 = true → vs 4 = .agg #[.int .i64 c.1, .int .i64 c.2]) ∧ (b' 5 = true → vs 5 = .agg #[.int .i64 h, .int .i64 0]) ∧ (b' 6 = true → vs 6 = .agg #[.int .i64 (addP c (h, 0)).1, .int .i64 (addP c (h, 0)).2]) ∧ (b' 7 = true → vs 7 = .int .i64 h) ∧ (b' 8 = true → vs 8 = .agg #[.int .i64 0, .int .i64 h]) ∧ (b' 11 = true → vs 11 = .int .i64 (roomOut (dotI c h)).1) ∧ (b' 9 = true → b' 12 = false → Hid (TupR W.heap.size 23 (roomOut (dotI c h)).1 (roomOut (dotI c h)).2 (vs 9) w')) ∧ (b' 10 = true → b' 12 = false → Hid (Own w' W.heap.size 23 (vs 10) ((roomOut (dotI c h)).2))) ∧ (b' 12 = false → Hid (Below W.heap.size W w' ∧ W.heap.size ≤ w'.heap.size)) ∧ (b' 12 = false → Hid (TraceAt w' base g u st ∧ Blk w' g5 23 (two c) ∧ Blk w' g8 23 (two (h, 0)))) ∧ (b' 12 = true → Hid (∃ u2, TraceAt w' base g u2 (addT st (roomOut (dotI c h))) ∧ TrTo g u W u2 w')) ∧ (b' 10 = true → b' 9 = true) ∧ (b' 9 = true → b' 3 = true) ∧ (b' 3 = true → b' 1 = true) ∧ (b' 3 = true → b' 2 = true) ∧ (b' 9 = true → b' 6 = true) ∧ (b' 6 = true → b' 4 = true) ∧ (b' 6 = true → b' 5 = true) ∧ (b' 12 = true → b' 1 = true) ∧ (b' 12 = true → b' 2 = true) ∧ (b' 12 = true → b' 3 = true) ∧ (b' 12 = true → b' 4 = true) ∧ (b' 12 = true → b' 5 = true) ∧ (b' 12 = true → b' 6 = true) ∧ (b' 12 = true → b' 9 = true) ∧ (b' 12 = true → b' 10 = true) ∧ (b' 12 = true → b' 11 = true)) ?_ ?_ ?_
  · intro vs
    exact ⟨fun h => Bool.noConfusion h, fun h => Bool.noConfusion h, fun h => Bool.noConfusion h, fun h => Bool.noConfusion h, fun h => Bool.noConfusion h, fun h => Bool.noConfusion h, fun h => Bool.noConfusion h, fun h => Bool.noConfusion h, fun h => Bool.noConfusion h, fun h => Bool.noConfusion h, fun h => Bool.noConfusion h, fun h => Bool.noConfusion h, fun _ => Lib.hid ⟨below_drewN (Below.refl _ _) 1, Nat.le_refl _⟩, fun _ => Lib.hid ⟨FW.out.1.grow ⟨rfl, rfl, rfl, Nat.le_refl _, fun _ _ => rfl⟩, FW.out.2.1.grow ⟨rfl, rfl, rfl, Nat.le_refl _, fun _ _ => rfl⟩, FW.out.2.2.grow ⟨rfl, rfl, rfl, Nat.le_refl _, fun _ _ => rfl⟩⟩, fun h => Bool.noConfusion h, fun h => Bool.noConfusion h, fun h => Bool.noConfusion h, fun h => Bool.noConfusion h, fun h => Bool.noConfusion h, fun h => Bool.noConfusion h, fun h => Bool.noConfusion h, fun h => Bool.noConfusion h, fun h => Bool.noConfusion h, fun h => Bool.noConfusion h, fun h => Bool.noConfusion h, fun h => Bool.noConfusion h, fun h => Bool.noConfusion h, fun h => Bool.noConfusion h, fun h => Bool.noConfusion h, fun h => Bool.noConfusion h, fun h => Bool.noConfusion h⟩
  · rintro b' vs w' i op hi hun hall ⟨h0, h1, h2, h3, h4, h5, h6, h7, h8, h11, y9, y10, hB, hF, hG, hE10_9, hE9_3, hE3_1, hE3_2, hE9_6, hE6_4, hE6_5, hW1, hW2, hW3, hW4, hW5, hW6, hW9, hW10, hW11⟩
    have hil : i < 13 := (List.getElem?_eq_some_iff.1 hi).1
    rcases i with _ | _ | _ | _ | _ | _ | _ | _ | _ | _ | _ | _ | _ | i
    · obtain rfl := Option.some.inj hi
      clear hi hil
      refine wpOp_step rfl (fun K hK => ?_)
      have HKK := Lib.hid hK; clear hK
      simp only [putAll, Act.put, List.setIfInBounds_toArray, List.set_cons_zero, List.set_cons_succ]
      go_simp
      exact HKK.out _ _ ⟨_, by simp only [putAll, Act.put, List.setIfInBounds_toArray, List.set_cons_zero, List.set_cons_succ] <;> rfl, fun _ => rfl, h1, h2, h3, h4, h5, h6, h7, h8, h11, y9, y10, hB, hF, hG, hE10_9, hE9_3, hE3_1, hE3_2, hE9_6, hE6_4, hE6_5, hW1, hW2, hW3, hW4, hW5, hW6, hW9, hW10, hW11⟩
    · obtain rfl := Option.some.inj hi
      clear hi hil
      have hap : b' 12 = false := by
        cases hz : b' 12 with
        | false => rfl
        | true => exact absurd (hW1 hz) (by rw [hun]; decide)
      have k := (hF hap).out.2.1
      have x0 := k.p0
      have x1 := k.p1
      clear k
      refine wpOp_step rfl (fun K hK => ?_)
      have HKK := Lib.hid hK; clear hK
      simp only [putAll, Act.put, List.setIfInBounds_toArray, List.set_cons_zero, List.set_cons_succ]
      go_simp
      exact HKK.out _ _ ⟨_, by simp only [putAll, Act.put, List.setIfInBounds_toArray, List.set_cons_zero, List.set_cons_succ] <;> rfl, h0, fun _ => rfl, h2, h3, h4, h5, h6, h7, h8, h11, y9, y10, hB, hF, hG, hE10_9, hE9_3, fun _ => rfl, hE3_2, hE9_6, hE6_4, hE6_5, fun _ => rfl, hW2, hW3, hW4, hW5, hW6, hW9, hW10, hW11⟩
    · obtain rfl := Option.some.inj hi
      clear hi hil
      have hap : b' 12 = false := by
        cases hz : b' 12 with
        | false => rfl
        | true => exact absurd (hW2 hz) (by rw [hun]; decide)
      have k := (hF hap).out.2.2
      have x0 := k.p0
      have x1 := k.p1
      clear k
      refine wpOp_step rfl (fun K hK => ?_)
      have HKK := Lib.hid hK; clear hK
      simp only [putAll, Act.put, List.setIfInBounds_toArray, List.set_cons_zero, List.set_cons_succ]
      go_simp
      exact HKK.out _ _ ⟨_, by simp only [putAll, Act.put, List.setIfInBounds_toArray, List.set_cons_zero, List.set_cons_succ] <;> rfl, h0, h1, fun _ => rfl, h3, h4, h5, h6, h7, h8, h11, y9, y10, hB, hF, hG, hE10_9, hE9_3, hE3_1, fun _ => rfl, hE9_6, hE6_4, hE6_5, hW1, fun _ => rfl, hW3, hW4, hW5, hW6, hW9, hW10, hW11⟩
    · obtain rfl := Option.some.inj hi
      clear hi hil
      have hap : b' 12 = false := by
        cases hz : b' 12 with
        | false => rfl
        | true => exact absurd (hW3 hz) (by rw [hun]; decide)
      have d1 := h1 (hall ⟨1, .data⟩ (by simp) rfl)
      have d2 := h2 (hall ⟨2, .data⟩ (by simp) rfl)
      refine wpOp_step rfl (fun K hK => ?_)
      have HKK := Lib.hid hK; clear hK
      simp only [putAll, Act.put, List.setIfInBounds_toArray, List.set_cons_zero, List.set_cons_succ]
      go_simp
      refine (HLE.out _).mono ?_
      rintro e w2 ⟨rfl, hb2⟩
      exact HKK.out _ _ ⟨_, by simp only [putAll, Act.put, List.setIfInBounds_toArray, List.set_cons_zero, List.set_cons_succ, d1, d2] <;> rfl, h0, h1, h2, fun _ => rfl, h4, h5, h6, h7, h8, h11, fun h ha => Lib.hid (TupR.grow (y9 h ha).out hb2), fun h ha => Lib.hid (Own.grow (y10 h ha).out hb2), fun ha => Lib.hid ⟨(hB ha).out.1.trans (hb2.mono (hB ha).out.2), Nat.le_trans (hB ha).out.2 hb2.size⟩, fun ha => Lib.hid (⟨(hF ha).out.1.grow hb2, (hF ha).out.2.1.grow hb2, (hF ha).out.2.2.grow hb2⟩), fun h => absurd (show b' 12 = true from h) (by rw [hap]; decide), hE10_9, fun _ => rfl, fun _ => hall ⟨1, .data⟩ (by simp) rfl, fun _ => hall ⟨2, .data⟩ (by simp) rfl, hE9_6, hE6_4, hE6_5, hW1, hW2, fun _ => rfl, hW4, hW5, hW6, hW9, hW10, hW11⟩
    · obtain rfl := Option.some.inj hi
      clear hi hil
      have hap : b' 12 = false := by
        cases hz : b' 12 with
        | false => rfl
        | true => exact absurd (hW4 hz) (by rw [hun]; decide)
      have k := (hF hap).out.2.1
      have x0 := k.p0
      have x1 := k.p1
      clear k
      refine wpOp_step rfl (fun K hK => ?_)
      have HKK := Lib.hid hK; clear hK
      simp only [putAll, Act.put, List.setIfInBounds_toArray, List.set_cons_zero, List.set_cons_succ]
      go_simp
      exact HKK.out _ _ ⟨_, by simp only [putAll, Act.put, List.setIfInBounds_toArray, List.set_cons_zero, List.set_cons_succ] <;> rfl, h0, h1, h2, h3, fun _ => rfl, h5, h6, h7, h8, h11, y9, y10, hB, hF, hG, hE10_9, hE9_3, hE3_1, hE3_2, hE9_6, fun _ => rfl, hE6_5, hW1, hW2, hW3, fun _ => rfl, hW5, hW6, hW9, hW10, hW11⟩
    · obtain rfl := Option.some.inj hi
      clear hi hil
      have hap : b' 12 = false := by
        cases hz : b' 12 with
        | false => rfl
        | true => exact absurd (hW5 hz) (by rw [hun]; decide)
      have k := (hF hap).out.2.2
      have x0 := k.p0
      have x1 := k.p1
      clear k
      refine wpOp_step rfl (fun K hK => ?_)
      have HKK := Lib.hid hK; clear hK
      simp only [putAll, Act.put, List.setIfInBounds_toArray, List.set_cons_zero, List.set_cons_succ]
      go_simp
      exact HKK.out _ _ ⟨_, by simp only [putAll, Act.put, List.setIfInBounds_toArray, List.set_cons_zero, List.set_cons_succ] <;> rfl, h0, h1, h2, h3, h4, fun _ => rfl, h6, h7, h8, h11, y9, y10, hB, hF, hG, hE10_9, hE9_3, hE3_1, hE3_2, hE9_6, hE6_4, fun _ => rfl, hW1, hW2, hW3, hW4, fun _ => rfl, hW6, hW9, hW10, hW11⟩
    · obtain rfl := Option.some.inj hi
      clear hi hil
      have hap : b' 12 = false := by
        cases hz : b' 12 with
        | false => rfl
        | true => exact absurd (hW6 hz) (by rw [hun]; decide)
      have d4 := h4 (hall ⟨4, .data⟩ (by simp) rfl)
      have d5 := h5 (hall ⟨5, .data⟩ (by simp) rfl)
      refine wpOp_step rfl (fun K hK => ?_)
      have HKK := Lib.hid hK; clear hK
      simp only [putAll, Act.put, List.setIfInBounds_toArray, List.set_cons_zero, List.set_cons_succ]
      go_simp
      refine (HPL.out _).mono ?_
      rintro e w2 ⟨rfl, hb2⟩
      exact HKK.out _ _ ⟨_, by simp only [putAll, Act.put, List.setIfInBounds_toArray, List.set_cons_zero, List.set_cons_succ, d4, d5] <;> rfl, h0, h1, h2, h3, h4, h5, fun _ => rfl, h7, h8, h11, fun h ha => Lib.hid (TupR.grow (y9 h ha).out hb2), fun h ha => Lib.hid (Own.grow (y10 h ha).out hb2), fun ha => Lib.hid ⟨(hB ha).out.1.trans (hb2.mono (hB ha).out.2), Nat.le_trans (hB ha).out.2 hb2.size⟩, fun ha => Lib.hid (⟨(hF ha).out.1.grow hb2, (hF ha).out.2.1.grow hb2, (hF ha).out.2.2.grow hb2⟩), fun h => absurd (show b' 12 = true from h) (by rw [hap]; decide), hE10_9, hE9_3, hE3_1, hE3_2, fun _ => rfl, fun _ => hall ⟨4, .data⟩ (by simp) rfl, fun _ => hall ⟨5, .data⟩ (by simp) rfl, hW1, hW2, hW3, hW4, hW5, fun _ => rfl, hW9, hW10, hW11⟩
    · obtain rfl := Option.some.inj hi
      clear hi hil
      refine wpOp_step rfl (fun K hK => ?_)
      have HKK := Lib.hid hK; clear hK
      simp only [putAll, Act.put, List.setIfInBounds_toArray, List.set_cons_zero, List.set_cons_succ]
      go_simp
      exact HKK.out _ _ ⟨_, by simp only [putAll, Act.put, List.setIfInBounds_toArray, List.set_cons_zero, List.set_cons_succ] <;> rfl, h0, h1, h2, h3, h4, h5, h6, fun _ => rfl, h8, h11, y9, y10, hB, hF, hG, hE10_9, hE9_3, hE3_1, hE3_2, hE9_6, hE6_4, hE6_5, hW1, hW2, hW3, hW4, hW5, hW6, hW9, hW10, hW11⟩
    · obtain rfl := Option.some.inj hi
      clear hi hil
      have d7 := h7 (hall ⟨7, .data⟩ (by simp) rfl)
      refine wpOp_step rfl (fun K hK => ?_)
      have HKK := Lib.hid hK; clear hK
      simp only [putAll, Act.put, List.setIfInBounds_toArray, List.set_cons_zero, List.set_cons_succ]
      go_simp
      exact HKK.out _ _ ⟨_, by simp only [putAll, Act.put, List.setIfInBounds_toArray, List.set_cons_zero, List.set_cons_succ, d7] <;> rfl, h0, h1, h2, h3, h4, h5, h6, h7, fun _ => rfl, h11, y9, y10, hB, hF, hG, hE10_9, hE9_3, hE3_1, hE3_2, hE9_6, hE6_4, hE6_5, hW1, hW2, hW3, hW4, hW5, hW6, hW9, hW10, hW11⟩
    · obtain rfl := Option.some.inj hi
      clear hi hil
      have hap : b' 12 = false := by
        cases hz : b' 12 with
        | false => rfl
        | true => exact absurd (hW9 hz) (by rw [hun]; decide)
      have d3 := h3 (hall ⟨3, .data⟩ (by simp) rfl)
      have d6 := h6 (hall ⟨6, .data⟩ (by simp) rfl)
      have d8 := h8 (hall ⟨8, .data⟩ (by simp) rfl)
      refine wpOp_step rfl (fun K hK => ?_)
      have HKK := Lib.hid hK; clear hK
      simp only [putAll, Act.put, List.setIfInBounds_toArray, List.set_cons_zero, List.set_cons_succ]
      go_simp
      refine (HSL.out w').mono ?_
      rintro e w2 ⟨v2, rfl, ho2, hb2⟩
      exact HKK.out _ _ ⟨_, by simp only [putAll, Act.put, List.setIfInBounds_toArray, List.set_cons_zero, List.set_cons_succ, d3, d6, d8] <;> rfl, h0, h1, h2, h3, h4, h5, h6, h7, h8, h11, fun _ _ => Lib.hid (⟨v2, rfl, ho2.base (hB hap).out.2⟩), fun h ha => Lib.hid (Own.grow (y10 h ha).out hb2), fun ha => Lib.hid ⟨(hB ha).out.1.trans (hb2.mono (hB ha).out.2), Nat.le_trans (hB ha).out.2 hb2.size⟩, fun ha => Lib.hid (⟨(hF ha).out.1.grow hb2, (hF ha).out.2.1.grow hb2, (hF ha).out.2.2.grow hb2⟩), fun h => absurd (show b' 12 = true from h) (by rw [hap]; decide), fun _ => rfl, fun _ => hall ⟨3, .data⟩ (by simp) rfl, hE3_1, hE3_2, fun _ => hall ⟨6, .data⟩ (by simp) rfl, hE6_4, hE6_5, hW1, hW2, hW3, hW4, hW5, hW6, fun _ => rfl, hW10, hW11⟩
    · obtain rfl := Option.some.inj hi
      clear hi hil
      have hap : b' 12 = false := by
        cases hz : b' 12 with
        | false => rfl
        | true => exact absurd (hW10 hz) (by rw [hun]; decide)
      have o9 := y9 (hall ⟨9, .data⟩ (by simp) rfl) hap
      obtain ⟨r, er, hor⟩ := o9.out
      refine wpOp_step rfl (fun K hK => ?_)
      have HKK := Lib.hid hK; clear hK
      simp only [putAll, Act.put, List.setIfInBounds_toArray, List.set_cons_zero, List.set_cons_succ]
      go_simp
      exact HKK.out _ _ ⟨_, by simp only [putAll, Act.put, List.setIfInBounds_toArray, List.set_cons_zero, List.set_cons_succ, er] <;> rfl, h0, h1, h2, h3, h4, h5, h6, h7, h8, h11, y9, fun _ _ => Lib.hid (hor), hB, hF, hG, fun _ => hall ⟨9, .data⟩ (by simp) rfl, hE9_3, hE3_1, hE3_2, hE9_6, hE6_4, hE6_5, hW1, hW2, hW3, hW4, hW5, hW6, hW9, fun _ => rfl, hW11⟩
    · obtain rfl := Option.some.inj hi
      clear hi hil
      have hap : b' 12 = false := by
        cases hz : b' 12 with
        | false => rfl
        | true => exact absurd (hW11 hz) (by rw [hun]; decide)
      have o9 := y9 (hall ⟨9, .data⟩ (by simp) rfl) hap
      obtain ⟨r, er, hor⟩ := o9.out
      clear hor
      refine wpOp_step rfl (fun K hK => ?_)
      have HKK := Lib.hid hK; clear hK
      simp only [putAll, Act.put, List.setIfInBounds_toArray, List.set_cons_zero, List.set_cons_succ]
      go_simp
      exact HKK.out _ _ ⟨_, by simp only [putAll, Act.put, List.setIfInBounds_toArray, List.set_cons_zero, List.set_cons_succ, er] <;> rfl, h0, h1, h2, h3, h4, h5, h6, h7, h8, fun _ => rfl, y9, y10, hB, hF, hG, hE10_9, hE9_3, hE3_1, hE3_2, hE9_6, hE6_4, hE6_5, hW1, hW2, hW3, hW4, hW5, hW6, hW9, hW10, fun _ => rfl⟩
    · obtain rfl := Option.some.inj hi
      clear hi hil
      have hap : b' 12 = false := hun
      have d0 := h0 (hall ⟨0, .data⟩ (by simp) rfl)
      have o10 := y10 (hall ⟨10, .data⟩ (by simp) rfl) hap
      have d11 := h11 (hall ⟨11, .data⟩ (by simp) rfl)
      refine wpOp_step rfl (fun K hK => ?_)
      have HKK := Lib.hid hK; clear hK
      simp only [putAll, Act.put, List.setIfInBounds_toArray, List.set_cons_zero, List.set_cons_succ]
      go_simp
      refine (tadd_c g base u _ _ _ st w' (hF hap).out.1 (o10.out.base HBW.out) (Nat.le_trans HBW.out (hB hap).out.2) HL9.out).mono ?_
      rintro e w2 ⟨rfl, u2, hT2, hG2⟩
      exact HKK.out _ _ ⟨_, by simp only [putAll, Act.put, List.setIfInBounds_toArray, List.set_cons_zero, List.set_cons_succ, d0, d11] <;> rfl, h0, h1, h2, h3, h4, h5, h6, h7, h8, h11, fun _ h => Bool.noConfusion h, fun _ h => Bool.noConfusion h, fun h => Bool.noConfusion h, fun h => Bool.noConfusion h, fun _ => Lib.hid (⟨u2, hT2, TrTo.first (hB hap).out.1 hG2⟩), hE10_9, hE9_3, hE3_1, hE3_2, hE9_6, hE6_4, hE6_5, fun _ => hE3_1 (hE9_3 (hE10_9 (hall ⟨10, .data⟩ (by simp) rfl))), fun _ => hE3_2 (hE9_3 (hE10_9 (hall ⟨10, .data⟩ (by simp) rfl))), fun _ => hE9_3 (hE10_9 (hall ⟨10, .data⟩ (by simp) rfl)), fun _ => hE6_4 (hE9_6 (hE10_9 (hall ⟨10, .data⟩ (by simp) rfl))), fun _ => hE6_5 (hE9_6 (hE10_9 (hall ⟨10, .data⟩ (by simp) rfl))), fun _ => hE9_6 (hE10_9 (hall ⟨10, .data⟩ (by simp) rfl)), fun _ => hE10_9 (hall ⟨10, .data⟩ (by simp) rfl), fun _ => hall ⟨10, .data⟩ (by simp) rfl, fun _ => hall ⟨11, .data⟩ (by simp) rfl⟩
    · omega
  · rintro b' vs w2 hall ⟨h0, h1, h2, h3, h4, h5, h6, h7, h8, h11, y9, y10, hB, hF, hG, hE10_9, hE9_3, hE3_1, hE3_2, hE9_6, hE6_4, hE6_5, hW1, hW2, hW3, hW4, hW5, hW6, hW9, hW10, hW11⟩
    have d0 := h0 (hall 0 (by simp))
    have d1 := h1 (hall 1 (by simp))
    have d2 := h2 (hall 2 (by simp))
    have d3 := h3 (hall 3 (by simp))
    have d4 := h4 (hall 4 (by simp))
    have d5 := h5 (hall 5 (by simp))
    have d6 := h6 (hall 6 (by simp))
    have d7 := h7 (hall 7 (by simp))
    have d8 := h8 (hall 8 (by simp))
    have d11 := h11 (hall 11 (by simp))
    have GG := hG (hall 12 (by simp))
    obtain ⟨u3, hT3, hG3⟩ := GG.out
    simp only [putAll, Act.put, List.setIfInBounds_toArray, List.set_cons_zero, List.set_cons_succ, d0, d1, d2, d3, d4, d5, d6, d7, d8, d11]
    clear hall h0 d0 h1 d1 h2 d2 h3 d3 h4 d4 h5 d5 h6 d6 h7 d7 h8 d8 h11 d11 y9 y10 hB hF hG hE10_9 hE9_3 hE3_1 hE3_2 hE9_6 hE6_4 hE6_5 hW1 hW2 hW3 hW4 hW5 hW6 hW9 hW10 hW11
    go_wp2_with fail
    go_end0
    exact ⟨rfl, u3, hT3, TrTo.first HBC.out hG3⟩
theorem dot_c (g base : Nat) (u : Value) (c : Pt) (h cap : Int) (st : Tr) (C : World) (hT : TraceAt C base g u st) (hr : Rd C) (hb : base ≤ C.heap.size) (hlen : st.2.length ≤ 900) (hc : roomP c = true) (hh : penB h = true) (hcap : cap = 0 ∨ cap = 1 ∨ cap = 2) :
    Calls Tryd.prog 37 #[.pointer (some ⟨g, 0, none⟩), .agg #[.int .i64 c.1, .int .i64 c.2], .int .i64 h, .int .i64 cap] C (TrPost g base u C (dotT c h cap st)) := by
  have hc2 := mid_of_room hc
  have hp := penB_iff.1 hh
  have hh2 : mid62 (h, 0) := by unfold mid62; simp only; omega
  have rc := roomP_iff.1 hc
  rcases hcap with rfl | rfl | rfl
  · exact dot_0 g base u c h st C hT
  · exact dot_1 g base u c h st C hT hr hb hlen
  · exact dot_2 g base u c h st C hT hb hlen (Lib.hid (less_c c (h, 0) hc2 hh2)) (Lib.hid (plus_c c (h, 0) hc2 hh2)) (Lib.hid (slab_c _ _ (0, h) (by unfold mid62 subP; simp only; omega) (by unfold mid62 addP; simp only; omega) (by unfold mid62; simp only; omega)))
theorem caps_c (g base : Nat) (u : Value) (b o j c : Nat) (l : List Pt) (h cap : Int) (st : Tr) (C : World) (hT : TraceAt C base g u st) (row : Row C (.slice (some ⟨b, o, none⟩) (j + 2) c) l) (hn : l.length = j + 2) (hoff : b ≠ g ∧ u.ownBlock ≠ some b)
    (hr : Rd C) (hgl : 0 < base) (hbg : base ≤ g) (hb : base ≤ C.heap.size) (hlen : st.2.length ≤ 900) (hj : j ≤ 1000) (hroom : ∀ p ∈ l, roomP p = true) (hne : ∀ k p q, l[k]? = some p → l[k + 1]? = some q → p ≠ q) (hh : penB h = true) (hcap : cap = 0 ∨ cap = 1 ∨ cap = 2) :
    Calls Tryd.prog 40 #[.pointer (some ⟨g, 0, none⟩), .slice (some ⟨b, o, none⟩) (j + 2) c, .int .i64 h, .int .i64 cap] C (TrPost g base u C (capsT l h cap st)) := by
  have key : ∀ k, k < l.length → ∃ p, l[k]? = some p ∧ l.getD k (0, 0) = p ∧ roomP p = true := fun k hk => ⟨l[k], List.getElem?_eq_getElem hk, by rw [List.getD_eq_getElem?_getD, List.getElem?_eq_getElem hk]; rfl, hroom _ (List.getElem_mem hk)⟩
  obtain ⟨p0, a0, b0, r0⟩ := key 0 (by omega)
  obtain ⟨p1, a1, b1, r1⟩ := key 1 (by omega)
  obtain ⟨q0, a2, b2, r2⟩ := key j (by omega)
  obtain ⟨q1, a3, b3, r3⟩ := key (j + 1) (by omega)
  obtain ⟨c0, c1⟩ := row.pts a0
  obtain ⟨c2, c3⟩ := row.pts a1
  obtain ⟨c4, c5⟩ := row.pts a2
  obtain ⟨c6, c7⟩ := row.pts a3
  rw [Nat.zero_mul, Nat.add_zero] at c0 c1
  rw [Nat.one_mul] at c2 c3
  have hlt : b < C.heap.size := row.lt (fun e => by rw [e] at hn; simp at hn) b rfl
  unfold capsT
  rw [hn, show j + 2 - 1 = j + 1 by omega, show j + 2 - 2 = j by omega, b0, b1, b2, b3]
  rcases hcap with rfl | rfl | rfl
  · exact caps_0 g base u b o j c h st C hT hj
  · exact caps_1 g base u b o j c p0 q1 h st C hT c0 c1 c6 c7 hlt hoff hr hgl hbg hb hlen hj
  · exact caps_2 g base u b o j c p0 p1 q0 q1 h st C ⟨hT, ⟨c0, c1⟩, ⟨c2, c3⟩, hlt⟩ ⟨⟨c4, c5⟩, c6, c7⟩ hoff hbg hb hlen hj (Lib.hid fun w => head_c p0 p1 h w r0 r1 (hne 0 _ _ a0 a1) hh) (Lib.hid fun w => tail_c q0 q1 h w r2 r3 (hne j _ _ a2 a3) hh)
end Go.Proofs.YtdidbejinfkhbaaDoor
