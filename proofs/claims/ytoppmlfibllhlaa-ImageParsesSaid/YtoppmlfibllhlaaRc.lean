/- Layer 11: rows of colours: appended to one another, cloned, stored into. -/
import Derived.Test.YtoppmlfibllhlaaRa
namespace Go.Proofs.Ytoppmlfibllhlaa
open Go.RowKit
/-- The cells of a slice of colours. -/
def ColsAt (ik : IntKind) (w : World) (b o : Nat) (l : List Col) : Prop := ∀ i p, l[i]? = some p → ColAt ik w b (o + i * 4) p
theorem ColsAt.src {ik : IntKind} {w : World} {b o : Nat} {l : List Col} (h : ColsAt ik w b o l) : ∀ j u, (flatK ik l)[j]? = some u → w.cell? ((⟨b, o, none⟩ : Addr).add j) = some u := fun j u hj => by
  have hlt : j < l.length * 4 := by rw [← flatK_len ik l]; exact (List.getElem?_eq_some_iff.1 hj).1
  obtain ⟨i, hi⟩ : ∃ i, i = j / 4 := ⟨_, rfl⟩
  obtain ⟨p, hp⟩ : ∃ p, l[i]? = some p := ⟨_, List.getElem?_eq_getElem (by omega)⟩
  obtain ⟨e0, e1, e2, e3⟩ := flatK_at ik l i p hp
  obtain ⟨c0, c1, c2, c3⟩ := h i p hp
  rw [Addr.add_lit]
  have hr : j = i * 4 ∨ j = i * 4 + 1 ∨ j = i * 4 + 2 ∨ j = i * 4 + 3 := by omega
  rcases hr with rfl | rfl | rfl | rfl
  · rw [e0] at hj; cases hj; exact c0
  · rw [e1] at hj; cases hj; rw [← Nat.add_assoc]; exact c1
  · rw [e2] at hj; cases hj; rw [← Nat.add_assoc]; exact c2
  · rw [e3] at hj; cases hj; rw [← Nat.add_assoc]; exact c3
theorem run_append_cols (w : World) (t ty T : TypeId) (ht : Try.prog.underlying t = some (.slice T)) (hT : (Try.prog.info? T).map (fun i => (i.zero, i.size, i.bytes)) = some (some (.agg #[.int .u8 0, .int .u8 0, .int .u8 0, .int .u8 0]), 4, 4))
    (base : Nat) (v : Value) (X Y : List Col) (hown : OwnK .u8 w base T v X) (b o n c : Nat) (hn : Y.length = n) (hY : ColsAt .u8 w b o Y) (hl : X.length + Y.length ≤ 100000) (hbase : base ≤ w.heap.size) :
    ∃ v' w', (Builtin.append_ #[t, t] ty #[v, .slice (some ⟨b, o, none⟩) n c]).run Try.prog w = .ok v' w' ∧ OwnK .u8 w' base T v' (X ++ Y) ∧ w.grownBy w' v.ownBlock ∧ Moved w v v' := by
  subst hn
  obtain ⟨v', w', hr, h2, h3, h4⟩ := run_append_c8 w t ty T ht hT base v X.length (flatK .u8 X) hown ⟨b, o, none⟩ Y.length c (flatK .u8 Y) (flatK_len _ _) hY.src (flatK_one _ _) hl hbase
  exact ⟨v', w', hr, by unfold OwnK; rw [List.length_append, flatK_append]; exact h2, h3, h4⟩
theorem wp_app_cols {o : Oper} {a : Act} {w : World} {K : Act → World → Prop} {Q : Exit → Act → World → Prop} (s x : Operand) (t T : TypeId)
    (ho : o.op = .call { callee := .builtin .append, args := #[s, x], argTypes := #[t, t] }) (ht : Try.prog.underlying t = some (.slice T)) (hT : (Try.prog.info? T).map (fun i => (i.zero, i.size, i.bytes)) = some (some (.agg #[.int .u8 0, .int .u8 0, .int .u8 0, .int .u8 0]), 4, 4))
    (base : Nat) (v : Value) (X Y : List Col) (hs : a.eval s = v) (hown : OwnK .u8 w base T v X) (b q n c : Nat) (hn : Y.length = n) (hxe : a.eval x = .slice (some ⟨b, q, none⟩) n c) (hY : ColsAt .u8 w b q Y) (hl : X.length + Y.length ≤ 100000) (hbase : base ≤ w.heap.size)
    (h : ∀ v' w', OwnK .u8 w' base T v' (X ++ Y) → w.grownBy w' v.ownBlock → Moved w v v' → K (a.put o.dst v') w') : o.wp Try.prog a w K Q := by
  obtain ⟨v', w', hr, h2, h3, h4⟩ := run_append_cols w t o.type T ht hT base v X Y hown b q n c hn hY hl hbase
  unfold Oper.wp
  simp [execOp, ho, resolve, invoke, builtin, hs, hxe, hr, Result.andThen]
  exact h v' w' h2 h3 h4
theorem wpList_app_cols {w : World} {ops : Array Oper} {rest : List Oper} {o : Oper} {a : Act} {Q : Exit → Act → World → Prop} (hgd : o.guard = none) (s x : Operand) (t T : TypeId)
    (ho : o.op = .call { callee := .builtin .append, args := #[s, x], argTypes := #[t, t] }) (ht : Try.prog.underlying t = some (.slice T)) (hT : (Try.prog.info? T).map (fun i => (i.zero, i.size, i.bytes)) = some (some (.agg #[.int .u8 0, .int .u8 0, .int .u8 0, .int .u8 0]), 4, 4))
    (base : Nat) (v : Value) (X Y : List Col) (hs : a.eval s = v) (hown : OwnK .u8 w base T v X) (b q n c : Nat) (hn : Y.length = n) (hxe : a.eval x = .slice (some ⟨b, q, none⟩) n c) (hY : ColsAt .u8 w b q Y) (hl : X.length + Y.length ≤ 100000) (hbase : base ≤ w.heap.size)
    (h : ∀ v' w', OwnK .u8 w' base T v' (X ++ Y) → w.grownBy w' v.ownBlock → Moved w v v' → wpList Try.prog ops Q rest (a.put o.dst v') w') : wpList Try.prog ops Q (o :: rest) a w := by
  refine wpList_plain hgd fun K hK => ?_
  obtain ⟨v', w', hr, h2, h3, h4⟩ := run_append_cols w t o.type T ht hT base v X Y hown b q n c hn hY hl hbase
  unfold Oper.wp
  simp [execOp, ho, resolve, invoke, builtin, hs, hxe, hr, Result.andThen]
  exact hK _ _ (h v' w' h2 h3 h4)
theorem OwnK.made0 (w : World) (t : TypeId) : OwnK .u8 (w.alloc (.cells #[] t)) w.heap.size t (.slice (some ⟨w.heap.size, 0, none⟩) 0 0) [] :=
  ⟨rfl, .inr ⟨w.heap.size, 0, #[], rfl, Nat.le_refl _, heap_alloc_new _ _, Nat.le_refl _, by decide, rfl, rfl⟩⟩
theorem OwnK.cols {ik : IntKind} {w : World} {base : Nat} {t : TypeId} {g n c : Nat} {l : List Col} (h : OwnK ik w base t (.slice (some ⟨g, 0, none⟩) n c) l) : ColsAt ik w g 0 l := by
  obtain ⟨e, _⟩ | ⟨a, c', e, rfl⟩ | ⟨b, o, c', e, _, hp⟩ := h.row
  · cases e
  · exact fun i p hp => by simp at hp
  · cases e; exact hp
theorem OwnK.full {ik : IntKind} {w : World} {base : Nat} {t : TypeId} {v : Value} {l : List Col} (h : OwnK ik w base t v l) (h0 : 0 < l.length) : ∃ g c, v = .slice (some ⟨g, 0, none⟩) l.length c ∧ base ≤ g ∧ g < w.heap.size ∧ l.length ≤ c := by
  obtain ⟨_, ⟨rfl, hn⟩ | ⟨g, cap, cur, rfl, hb, hg, hc, _⟩⟩ := h
  · omega
  · exact ⟨g, cap, rfl, hb, (Array.getElem?_eq_some_iff.1 hg).1, hc⟩
set_option maxHeartbeats 1000000 in
set_option maxRecDepth 100000 in
theorem clone8_c (s : Value) (l : List Col) (w : World) (row : RowK .u8 w s l) (hl : l.length ≤ 70000) (h0 : 0 < l.length) :
    Calls Try.prog 34 #[s] w fun e w' => ∃ g c, e = .returned (.slice (some ⟨g, 0, none⟩) l.length c) ∧ w.heap.size ≤ g ∧ l.length ≤ c ∧ OwnK .u8 w' w.heap.size 28 (.slice (some ⟨g, 0, none⟩) l.length c) l ∧ Below w.heap.size w w' := by
  have q24 : ∀ (w : World) (a : Option Addr) (n c n' c' : Nat), (binOp .eql 22 (.slice a n c) (.slice none n' c')).run Try.prog w = .ok (.bool a.isNone) w := fun w a n c n' c' => Lib.run_eql_slice_nil w _ _ a n c n' c' Try.underlying22
  obtain ⟨ao, c, rfl⟩ := row.shape
  obtain ⟨b, o, rfl, hb, hcs⟩ := row.addr h0
  obtain ⟨n, hn⟩ : ∃ n, l.length = n := ⟨_, rfl⟩
  have HN := Lib.hid hn
  have HR : Hid (ColsAt .u8 (w.alloc (.cells #[] 28)) b o l) := fun i p hp => (hcs i p hp).on ((Below.refl _ _).alloc (Nat.le_refl _) _) hb
  have HO : Hid (OwnK .u8 (w.alloc (.cells #[] 28)) w.heap.size 28 (.slice (some ⟨w.heap.size, 0, none⟩) 0 0) []) := OwnK.made0 w _
  have HL : Hid (([] : List Col).length + l.length ≤ 100000) := by unfold Hid; simp; omega
  have HB : Hid (w.heap.size ≤ (w.alloc (.cells #[] 28)).heap.size) := by unfold Hid; simp
  have H0 := Lib.hid h0
  rw [hn]
  clear row hcs hb hl h0 hn
  go_enter Try.func34, Try.ntmps34
  go_wp2_with (at_builtin; refine wpList_app_cols rfl _ _ 22 28 rfl Try.underlying22 infoC8 w.heap.size _ [] l rfl HO.out b o n c HN.out rfl HR.out HL.out HB.out ?_)
  intro v' w1 hown hgrow _
  have H1 := Lib.hid hown
  have H2 : Hid (Below w.heap.size w w1) := own_below HO.out hgrow ((Below.refl _ _).alloc (Nat.le_refl _) _) (Nat.le_refl _) (by simp)
  clear hown hgrow
  obtain ⟨g, cap, rfl, hg1, hg2, hc⟩ := H1.out.full H0.out
  have HG := Lib.hid (And.intro hg1 hc)
  rw [HN.out] at H1 HG ⊢
  clear hg1 hg2 hc
  go_wp2_with fail
  go_ret
  exact ⟨g, cap, rfl, HG.out.1, HG.out.2, H1.out, H2.out⟩
theorem owns_set {w : World} {base size n g cap i : Nat} {t : TypeId} {xs : List Value} (h : w.ownsRow base t size (.slice (some ⟨g, 0, none⟩) n cap) n xs) (hi : i < n * size) (u : Value) : (w.setCell ⟨g, i, none⟩ u).ownsRow base t size (.slice (some ⟨g, 0, none⟩) n cap) n (xs.set i u) := by
  obtain ⟨h1, h2 | ⟨g', cap', cur, e, hb, hg, hc, hm, hs, ht⟩⟩ := h
  · cases h2.1
  · cases e
    have hb2 := Joins.block_setCell (i := i) hg u
    refine ⟨by rw [List.length_set]; exact h1, .inr ⟨g, cap, _, rfl, hb, hb2, hc, hm, by simpa using hs, ?_⟩⟩
    rw [← ht]
    apply List.ext_getElem?
    intro j
    simp only [List.getElem?_take, List.getElem?_set, Array.getElem?_toList, Array.getElem?_setIfInBounds, List.length_take, Array.length_toList]
    have hcap : n * size ≤ cap * size := Nat.mul_le_mul_right _ hc
    by_cases hj : j < n * size
    · by_cases e : i = j
      · subst e
        have hcur : i < cur.size := by omega
        have h2 : i < min (n * size) cur.size := Nat.lt_min.2 ⟨hj, hcur⟩
        simp [hj, hcur]
        exact h2
      · simp [hj, e]
    · simp [hj]
      intro e; omega
theorem flatK_set (ik : IntKind) : ∀ (l : List Col) (k : Nat) (c : Col), flatK ik (l.set k c) = ((((flatK ik l).set (k * 4) (.int ik (c 0))).set (k * 4 + 1) (.int ik (c 1))).set (k * 4 + 2) (.int ik (c 2))).set (k * 4 + 3) (.int ik (c 3))
  | [], _, _ => by simp [flatK]
  | q :: l, 0, c => by simp [flatK]
  | q :: l, k + 1, c => by
    rw [show (k + 1) * 4 = k * 4 + 1 + 1 + 1 + 1 by omega]
    simp [flatK, flatK_set ik l k c]
/-- A colour of an owned row is stored into. -/
theorem OwnK.store {w : World} {base g n cap k : Nat} {t : TypeId} {l : List Col} (h : OwnK .u8 w base t (.slice (some ⟨g, 0, none⟩) n cap) l) (hn : l.length = n) (hk : k < n) (c : Col) :
    OwnK .u8 ((((w.setCell ⟨g, k * 4, none⟩ (.int .u8 (c 0))).setCell ⟨g, k * 4 + 1, none⟩ (.int .u8 (c 1))).setCell ⟨g, k * 4 + 2, none⟩ (.int .u8 (c 2))).setCell ⟨g, k * 4 + 3, none⟩ (.int .u8 (c 3))) base t (.slice (some ⟨g, 0, none⟩) n cap) (l.set k c) := by
  unfold OwnK at *
  rw [List.length_set, flatK_set, hn]
  rw [hn] at h
  exact owns_set (owns_set (owns_set (owns_set h (by omega) _) (by omega) _) (by omega) _) (by omega) _
theorem Keep.set4 {S : Nat → Prop} (w : World) (g a b c d : Nat) (x y z u : Value) (h : ¬ S g) : Keep S w ((((w.setCell ⟨g, a, none⟩ x).setCell ⟨g, b, none⟩ y).setCell ⟨g, c, none⟩ z).setCell ⟨g, d, none⟩ u) :=
  (((Keep.setCell w ⟨g, a, none⟩ x h).trans (Keep.setCell _ ⟨g, b, none⟩ y h)).trans (Keep.setCell _ ⟨g, c, none⟩ z h)).trans (Keep.setCell _ ⟨g, d, none⟩ u h)
theorem OwnK.frozen {ik : IntKind} {w : World} {base : Nat} {t : TypeId} {g n c : Nat} {l : List Col} (h : OwnK ik w base t (.slice (some ⟨g, 0, none⟩) n c) l) (i : Nat) : w.frozen? ⟨g, i, none⟩ = false := by
  obtain ⟨_, ⟨e, _⟩ | ⟨g', cap', cur, e, _, hg, _⟩⟩ := h
  · cases e
  · cases e; exact Joins.unfrozen_of_block hg i
theorem OwnK.lt {ik : IntKind} {w : World} {base : Nat} {t : TypeId} {g n c : Nat} {l : List Col} (h : OwnK ik w base t (.slice (some ⟨g, 0, none⟩) n c) l) : base ≤ g ∧ g < w.heap.size ∧ n ≤ c := by
  obtain ⟨_, ⟨e, _⟩ | ⟨g', cap', cur, e, hb, hg, hc, _⟩⟩ := h
  · cases e
  · cases e; exact ⟨hb, (Array.getElem?_eq_some_iff.1 hg).1, hc⟩
end Go.Proofs.Ytoppmlfibllhlaa
