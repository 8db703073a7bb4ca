/- Layer 6: the law's With and is. -/
import Derived.Test.YtffgpikhahpomaaDoorSt
import Derived.Test.YtffgpikhahpomaaDoorSg
namespace Go.Proofs.YtffgpikhahpomaaDoor
open Go.RowKit
theorem run_append_refs (w : World) (ty : TypeId) (base : Nat) (v : Value) (X : List Sg) (hown : OwnS w base 60 v X) (u : Value) (Y : List Sg) (row : RowS w u Y) (hl : X.length + Y.length ≤ 100000) (hbase : base ≤ w.heap.size) :
    ∃ v' w', (Builtin.append_ #[27, 27] ty #[v, u]).run Tryd.prog w = .ok v' w' ∧ OwnS w' base 60 v' (X ++ Y) ∧ w.grownBy w' v.ownBlock := by
  obtain ⟨i, hi, hz0, hz1, hz2⟩ := info_parts infoT
  have some_case : ∀ (ad : Addr) (c : Nat), (∀ j u, (flatS Y)[j]? = some u → w.cell? (ad.add j) = some u) → u = .slice (some ad) Y.length c →
      ∃ v' w', (Builtin.append_ #[27, 27] ty #[v, u]).run Tryd.prog w = .ok v' w' ∧ OwnS w' base 60 v' (X ++ Y) ∧ w.grownBy w' v.ownBlock := by
    intro ad c hn hu
    subst hu
    obtain ⟨v', w', hr, ho, hg, _⟩ := run_append_own (P := Tryd.prog) w base 27 ty 60 i (.agg zSeven) 7 56 Tryd.underlying27 hi hz0 hz1 hz2 rfl (by decide) v X.length (flatS X) hown ad Y.length c (flatS Y) (flatS_length Y) hn (flatS_one Y) (by unfold maxLen; omega) (by omega) hbase
    exact ⟨v', w', hr, by unfold OwnS; rw [List.length_append, flatS_append]; exact ho, hg⟩
  rcases row with ⟨rfl, rfl⟩ | ⟨a, c, rfl, rfl⟩ | ⟨b, o, c, rfl, hb, hp⟩
  · refine ⟨v, w, run_append_owned_none (P := Tryd.prog) (w := w) base 27 ty 60 i 7 Tryd.underlying27 hi v X.length (flatS X) hown, by rw [List.append_nil]; exact hown, ⟨rfl, rfl, rfl, Nat.le_refl _, fun _ _ _ => rfl⟩⟩
  · exact some_case a c (fun j u hj => by simp [flatS] at hj) rfl
  · refine some_case ⟨b, o, none⟩ c (fun j u hj => ?_) rfl
    have hlt : j < Y.length * 7 := by have := (List.getElem?_eq_some_iff.1 hj).1; rwa [flatS_length] at this
    obtain ⟨s, hs⟩ : ∃ s, Y[j / 7]? = some s := ⟨_, List.getElem?_eq_getElem (by omega)⟩
    obtain ⟨x, hx⟩ : ∃ x, s.cells[j % 7]? = some x := ⟨_, Array.getElem?_eq_getElem (by simp [Sg.cells]; omega)⟩
    have h1 := flatS_at Y (j / 7) s hs (j % 7) x hx
    have h2 := hp (j / 7) s hs (j % 7) x hx
    rw [show j / 7 * 7 + j % 7 = j by omega] at h1
    rw [h1] at hj
    rw [Addr.add_lit, show o + j = o + j / 7 * 7 + j % 7 by omega, h2]
    exact hj
theorem wpList_append_refs {w : World} {ops : Array Oper} {rest : List Oper} {o : Oper} {a : Act} {Q : Exit → Act → World → Prop} (hgd : o.guard = none) (s x : Operand)
    (ho : o.op = .call { callee := .builtin .append, args := #[s, x], argTypes := #[27, 27] })
    (base : Nat) (v : Value) (X : List Sg) (hs : a.eval s = v) (hown : OwnS w base 60 v X) (u : Value) (Y : List Sg) (hx : a.eval x = u) (row : RowS w u Y) (hl : X.length + Y.length ≤ 100000) (hbase : base ≤ w.heap.size)
    (h : ∀ v' w', OwnS w' base 60 v' (X ++ Y) → w.grownBy w' v.ownBlock → wpList Tryd.prog ops Q rest (a.put o.dst v') w') : wpList Tryd.prog ops Q (o :: rest) a w := by
  refine wpList_plain hgd fun K hK => ?_
  obtain ⟨v', w', hr, h1, h2⟩ := run_append_refs w o.type base v X hown u Y row hl hbase
  unfold Oper.wp
  simp [execOp, ho, resolve, invoke, builtin, hs, hx, hr, Result.andThen]
  exact hK _ _ (h v' w' h1 h2)
theorem RowS.newT (w : World) (t : TypeId) (l : List Sg) (cs : Array Value) (n : Nat) (hcs : cs = (flatS l).toArray) (hn : n = l.length) : RowS (w.alloc (.cells cs t)) (.slice (some ⟨w.heap.size, 0, none⟩) n n) l := by
  subst hcs hn
  refine .inr (.inr ⟨_, 0, _, rfl, by simp, SegsAt.of_flat fun j v hj => ?_⟩)
  rw [Nat.zero_add, (Blk.new w t (flatS l).toArray).cell]
  simpa using hj
set_option maxHeartbeats 2000000 in
set_option maxRecDepth 100000 in
theorem with_c (ao : Option Addr) (n c I K : Nat) (l : List Sg) (u : Value) (M : List Sg) (w : World) (row : RowS w (.slice ao n c) l) (ru : RowS w u M) (hI : I + K ≤ n) (hl : n + M.length ≤ 50000) :
    Calls Tryd.prog 23 #[.slice ao n c, .int .i64 (I : Int), .int .i64 (K : Int), u] w fun e w' => ∃ v, e = .returned v ∧ OwnS w' w.heap.size 60 v (l.take I ++ M ++ l.drop (I + K)) ∧ Below w.heap.size w w' := by
  obtain ⟨au, cu, rfl⟩ := ru.shape
  have hn := row.len
  obtain ⟨m, hm⟩ : ∃ m, w.heap.size = m := ⟨_, rfl⟩
  rw [hm]
  obtain ⟨d, hd⟩ : ∃ d, I + K = d := ⟨_, rfl⟩
  obtain ⟨nm, hnm⟩ : ∃ nm, M.length = nm := ⟨_, rfl⟩
  rw [hd] at hI ⊢
  rw [hnm] at hl ru ⊢
  have HM := Lib.hid hm; have HD := Lib.hid hd; have HN := Lib.hid hn; have HNM := Lib.hid hnm
  have HROW := Lib.hid row; have HRU := Lib.hid ru
  have w1 : wrap64 ((I : Int) + (K : Int)) = ((d : Nat) : Int) := by rw [wrapR _ (by omega) (by omega)]; omega
  have w2 : IntKind.i64.wrap ((I : Int) + (K : Int)) = ((d : Nat) : Int) := (wrap_is _).trans w1
  have HID : Hid (I ≤ d) := by unfold Hid; omega
  clear hm hd hn hnm row ru
  go_enter Tryd.func23, Tryd.ntmps23
  go_wp2_with fail
  go_loopw [9, 10] (fun x i wr => ∃ k : Nat, k ≤ I ∧ i = .int .i64 k ∧ Hid (OwnS wr m 60 x (l.take k) ∧ Below m w wr ∧ m ≤ wr.heap.size)) (fun _ i _ => I - (intOf i).toNat)
  case atStart => exact ⟨0, by omega, rfl, OwnS.nil _ _ _, by rw [← HM.out]; exact Below.refl _ _, by rw [HM.out]; omega⟩
  case round =>
    obtain ⟨k, hk, rfl, hw⟩ := hrel
    obtain ⟨w2, rfl⟩ : ∃ x, x = wr := ⟨_, rfl⟩
    by_cases hlt : k < I
    · have hd : decide ((k : Int) < (I : Int)) = true := by simp; omega
      obtain ⟨b, o, rfl, hbs, hpa⟩ := RowS.addr HROW.out (k := k) (by rw [HN.out]; have := HID.out; omega)
      obtain ⟨s, hq⟩ : ∃ p, l[k]? = some p := ⟨_, List.getElem?_eq_getElem (by rw [HN.out]; have := HID.out; omega)⟩
      have hkn : k < n := by have := HID.out; omega
      have hs := hpa.on hw.out.2.1 (by rw [← HM.out]; exact hbs)
      have c0 := hs.c0 hq
      have c1 := hs.c1 hq
      have c2 := hs.c2 hq
      have c3 := hs.c3 hq
      have c4 := hs.c4 hq
      have c5 := hs.c5 hq
      have c6 := hs.c6 hq
      have HQ := Lib.hid hq
      clear hpa hq hbs hs
      have HO : Hid (OwnS (w2.alloc (.cells s.cells 60)) m 60 u9 (l.take k) ∧ RowS (w2.alloc (.cells s.cells 60)) (.slice (some ⟨w2.heap.size, 0, none⟩) 1 1) [s]) := ⟨hw.out.1.grow ((Below.refl _ _).alloc (Nat.le_refl _) _), RowS.newT _ _ [s] _ 1 rfl rfl⟩
      go_wp2_with (at_builtin; refine wpList_append_refs rfl _ _ rfl m _ _ rfl HO.out.1 _ _ rfl HO.out.2 ?c1 ?c2 ?_)
      case c1 => simp; omega
      case c2 => have := hw.out.2.2; simp; omega
      · intro v' w5 hown hgrow
        have HY : Hid (OwnS w5 m 60 v' (l.take (k + 1)) ∧ Below m w w5 ∧ m ≤ w5.heap.size) := ⟨by rw [List.take_add_one, HQ.out]; exact hown, own_below HO.out.1 hgrow (hw.out.2.1.alloc hw.out.2.2 _) (Nat.le_refl _) (by have := hw.out.2.2; simp; omega), Nat.le_trans hw.out.2.2 (Nat.le_trans (by simp) hgrow.size)⟩
        clear hown hgrow
        go_wp2_with fail
        exact ⟨⟨k + 1, by omega, by go_num, HY.out⟩, by simp [intOf]; omega⟩
    · have hd : decide ((k : Int) < (I : Int)) = false := by simp; omega
      obtain rfl : k = I := by omega
      have HRU2 := Lib.hid (HRU.out.on (by rw [HM.out]; exact hw.out.2.1))
      go_wp2_with (at_builtin; refine wpList_append_refs rfl _ _ rfl m _ _ rfl hw.out.1 _ _ rfl HRU2.out ?c1 ?c2 ?_)
      case c1 => have := HNM.out; have := HN.out; simp only [List.length_take]; omega
      case c2 => exact hw.out.2.2
      · intro v' w5 hown hgrow
        have HY : Hid (OwnS w5 m 60 v' (l.take k ++ M ++ (l.drop d).take (d - d)) ∧ Below m w w5 ∧ m ≤ w5.heap.size) := ⟨by rw [Nat.sub_self, List.take_zero, List.append_nil]; exact hown, own_below hw.out.1 hgrow hw.out.2.1 (Nat.le_refl _) hw.out.2.2, by have := hgrow.size; have := hw.out.2.2; omega⟩
        clear hown hgrow
        go_wp2_with fail
        go_loopw [9, 11] (fun x i wr => ∃ j : Nat, d ≤ j ∧ j ≤ n ∧ i = .int .i64 j ∧ Hid (OwnS wr m 60 x (l.take k ++ M ++ (l.drop d).take (j - d)) ∧ Below m w wr ∧ m ≤ wr.heap.size)) (fun _ i _ => n - (intOf i).toNat)
        case atStart => exact ⟨d, by omega, hI, rfl, HY.out⟩
        case round =>
          obtain ⟨j, hdj, hj, rfl, hw⟩ := hrel
          obtain ⟨w4, rfl⟩ : ∃ x, x = wr := ⟨_, rfl⟩
          by_cases hlt : j < n
          · have hd : decide ((j : Int) < (n : Int)) = true := by simp; omega
            obtain ⟨b, o, rfl, hbs, hpa⟩ := RowS.addr HROW.out (k := j) (by rw [HN.out]; omega)
            obtain ⟨s, hq⟩ : ∃ p, l[j]? = some p := ⟨_, List.getElem?_eq_getElem (by rw [HN.out]; omega)⟩
            have hs := hpa.on hw.out.2.1 (by rw [← HM.out]; exact hbs)
            have c0 := hs.c0 hq
            have c1 := hs.c1 hq
            have c2 := hs.c2 hq
            have c3 := hs.c3 hq
            have c4 := hs.c4 hq
            have c5 := hs.c5 hq
            have c6 := hs.c6 hq
            have HQ := Lib.hid hq
            clear hpa hq hbs hs
            have HO : Hid (OwnS (w4.alloc (.cells s.cells 60)) m 60 u9 (l.take k ++ M ++ (l.drop d).take (j - d)) ∧ RowS (w4.alloc (.cells s.cells 60)) (.slice (some ⟨w4.heap.size, 0, none⟩) 1 1) [s]) := ⟨hw.out.1.grow ((Below.refl _ _).alloc (Nat.le_refl _) _), RowS.newT _ _ [s] _ 1 rfl rfl⟩
            go_wp2_with (at_builtin; refine wpList_append_refs rfl _ _ rfl m _ _ rfl HO.out.1 _ _ rfl HO.out.2 ?c1 ?c2 ?_)
            case c1 => have := HNM.out; have := HN.out; simp only [List.length_append, List.length_take, List.length_drop, List.length_cons, List.length_nil]; omega
            case c2 => have := hw.out.2.2; simp; omega
            · intro v' w5 hown hgrow
              have HY : Hid (OwnS w5 m 60 v' (l.take k ++ M ++ (l.drop d).take (j + 1 - d)) ∧ Below m w w5 ∧ m ≤ w5.heap.size) := ⟨by rw [show j + 1 - d = (j - d) + 1 by omega, List.take_add_one, List.getElem?_drop, show d + (j - d) = j by omega, HQ.out]; simpa using hown, own_below HO.out.1 hgrow (hw.out.2.1.alloc hw.out.2.2 _) (Nat.le_refl _) (by have := hw.out.2.2; simp; omega), Nat.le_trans hw.out.2.2 (Nat.le_trans (by simp) hgrow.size)⟩
              clear hown hgrow
              go_wp2_with fail
              exact ⟨⟨j + 1, by omega, by omega, by go_num, HY.out⟩, by simp [intOf]; omega⟩
          · have hd : decide ((j : Int) < (n : Int)) = false := by simp; omega
            have HF : Hid ((l.drop d).take (j - d) = l.drop d) := by unfold Hid; rw [show j = n by omega, List.take_of_length_le (by rw [List.length_drop, HN.out]; omega)]
            go_wp2_with fail
            go_ret
            exact ⟨_, rfl, HF.out ▸ hw.out.1, hw.out.2.1⟩
end Go.Proofs.YtffgpikhahpomaaDoor
