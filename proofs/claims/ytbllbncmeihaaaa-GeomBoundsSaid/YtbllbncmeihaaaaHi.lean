/- The law on bounds. -/
import Derived.Test.YtbllbncmeihaaaaHk
namespace Go.Proofs.Ytbllbncmeihaaaa
open Go.RowKit
abbrev onC (a b c d : Bool) : Array Value := #[.bool a, .bool b, .bool c, .bool d]
section
variable {w : World} {g : Nat} {t : TypeId} {a b c d : Bool}
theorem Blk.o0 (h : Blk w g t (onC a b c d)) : w.cell? ⟨g, 0, none⟩ = some (.bool a) := h.cell 0
theorem Blk.o1 (h : Blk w g t (onC a b c d)) : w.cell? ⟨g, 1, none⟩ = some (.bool b) := h.cell 1
theorem Blk.o2 (h : Blk w g t (onC a b c d)) : w.cell? ⟨g, 2, none⟩ = some (.bool c) := h.cell 2
theorem Blk.o3 (h : Blk w g t (onC a b c d)) : w.cell? ⟨g, 3, none⟩ = some (.bool d) := h.cell 3
theorem Blk.setO (h : Blk w g t (onC a b c d)) (a' b' c' d' : Bool) : Blk ((((w.setCell ⟨g, 0, none⟩ (.bool a')).setCell ⟨g, 1, none⟩ (.bool b')).setCell ⟨g, 2, none⟩ (.bool c')).setCell ⟨g, 3, none⟩ (.bool d')) g t (onC a' b' c' d') := (((h.set 0 _).set 1 _).set 2 _).set 3 _
end
set_option maxHeartbeats 4000000 in
set_option maxRecDepth 100000 in
theorem bounds_law (w : World) (v : Value) (l : List Pt) (row : Row w v l) : Calls Try.prog 8 #[v] w fun e w' => e = .returned (.bool true) ∧ Below w.heap.size w w' := by
  obtain ⟨ao, c, rfl⟩ := row.shape
  obtain ⟨n, hn⟩ : ∃ n, l.length = n := ⟨_, rfl⟩
  rw [hn] at row ⊢
  have HN := Lib.hid hn
  have HROW := Lib.hid row
  have HAW := Lib.hid awake_c
  clear hn row
  by_cases h60 : n > 100
  · go_enter Try.func8, Try.ntmps8
    go_wp2_with fail
    refine (HAW.out _).mono ?_
    rintro e w1 ⟨rfl, hb⟩
    have B1 := Lib.hid hb
    clear hb
    go_wp2_with fail
    go_ret
    exact ⟨rfl, B1.out⟩
  · have hl : l.length ≤ 1000 := by rw [HN.out]; omega
    have HL := Lib.hid hl
    have HIN := Lib.hid (in_c _ l w hl HROW.out)
    clear hl
    go_enter Try.func8, Try.ntmps8
    go_wp2_with fail
    refine (HIN.out).mono ?_
    rintro e w1 ⟨rfl, hb1⟩
    have B1 := Lib.hid hb1
    clear hb1
    cases ha : l.all roomP
    · go_wp2_with fail
      refine (HAW.out _).mono ?_
      rintro e w2 ⟨rfl, hb2⟩
      have B2 : Hid (Below w.heap.size w w2) := below_next B1.out hb2
      clear hb2
      go_wp2_with fail
      go_ret
      exact ⟨rfl, B2.out⟩
    · have HA := Lib.hid ha
      clear ha
      go_wp2_with fail
      refine (bound_c _ l _ HL.out (HROW.out.on B1.out) HA.out).mono ?_
      rintro e w2 ⟨rfl, hb2⟩
      have B2 : Hid (Below w.heap.size w w2) := below_next B1.out hb2
      clear hb2
      by_cases hz : n = 0
      · have hl0 : l = [] := by have := HN.out; rw [hz] at this; exact List.eq_nil_of_length_eq_zero this
        have hb0 : boundI l = ⟨0, 0, 0, 0⟩ := by rw [hl0]; rfl
        rw [hb0]
        clear hl0 hb0
        subst hz
        go_wp2_with fail
        refine (HAW.out _).mono ?_
        rintro e w3 ⟨rfl, hb3⟩
        have B3 : Hid (Below w.heap.size w w3) := below_next (B2.out.alloc B2.out.size _) hb3
        clear hb3
        go_wp2_with fail
        go_ret
        exact ⟨rfl, B3.out⟩
      · have hne : l ≠ [] := fun h => hz (by have := HN.out; rw [h] at this; exact this.symm)
        have ht := tight_bound l hne
        obtain ⟨bx, hbx⟩ : ∃ bx, boundI l = bx := ⟨_, rfl⟩
        rw [hbx] at ht ⊢
        have HT := Lib.hid ht
        have z0 : ((n : Int) == 0) = false := by simp; omega
        clear hne ht hbx
        have bnd : Hid (-2147483648 ≤ bx.x1 - 1 ∧ bx.x1 - 1 ≤ 2147483648 ∧ -2147483648 ≤ bx.y1 - 1 ∧ bx.y1 - 1 ≤ 2147483648) := by
          obtain ⟨p, hp, e⟩ := HT.out.s2
          obtain ⟨q, hq, e'⟩ := HT.out.s3
          have h1 := List.all_eq_true.1 HA.out p hp
          have h2 := List.all_eq_true.1 HA.out q hq
          simp only [roomP, Bool.and_eq_true, room_iff] at h1 h2
          unfold Hid; omega
        obtain ⟨r1, r2, r3, r4⟩ := bnd.out
        go_wp2_with fail
        have K0 : Hid (Blk ((w2.alloc (.cells (four bx) 41)).alloc (.cells (onC false false false false) 47)) w2.heap.size 41 (four bx) ∧ Blk ((w2.alloc (.cells (four bx) 41)).alloc (.cells (onC false false false false) 47)) (w2.heap.size + 1) 47 (onC false false false false) ∧
            Below w.heap.size w ((w2.alloc (.cells (four bx) 41)).alloc (.cells (onC false false false false) 47))) :=
          ⟨(Blk.newAt _ _ _ rfl).alloc _, Blk.newAt _ _ _ (by simp), (B2.out.alloc B2.out.size _).alloc (by have := B2.out.size; simp; omega) _⟩
        have hwg : w.heap.size ≤ w2.heap.size := B2.out.size
        obtain ⟨g, hg⟩ : ∃ g, w2.heap.size = g := ⟨_, rfl⟩
        rw [hg] at hwg
        simp only [hg] at K0 ⊢
        go_loopw [29] (fun i wr => ∃ (k : Nat) (a b c d : Bool), k ≤ n ∧ i = .int .i64 k ∧ Hid (a = anyS (·.1) bx.x0 (l.take k) ∧ b = anyS (·.2) bx.y0 (l.take k) ∧ c = anyS (·.1) (bx.x1 - 1) (l.take k) ∧ d = anyS (·.2) (bx.y1 - 1) (l.take k)) ∧
            Hid (Blk wr g 41 (four bx) ∧ Blk wr (g + 1) 47 (onC a b c d) ∧ Below w.heap.size w wr)) (fun i _ => n - (intOf i).toNat)
        case atStart => exact ⟨0, false, false, false, false, by omega, rfl, ⟨rfl, rfl, rfl, rfl⟩, K0⟩
        case round =>
          obtain ⟨k, a, b, c', d, hk, rfl, ho, hw⟩ := hrel
          clear K0 hg
          by_cases hlt : k < n
          · have hd : decide ((k : Int) < (n : Int)) = true := by simp; omega
            obtain ⟨pb, po, rfl, hbs, hpa⟩ := Row.addr HROW.out (k := k) (by rw [HN.out]; exact hlt)
            obtain ⟨⟨px, py⟩, hq⟩ : ∃ p, l[k]? = some p := ⟨_, List.getElem?_eq_getElem (by rw [HN.out]; exact hlt)⟩
            obtain ⟨c0, c1⟩ := (hpa.on hw.out.2.2 hbs) k (px, py) hq
            have HH := Lib.hid (has_c bx px py)
            rw [tight_hasI HT.out (List.mem_of_getElem? hq)] at HH
            have HA0 := Lib.hid (anyS_next (·.1) bx.x0 l k (px, py) hq)
            have HA1 := Lib.hid (anyS_next (·.2) bx.y0 l k (px, py) hq)
            have HA2 := Lib.hid (anyS_next (·.1) (bx.x1 - 1) l k (px, py) hq)
            have HA3 := Lib.hid (anyS_next (·.2) (bx.y1 - 1) l k (px, py) hq)
            have e0 := hw.out.1.b0
            have e1 := hw.out.1.b1
            have e2 := hw.out.1.b2
            have e3 := hw.out.1.b3
            have lg := hw.out.1.lt
            have lg1 := hw.out.2.1.lt
            simp only at c0 c1
            clear hpa hq
            go_wp2_with fail
            refine (HH.out _).mono ?_
            rintro e w5 ⟨rfl, hb5⟩
            clear e0 e1 e2 e3
            have kp : Blk w5 wr.heap.size 23 (two (px, py)) := (Blk.new _ _ _).grow hb5
            have kb : Blk w5 g 41 (four bx) := (hw.out.1.alloc _).grow hb5
            have ko : Blk w5 (g + 1) 47 (onC a b c' d) := (hw.out.2.1.alloc _).grow hb5
            have hB : Below w.heap.size w w5 := below_next (hw.out.2.2.alloc hw.out.2.2.size _) hb5
            have p0 := kp.p0
            have p1 := kp.p1
            have e0 := kb.b0
            have e1 := kb.b1
            have e2 := kb.b2
            have e3 := kb.b3
            have o0 := ko.o0
            have o1 := ko.o1
            have o2 := ko.o2
            have o3 := ko.o3
            have f0 := ko.free 0
            have f1 := ko.free 1
            have f2 := ko.free 2
            have f3 := ko.free 3
            have KB := Lib.hid kb; have KO := Lib.hid ko; have BB := Lib.hid hB
            clear kp kb ko hB hb5
            have FIN : Hid (∀ a' b' c'' d' : Bool, a' = (a || px == bx.x0) → b' = (b || py == bx.y0) → c'' = (c' || px == bx.x1 - 1) → d' = (d || py == bx.y1 - 1) →
                ∃ (k' : Nat) (a b c d : Bool), k' ≤ n ∧ Value.int .i64 ((k : Int) + 1) = .int .i64 k' ∧ Hid (a = anyS (·.1) bx.x0 (l.take k') ∧ b = anyS (·.2) bx.y0 (l.take k') ∧ c = anyS (·.1) (bx.x1 - 1) (l.take k') ∧ d = anyS (·.2) (bx.y1 - 1) (l.take k')) ∧
                  Hid (Blk ((((w5.setCell ⟨g + 1, 0, none⟩ (.bool a')).setCell ⟨g + 1, 1, none⟩ (.bool b')).setCell ⟨g + 1, 2, none⟩ (.bool c'')).setCell ⟨g + 1, 3, none⟩ (.bool d')) g 41 (four bx) ∧
                    Blk ((((w5.setCell ⟨g + 1, 0, none⟩ (.bool a')).setCell ⟨g + 1, 1, none⟩ (.bool b')).setCell ⟨g + 1, 2, none⟩ (.bool c'')).setCell ⟨g + 1, 3, none⟩ (.bool d')) (g + 1) 47 (onC a b c d) ∧
                    Below w.heap.size w ((((w5.setCell ⟨g + 1, 0, none⟩ (.bool a')).setCell ⟨g + 1, 1, none⟩ (.bool b')).setCell ⟨g + 1, 2, none⟩ (.bool c'')).setCell ⟨g + 1, 3, none⟩ (.bool d')))) := by
              intro a' b' c'' d' ha hb hc hd'
              refine ⟨k + 1, a', b', c'', d', by omega, by simp, ⟨?_, ?_, ?_, ?_⟩, KB.out.otherB (by omega) _ _ _ _, KO.out.setO _ _ _ _, below_four (g := g + 1) BB.out (by omega) _ _ _ _⟩
              · rw [ha, ho.out.1]; exact HA0.out.symm
              · rw [hb, ho.out.2.1]; exact HA1.out.symm
              · rw [hc, ho.out.2.2.1]; exact HA2.out.symm
              · rw [hd', ho.out.2.2.2]; exact HA3.out.symm
            cases a <;> cases b <;> cases c' <;> cases d
            all_goals go_wp2_with fail
            all_goals exact ⟨FIN.out _ _ _ _ (by simp) (by simp) (by simp) (by simp), by simp [intOf]; omega⟩
          · have hd : decide ((k : Int) < (n : Int)) = false := by simp; omega
            have hkn : k = n := by omega
            have ht : Hid (a = true ∧ b = true ∧ c' = true ∧ d = true) := by
              have e : l.take k = l := by rw [hkn, ← HN.out, List.take_length]
              obtain ⟨h0, h1, h2, h3⟩ := ho.out
              rw [e] at h0 h1 h2 h3
              exact ⟨h0.trans (anyS_all HT.out.s0), h1.trans (anyS_all HT.out.s1), h2.trans (anyS_all HT.out.s2), h3.trans (anyS_all HT.out.s3)⟩
            obtain ⟨rfl, rfl, rfl, rfl⟩ := ht.out
            have o0 := hw.out.2.1.o0
            have o1 := hw.out.2.1.o1
            have o2 := hw.out.2.1.o2
            have o3 := hw.out.2.1.o3
            have EQ := equal_on
            go_wp2_with fail
            refine (HAW.out _).mono ?_
            rintro e w6 ⟨rfl, hb6⟩
            have B6 : Hid (Below w.heap.size w w6) := below_next hw.out.2.2 hb6
            clear hb6
            go_wp2_with fail
            go_ret
            exact ⟨rfl, B6.out⟩
end Go.Proofs.Ytbllbncmeihaaaa
