/- Layer 15: package pathtext: Words. -/
import Derived.Test.YtbnbglngpgikfaaGreatDoorQf
import Derived.Test.YtbnbglngpgikfaaGreatDoorShelf3
namespace Go.Proofs.YtbnbglngpgikfaaGreatDoor
open Go.RowKit Go.Shelf
attribute [local go_sem] Oper.semAt_some
set_option maxHeartbeats 4000000 in
set_option maxRecDepth 100000 in
theorem appendSeq_c (l : Wd) (bx : Nat) (w : World) (hbx : w.cell? ⟨bx, 0, none⟩ = some (.string ⟨l.toArray⟩)) (hbl : bx < w.heap.size) (hl : l.length ≤ 900000) :
    Calls Tryz.prog 53 #[.slice none 0 0, .func (.func 44) #[] #[.pointer (some ⟨bx, 0, none⟩)]] w fun e w' => ∃ u, e = .returned u ∧ OwnW w' w.heap.size u (wordsL l) ∧ Below w.heap.size w w' := by
  have HL : Hid ((wordsL l).length ≤ 900000) := Lib.hid (Nat.le_trans (wordsL_len l) hl)
  have HBX := Lib.hid hbx
  have HBL := Lib.hid hbl
  have HL2 : Hid (l.length ≤ 9000000000000000000) := Lib.hid (by omega)
  obtain ⟨ws, hws⟩ : ∃ ws, wordsL l = ws := ⟨_, rfl⟩
  have HWS := Lib.hid hws
  rw [hws] at HL ⊢
  clear hbx hbl hl hws
  refine callsIn_wide.1 (callsIn_of_wp_marks (n := 9) Tryz.func53 rfl trivial (wpIn_wide.2 ?_))
  simp only [Tryz.ntmps53, List.size_toArray, List.length_cons, List.length_nil, Nat.reduceAdd, Nat.reduceSub, Array.replicate_succ, Array.replicate_zero, List.push_toArray, List.append_toArray, List.nil_append, List.cons_append]
  go_wp2_with fail
  obtain ⟨W, hW⟩ : ∃ W, w.alloc (.cells #[.slice none 0 0] 42) = W := ⟨_, rfl⟩
  have hz : W.heap.size = w.heap.size + 1 := by rw [← hW]; simp
  have hb0 : Below w.heap.size w W := by rw [← hW]; exact (Below.refl _ _).alloc (Nat.le_refl _) _
  have hv0 : Blk W w.heap.size 42 #[.slice none 0 0] := by rw [← hW]; exact Blk.newAt _ _ _ rfl
  rw [hW]
  clear hW
  have hI : ∀ A B, Below w.heap.size w A → Keep (fun j => ¬ (W.heap.size ≤ j ∧ j < W.heap.size + 4)) A B → Below w.heap.size w B := fun A B h k => h.trans (k.below (fun j hj => by omega) h.size)
  have HSTEP := Lib.hid (fun A B (v : Value) (E : List Wd) (h : WdS w.heap.size W.heap.size w.heap.size v E A) (k : Keep (fun j => ¬ (W.heap.size ≤ j ∧ j < W.heap.size + 4)) A B) => h.mv k (by omega) (fun j hj => by omega))
  refine wp_words (ws := ws) (fun j => j < w.heap.size) rfl rfl (fun j hj => by omega) (fun _ _ => rfl)
    (fun V hV => by rw [← HWS.out]; exact words1_c bx _ l V HBL.out (fun j hj => by have := hV.size; omega) ((hV.cell trivial (by have := HBL.out; omega)).trans ((cell_below hb0 HBL.out).trans HBX.out)) HL2.out)
    (fun k A => Below w.heap.size w A ∧ ∃ v, WdS w.heap.size W.heap.size w.heap.size v (ws.take k) A)
    (fun k A B h hk => ⟨hI A B h.1 hk, let ⟨v, hv⟩ := h.2; ⟨v, HSTEP.out A B v _ hv hk⟩⟩)
    (fun _ => False) (fun _ _ h _ => h)
    ⟨hb0, _, hv0, OwnW.nil _ _, fun k e => by cases e⟩
    (fun x => #[.slice none 0 0, .func (.func 44) #[] #[.pointer (some ⟨bx, 0, none⟩)], .pointer (some ⟨w.heap.size, 0, none⟩), undef, .slice none 0 0, .string ⟨x.toArray⟩, .func (.func 44) #[] #[.pointer (some ⟨bx, 0, none⟩)], .string ⟨x.toArray⟩, undef, undef, undef, undef, undef])
    ?assign ?body ?done ?stop
  case assign =>
    intro L x A K hK
    simp only [wdArgs]
    gi_wp2
    exact hK
  case body =>
    rintro L i x A o B hx ⟨hb, v, hv⟩ hN hB
    have kAB : Keep (fun j => j ≠ W.heap.size + 1) A B := by rw [hB]; exact Keep.putObj _ _ _ (by simp)
    have hbB : Below w.heap.size w B := hI A B hb (kAB.mono fun j hj => by omega)
    have hvB := HSTEP.out A B v _ hv (kAB.mono fun j hj => by omega)
    have zB : W.heap.size + 4 ≤ B.heap.size := Nat.le_trans hN kAB.size
    have htk : ws.take (i + 1) = ws.take i ++ [x] := by rw [List.take_add_one, hx]; rfl
    have hil : i < ws.length := (List.getElem?_eq_some_iff.1 hx).1
    obtain ⟨E, hE⟩ : ∃ E, ws.take i = E := ⟨_, rfl⟩
    rw [hE] at hvB
    have HE : Hid (ws.take (i + 1) = E ++ [x]) := by unfold Hid; rw [htk, hE]
    have HLEN : Hid (E.length + 1 ≤ 1000000) := by unfold Hid; rw [← hE, List.length_take]; have := HL.out; omega
    obtain ⟨a, c, rfl⟩ := hvB.row.shape
    obtain ⟨n, hn⟩ : ∃ n, E.length = n := ⟨_, rfl⟩
    rw [hn] at hvB
    have HV := Lib.hid hvB
    have HBB := Lib.hid (And.intro hbB zB)
    have HZ := Lib.hid hz
    have c0 : B.cell? ⟨w.heap.size, 0, none⟩ = some (.slice a n c) := hvB.var.cell 0
    have HX1 : Hid (∀ j u, (strV [x])[j]? = some u → (B.alloc (.cells #[.string ⟨x.toArray⟩] 9)).cell? ((⟨B.heap.size, 0, none⟩ : Addr).add j) = some u) := str_src (Y := [x]) (Blk.new _ _ _)
    have HO : Hid (OwnW (B.alloc (.cells #[.string ⟨x.toArray⟩] 9)) w.heap.size (.slice a n c) E) := hvB.row.grow ((Below.refl _ _).alloc (Nat.le_refl _) _)
    have HZ1 : Hid (w.heap.size ≤ (B.alloc (.cells #[.string ⟨x.toArray⟩] 9)).heap.size) := by unfold Hid; simp; omega
    clear hx hb hv hN hB kAB hbB hvB zB htk hil hE hn hb0 hv0 hz
    gi_wp2_with (gi_at_builtin; refine wpListIn_app_strs rfl _ _ 42 rfl Tryz.underlying42 w.heap.size _ E rfl HO.out ⟨B.heap.size, 0, none⟩ 1 1 [x] rfl rfl HX1.out ?hl1 HZ1.out ?_)
    case hl1 => exact HLEN.out
    intro v' w5 ho hg hm
    have hzz := HZ.out
    have hzb := HBB.out.2
    have HS1 := (HV.out.mv (T := fun _ => True) (Keep.alloc _ B (.cells #[.string ⟨x.toArray⟩] 9)) trivial (fun _ _ => trivial))
    have hS := HS1.app ho hg hm (by rw [World.size_alloc]; omega) (by omega)
    have kk : Keep (fun j => j < w.heap.size ∨ (W.heap.size ≤ j ∧ j < W.heap.size + 4)) B (w5.setCell ⟨w.heap.size, 0, none⟩ v') := by
      refine ((Keep.alloc _ _ _).trans ((Keep.of_grown hg).mono fun j hj => ?_)).trans (Keep.setCell _ _ _ (by simp; omega))
      intro e
      have h1 := HV.out.off j e
      have h2 := World.ownsRow.lt HV.out.row j e
      omega
    have HF := Lib.hid (And.intro hS kk)
    have kv : Blk w5 w.heap.size 42 #[.slice a n c] := (Keep.of_grown hg).blk HS1.var (HS1.ne (by omega))
    have c5 : w5.cell? ⟨w.heap.size, 0, none⟩ = some (.slice a n c) := kv.cell 0
    have f5 := kv.free 0
    have l5 := kv.lt
    obtain ⟨a', c', hv'⟩ := ho.shape
    obtain ⟨n', hn'⟩ : ∃ n', (E ++ [x]).length = n' := ⟨_, rfl⟩
    rw [hn'] at hv'
    subst hv'
    clear hzz hzb HS1 hS kk kv ho hg hm c0 hn'
    gi_wp2
    refine ⟨HF.out.2, ?_, .slice a' n' c', ?_⟩
    · exact HBB.out.1.trans (HF.out.2.below (fun j hj => .inl hj) (by have := HBB.out.1.size; omega))
    · rw [HE.out]; exact HF.out.1
  case done =>
    rintro D ⟨hb, v, hv⟩ hD
    rw [List.take_length] at hv
    have c0 := hv.var.cell 0
    obtain ⟨a, c, rfl⟩ := hv.row.shape
    have HV := Lib.hid hv
    have HB := Lib.hid hb
    have HD := Lib.hid hD
    have HZ := Lib.hid hz
    clear hb hv hD hb0 hv0 hz
    go_wp2_with fail
    have hz2 := HZ.out
    refine postM_ret (.slice a ws.length c) HD.out (by simp [results, Tryz.f53, go_sem]) ⟨_, rfl, owns_keep HV.out.row (Keep.putObj (S := fun j => j ≠ W.heap.size) D _ _ (by simp)) fun k e => ?_, below_put HB.out _ (by omega) HB.out.size⟩
    have := HV.out.off k e
    omega
  case stop =>
    intro D h
    exact h.elim
theorem collect_c (l : Wd) (bx : Nat) (w : World) (hbx : w.cell? ⟨bx, 0, none⟩ = some (.string ⟨l.toArray⟩)) (hbl : bx < w.heap.size) (hl : l.length ≤ 900000) :
    Calls Tryz.prog 35 #[.func (.func 44) #[] #[.pointer (some ⟨bx, 0, none⟩)]] w fun e w' => ∃ u, e = .returned u ∧ OwnW w' w.heap.size u (wordsL l) ∧ Below w.heap.size w w' := by
  have H := Lib.hid (appendSeq_c l bx w hbx hbl hl)
  clear hbx hbl hl
  go_enter Tryz.func35, Tryz.ntmps35
  go_wp2_with fail
  refine H.out.mono ?_
  rintro e w1 ⟨u, rfl, ho, hb⟩
  go_wp2_with fail
  go_ret
  exact ⟨u, rfl, ho, hb⟩
theorem clone_c15 (l : Wd) (w : World) (hl : l.length ≤ 281474976710656) : Calls Tryz.prog 36 #[.string ⟨l.toArray⟩] w fun e w' => e = .returned (.string ⟨l.toArray⟩) ∧ Below w.heap.size w w' := by
  have H := Lib.hid (Tryz.stringslite_Clone ⟨l.toArray⟩ w (by simpa [ByteArray.size] using hl))
  clear hl
  go_enter Tryz.func36, Tryz.ntmps36
  go_wp2_with fail
  refine H.out.mono ?_
  rintro e w1 ⟨rfl, hb⟩
  go_wp2_with fail
  go_ret
  exact ⟨rfl, hb⟩
theorem Words_c (l : Wd) (w : World) (hl : l.length ≤ 900000) : Calls Tryz.prog 19 #[.string ⟨l.toArray⟩] w fun e w' => ∃ u, e = .returned u ∧ OwnW w' w.heap.size u (wordsL l) ∧ Below w.heap.size w w' := by
  have H := Lib.hid (clone_c15 l w (by omega))
  have HL := Lib.hid hl
  clear hl
  go_enter Tryz.func19, Tryz.ntmps19
  go_wp2_with fail
  refine H.out.mono ?_
  rintro e w1 ⟨rfl, hb⟩
  go_wp2_with fail
  refine (words_c l w1).mono ?_
  rintro e w2 ⟨rfl, rfl⟩
  have HB := Lib.hid hb
  clear hb
  go_wp2_with fail
  have k1 : Blk (w1.alloc (.cells #[.string ⟨l.toArray⟩] 9)) w1.heap.size 9 #[.string ⟨l.toArray⟩] := Blk.new _ _ _
  refine (collect_c l w1.heap.size _ (k1.cell 0) k1.lt HL.out).mono ?_
  rintro e w3 ⟨u, rfl, ho, hb3⟩
  have HF := Lib.hid (And.intro ho hb3)
  clear ho hb3 k1
  go_wp2_with fail
  go_ret
  have h0 := HB.out.size
  refine ⟨u, rfl, owns_base HF.out.1 (by simp; omega), ?_⟩
  exact (HB.out.trans (((Below.refl _ _).alloc (Nat.le_refl _) _).mono h0)).trans (HF.out.2.mono (by simp; omega))
end Go.Proofs.YtbnbglngpgikfaaGreatDoor
