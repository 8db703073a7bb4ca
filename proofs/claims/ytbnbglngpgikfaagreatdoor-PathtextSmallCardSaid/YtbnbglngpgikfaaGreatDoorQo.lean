/- Layer 15: package pathtext: Read. -/
import Derived.Test.YtbnbglngpgikfaaGreatDoorQn
import Derived.Test.YtbnbglngpgikfaaGreatDoorQe
namespace Go.Proofs.YtbnbglngpgikfaaGreatDoor
open Go.RowKit Go.Shelf
attribute [local go_sem] Oper.semAt_some
theorem drop_at15 {α : Type} {l : List α} {k : Nat} {s : α} (h : l[k]? = some s) : l.drop k = s :: l.drop (k + 1) := by
  obtain ⟨hlt, e⟩ := List.getElem?_eq_some_iff.1 h
  rw [← e]; exact List.drop_eq_getElem_cons hlt
theorem words_wlen : ∀ (s a : Wd), ∀ x ∈ wordsW a s, x.length ≤ a.length + s.length
  | [], a, x, hx => by
    cases a with
    | nil => cases hx
    | cons c r => rw [wordsW, flushW, List.mem_singleton] at hx; subst hx; simp
  | c :: r, a, x, hx => by
    have fl : ∀ y ∈ flushW a, y.length ≤ a.length := fun y hy => by
      cases a with
      | nil => cases hy
      | cons c r => rw [flushW, List.mem_singleton] at hy; subst hy; exact Nat.le_refl _
    rw [wordsW] at hx
    split at hx
    · rcases List.mem_append.1 hx with h | h
      · have := fl x h; simp; omega
      · have := words_wlen r [] x h; simp at this ⊢; omega
    · split at hx
      · rcases List.mem_append.1 hx with h | h
        · have := fl x h; simp; omega
        · rcases List.mem_cons.1 h with rfl | h
          · simp; omega
          · have := words_wlen r [] x h; simp at this ⊢; omega
      · have := words_wlen r (a ++ [c]) x hx; simp at this ⊢; omega
theorem word_len (s x : Wd) (h : x ∈ wordsL s) : x.length ≤ s.length := by have := words_wlen s [] x h; simpa using this
theorem step_ne0 (st : Rs) (w : Wd) : stepR st w ≠ .error 0 := by
  cases w with
  | nil => intro h; cases h
  | cons c r =>
    rw [stepR]
    unfold letR numR putR doneR
    repeat' split
    all_goals first | simp | skip
    all_goals (intro hh; cases hh; rename_i hq; repeat' split at hq; all_goals cases hq)
/-- In Read, behind k words. -/
structure RS (N : Nat) (w : World) (ws : List Wd) (k : Nat) (st : Rs) (v : Value) (A : World) : Prop where
  below : Below N w A
  rd : RdAt N (N + 1 + 1 + 1) st v A
  ok : OkR st
  off : ∀ q, v.ownBlock = some q → N + 9 ≤ q
  p : Blk A N 22 #[.slice none 0 0]
  a : Blk A (N + 1) 3 #[.int .i64 (k : Int)]
  e : Blk A (N + 1 + 1) 24 #[.int .i64 0]
  eq : readR Rs.none 0 ws = readR st k (ws.drop k)
/-- In Read, told an error. -/
structure RX (N : Nat) (w : World) (at' : Nat) (x : Int) (A : World) : Prop where
  below : Below N w A
  p : Blk A N 22 #[.slice none 0 0]
  a : Blk A (N + 1) 3 #[.int .i64 (at' : Int)]
  e : Blk A (N + 1 + 1) 24 #[.int .i64 x]
theorem RS.mv {N : Nat} {w : World} {ws : List Wd} {k : Nat} {st : Rs} {v : Value} {A B : World} {T : Nat → Prop} (h : RS N w ws k st v A) (hN : w.heap.size = N) (hk : Keep T A B) (h1 : ∀ j, j < N + 5 ∨ N + 9 ≤ j → T j) : RS N w ws k st v B :=
  ⟨h.below.trans (hk.below (fun j hj => h1 j (by omega)) (by have := h.below.size; omega)), h.rd.keep hk (h1 _ (by omega)) (fun q e => h1 q (.inr (h.off q e))), h.ok, h.off, hk.blk h.p (h1 _ (by omega)), hk.blk h.a (h1 _ (by omega)), hk.blk h.e (h1 _ (by omega)), h.eq⟩
theorem RX.mv {N : Nat} {w : World} {a : Nat} {x : Int} {A B : World} {T : Nat → Prop} (h : RX N w a x A) (hN : w.heap.size = N) (hk : Keep T A B) (h1 : ∀ j, j < N + 5 ∨ N + 9 ≤ j → T j) : RX N w a x B :=
  ⟨h.below.trans (hk.below (fun j hj => h1 j (by omega)) (by have := h.below.size; omega)), hk.blk h.p (h1 _ (by omega)), hk.blk h.a (h1 _ (by omega)), hk.blk h.e (h1 _ (by omega))⟩
theorem results_read15 {fn : Func} {tmps : Array Value} {W : World} {g : Nat} {v : Value} {a x : Int} (hres : fn.results = #[.cell 2 22, .cell 3 3, .cell 4 24]) (h2 : tmps[2]? = some (.pointer (some ⟨g, 0, none⟩))) (h3 : tmps[3]? = some (.pointer (some ⟨g + 1, 0, none⟩))) (h4 : tmps[4]? = some (.pointer (some ⟨g + 1 + 1, 0, none⟩)))
    (cp : W.cell? ⟨g, 0, none⟩ = some v) (ca : W.cell? ⟨g + 1, 0, none⟩ = some (.int .i64 a)) (ce : W.cell? ⟨g + 1 + 1, 0, none⟩ = some (.int .i64 x)) (hv : ∃ a l c, v = .slice a l c) :
    (results fn tmps).run Tryz.prog W = .ok (.tuple #[v, .int .i64 a, .int .i64 x]) W := by
  obtain ⟨a', l', c', rfl⟩ := hv
  simp [results, hres, h2, h3, h4, go_sem, cp, ca, ce]
def ReadQ15 (N : Nat) (w : World) (r : List Sg × Nat × Int) (e : Ending) (w' : World) : Prop := ∃ u, e = .returned (.tuple #[u, .int .i64 (r.2.1 : Int), .int .i64 r.2.2]) ∧ OwnS w' N 53 u r.1 ∧ Below N w w'
set_option maxHeartbeats 4000000 in
set_option maxRecDepth 100000 in
theorem Read_c (l : Wd) (w : World) (hr : Rdd w) (hl : l.length ≤ 4000000) : Calls Tryz.prog 13 #[.string ⟨l.toArray⟩] w (ReadQ15 w.heap.size w (readT l)) := by
  obtain ⟨N, hN⟩ : ∃ N, w.heap.size = N := ⟨_, rfl⟩
  have HE : Hid (Ev N w) := by rw [← hN]; exact ev_of hr
  have HN := Lib.hid hN
  have HL := Lib.hid hl
  obtain ⟨ws, hws⟩ : ∃ ws, wordsL l = ws := ⟨_, rfl⟩
  have HWS := Lib.hid hws
  have HWL : Hid (∀ x ∈ ws, x ≠ [] ∧ x.length ≤ 4294967280) := fun x hx => by
    rw [← hws] at hx
    exact ⟨(wordsL_are l x hx).ne, Nat.le_trans (word_len l x hx) (by omega)⟩
  have HWN : Hid (ws.length ≤ 4000000) := by unfold Hid; rw [← hws]; exact Nat.le_trans (wordsL_len l) hl
  unfold readT
  rw [hws, hN]
  clear hr hl hws
  refine callsIn_wide.1 (callsIn_of_wp_marks (n := 9) Tryz.func13 rfl trivial (wpIn_wide.2 ?_))
  simp only [Tryz.ntmps13, List.size_toArray, List.length_cons, List.length_nil, Nat.reduceAdd, Nat.reduceSub, Array.replicate_succ, Array.replicate_zero, List.push_toArray, List.append_toArray, List.nil_append, List.cons_append]
  go_wp2_with fail
  refine (words_c l _).mono ?_
  rintro e w1 ⟨rfl, rfl⟩
  go_wp2_with fail
  obtain ⟨W, hW⟩ : ∃ W, (((((w.alloc (.cells #[.slice none 0 0] 22)).alloc (.cells #[.int .i64 0] 3)).alloc (.cells #[.int .i64 0] 24)).alloc (.cells (cellsR Rs.none (.slice none 0 0)) 59)).alloc (.cells #[.string ⟨l.toArray⟩] 9)) = W := ⟨_, rfl⟩
  have hz : W.heap.size = N + 5 := by rw [← hW]; simp [hN]
  have hB : Below N w W := by
    rw [← hW]
    exact (((((Below.refl _ _).alloc (by omega) _).alloc (by simp; omega) _).alloc (by simp; omega) _).alloc (by simp; omega) _).alloc (by simp; omega) _
  have hp : Blk W N 22 #[.slice none 0 0] := by rw [← hW]; exact (((((Blk.newAt _ _ _ hN).alloc _).alloc _).alloc _).alloc _)
  have ha : Blk W (N + 1) 3 #[.int .i64 0] := by rw [← hW]; exact ((((Blk.newAt _ _ _ (by simp; omega)).alloc _).alloc _).alloc _)
  have he : Blk W (N + 1 + 1) 24 #[.int .i64 0] := by rw [← hW]; exact (((Blk.newAt _ _ _ (by simp; omega)).alloc _).alloc _)
  have hrd : Blk W (N + 1 + 1 + 1) 59 (cellsR Rs.none (.slice none 0 0)) := by rw [← hW]; exact ((Blk.newAt _ _ _ (by simp; omega)).alloc _)
  have hs : Blk W (N + 1 + 1 + 1 + 1) 9 #[.string ⟨l.toArray⟩] := by rw [← hW]; exact Blk.newAt _ _ _ (by simp; omega)
  have S0 : Hid (RS N w ws 0 Rs.none (.slice none 0 0) W) := ⟨hB, ⟨hrd, OwnS.nil _ _ _, by omega, by omega⟩, OkR.none, (fun q e => by cases e), hp, ha, he, rfl⟩
  have HS := Lib.hid hs
  have HZ := Lib.hid hz
  change Code.wp _ _ _ _ ((((((w.alloc (.cells #[.slice none 0 0] 22)).alloc (.cells #[.int .i64 0] 3)).alloc (.cells #[.int .i64 0] 24)).alloc (.cells (cellsR Rs.none (.slice none 0 0)) 59)).alloc (.cells #[.string ⟨l.toArray⟩] 9)))
  rw [hW]
  clear hW hB hp ha he hrd hs
  refine wp_words (ws := ws) (fun j => j < N ∨ j = N + 1 + 1 + 1 + 1) rfl rfl (fun j hj => by omega) (fun _ _ => rfl)
    (fun V hV => by rw [← HWS.out]; exact words1_c (N + 1 + 1 + 1 + 1) _ l V (.inr rfl) (fun j hj => by have := hV.size; omega) ((hV.cell trivial HS.out.lt).trans (HS.out.cell 0)) (by have := HL.out; omega))
    (fun k A => ∃ st v, RS N w ws k st v A) (fun k A B ⟨st, v, h⟩ hk => ⟨st, v, h.mv HN.out hk (fun j hj => by omega)⟩)
    (fun A => ∃ a x, RX N w a x A ∧ readR Rs.none 0 ws = ([], a, x)) (fun A B ⟨a, x, h, e⟩ hk => ⟨a, x, h.mv HN.out hk (fun j hj => by omega), e⟩)
    ⟨_, _, S0.out⟩
    (fun x => #[.string ⟨l.toArray⟩, undef, .pointer (some ⟨N, 0, none⟩), .pointer (some ⟨N + 1, 0, none⟩), .pointer (some ⟨N + 1 + 1, 0, none⟩), .pointer (some ⟨N + 1 + 1 + 1, 0, none⟩), .string ⟨x.toArray⟩, undef, .string ⟨l.toArray⟩, .func (.func 44) #[] #[.pointer (some ⟨N + 1 + 1 + 1 + 1, 0, none⟩)], .string ⟨x.toArray⟩, undef, undef, undef, undef, undef, undef, undef, undef, undef, undef, undef, undef, undef, undef, undef])
    ?assign ?body ?done ?stop
  case assign =>
    intro L x A K hK
    simp only [wdArgs]
    gi_wp2
    exact hK
  case body =>
    rintro L i x A o B hx ⟨st, v, hv⟩ hN2 hB
    have kAB : Keep (fun j => j ≠ W.heap.size + 1) A B := by rw [hB]; exact Keep.putObj _ _ _ (by simp)
    have hvB := Lib.hid (hv.mv HN.out kAB (fun j hj => by omega))
    have HZB : Hid (N + 9 ≤ B.heap.size) := by have := kAB.size; unfold Hid; omega
    obtain ⟨hxe, hxl⟩ := HWL.out x (List.mem_of_getElem? hx)
    have HX := Lib.hid hx
    have HIL : Hid (i < ws.length) := (List.getElem?_eq_some_iff.1 hx).1
    have HWC := Lib.hid (word_c N (N + 1 + 1 + 1) st v x B (HE.out.on hvB.out.below) hvB.out.rd hxl hvB.out.ok hxe)
    have HD : Hid (readR Rs.none 0 ws = match stepR st x with | .error e => ([], i, e) | .ok st' => readR st' (i + 1) (ws.drop (i + 1))) := by
      unfold Hid
      rw [hvB.out.eq, drop_at15 hx, readR]
      rfl
    clear hv hN2 hB kAB hxe hxl hx
    gi_wp2_with fail
    refine ⟨trivial, (CallsIn.inRound L (callsIn_wide.2 HWC.out)).mono ?_⟩
    intro e w2 hq
    cases hst : stepR st x with
    | ok st' =>
      rw [hst] at hq HD
      obtain ⟨rfl, v', hq1, hq2, hq3⟩ := hq
      have HOK := Lib.hid (hvB.out.ok.step x hst)
      dsimp only at HD
      have hoff : ∀ q, v'.ownBlock = some q → N + 9 ≤ q := fun q e => by
        rcases hq3 with e2 | ⟨k, e2, hk⟩
        · exact hvB.out.off q (by rw [← e2]; exact e)
        · rw [e2] at e; cases e; have := HZB.out; omega
      have KT : ∀ j, j < N + 5 → j ≠ N + 1 + 1 + 1 → j ≠ N + 1 + 1 + 1 ∧ v.ownBlock ≠ some j := fun j hj hj2 => ⟨hj2, fun e => by have := hvB.out.off j e; omega⟩
      have H2 : Hid (Keep (fun j => j ≠ N + 1 + 1 + 1 ∧ v.ownBlock ≠ some j) B w2 ∧ RdAt N (N + 1 + 1 + 1) st' v' w2 ∧ (∀ q, v'.ownBlock = some q → N + 9 ≤ q) ∧ Blk w2 N 22 #[.slice none 0 0] ∧ Blk w2 (N + 1) 3 #[.int .i64 (i : Int)] ∧ Blk w2 (N + 1 + 1) 24 #[.int .i64 0]) :=
        ⟨hq2, hq1, hoff, hq2.blk hvB.out.p (KT _ (by omega) (by omega)), hq2.blk hvB.out.a (KT _ (by omega) (by omega)), hq2.blk hvB.out.e (KT _ (by omega) (by omega))⟩
      have ca : w2.cell? ⟨N + 1, 0, none⟩ = some (.int .i64 (i : Int)) := H2.out.2.2.2.2.1.cell 0
      have fa := H2.out.2.2.2.2.1.free 0
      have la := H2.out.2.2.2.2.1.lt
      have hi1 : (i : Int) ≤ 4000000 := by have := HIL.out; have := HWN.out; omega
      clear hst hq1 hq2 hq3 hoff KT
      gi_wp2_with fail
      have ks : ∀ S : Nat → Prop, ¬ S (N + 1) → Keep S w2 (w2.setCell ⟨N + 1, 0, none⟩ (.int .i64 ((i : Int) + 1))) := fun S hS => Keep.setCell _ _ _ hS
      have KR : Keep (RoundL (fun j => j < N ∨ j = N + 1 + 1 + 1 + 1) W.heap.size) B w2 := H2.out.1.mono fun j hj => ⟨by simp only [RoundL] at hj; have := HZ.out; omega, fun e => by have := hvB.out.off j e; simp only [RoundL] at hj; have := HZ.out; omega⟩
      refine ⟨KR.trans (ks _ (by simp only [RoundL]; have := HZ.out; omega)), st', v', ?_⟩
      have kb := ks (fun j => j ≠ N + 1) (by simp)
      have hzB := hvB.out.below.size
      have hNW := HN.out
      have hzw := H2.out.1.size
      have ha2 : Blk (w2.setCell ⟨N + 1, 0, none⟩ (.int .i64 ((i : Int) + 1))) (N + 1) 3 #[.int .i64 ((i + 1 : Nat) : Int)] := by
        have := H2.out.2.2.2.2.1.set 0 (.int .i64 ((i : Int) + 1))
        simpa using this
      exact ⟨(hvB.out.below.trans (H2.out.1.below (fun j hj => ⟨by omega, fun e => by have := hvB.out.off j e; omega⟩) (by omega))).trans ((ks (fun j => j < N) (by omega)).below (fun _ hj => hj) (by omega)), H2.out.2.1.keep kb (by omega) (fun q e => by have := H2.out.2.2.1 q e; omega), HOK.out, H2.out.2.2.1, kb.blk H2.out.2.2.2.1 (by omega), ha2, kb.blk H2.out.2.2.2.2.2 (by omega), HD.out⟩
    | error y =>
      rw [hst] at hq HD
      obtain ⟨rfl, hq1⟩ := hq
      dsimp only at HD
      have hy : (y != 0) = true := by
        have : y ≠ 0 := fun e => step_ne0 st x (by rw [hst, e])
        simpa using this
      have KT : ∀ j, j < N + 5 → j ≠ N + 1 + 1 + 1 → j ≠ N + 1 + 1 + 1 ∧ v.ownBlock ≠ some j := fun j hj hj2 => ⟨hj2, fun e => by have := hvB.out.off j e; omega⟩
      have H2 : Hid (Keep (fun j => j ≠ N + 1 + 1 + 1 ∧ v.ownBlock ≠ some j) B w2 ∧ Blk w2 N 22 #[.slice none 0 0] ∧ Blk w2 (N + 1) 3 #[.int .i64 (i : Int)] ∧ Blk w2 (N + 1 + 1) 24 #[.int .i64 0]) :=
        ⟨hq1, hq1.blk hvB.out.p (KT _ (by omega) (by omega)), hq1.blk hvB.out.a (KT _ (by omega) (by omega)), hq1.blk hvB.out.e (KT _ (by omega) (by omega))⟩
      have cp : w2.cell? ⟨N, 0, none⟩ = some (.slice none 0 0) := H2.out.2.1.cell 0
      have ca : w2.cell? ⟨N + 1, 0, none⟩ = some (.int .i64 (i : Int)) := H2.out.2.2.1.cell 0
      have ce : w2.cell? ⟨N + 1 + 1, 0, none⟩ = some (.int .i64 0) := H2.out.2.2.2.cell 0
      have fp := H2.out.2.1.free 0
      have fa := H2.out.2.2.1.free 0
      have fe := H2.out.2.2.2.free 0
      have lp := H2.out.2.1.lt
      have la := H2.out.2.2.1.lt
      have le := H2.out.2.2.2.lt
      clear hst hq1 KT
      gi_wp2_with fail
      have HF : Hid (∃ a x, RX N w a x (((w2.setCell ⟨N, 0, none⟩ (.slice none 0 0)).setCell ⟨N + 1, 0, none⟩ (.int .i64 (i : Int))).setCell ⟨N + 1 + 1, 0, none⟩ (.int .i64 y)).drew ∧ readR Rs.none 0 ws = ([], a, x)) := by
        have hzB := hvB.out.below.size
        have hNW := HN.out
        have hzw := H2.out.1.size
        have b2 : Below N w w2 := hvB.out.below.trans (H2.out.1.below (fun j hj => ⟨by omega, fun e => by have := hvB.out.off j e; omega⟩) (by omega))
        refine ⟨i, y, ⟨Below.drew (((b2.setCell (by simp) _).setCell (by simp only; omega) _).setCell (by simp only; omega) _), ?_, ?_, ?_⟩, HD.out⟩
        · have := ((H2.out.2.1.set 0 (.slice none 0 0)).other ⟨N + 1, 0, none⟩ (.int .i64 (i : Int)) (by simp)).other ⟨N + 1 + 1, 0, none⟩ (.int .i64 y) (by simp only; omega)
          simp at this; exact this
        · have := ((H2.out.2.2.1.other ⟨N, 0, none⟩ (.slice none 0 0) (by simp)).set 0 (.int .i64 (i : Int))).other ⟨N + 1 + 1, 0, none⟩ (.int .i64 y) (by simp)
          simp at this; exact this
        · have := ((H2.out.2.2.2.other ⟨N, 0, none⟩ (.slice none 0 0) (by simp only; omega)).other ⟨N + 1, 0, none⟩ (.int .i64 (i : Int)) (by simp)).set 0 (.int .i64 y)
          simp at this; exact this
      have HKK : Hid (Keep (RoundL (fun j => j < N ∨ j = N + 1 + 1 + 1 + 1) W.heap.size) B (((w2.setCell ⟨N, 0, none⟩ (.slice none 0 0)).setCell ⟨N + 1, 0, none⟩ (.int .i64 (i : Int))).setCell ⟨N + 1 + 1, 0, none⟩ (.int .i64 y)).drew) := by
        have hz2 := HZ.out
        have KR : Keep (RoundL (fun j => j < N ∨ j = N + 1 + 1 + 1 + 1) W.heap.size) B w2 := H2.out.1.mono fun j hj => ⟨by simp only [RoundL] at hj; omega, fun e => by have := hvB.out.off j e; simp only [RoundL] at hj; omega⟩
        refine (((KR.trans (Keep.setCell _ _ _ ?_)).trans (Keep.setCell _ _ _ ?_)).trans (Keep.setCell _ _ _ ?_)).trans (Keep.drew _ _)
        all_goals (simp only [RoundL]; omega)
      gi_region
      all_goals
        gi_wp2
        exact ⟨HKK.out, HF.out⟩
  case done =>
    rintro D ⟨st, v, hv⟩ hD
    have HV := Lib.hid hv
    have HD := Lib.hid hD
    have HEQ : Hid (readR Rs.none 0 ws = if 0 < st.due then ([], ws.length, 20) else (st.l, ws.length, 0)) := by
      unfold Hid
      rw [hv.eq, List.drop_length, readR]
    have cd := hv.rd.cd
    have cr := hv.rd.c0
    have cp : D.cell? ⟨N, 0, none⟩ = some (.slice none 0 0) := hv.p.cell 0
    have ca : D.cell? ⟨N + 1, 0, none⟩ = some (.int .i64 (ws.length : Int)) := hv.a.cell 0
    have ce : D.cell? ⟨N + 1 + 1, 0, none⟩ = some (.int .i64 0) := hv.e.cell 0
    have fp := hv.p.free 0
    have fa := hv.a.free 0
    have fe := hv.e.free 0
    have lp := hv.p.lt
    have la := hv.a.lt
    have le := hv.e.lt
    obtain ⟨va, vc, rfl⟩ := hv.rd.row.row.shape
    obtain ⟨d, hd⟩ : ∃ d, st.due = d := ⟨_, rfl⟩
    obtain ⟨m, hm⟩ : ∃ m, st.l.length = m := ⟨_, rfl⟩
    rw [hd] at cd HEQ
    rw [hm] at cr HV
    clear hv hD hd hm
    by_cases hdp : 0 < d
    · have HE2 : Hid (readR Rs.none 0 ws = ([], ws.length, 20)) := by unfold Hid; rw [HEQ.out, if_pos hdp]
      have hz2 := HZ.out
      have HW3 : Hid (RX N w ws.length 20 (((D.setCell ⟨N, 0, none⟩ (.slice none 0 0)).setCell ⟨N + 1, 0, none⟩ (.int .i64 (ws.length : Int))).setCell ⟨N + 1 + 1, 0, none⟩ (.int .i64 20)).drew ∧ (((D.setCell ⟨N, 0, none⟩ (.slice none 0 0)).setCell ⟨N + 1, 0, none⟩ (.int .i64 (ws.length : Int))).setCell ⟨N + 1 + 1, 0, none⟩ (.int .i64 20)).drew.heap[W.heap.size]? = some (.deferred (some []))) := by
        refine ⟨⟨Below.drew (((HV.out.below.setCell (by simp) _).setCell (by simp only; omega) _).setCell (by simp only; omega) _), ?_, ?_, ?_⟩, ?_⟩
        · have := ((HV.out.p.set 0 (.slice none 0 0)).other ⟨N + 1, 0, none⟩ (.int .i64 (ws.length : Int)) (by simp)).other ⟨N + 1 + 1, 0, none⟩ (.int .i64 20) (by simp only; omega)
          simp at this; exact this
        · have := ((HV.out.a.other ⟨N, 0, none⟩ (.slice none 0 0) (by simp)).set 0 (.int .i64 (ws.length : Int))).other ⟨N + 1 + 1, 0, none⟩ (.int .i64 20) (by simp)
          simp at this; exact this
        · have := ((HV.out.e.other ⟨N, 0, none⟩ (.slice none 0 0) (by simp only; omega)).other ⟨N + 1, 0, none⟩ (.int .i64 (ws.length : Int)) (by simp)).set 0 (.int .i64 20)
          simp at this; exact this
        · have k3 : Keep (fun j => j = W.heap.size) D (((D.setCell ⟨N, 0, none⟩ (.slice none 0 0)).setCell ⟨N + 1, 0, none⟩ (.int .i64 (ws.length : Int))).setCell ⟨N + 1 + 1, 0, none⟩ (.int .i64 20)) := by
            refine ((Keep.setCell _ _ _ ?_).trans (Keep.setCell _ _ _ ?_)).trans (Keep.setCell _ _ _ ?_)
            all_goals (simp only; omega)
          exact (k3.block _ rfl (Array.getElem?_eq_some_iff.1 HD.out).1).trans HD.out
      go_wp2_with fail
      go_region
      all_goals
        go_wp2_with fail
        refine postM_ret (.tuple #[.slice none 0 0, .int .i64 (ws.length : Int), .int .i64 20]) HW3.out.2 (results_read15 rfl rfl rfl rfl ((HW3.out.1.p.putOther _ (by omega)).cell 0) ((HW3.out.1.a.putOther _ (by omega)).cell 0) ((HW3.out.1.e.putOther _ (by omega)).cell 0) ⟨_, _, _, rfl⟩) ?_
        rw [HE2.out]
        exact ⟨_, rfl, OwnS.nil _ _ _, below_put HW3.out.1.below _ (by omega) (by have := HW3.out.1.below.size; have := HN.out; omega)⟩
    · obtain rfl : d = 0 := by omega
      have HE2 : Hid (readR Rs.none 0 ws = (st.l, ws.length, 0)) := by unfold Hid; rw [HEQ.out]; rfl
      have hz2 := HZ.out
      have HW3 : Hid (Below N w (((D.setCell ⟨N, 0, none⟩ (.slice va m vc)).setCell ⟨N + 1, 0, none⟩ (.int .i64 (ws.length : Int))).setCell ⟨N + 1 + 1, 0, none⟩ (.int .i64 0)).drew ∧ Blk (((D.setCell ⟨N, 0, none⟩ (.slice va m vc)).setCell ⟨N + 1, 0, none⟩ (.int .i64 (ws.length : Int))).setCell ⟨N + 1 + 1, 0, none⟩ (.int .i64 0)).drew N 22 #[.slice va m vc] ∧ Blk (((D.setCell ⟨N, 0, none⟩ (.slice va m vc)).setCell ⟨N + 1, 0, none⟩ (.int .i64 (ws.length : Int))).setCell ⟨N + 1 + 1, 0, none⟩ (.int .i64 0)).drew (N + 1) 3 #[.int .i64 (ws.length : Int)] ∧ Blk (((D.setCell ⟨N, 0, none⟩ (.slice va m vc)).setCell ⟨N + 1, 0, none⟩ (.int .i64 (ws.length : Int))).setCell ⟨N + 1 + 1, 0, none⟩ (.int .i64 0)).drew (N + 1 + 1) 24 #[.int .i64 0] ∧ OwnS (((D.setCell ⟨N, 0, none⟩ (.slice va m vc)).setCell ⟨N + 1, 0, none⟩ (.int .i64 (ws.length : Int))).setCell ⟨N + 1 + 1, 0, none⟩ (.int .i64 0)).drew N 53 (.slice va m vc) st.l ∧ (((D.setCell ⟨N, 0, none⟩ (.slice va m vc)).setCell ⟨N + 1, 0, none⟩ (.int .i64 (ws.length : Int))).setCell ⟨N + 1 + 1, 0, none⟩ (.int .i64 0)).drew.heap[W.heap.size]? = some (.deferred (some []))) := by
        have k3 : Keep (fun j => N + 5 ≤ j) D (((D.setCell ⟨N, 0, none⟩ (.slice va m vc)).setCell ⟨N + 1, 0, none⟩ (.int .i64 (ws.length : Int))).setCell ⟨N + 1 + 1, 0, none⟩ (.int .i64 0)) := by
          refine ((Keep.setCell _ _ _ ?_).trans (Keep.setCell _ _ _ ?_)).trans (Keep.setCell _ _ _ ?_)
          all_goals (simp only; omega)
        refine ⟨Below.drew (((HV.out.below.setCell (by simp) _).setCell (by simp only; omega) _).setCell (by simp only; omega) _), ?_, ?_, ?_, ?_, ?_⟩
        · have := ((HV.out.p.set 0 (.slice va m vc)).other ⟨N + 1, 0, none⟩ (.int .i64 (ws.length : Int)) (by simp)).other ⟨N + 1 + 1, 0, none⟩ (.int .i64 0) (by simp only; omega)
          simp at this; exact this
        · have := ((HV.out.a.other ⟨N, 0, none⟩ (.slice va m vc) (by simp)).set 0 (.int .i64 (ws.length : Int))).other ⟨N + 1 + 1, 0, none⟩ (.int .i64 0) (by simp)
          simp at this; exact this
        · have := ((HV.out.e.other ⟨N, 0, none⟩ (.slice va m vc) (by simp only; omega)).other ⟨N + 1, 0, none⟩ (.int .i64 (ws.length : Int)) (by simp)).set 0 (.int .i64 0)
          simp at this; exact this
        · exact owns_keep HV.out.rd.row (k3.trans (Keep.drew _ _)) (fun q e => by have := HV.out.off q e; omega)
        · exact (k3.block _ (by omega) (Array.getElem?_eq_some_iff.1 HD.out).1).trans HD.out
      go_wp2_with fail
      go_region
      all_goals
        go_wp2_with fail
        refine postM_ret (.tuple #[.slice va m vc, .int .i64 (ws.length : Int), .int .i64 0]) HW3.out.2.2.2.2.2 (results_read15 rfl rfl rfl rfl ((HW3.out.2.1.putOther _ (by omega)).cell 0) ((HW3.out.2.2.1.putOther _ (by omega)).cell 0) ((HW3.out.2.2.2.1.putOther _ (by omega)).cell 0) ⟨_, _, _, rfl⟩) ?_
        rw [HE2.out]
        exact ⟨_, rfl, owns_keep HW3.out.2.2.2.2.1 (Keep.putObj (S := fun j => j ≠ W.heap.size) _ _ _ (by simp)) (fun q e => by have := HV.out.off q e; omega), below_put HW3.out.1 _ (by omega) (by have := HW3.out.1.size; have := HN.out; omega)⟩
  case stop =>
    rintro D ⟨a, x, h, e⟩ hD
    have hz2 := HZ.out
    rw [e]
    refine postM_ret (.tuple #[.slice none 0 0, .int .i64 (a : Int), .int .i64 x]) hD (results_read15 rfl rfl rfl rfl ((h.p.putOther _ (by omega)).cell 0) ((h.a.putOther _ (by omega)).cell 0) ((h.e.putOther _ (by omega)).cell 0) ⟨_, _, _, rfl⟩) ⟨_, rfl, OwnS.nil _ _ _, below_put h.below _ (by omega) (by have := h.below.size; have := HN.out; omega)⟩
end Go.Proofs.YtbnbglngpgikfaaGreatDoor
