/- Layer 11: package image's Bytes. -/
import Derived.Test.YtoppmlfibllhlaaRi
import Derived.Test.YtoppmlfibllhlaaKa
namespace Go.Proofs.Ytoppmlfibllhlaa
open Go.RowKit Go.Shelf
attribute [local go_sem] Oper.semAt_some
theorem run_append_bytsL (w : World) (t ty : TypeId) (ht : Try.prog.underlying t = some (.slice 5)) (base : Nat) (v : Value) (E : List Int) (hown : OwnB w base v E) (ad : Addr) (k c : Nat) (Y : List Int) (hk : Y.length = k) (hx : ∀ j u, (bytV Y)[j]? = some u → w.cell? (ad.add j) = some u) (hl : E.length + k ≤ 1000000) (hbase : base ≤ w.heap.size) :
    ∃ v' w', (Builtin.append_ #[t, t] ty #[v, .slice (some ad) k c]).run Try.prog w = .ok v' w' ∧ OwnB w' base v' (E ++ Y) ∧ w.grownBy w' v.ownBlock ∧ Moved w v v' := by
  obtain ⟨i, hi, hz0, hz1, hz2⟩ := info_parts infoB
  obtain ⟨m, hm⟩ : ∃ m, E.length = m := ⟨_, rfl⟩
  unfold OwnB at hown ⊢
  rw [hm] at hown hl
  have hn : (bytV Y).length = k * 1 := by rw [List.length_map]; omega
  have h1 : ∀ u ∈ bytV Y, u.oneCell' = true := fun u hu => by obtain ⟨x, _, rfl⟩ := List.mem_map.1 hu; rfl
  have key : ∀ b, w.ownsRow b 5 1 v m (bytV E) → b ≤ w.heap.size → _ := fun b ho hb => run_append_own (P := Try.prog) w b t ty 5 i (.int .u8 0) 1 1 ht hi hz0 hz1 hz2 rfl (by decide) v m (bytV E) ho ad k c (bytV Y) hn hx h1 (by unfold maxLen; omega) (by omega) hb
  obtain ⟨v', w', hr, ho, hg, _⟩ := key base hown hbase
  have hfin : w'.ownsRow base 5 1 v' (E ++ Y).length (bytV (E ++ Y)) := by
    rw [List.length_append, hm, hk, show bytV (E ++ Y) = bytV E ++ bytV Y from List.map_append]
    exact ho
  refine ⟨v', w', hr, hfin, hg, ?_⟩
  have hlen := hown.1
  rcases hown.2 with ⟨rfl, h0⟩ | ⟨g, cap, cur, rfl, hb, hgg, hc, hmm, hs, htk⟩
  · subst h0
    have hxs : bytV E = [] := List.eq_nil_of_length_eq_zero (by omega)
    obtain ⟨v2, w2, hr2, ho2, _, _⟩ := key w.heap.size (by rw [hxs]; exact World.ownsRow_nil _ _ _ _) (Nat.le_refl _)
    obtain ⟨rfl, rfl⟩ := ok_inj hr hr2
    cases hv : v'.ownBlock with
    | none => exact .inl hv
    | some q => exact .inr ⟨q, hv, (ho2.lt q hv).1⟩
  · by_cases hroom : m + k ≤ cap
    · obtain ⟨w2, hr2, _⟩ := run_append_fits (P := Try.prog) w base t ty 5 i 1 ht hi hz1 g m cap (bytV E) hown ad k c (bytV Y) hn hx h1 hroom
      obtain ⟨rfl, _⟩ := ok_inj hr hr2
      exact .inl rfl
    · have hr2 := run_append_grow (P := Try.prog) w t ty 5 i _ ht hi hz0 ⟨g, 0, none⟩ m cap (bytV E) (by rw [hlen, hz1]) (fun j u hj => by have := hown.cells (g := g) rfl j u hj; exact this) ad k c (bytV Y) (by rw [hn, hz1]) hx (by omega) (by omega) (by rw [hz2]; exact growslice_fits (by omega) (by omega))
      obtain ⟨rfl, _⟩ := ok_inj hr hr2
      exact .inr ⟨_, rfl, Nat.le_refl _⟩
/-- An append of bytes inside a round. -/
theorem wpIn_app_byts {F : Fence} {nF : Nat} {o : Oper} {a : Act} {w : World} {K : Act → World → Prop} {Q : Exit → Act → World → Prop} (s x : Operand) (t : TypeId)
    (ho : o.op = .call { callee := .builtin .append, args := #[s, x], argTypes := #[t, t] }) (ht : Try.prog.underlying t = some (.slice 5))
    (base : Nat) (v : Value) (E : List Int) (hs : a.eval s = v) (hown : OwnB w base v E) (ad : Addr) (k c : Nat) (Y : List Int) (hxe : a.eval x = .slice (some ad) k c) (hk : Y.length = k) (hx : ∀ j u, (bytV Y)[j]? = some u → w.cell? (ad.add j) = some u) (hl : E.length + k ≤ 1000000) (hbase : base ≤ w.heap.size)
    (h : ∀ v' w', OwnB w' base v' (E ++ Y) → w.grownBy w' v.ownBlock → Moved w v v' → K (a.put o.dst v') w') : o.wpIn F nF Try.prog a w K Q := by
  obtain ⟨v', w', hr, h2, h3, h4⟩ := run_append_bytsL w t o.type ht base v E hown ad k c Y hk hx hl hbase
  unfold Oper.wpIn
  refine ⟨by simp [Oper.about, ho, resolve, Target.leads, Sem.run_pure], ?_⟩
  rw [Oper.semAt_plain F _ _ (by rw [ho]; intro c hc'; cases hc')]
  simp [execOp, ho, resolve, invoke, builtin, hs, hxe, hr, Result.andThen]
  exact h v' w' h2 h3 h4
theorem wpListIn_app_byts {F : Fence} {nF : Nat} {w : World} {ops : Array Oper} {rest : List Oper} {o : Oper} {a : Act} {Q : Exit → Act → World → Prop} (hgd : o.guard = none) (s x : Operand) (t : TypeId)
    (ho : o.op = .call { callee := .builtin .append, args := #[s, x], argTypes := #[t, t] }) (ht : Try.prog.underlying t = some (.slice 5))
    (base : Nat) (v : Value) (E : List Int) (hs : a.eval s = v) (hown : OwnB w base v E) (ad : Addr) (k c : Nat) (Y : List Int) (hxe : a.eval x = .slice (some ad) k c) (hk : Y.length = k) (hx : ∀ j u, (bytV Y)[j]? = some u → w.cell? (ad.add j) = some u) (hl : E.length + k ≤ 1000000) (hbase : base ≤ w.heap.size)
    (h : ∀ v' w', OwnB w' base v' (E ++ Y) → w.grownBy w' v.ownBlock → Moved w v v' → wpListIn F nF Try.prog ops Q rest (a.put o.dst v') w') : wpListIn F nF Try.prog ops Q (o :: rest) a w :=
  wpListIn_plain hgd fun _ hK => wpIn_app_byts s x t ho ht base v E hs hown ad k c Y hxe hk hx hl hbase fun v' w' h2 h3 h4 => hK _ _ (h v' w' h2 h3 h4)
theorem byt_src {w : World} {g : Nat} {Y : List Int} {t : TypeId} (h : Blk w g t (bytV Y).toArray) : ∀ j u, (bytV Y)[j]? = some u → w.cell? ((⟨g, 0, none⟩ : Addr).add j) = some u := fun j u hj => by
  rw [Addr.add_lit, Nat.zero_add, h.cell]
  simpa using hj
theorem results_pair {fn : Func} {tmps : Array Value} {w : World} {u v : Value} (hres : fn.results = #[.tmp 2, .tmp 3]) (ha : tmps[2]? = some u) (hb : tmps[3]? = some v) : (results fn tmps).run Try.prog w = .ok (.tuple #[u, v]) w := by
  simp [results, hres, ha, hb, go_sem]
/-- The bytes as they grow, in a variable of the call's own. -/
structure ByS (base N : Nat) (S : Nat → Prop) (w2 : World) (gb : Nat) (v : Value) (E : List Int) (A : World) : Prop where
  var : Blk A gb 58 #[v]
  row : OwnB A base v E
  off : ∀ k, v.ownBlock = some k → N + 2 ≤ k ∨ k < N
  keep : Keep S w2 A
theorem ByS.ne {base N gb : Nat} {S : Nat → Prop} {w2 A : World} {v : Value} {E : List Int} (h : ByS base N S w2 gb v E A) : v.ownBlock ≠ some gb := owns_off h.row h.var (by decide)
theorem ByS.mv {base N gb : Nat} {S T : Nat → Prop} {w2 A B : World} {v : Value} {E : List Int} (h : ByS base N S w2 gb v E A) (hk : Keep T A B) (h1 : T gb) (h2 : ∀ k, v.ownBlock = some k → T k) (h3 : ∀ k, S k → T k) : ByS base N S w2 gb v E B :=
  ⟨hk.blk h.var h1, owns_keep h.row hk h2, h.off, h.keep.trans (hk.mono h3)⟩
theorem ByS.grow {base N gb : Nat} {S : Nat → Prop} {w2 A B : World} {v : Value} {E : List Int} (h : ByS base N S w2 gb v E A) (hb : Below A.heap.size A B) : ByS base N S w2 gb v E B :=
  h.mv (T := fun _ => True) (Keep.of_below hb) trivial (fun _ _ => trivial) (fun _ _ => trivial)
/-- Behind an append, and the store. -/
theorem ByS.app {base N gb : Nat} {S : Nat → Prop} {w2 A B : World} {v v' : Value} {E E' : List Int} (h : ByS base N S w2 gb v E A) (ho : OwnB B base v' E') (hg : A.grownBy B v.ownBlock) (hm : Moved A v v') (hN : N + 2 ≤ A.heap.size)
    (hS : ¬ S gb) (hS2 : ∀ k, v.ownBlock = some k → ¬ S k) : ByS base N S w2 gb v' E' (B.setCell ⟨gb, 0, none⟩ v') := by
  have hkg := Keep.of_grown hg
  have hvar : Blk B gb 58 #[v] := hkg.blk h.var h.ne
  have hne : v'.ownBlock ≠ some gb := owns_off ho hvar (by decide)
  refine ⟨hvar.put 0 _ _ rfl, owns_keep ho (Keep.setCell (S := fun k => k ≠ gb) _ _ _ (fun e => e rfl)) (fun k hk e => hne (by rw [hk, e])), fun k hk => ?_, (h.keep.trans (hkg.mono fun k hk e => hS2 k e hk)).trans (Keep.setCell _ _ _ hS)⟩
  rcases hm with hm | ⟨q, hq, hlt⟩
  · rw [hm] at hk; exact h.off k hk
  · rw [hq] at hk; cases hk; exact .inl (by omega)
theorem ByS.offs {base N gb bx : Nat} {S : Nat → Prop} {w2 A : World} {v x : Value} {E : List Int} (h : ByS base N S w2 gb v E A) (hx : Blk A bx 22 #[x]) : ∀ k, v.ownBlock = some k → base ≤ k ∧ k < A.heap.size ∧ k ≠ bx ∧ k ≠ gb ∧ (N + 2 ≤ k ∨ k < N) := fun k hk => by
  have h1 := World.ownsRow.lt h.row k hk
  exact ⟨h1.1, h1.2, fun e => owns_off h.row hx (by decide) (by rw [hk, e]), fun e => h.ne (by rw [hk, e]), h.off k hk⟩
set_option maxHeartbeats 4000000 in
set_option maxRecDepth 100000 in
theorem bytes_n (W H : Int) (s : Value) (l : List Col) (w : World) (row : RowK .u8 w s l) (hok : ∀ c ∈ l, OkC c) (hl : l.length ≤ 70000) (hr : rightIm W H l = false) : Calls Try.prog 25 #[.agg #[.int .i64 W, .int .i64 H, s]] w fun e w' => e = .returned (.tuple #[.slice none 0 0, .int .i64 30]) ∧ Below w.heap.size w w' := by
  have HCK : Hid (∀ A, Below w.heap.size w A → Calls Try.prog 15 #[.agg #[.int .i64 W, .int .i64 H, s]] A fun e w' => e = .returned (.int .i64 30) ∧ Below A.heap.size A w') := fun A hA => by
    have h := checkOk W H s l A (row.on hA) hok hl
    rw [hr] at h
    exact h
  obtain ⟨ao, cp, rfl⟩ := row.shape
  have B0 : Hid (Below w.heap.size w (w.alloc (.cells #[.int .i64 W, .int .i64 H, .slice ao l.length cp] 24))) := (Below.refl _ _).alloc (Nat.le_refl _) _
  clear row hok hl hr
  go_enter Try.func25, Try.ntmps25
  go_wp2_with fail
  refine (HCK.out _ B0.out).mono ?_
  rintro e w2 ⟨rfl, hb⟩
  have B2 : Hid (Below w.heap.size w w2) := B0.out.trans (hb.mono B0.out.size)
  clear hb
  go_wp2_with fail
  exact bodyPost_ret (results_pair rfl rfl rfl) rfl ⟨rfl, B2.out⟩
set_option maxHeartbeats 4000000 in
set_option maxRecDepth 100000 in
theorem bytes_y (W H : Int) (s : Value) (l : List Col) (w : World) (row : RowK .u8 w s l) (hok : ∀ c ∈ l, OkC c) (hl : l.length ≤ 70000) (hr : rightIm W H l = true) : Calls Try.prog 25 #[.agg #[.int .i64 W, .int .i64 H, s]] w fun e w' => ∃ v, e = .returned (.tuple #[v, .int .i64 0]) ∧ RowB w' v (bytesI W H l) ∧ Below w.heap.size w w' := by
  have HCK : Hid (∀ A, Below w.heap.size w A → Calls Try.prog 15 #[.agg #[.int .i64 W, .int .i64 H, s]] A fun e w' => e = .returned (.int .i64 0) ∧ Below A.heap.size A w') := fun A hA => by
    have h := checkOk W H s l A (row.on hA) hok hl
    rw [hr] at h
    exact h
  have hri := rightIm_iff.1 hr
  have h0 : 0 < l.length := by have := (mul_sides hri.1 hri.2.1 hri.2.2.1 hri.2.2.2.1).1; have := hri.2.2.2.2.1; omega
  obtain ⟨ao, cp, rfl⟩ := row.shape
  obtain ⟨bo, oo, rfl, hbo, hcols⟩ := row.addr h0
  have HCO : Hid (bo < w.heap.size ∧ ColsAt .u8 w bo oo l) := ⟨hbo, hcols⟩
  have HOK := Lib.hid hok
  obtain ⟨n, hn⟩ : ∃ n, l.length = n := ⟨_, rfl⟩
  have HN := Lib.hid hn
  obtain ⟨TOT, hTOT⟩ : ∃ T, bytesI W H l = T := ⟨_, rfl⟩
  obtain ⟨W1, hW1⟩ : ∃ z, W - 1 = z := ⟨_, rfl⟩
  obtain ⟨H1, hH1⟩ : ∃ z, H - 1 = z := ⟨_, rfl⟩
  have HT0 : Hid ([W1, H1] ++ runsB l n 0 = TOT) := by unfold Hid; rw [← hTOT, ← hW1, ← hH1, ← hn]; rfl
  have HBD : Hid (TOT.length ≤ 5 * n + 2 ∧ n ≤ 70000) := by unfold Hid; rw [← hTOT, ← hn]; exact ⟨bytesI_len W H l, hl⟩
  rw [hTOT]
  have eW : wrap64 (W - 1) = W1 := by rw [hW1]; exact wrapR _ (by omega) (by omega)
  have eH : wrap64 (H - 1) = H1 := by rw [hH1]; exact wrapR _ (by omega) (by omega)
  have uW : IntKind.u8.wrap W1 = W1 := i64_u8 (by omega) (by omega)
  have uH : IntKind.u8.wrap H1 = H1 := i64_u8 (by omega) (by omega)
  rw [hn] at HCK
  have B0 : Hid (Below w.heap.size w (w.alloc (.cells #[.int .i64 W, .int .i64 H, .slice (some ⟨bo, oo, none⟩) n cp] 24))) := (Below.refl _ _).alloc (Nat.le_refl _) _
  rw [hn]
  clear row hok hn hTOT hW1 hH1 hl hr hri h0 hbo hcols
  refine callsIn_wide.1 (callsIn_of_wp_marks (n := 9) Try.func25 rfl trivial (wpIn_wide.2 ?_))
  simp only [Try.ntmps25, List.size_toArray, List.length_cons, List.length_nil, Nat.reduceAdd, Nat.reduceSub, Array.replicate_succ, Array.replicate_zero, List.push_toArray, List.append_toArray, List.nil_append, List.cons_append]
  go_wp2_with fail
  refine (HCK.out _ B0.out).mono ?_
  rintro e w2 ⟨rfl, hb⟩
  have P2 : Hid (Below w.heap.size w w2 ∧ Blk w2 w.heap.size 24 #[.int .i64 W, .int .i64 H, .slice (some ⟨bo, oo, none⟩) n cp]) := ⟨B0.out.trans (hb.mono B0.out.size), (Blk.new _ _ _).grow hb⟩
  have P2S : Hid (w.heap.size ≤ w2.heap.size) := P2.out.1.size
  have m0 : w2.cell? ⟨w.heap.size, 0, none⟩ = some (.int .i64 W) := P2.out.2.cell 0
  have m1 : w2.cell? ⟨w.heap.size, 1, none⟩ = some (.int .i64 H) := P2.out.2.cell 1
  clear hb B0
  go_upto_region 5 with fail
  obtain ⟨w3, hw3⟩ : ∃ WW, (w2.alloc (.cells #[.int .u8 W1, .int .u8 H1] 5)).alloc (.cells #[.slice (some ⟨w2.heap.size, 0, none⟩) 2 2] 58) = WW := ⟨_, rfl⟩
  have P3 : Hid (Below w.heap.size w w3 ∧ Blk w3 w.heap.size 24 #[.int .i64 W, .int .i64 H, .slice (some ⟨bo, oo, none⟩) n cp] ∧ Blk w3 (w2.heap.size + 1) 58 #[.slice (some ⟨w2.heap.size, 0, none⟩) 2 2] ∧ OwnB w3 w2.heap.size (.slice (some ⟨w2.heap.size, 0, none⟩) 2 2) [W1, H1]) := by
    rw [← hw3]
    exact ⟨(P2.out.1.alloc P2.out.1.size _).alloc (Nat.le_trans P2.out.1.size (by simp)) _, (P2.out.2.alloc _).alloc _, Blk.newAt _ _ _ (by simp), (OwnB.made w2 (Nat.le_refl _) [W1, H1] 2 _ rfl rfl (by decide)).grow ((Below.refl _ _).alloc (Nat.le_refl _) _)⟩
  have z3 : Hid (w3.heap.size = w2.heap.size + 2) := by unfold Hid; rw [← hw3]; simp
  rw [hw3]
  clear hw3 m0 m1 eW eH uW uH
  have m2 : w3.cell? ⟨w.heap.size, 2, none⟩ = some (.slice (some ⟨bo, oo, none⟩) n cp) := P3.out.2.1.cell 2
  go_wp2_with fail
  refine (runs_c (some ⟨bo, oo, none⟩) n cp w3).mono ?_
  rintro e w4 ⟨rfl, hw4⟩
  have P4 : Hid (Below w.heap.size w w4 ∧ Blk w4 w.heap.size 24 #[.int .i64 W, .int .i64 H, .slice (some ⟨bo, oo, none⟩) n cp] ∧ Blk w4 (w2.heap.size + 1) 58 #[.slice (some ⟨w2.heap.size, 0, none⟩) 2 2] ∧ OwnB w4 w2.heap.size (.slice (some ⟨w2.heap.size, 0, none⟩) 2 2) [W1, H1]) := by
    rw [← hw4]
    exact ⟨P3.out.1.alloc P3.out.1.size _, P3.out.2.1.alloc _, P3.out.2.2.1.alloc _, P3.out.2.2.2.grow ((Below.refl _ _).alloc (Nat.le_refl _) _)⟩
  have K4 : Hid (Blk w4 w3.heap.size 22 #[.slice (some ⟨bo, oo, none⟩) n cp] ∧ w4.heap.size = w3.heap.size + 1) := by rw [← hw4]; exact ⟨Blk.new _ _ _, by simp⟩
  clear hw4 m2
  go_wp2_with fail
  have z4 : Hid (w4.heap.size = w2.heap.size + 3 ∧ w3.heap.size = w2.heap.size + 2) := by unfold Hid; have := K4.out.2; have := z3.out; omega
  obtain ⟨S, hS⟩ : ∃ S : Nat → Prop, S = fun k => k < w2.heap.size ∨ k = w3.heap.size := ⟨_, rfl⟩
  have HSI : Hid (∀ k, S k ↔ k < w2.heap.size ∨ k = w3.heap.size) := fun k => by rw [hS]
  clear hS HCK P2 P3
  refine wp_pairs (fnum := 64) (pv := .pointer (some ⟨w3.heap.size, 0, none⟩)) (ok := fun i => i < n) (it := fun i => ((runLen l i : Int), cAt l i)) (nx := fun i => i + runLen l i) S rfl rfl ?ks (fun _ _ => by simp [go_sem]) ?it
    (fun i A => ∃ v f E, ByS w2.heap.size w4.heap.size S w4 (w2.heap.size + 1) v E A ∧ E ++ runsB l f i = TOT ∧ n ≤ f + i ∧ i ≤ n ∧ w4.heap.size ≤ A.heap.size) ?hI
    (fun _ => False) (fun _ _ h _ => h) ?h0
    (fun x g => #[.agg #[.int .i64 W, .int .i64 H, .slice (some ⟨bo, oo, none⟩) n cp], .pointer (some ⟨w.heap.size, 0, none⟩), .slice none 0 0, .int .i64 0, .int .i64 0, .pointer (some ⟨w2.heap.size + 1, 0, none⟩), .int .i64 x.1, .pointer (some ⟨g, 0, none⟩),
      .agg #[.int .i64 W, .int .i64 H, .slice (some ⟨bo, oo, none⟩) n cp], .int .i64 0, .int .i64 0, .bool false, undef, .pointer (some ⟨w.heap.size, 0, none⟩), .int .i64 W, .int .i64 (wrap64 (W - 1)), .int .u8 W1, .pointer (some ⟨w.heap.size, 1, none⟩), .int .i64 H, .int .i64 (wrap64 (H - 1)), .int .u8 H1,
      .slice (some ⟨w2.heap.size, 0, none⟩) 2 2, .pointer (some ⟨w.heap.size, 2, none⟩), .slice (some ⟨bo, oo, none⟩) n cp, .func (.func 64) #[] #[.pointer (some ⟨w3.heap.size, 0, none⟩)], .int .i64 x.1, .agg #[.int .u8 (x.2 0), .int .u8 (x.2 1), .int .u8 (x.2 2), .int .u8 (x.2 3)], undef, undef, undef, undef, undef, undef, undef, undef, undef, undef])
    (fun x A => A.alloc (.cells #[.int .u8 (x.2 0), .int .u8 (x.2 1), .int .u8 (x.2 2), .int .u8 (x.2 3)] 28)) (fun _ _ => Keep.alloc _ _ _) ?assign ?body ?done (fun _ h => h.elim)
  case ks => intro j hj; have := (HSI.out j).1 hj; have := z4.out; omega
  case it =>
    intro D hk
    refine runs1_c w3.heap.size S l bo oo n cp HN.out HBD.out.2 D ?_ ((HSI.out _).2 (.inr rfl)) ((hk.blk K4.out.1 trivial).cell 0) ((HSI.out _).2 (.inl ?_)) ?_ ?_
    · exact (hk.blk K4.out.1 trivial).lt
    · have := HCO.out.1; have := P4.out.2.1.lt; have h := P4.out.1.size; have := P4.out.2.2.2; exact Nat.lt_of_lt_of_le HCO.out.1 P2S.out
    · exact Nat.lt_of_lt_of_le HCO.out.1 (Nat.le_trans P4.out.1.size hk.size)
    · exact (HCO.out.2.keep (Keep.of_below P4.out.1 : Keep (fun _ => True) w w4) trivial HCO.out.1).keep hk trivial (Nat.lt_of_lt_of_le HCO.out.1 P4.out.1.size)
  case hI =>
    rintro k A B ⟨v, f, E, h1, h2, h3, h4, h5⟩ hk
    refine ⟨v, f, E, h1.mv hk (by have := z4.out; omega) (fun j hj => by have := h1.off j hj; omega) (fun j hj => by have := (HSI.out j).1 hj; have := z4.out; omega), h2, h3, h4, Nat.le_trans h5 hk.size⟩
  case h0 =>
    exact ⟨_, n, [W1, H1], ⟨P4.out.2.2.1, P4.out.2.2.2, fun k hk => by cases hk; have := z4.out; simp only; omega, Keep.refl _ _⟩, HT0.out, by omega, by omega, Nat.le_refl _⟩
  case assign =>
    intro L x A K hK
    simp only [pairArgs]
    gi_wp2
    exact hK
  case done =>
    rintro i D hni ⟨v, f, E, h1, h2, h3, h4, h5⟩ hD
    have hT : E = TOT := by rw [← h2, runsB_end (by rw [HN.out]; exact hni), List.append_nil]
    have HR := Lib.hid h1
    have HD := Lib.hid hD
    have HT := Lib.hid hT
    clear h1 h2 h3 h4 h5 hD hT hni
    have c0 : D.cell? ⟨w2.heap.size + 1, 0, none⟩ = some v := HR.out.var.cell 0
    obtain ⟨va, vc, rfl⟩ := HR.out.row.shape
    dsimp only
    go_wp2_with fail
    refine postM_ret (.tuple #[.slice va E.length vc, .int .i64 0]) HD.out (results_pair rfl rfl rfl) ?_
    refine ⟨_, rfl, ?_, ?_⟩
    · rw [← HT.out]
      refine OwnB.row (base := w2.heap.size) (owns_keep HR.out.row (Keep.putObj (fun k => k ≠ w4.heap.size) _ _ _ (fun e => e rfl)) (fun k hk e => ?_))
      have := HR.out.off k hk; omega
    · refine (P4.out.1.trans (HR.out.keep.below (fun k hk => (HSI.out k).2 (.inl ?_)) P4.out.1.size)).trans ((Keep.putObj (fun k => k ≠ w4.heap.size) D w4.heap.size _ (fun e => e rfl)).below (fun k hk e => ?_) ?_)
      · exact Nat.lt_of_lt_of_le hk P2S.out
      · have := P4.out.1.size; omega
      · exact Nat.le_trans P4.out.1.size HR.out.keep.size
  case body =>
    rintro L i A o B hi ⟨v, f, E, hs, ht, hf, hin, hz⟩ hN hB
    obtain ⟨rl, hrl⟩ : ∃ r, runLen l i = r := ⟨_, rfl⟩
    have HRL := Lib.hid hrl
    have HRI : Hid (1 ≤ rl ∧ rl ≤ 256 ∧ i + rl ≤ n) := by
      have := runLen_in (l := l) (i := i) (by rw [HN.out]; exact hi)
      rw [hrl, HN.out] at this; exact this
    obtain ⟨x, hx⟩ : ∃ x, cAt l i = x := ⟨_, rfl⟩
    obtain ⟨f2, rfl⟩ : ∃ f2, f = f2 + 1 := ⟨f - 1, by omega⟩
    obtain ⟨q1, hq1⟩ : ∃ q1 : Int, (rl : Int) - 1 = q1 := ⟨_, rfl⟩
    obtain ⟨E1, hE1⟩ : ∃ E1, E ++ [q1] = E1 := ⟨_, rfl⟩
    obtain ⟨E2, hE2⟩ : ∃ E2, E1 ++ colB x = E2 := ⟨_, rfl⟩
    have HT2 : Hid (E ++ ([q1] ++ colB x ++ runsB l f2 (i + rl)) = TOT) := by
      unfold Hid; rw [← ht, runsB_step (by rw [HN.out]; exact hi) hrl hx, hq1]; rfl
    have HE2 : Hid (E2 = E ++ ([q1] ++ colB x)) := by unfold Hid; rw [← hE2, ← hE1]; simp
    have HF2 : Hid (n ≤ f2 + 1 + i) := hf
    have HLEN : Hid (E.length + 5 ≤ 400000) := by
      unfold Hid
      have h1 := congrArg List.length HT2.out
      simp only [List.length_append, List.length_cons, List.length_nil, colB] at h1
      have := HBD.out; omega
    have kAB : Keep (fun j => j ≠ w4.heap.size + 1) A B := by rw [hB]; exact (Keep.alloc _ _ _).trans (Keep.putObj _ _ _ _ (by simp))
    have KAB : Hid (Keep S A B) := kAB.mono fun j hj => by have := (HSI.out j).1 hj; have := z4.out; omega
    have bc : Blk B A.heap.size 28 #[.int .u8 (x 0), .int .u8 (x 1), .int .u8 (x 2), .int .u8 (x 3)] := by rw [hB, ← hx]; exact (Blk.new _ _ _).putOther _ (by omega)
    have HZB : Hid (w4.heap.size ≤ B.heap.size) := Nat.le_trans hz kAB.size
    have HAB : Hid (A.heap.size < B.heap.size ∧ w4.heap.size + 2 ≤ A.heap.size) := ⟨bc.lt, hN⟩
    have HS4 := Lib.hid hs
    have SB : Hid (ByS w2.heap.size w4.heap.size (RoundL S w4.heap.size) B (w2.heap.size + 1) v E B) := ⟨kAB.blk hs.var (by have := z4.out; omega), owns_keep hs.row kAB (fun k hk => by have := hs.off k hk; omega), hs.off, Keep.refl _ _⟩
    have HBX : Hid (Blk A w3.heap.size 22 #[.slice (some ⟨bo, oo, none⟩) n cp]) := hs.keep.blk K4.out.1 ((HSI.out _).2 (.inr rfl))
    have HSG : Hid (¬ RoundL S w4.heap.size (w2.heap.size + 1)) := by
      unfold Hid; rintro (h | h | h)
      · have := (HSI.out _).1 h; have := z4.out; omega
      · have := z4.out; omega
      · have := z4.out; omega
    have HSO : Hid (∀ k, w2.heap.size ≤ k → k ≠ w3.heap.size → (w4.heap.size + 2 ≤ k ∨ k < w4.heap.size) → ¬ RoundL S w4.heap.size k) := by
      unfold Hid; rintro k h1 h2 h3 (h | h | h)
      · have := (HSI.out _).1 h; omega
      · omega
      · omega
    obtain ⟨va, vc, rfl⟩ := hs.row.shape
    have SBA : Hid (ByS w2.heap.size w4.heap.size (RoundL S w4.heap.size) B (w2.heap.size + 1) (.slice va E.length vc) E (B.alloc (.cells #[.int .u8 q1] 5))) := SB.out.grow ((Below.refl _ _).alloc (Nat.le_refl _) _)
    have HX1 := Lib.hid (byt_src (Y := [q1]) (t := 5) (g := B.heap.size) (w := B.alloc (.cells #[.int .u8 q1] 5)) (Blk.new _ _ _))
    have HBB : Hid (Blk (B.alloc (.cells #[.int .u8 q1] 5)) w3.heap.size 22 #[.slice (some ⟨bo, oo, none⟩) n cp] ∧ Blk (B.alloc (.cells #[.int .u8 q1] 5)) A.heap.size 28 #[.int .u8 (x 0), .int .u8 (x 1), .int .u8 (x 2), .int .u8 (x 3)]) := ⟨(kAB.blk HBX.out (by have := z4.out; omega)).alloc _, bc.alloc _⟩
    have HL1 : Hid (E.length + 1 ≤ 1000000) := by unfold Hid; have := HLEN.out; omega
    have HZ1 : Hid (w2.heap.size ≤ (B.alloc (.cells #[.int .u8 q1] 5)).heap.size) := by unfold Hid; rw [World.size_alloc]; have := z4.out; have := HZB.out; omega
    have c0 : B.cell? ⟨w2.heap.size + 1, 0, none⟩ = some (.slice va E.length vc) := SB.out.var.cell 0
    have e1 : wrap64 ((rl : Int) - 1) = q1 := by have := HRI.out; rw [← hq1]; exact wrapR _ (by omega) (by omega)
    have u1 : IntKind.u8.wrap q1 = q1 := by have := HRI.out; exact i64_u8 (by omega) (by omega)
    have HEL : Hid (E1.length = E.length + 1) := by unfold Hid; rw [← hE1]; simp
    have HE1 := Lib.hid hE1
    have HEE2 := Lib.hid hE2
    dsimp only
    rw [hrl, hx]
    clear hrl hx hq1 hE1 hE2 ht hf hin hz hN hB kAB bc hs hi
    obtain ⟨vn, hvn⟩ : ∃ vn, E.length = vn := ⟨_, rfl⟩
    rw [hvn] at SB SBA c0
    clear hvn
    gi_wp2_with (gi_at_builtin; refine wpListIn_app_byts rfl _ _ 58 rfl Try.underlying58 w2.heap.size _ E rfl SBA.out.row ⟨B.heap.size, 0, none⟩ 1 1 [q1] rfl rfl HX1.out ?hl1 HZ1.out ?_)
    case hl1 => exact HL1.out
    intro v1 w5 ho1 hg1 hm1
    rw [HE1.out] at ho1
    obtain ⟨va', vc', rfl⟩ := ho1.shape
    have HSV1 : ∀ k, (Value.slice va vn vc).ownBlock = some k → ¬ RoundL S w4.heap.size k := fun k hk => by
      have h := SBA.out.offs HBB.out.1 k hk
      exact HSO.out k h.1 h.2.2.1 h.2.2.2.2
    have hk5 := Keep.of_grown hg1
    have z5 := hk5.size
    rw [World.size_alloc] at z5
    have kv5 : Blk w5 (w2.heap.size + 1) 58 #[.slice va vn vc] := hk5.blk SBA.out.var SBA.out.ne
    have S6 := Lib.hid (SBA.out.app ho1 hg1 hm1 (by rw [World.size_alloc]; have := HAB.out; omega) HSG.out HSV1)
    have kx5 : Blk w5 w3.heap.size 22 #[.slice (some ⟨bo, oo, none⟩) n cp] := hk5.blk HBB.out.1 (owns_off SBA.out.row HBB.out.1 (by decide))
    have kc5 : Blk w5 A.heap.size 28 #[.int .u8 (x 0), .int .u8 (x 1), .int .u8 (x 2), .int .u8 (x 3)] := hk5.blk HBB.out.2 (owns_off SBA.out.row HBB.out.2 (by decide))
    obtain ⟨vn', hvn'⟩ : ∃ vn', E1.length = vn' := ⟨_, rfl⟩
    rw [hvn'] at S6 ⊢
    have HX6 : Hid (Blk (w5.setCell ⟨w2.heap.size + 1, 0, none⟩ (.slice va' vn' vc')) w3.heap.size 22 #[.slice (some ⟨bo, oo, none⟩) n cp] ∧ Blk (w5.setCell ⟨w2.heap.size + 1, 0, none⟩ (.slice va' vn' vc')) A.heap.size 28 #[.int .u8 (x 0), .int .u8 (x 1), .int .u8 (x 2), .int .u8 (x 3)]) :=
      ⟨kx5.other _ _ (by have := z4.out; simp only; omega), kc5.other _ _ (by have := z4.out; have := HAB.out; simp only; omega)⟩
    have ZZ : Hid (A.heap.size < w5.heap.size) := by have := HAB.out; unfold Hid; omega
    have c5 : w5.cell? ⟨w2.heap.size + 1, 0, none⟩ = some (.slice va vn vc) := kv5.cell 0
    have f5 := kv5.free 0
    have l5 := kv5.lt
    clear ho1 hg1 hm1 HSV1 hk5 z5 kv5 kx5 kc5 hvn' c0 e1 u1
    gi_wp2
    obtain ⟨w6, hw6⟩ : ∃ WW, w5.setCell ⟨w2.heap.size + 1, 0, none⟩ (.slice va' vn' vc') = WW := ⟨_, rfl⟩
    have z6 : w6.heap.size = w5.heap.size := by rw [← hw6]; simp [World.setCell]
    rw [hw6] at S6 HX6 ⊢
    clear hw6 c5 f5 l5
    have S6D : Hid (ByS w2.heap.size w4.heap.size (RoundL S w4.heap.size) B (w2.heap.size + 1) (.slice va' vn' vc') E1 w6.drew) := S6.out.grow ⟨rfl, rfl, rfl, Nat.le_refl _, fun _ _ => rfl⟩
    have HB6 : Hid (Blk w6.drew w3.heap.size 22 #[.slice (some ⟨bo, oo, none⟩) n cp] ∧ Blk w6.drew A.heap.size 28 #[.int .u8 (x 0), .int .u8 (x 1), .int .u8 (x 2), .int .u8 (x 3)]) := ⟨HX6.out.1, HX6.out.2⟩
    have HX7 : Hid (∀ j u, (bytV (colB x))[j]? = some u → w6.drew.cell? ((⟨A.heap.size, 0, none⟩ : Addr).add j) = some u) := byt_src (Y := colB x) HB6.out.2
    have HL6 : Hid (E1.length + 4 ≤ 1000000) := by unfold Hid; rw [HEL.out]; have := HLEN.out; omega
    have HZ6 : Hid (w2.heap.size ≤ w6.drew.heap.size) := by unfold Hid; show w2.heap.size ≤ w6.heap.size; have := ZZ.out; have := HAB.out; have := z4.out; omega
    have HN6 : Hid (w4.heap.size + 2 ≤ w6.drew.heap.size) := by unfold Hid; show w4.heap.size + 2 ≤ w6.heap.size; have := ZZ.out; have := HAB.out; omega
    have HSV : Hid (∀ k, (Value.slice va' vn' vc').ownBlock = some k → ¬ RoundL S w4.heap.size k) := fun k hk => by
      have h := S6D.out.offs HB6.out.1 k hk
      exact HSO.out k h.1 h.2.2.1 h.2.2.2.2
    have LA : Hid (A.heap.size < w6.drew.heap.size) := by unfold Hid; show A.heap.size < w6.heap.size; rw [z6]; exact ZZ.out
    clear z6
    refine wpIn_region_put2 (by kernel_rfl) (by kernel_rfl) (by kernel_rfl) (fun b' vs w' => (b' 0 = true → vs 0 = .slice va' vn' vc') ∧ (b' 1 = true → vs 1 = .slice (some ⟨A.heap.size, 0, none⟩) 4 4) ∧ (b' 2 = true → b' 0 = true ∧ b' 1 = true) ∧ (b' 2 = false → w' = w6.drew) ∧ (b' 3 = true → b' 2 = true) ∧ (b' 2 = true → b' 3 = false → Hid (OwnB w' w2.heap.size (vs 2) E2 ∧ w6.drew.grownBy w' (Value.ownBlock (.slice va' vn' vc')) ∧ Moved w6.drew (.slice va' vn' vc') (vs 2))) ∧ (b' 3 = true → Hid (∃ v2, ByS w2.heap.size w4.heap.size (RoundL S w4.heap.size) B (w2.heap.size + 1) v2 E2 w'))) ?_ ?_ ?_
    · intro vs hvs
      exact ⟨fun h => Bool.noConfusion h, fun h => Bool.noConfusion h, fun h => Bool.noConfusion h, fun _ => rfl, fun h => Bool.noConfusion h, fun h => Bool.noConfusion h, fun h => Bool.noConfusion h⟩
    · rintro b' vs w' i op hi hun hall ⟨h0, h1, yD, yE, yT, yA, yS⟩
      have hil : i < 4 := (List.getElem?_eq_some_iff.1 hi).1
      rcases i with _ | _ | _ | _ | i
      · obtain rfl := Option.some.inj hi
        have h2f : b' 2 = false := Bool.eq_false_iff.2 (fun h => absurd ((yD h).1.symm.trans hun) (by decide))
        have hw := yE h2f
        subst hw
        have c0 : w6.drew.cell? ⟨w2.heap.size + 1, 0, none⟩ = some (.slice va' vn' vc') := S6.out.var.cell 0
        refine wpOpIn_step rfl (fun K hK => ?_)
        have HKK := Lib.hid hK; clear hK
        simp only [putAll, Act.put, List.setIfInBounds_toArray, List.set_cons_zero, List.set_cons_succ]
        go_simp
        exact HKK.out _ _ ⟨_, by simp only [putAll, Act.put, List.setIfInBounds_toArray, List.set_cons_zero, List.set_cons_succ] <;> rfl, fun _ => rfl, h1, fun h => absurd h (by rw [show upd b' 0 true 2 = b' 2 from rfl, h2f]; decide), yE, yT, yA, yS⟩
      · obtain rfl := Option.some.inj hi
        have h2f : b' 2 = false := Bool.eq_false_iff.2 (fun h => absurd ((yD h).2.symm.trans hun) (by decide))
        have hw := yE h2f
        subst hw
        have lA := LA.out
        refine wpOpIn_step rfl (fun K hK => ?_)
        have HKK := Lib.hid hK; clear hK
        simp only [putAll, Act.put, List.setIfInBounds_toArray, List.set_cons_zero, List.set_cons_succ]
        go_simp
        exact HKK.out _ _ ⟨_, by simp only [putAll, Act.put, List.setIfInBounds_toArray, List.set_cons_zero, List.set_cons_succ] <;> rfl, h0, fun _ => rfl, fun h => absurd h (by rw [show upd b' 1 true 2 = b' 2 from rfl, h2f]; decide), yE, yT, yA, yS⟩
      · obtain rfl := Option.some.inj hi
        have d0 := h0 (hall ⟨0, .data⟩ (by simp) rfl)
        have d1 := h1 (hall ⟨1, .data⟩ (by simp) rfl)
        have g0 := hall ⟨0, .data⟩ (by simp) rfl
        have g1 := hall ⟨1, .data⟩ (by simp) rfl
        have hw := yE hun
        subst hw
        have h3f : b' 3 = false := Bool.eq_false_iff.2 (fun h => absurd ((yT h).symm.trans hun) (by decide))
        refine wpOpIn_step rfl (fun K hK => ?_)
        have HKK := Lib.hid hK; clear hK
        simp only [putAll, Act.put, List.setIfInBounds_toArray, List.set_cons_zero, List.set_cons_succ]
        refine (if_pos rfl).mpr (wpIn_app_byts _ _ 58 rfl Try.underlying58 w2.heap.size _ E1 d0 S6D.out.row ⟨A.heap.size, 0, none⟩ 4 4 (colB x) d1 rfl HX7.out HL6.out HZ6.out ?_)
        intro v2 w7 ho2 hg2 hm2
        rw [HEE2.out] at ho2
        exact HKK.out _ _ ⟨_, by simp only [putAll, Act.put, List.setIfInBounds_toArray, List.set_cons_zero, List.set_cons_succ, d0, d1] <;> rfl, h0, h1, fun _ => ⟨g0, g1⟩, fun h => Bool.noConfusion h, fun _ => rfl, fun _ _ => Lib.hid ⟨ho2, hg2, hm2⟩, fun h => absurd h (by rw [show upd b' 2 true 3 = b' 3 from rfl, h3f]; decide)⟩
      · obtain rfl := Option.some.inj hi
        have g2 := hall ⟨2, .data⟩ (by simp) rfl
        have d0 := h0 (yD g2).1
        have d1 := h1 (yD g2).2
        have hA := yA g2 hun
        obtain ⟨va2, vc2, e2⟩ := hA.out.1.shape
        rw [e2] at hA
        have hF := Lib.hid (S6D.out.app hA.out.1 hA.out.2.1 hA.out.2.2 HN6.out HSG.out HSV.out)
        have kv : Blk w' (w2.heap.size + 1) 58 #[.slice va' vn' vc'] := (Keep.of_grown hA.out.2.1).blk S6D.out.var S6D.out.ne
        have c0 : w'.cell? ⟨w2.heap.size + 1, 0, none⟩ = some (.slice va' vn' vc') := kv.cell 0
        have f0 := kv.free 0
        have lg := kv.lt
        clear kv
        refine wpOpIn_step rfl (fun K hK => ?_)
        have HKK := Lib.hid hK; clear hK
        simp only [putAll, Act.put, List.setIfInBounds_toArray, List.set_cons_zero, List.set_cons_succ, e2, d0, d1]
        go_simp
        exact HKK.out _ _ ⟨undef, by simp only [putAll, Act.put, List.setIfInBounds_toArray, List.set_cons_zero, List.set_cons_succ, e2, d0, d1] <;> rfl, h0, h1, yD, fun h => absurd (g2.symm.trans h) (by decide), fun _ => g2, fun _ h => Bool.noConfusion h, fun _ => Lib.hid ⟨_, hF.out⟩⟩
      · exact absurd hil (by omega)
    · rintro b' vs w' hb ⟨h0, h1, yD, yE, yT, yA, yS⟩
      obtain ⟨v2, hv2⟩ := (yS (hb 3 (by decide))).out
      have V2 := Lib.hid hv2
      clear h0 h1 yD yE yT yA yS hb hv2
      refine ⟨V2.out.keep, v2, f2, E2, ⟨V2.out.var, V2.out.row, V2.out.off, (HS4.out.keep.trans KAB.out).trans (V2.out.keep.mono fun j hj => .inl hj)⟩, ?_, ?_, ?_, ?_⟩
      · rw [← HT2.out, HE2.out, List.append_assoc]
      · have := HF2.out; have := HRI.out; omega
      · have := HRI.out; omega
      · exact Nat.le_trans HZB.out V2.out.keep.size
theorem bytes_any (W H : Int) (s : Value) (l : List Col) (w : World) (row : RowK .u8 w s l) (hok : ∀ c ∈ l, OkC c) (hl : l.length ≤ 70000) : Calls Try.prog 25 #[.agg #[.int .i64 W, .int .i64 H, s]] w fun e w' =>
    ∃ v, e = .returned (.tuple #[v, .int .i64 (errIm (rightIm W H l))]) ∧ RowB w' v (if rightIm W H l then bytesI W H l else []) ∧ Below w.heap.size w w' := by
  cases hr : rightIm W H l with
  | false =>
    refine (bytes_n W H s l w row hok hl hr).mono ?_
    rintro e w' ⟨rfl, hb⟩
    exact ⟨_, rfl, .inl ⟨rfl, rfl⟩, hb⟩
  | true =>
    refine (bytes_y W H s l w row hok hl hr).mono ?_
    rintro e w' ⟨v, rfl, h1, hb⟩
    exact ⟨v, rfl, h1, hb⟩
theorem bytesOk : BytesOk := fun W H s l w row hok hl => bytes_any W H s l w row hok (by omega)
end Go.Proofs.Ytoppmlfibllhlaa
