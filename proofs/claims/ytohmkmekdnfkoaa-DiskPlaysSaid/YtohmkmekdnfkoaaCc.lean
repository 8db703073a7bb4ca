/- Layer 12: package disk: Reads, Waiting; what lies in memory while bytes are laid. -/
import Derived.Test.YtohmkmekdnfkoaaCb
namespace Go.Proofs.Ytohmkmekdnfkoaa
open Go.RowKit
theorem infoI12 : (Try.prog.info? 3).map (fun i => (i.zero, i.size, i.bytes)) = some (some (.int .i64 0), 1, 8) := by kernel_rfl
abbrev intV (E : List Int) : List Value := E.map (Value.int .i64)
theorem run_append_ints (w : World) (t ty : TypeId) (ht : Try.prog.underlying t = some (.slice 3)) (base : Nat) (v : Value) (E : List Int) (hown : OwnI w base v E) (ad : Addr) (k c : Nat) (Y : List Int) (hk : Y.length = k) (hx : ∀ j u, (intV Y)[j]? = some u → w.cell? (ad.add j) = some u) (hl : E.length + k ≤ 100000) (hbase : base ≤ w.heap.size) :
    ∃ v' w', (Builtin.append_ #[t, t] ty #[v, .slice (some ad) k c]).run Try.prog w = .ok v' w' ∧ OwnI w' base v' (E ++ Y) ∧ w.grownBy w' v.ownBlock ∧ Moved w v v' := by
  obtain ⟨i, hi, hz0, hz1, hz2⟩ := info_parts infoI12
  obtain ⟨m, hm⟩ : ∃ m, E.length = m := ⟨_, rfl⟩
  unfold OwnI at hown ⊢
  rw [hm] at hown hl
  have hn : (intV Y).length = k * 1 := by rw [List.length_map]; omega
  have h1 : ∀ u ∈ intV Y, u.oneCell' = true := fun u hu => by obtain ⟨x, _, rfl⟩ := List.mem_map.1 hu; rfl
  have key : ∀ b, w.ownsRow b 3 1 v m (intV E) → b ≤ w.heap.size → _ := fun b ho hb => run_append_own (P := Try.prog) w b t ty 3 i (.int .i64 0) 1 8 ht hi hz0 hz1 hz2 rfl (by decide) v m (intV E) ho ad k c (intV Y) hn hx h1 (by unfold maxLen; omega) (by omega) hb
  obtain ⟨v', w', hr, ho, hg, _⟩ := key base hown hbase
  have hfin : w'.ownsRow base 3 1 v' (E ++ Y).length (intV (E ++ Y)) := by
    rw [List.length_append, hm, hk, show intV (E ++ Y) = intV E ++ intV Y from List.map_append]
    exact ho
  refine ⟨v', w', hr, hfin, hg, ?_⟩
  have hlen := hown.1
  rcases hown.2 with ⟨rfl, h0⟩ | ⟨g, cap, cur, rfl, hb, hgg, hc, hmm, hs, htk⟩
  · subst h0
    have hxs : intV E = [] := List.eq_nil_of_length_eq_zero (by omega)
    obtain ⟨v2, w2, hr2, ho2, _, _⟩ := key w.heap.size (by rw [hxs]; exact World.ownsRow_nil _ _ _ _) (Nat.le_refl _)
    obtain ⟨rfl, rfl⟩ := ok_inj hr hr2
    cases hv : v'.ownBlock with
    | none => exact .inl hv
    | some q => exact .inr ⟨q, hv, (ho2.lt q hv).1⟩
  · by_cases hroom : m + k ≤ cap
    · obtain ⟨w2, hr2, _⟩ := run_append_fits (P := Try.prog) w base t ty 3 i 1 ht hi hz1 g m cap (intV E) hown ad k c (intV Y) hn hx h1 hroom
      obtain ⟨rfl, _⟩ := ok_inj hr hr2
      exact .inl rfl
    · have hr2 := run_append_grow (P := Try.prog) w t ty 3 i _ ht hi hz0 ⟨g, 0, none⟩ m cap (intV E) (by rw [hlen, hz1]) (fun j u hj => by have := hown.cells (g := g) rfl j u hj; exact this) ad k c (intV Y) (by rw [hn, hz1]) hx (by omega) (by omega) (by rw [hz2]; exact growslice_fits (by omega) (by omega))
      obtain ⟨rfl, _⟩ := ok_inj hr hr2
      exact .inr ⟨_, rfl, Nat.le_refl _⟩
theorem wpList_append_ints {w : World} {ops : Array Oper} {rest : List Oper} {o : Oper} {a : Act} {Q : Exit → Act → World → Prop} (hgd : o.guard = none) (s x : Operand) (t : TypeId)
    (ho : o.op = .call { callee := .builtin .append, args := #[s, x], argTypes := #[t, t] }) (ht : Try.prog.underlying t = some (.slice 3))
    (base : Nat) (v : Value) (E : List Int) (hs : a.eval s = v) (hown : OwnI w base v E) (ad : Addr) (k c : Nat) (Y : List Int) (hxe : a.eval x = .slice (some ad) k c) (hk : Y.length = k) (hx : ∀ j u, (intV Y)[j]? = some u → w.cell? (ad.add j) = some u) (hl : E.length + k ≤ 100000) (hbase : base ≤ w.heap.size)
    (h : ∀ v' w', OwnI w' base v' (E ++ Y) → w.grownBy w' v.ownBlock → Moved w v v' → wpList Try.prog ops Q rest (a.put o.dst v') w') : wpList Try.prog ops Q (o :: rest) a w := by
  refine wpList_plain hgd fun K hK => ?_
  obtain ⟨v', w', hr, h2, h3, h4⟩ := run_append_ints w t o.type ht base v E hown ad k c Y hk hx hl hbase
  unfold Oper.wp
  simp [execOp, ho, resolve, invoke, builtin, hs, hxe, hr, Result.andThen]
  exact hK _ _ (h v' w' h2 h3 h4)
theorem OwnI.form {w : World} {base : Nat} {v : Value} {E : List Int} (h : OwnI w base v E) (h0 : 0 < E.length) : ∃ g c, v = .slice (some ⟨g, 0, none⟩) E.length c ∧ E.length ≤ c ∧ g < w.heap.size := by
  obtain ⟨_, ⟨rfl, hn⟩ | ⟨g, cap, cur, rfl, _, hg, hc, _⟩⟩ := h
  · omega
  · exact ⟨g, cap, rfl, hc, (Array.getElem?_eq_some_iff.1 hg).1⟩
theorem OwnI.grow {w w' : World} {base : Nat} {v : Value} {E : List Int} (h : OwnI w base v E) (hb : Below w.heap.size w w') : OwnI w' base v E := owns_keep h (Keep.of_below (S := fun _ => True) hb) (fun _ _ => trivial)
/-- What a disk that was made rightly, and not used too often, has in memory. -/
structure OkL (x : Kd) (z : Nat) : Prop where
  size : x.size = (z : Int)
  z1 : 16 ≤ z
  z2 : z ≤ 512
  len : x.A.length ≤ 1000
  few : x.L.length ≤ 1000
  pos : 0 < x.A.length
  each : ∀ y ∈ x.L, ∃ i : Nat, y.1 = (i : Int) ∧ i * z + z ≤ x.A.length ∧ y.2.2.length = z
  rlen : 0 < x.R.length ∧ x.R.length * z = x.A.length
theorem Rel.okL {x : Kd} {d : DM} (r : Rel x d) (ok : OkD d 1000) : ∃ z, OkL x z := by
  obtain ⟨m1, m2, m3, m4⟩ := ok.made
  obtain ⟨z, hz⟩ : ∃ z : Nat, d.size = (z : Int) := ⟨d.size.toNat, by omega⟩
  obtain ⟨s, hs⟩ : ∃ s : Nat, d.sectors = (s : Int) := ⟨d.sectors.toNat, by omega⟩
  have hl := ok.len
  rw [hz, hs] at hl
  have hl2 : d.safe.length = s * z := by exact_mod_cast hl
  have hf := ok.few
  have hr := ok.rlen
  have hrl : x.R.length = s := by rw [r.reads]; omega
  have hp : 1 * 16 ≤ s * z := Nat.mul_le_mul (by omega) (by omega)
  refine ⟨z, by rw [r.size]; exact hz, by omega, by omega, by rw [r.all]; omega, ?_, by rw [r.all]; omega, fun y hy => ?_, by omega, by rw [hrl, r.all, hl2]⟩
  · have h1 := ok.waits
    rw [← r.wait] at h1
    unfold mapW at h1
    rw [List.length_map] at h1
    omega
  · have hm : (y.1, y.2.2) ∈ d.wait := by
      rw [← r.wait]
      exact List.mem_map.2 ⟨y, hy, rfl⟩
    obtain ⟨h1, h2, h3, _⟩ := ok.wait _ hm
    simp only at h1 h2 h3
    obtain ⟨i, hi⟩ : ∃ i : Nat, y.1 = (i : Int) := ⟨y.1.toNat, by omega⟩
    have h4 : (i + 1) * z ≤ s * z := Nat.mul_le_mul_right z (by omega)
    rw [Nat.add_mul, Nat.one_mul] at h4
    exact ⟨i, hi, by rw [r.all]; omega, by omega⟩
/-- What is read when the first k writes have been laid. -/
def nowK (size : Int) (A : List Int) (L : List Wr) (k : Nat) : List Int := nowM size A (mapW (L.take k))
theorem nowK_zero (size : Int) (A : List Int) (L : List Wr) : nowK size A L 0 = A := rfl
theorem nowK_len (size : Int) (A : List Int) (L : List Wr) (k : Nat) : (nowK size A L k).length = A.length := nowM_len ..
theorem nowK_succ {size : Int} {A : List Int} {L : List Wr} {k : Nat} {y : Wr} (h : L[k]? = some y) : nowK size A L (k + 1) = layB (nowK size A L k) y.2.2 (y.1 * size) := by
  unfold nowK mapW nowM
  rw [List.take_add_one, h, List.map_append, List.foldl_append]; rfl
theorem nowK_all {x : Kd} {d : DM} (r : Rel x d) : nowK x.size x.A x.L x.L.length = nowD d := by
  unfold nowK nowD
  rw [List.take_length, r.wait, r.size, r.all]
/-- The bytes change in their own block. -/
theorem KAt.lay {T : Nat → Prop} {w w' : World} {g : Nat} {x : Kd} (h : KAt T w g x) {A : List Int} (ho : OwnB w' 0 x.sv A) (hk : Keep (fun k => x.sv.ownBlock ≠ some k) w w') : KAt T w' g { x with A := A } :=
  ⟨h.tg, fun k hT => Nat.lt_of_lt_of_le (h.lt k hT) hk.size, hk.blk h.blk (owns_off h.all h.blk (by decide)), ho, h.ts,
    owns_keep h.wait hk fun k e e2 => (apart_types h.wait h.all (by decide)).elim (fun q => by rw [e] at q; cases q) (fun q => q (by rw [e, e2])), h.tw,
    fun y hy => ⟨owns_keep (h.byts y hy).1 hk fun k e => ((h.byts y hy).2 k e).2, (h.byts y hy).2⟩,
    owns_keep h.reads hk fun k e e2 => (apart_types h.reads h.all (by decide)).elim (fun q => by rw [e] at q; cases q) (fun q => q (by rw [e, e2])), h.tr⟩
theorem owns_raise {w w' : World} {base size n m : Nat} {t : TypeId} {v : Value} {xs ys : List Value} (h : w'.ownsRow 0 t size v n xs) (k : w.ownsRow base t size v m ys) : w'.ownsRow base t size v n xs := by
  refine ⟨h.1, ?_⟩
  rcases h.2 with h2 | ⟨g, cap, cur, e, _, h3⟩
  · exact .inl h2
  · subst e
    exact .inr ⟨g, cap, cur, rfl, (World.ownsRow.lt k g rfl).1, h3⟩
set_option maxHeartbeats 4000000 in
set_option maxRecDepth 100000 in
theorem kReads_c (T : Nat → Prop) (w : World) (g : Nat) (d : DM) (i : Int) (h : At12 T w g d) (ok : OkD d 1000) (_hi : rngI i) : Calls Try.prog 24 #[ptrD g, .int .i64 i] w fun e w' => e = .returned (.int .i64 (readsD d i)) ∧ Below w.heap.size w w' := by
  obtain ⟨x, hx, hr⟩ := h
  obtain ⟨n, hn⟩ : ∃ n, x.R.length = n := ⟨_, rfl⟩
  have HH := Lib.hid (kHas_c w g x i hx.blk hx.reads.shape)
  have HB : Hid (∀ A, Below w.heap.size w A → Blk A g 58 x.cells ∧ OwnI A 0 x.rv x.R) := fun A hA => ⟨hx.blk.grow hA, (hx.grow hA).reads⟩
  have hs := ok.rlen
  have hsec : d.sectors = (n : Int) := by rw [← hn, hr.reads]; omega
  have HE : Hid (readsD d i = if hasK n i = true then x.R.getD i.toNat 0 else 0) := by
    unfold readsD hasD hasK Hid
    rw [hsec, hr.reads]
  rw [HE.out]
  rw [hn] at HH
  have HN := Lib.hid hn
  obtain ⟨d0, d1, d2, d3, d4, d5, d6⟩ := hx.blk.k7
  clear hx hr ok hs hsec hn
  cases hh : hasK n i
  · rw [hh] at HH
    clear hh
    go_enter Try.func24, Try.ntmps24
    go_wp2_with fail
    refine (HH.out).mono ?_
    rintro e w1 ⟨rfl, hb⟩
    have H1 := Lib.hid hb
    clear hb
    go_wp2_with fail
    go_ret
    exact ⟨rfl, H1.out⟩
  · rw [hh] at HH
    unfold hasK at hh
    simp only [Bool.and_eq_true, decide_eq_true_eq] at hh
    obtain ⟨q, rfl⟩ : ∃ q : Nat, i = (q : Int) := ⟨i.toNat, by omega⟩
    have hq : q < n := by omega
    have hq' : (q : Int) < (n : Int) := by omega
    rw [Int.toNat_natCast]
    obtain ⟨r, hrr⟩ : ∃ r, x.R.getD q 0 = r := ⟨_, rfl⟩
    rw [hrr]
    clear hh
    go_enter Try.func24, Try.ntmps24
    go_wp2_with fail
    refine (HH.out).mono ?_
    rintro e w1 ⟨rfl, hb⟩
    have hb0 := (HB.out w1 hb).2
    obtain ⟨rg, rc, hrv, _, _⟩ := hb0.form (by rw [HN.out]; omega)
    rw [HN.out] at hrv
    have c3 : w1.cell? ⟨rg, q, none⟩ = some (.int .i64 r) := by
      have key := World.ownsRow.cells hb0 (g := rg) (by rw [hrv]; rfl) q (.int .i64 r) (by rw [List.getElem?_map, List.getElem?_eq_getElem (by rw [HN.out]; exact hq), ← hrr, List.getD_eq_getElem?_getD, List.getElem?_eq_getElem (by rw [HN.out]; exact hq)]; rfl)
      rw [show (⟨rg, 0, none⟩ : Addr).add q = ⟨rg, 0 + q, none⟩ from Addr.add_lit .., Nat.zero_add] at key
      exact key
    obtain ⟨k0, k1, k2, k3, k4, k5, k6⟩ := (HB.out w1 hb).1.k7
    rw [hrv] at k3
    have H1 := Lib.hid hb
    clear hb hb0 hrv hrr d0 d1 d2 d3 d4 d5 d6
    go_wp2_with fail
    go_ret
    exact ⟨rfl, H1.out⟩
set_option maxHeartbeats 4000000 in
set_option maxRecDepth 100000 in
theorem kWaiting_c (T : Nat → Prop) (w : World) (g : Nat) (d : DM) (h : At12 T w g d) (ok : OkD d 1000) : Calls Try.prog 17 #[ptrD g] w fun e w' => ∃ v, e = .returned v ∧ OwnI w' w.heap.size v (d.wait.map Prod.fst) ∧ Below w.heap.size w w' := by
  obtain ⟨x, hx, hr⟩ := h
  obtain ⟨z, hz⟩ := hr.okL ok
  obtain ⟨n, hn⟩ : ∃ n, x.L.length = n := ⟨_, rfl⟩
  obtain ⟨wo, wc, hwv⟩ := hx.wait.row.shape
  have HX := Lib.hid hx
  have HN := Lib.hid hn
  have HW : Hid (x.wv = .slice wo n wc) := by rw [hwv, hn]; exact rfl
  have HF : Hid (d.wait.map Prod.fst = (x.L.take n).map Prod.fst) := by
    rw [← hr.wait, ← hn, List.take_length]; unfold mapW; rw [List.map_map]; exact rfl
  rw [HF.out]
  have HK : Hid (n ≤ 1000) := by rw [← hn]; exact hz.few
  obtain ⟨d0, d1, d2, d3, d4, d5, d6⟩ := hx.blk.k7
  rw [HW.out] at d2
  clear hx hr ok hz hwv hn
  go_enter Try.func17, Try.ntmps17
  go_wp2_with fail
  go_loopw [3, 11] (fun s3 s11 wr => ∃ k : Nat, k ≤ n ∧ s11 = .int .i64 (k : Int) ∧ Hid (Below w.heap.size w wr ∧ OwnI wr w.heap.size s3 ((x.L.take k).map Prod.fst))) (fun _ s11 _ => n - (intOf s11).toNat)
  case atStart => exact ⟨0, by omega, rfl, Below.refl _ _, World.ownsRow_nil _ _ _ _⟩
  case round =>
    obtain ⟨k, hk, rfl, hw⟩ := hrel
    by_cases hlt : k < n
    · have hd : decide ((k : Int) < (n : Int)) = true := by simp; omega
      have hki : (k : Int) < (n : Int) := by omega
      obtain ⟨y, hy⟩ : ∃ y, x.L[k]? = some y := ⟨_, List.getElem?_eq_getElem (by rw [HN.out]; exact hlt)⟩
      have hrow := (HX.out.grow hw.out.1).wait.row
      rw [HW.out] at hrow
      obtain ⟨wb, wof, rfl, hwb, hwc⟩ := RowW.addr hrow (by rw [HN.out]; omega)
      obtain ⟨c0, c1⟩ := hwc k y hy
      obtain ⟨bo, bc, hbv⟩ := ((HX.out.byts y (List.mem_of_getElem? hy)).1.row).shape
      rw [hbv] at c1
      generalize y.2.2.length = bn at c1
      have HT : Hid ((x.L.take (k + 1)).map Prod.fst = (x.L.take k).map Prod.fst ++ [y.1]) := by rw [List.take_add_one, hy, List.map_append]; exact rfl
      obtain ⟨w2, hw2⟩ : ∃ WW, wr.alloc (.cells #[.int .i64 y.1, .slice bo bn bc] 63) = WW := ⟨_, rfl⟩
      obtain ⟨g2, hg2⟩ : ∃ G, wr.heap.size = G := ⟨_, rfl⟩
      obtain ⟨i, hi⟩ : ∃ i, y.1 = i := ⟨_, rfl⟩
      rw [hi] at c0 HT hw2
      have H2 : Hid (Below w.heap.size w w2 ∧ OwnI w2 w.heap.size u3 ((x.L.take k).map Prod.fst) ∧ Blk w2 g2 63 #[.int .i64 i, .slice bo bn bc]) := by
        rw [← hw2]
        exact ⟨hw.out.1.alloc hw.out.1.size _, hw.out.2.grow ((Below.refl _ _).alloc (Nat.le_refl _) _), by rw [← hg2]; exact Blk.new _ _ _⟩
      have c2 : w2.cell? ⟨g2, 0, none⟩ = some (.int .i64 i) := H2.out.2.2.cell 0
      have HO : Hid (OwnI (w2.alloc (.cells #[.int .i64 i] 3)) w.heap.size u3 ((x.L.take k).map Prod.fst)) := H2.out.2.1.grow ((Below.refl _ _).alloc (Nat.le_refl _) _)
      have HXX : Hid (∀ j u, (intV [i])[j]? = some u → (w2.alloc (.cells #[.int .i64 i] 3)).cell? ((⟨w2.heap.size, 0, none⟩ : Addr).add j) = some u) := fun j u hj => by
        rw [Addr.add_lit, Nat.zero_add]
        exact ((Blk.new _ _ _).cell j).trans (by simpa using hj)
      have HLE : Hid (((x.L.take k).map Prod.fst).length + 1 ≤ 100000) := Lib.hid (by rw [List.length_map, List.length_take]; have := HK.out; omega)
      have HSZ : Hid (w.heap.size ≤ (w2.alloc (.cells #[.int .i64 i] 3)).heap.size) := Lib.hid (by have := H2.out.1.size; simp; omega)
      have hk9 := HK.out
      clear hrow hwb hwc hy hbv hi
      go_wp2_with (at_builtin; refine wpList_append_ints rfl _ _ 38 rfl Try.underlying38 w.heap.size _ _ rfl HO.out ⟨w2.heap.size, 0, none⟩ 1 1 [i] rfl rfl HXX.out HLE.out HSZ.out ?_)
      intro v' w3 h3 hg _
      have HS : Hid (Below w.heap.size w w3 ∧ OwnI w3 w.heap.size v' ((x.L.take (k + 1)).map Prod.fst)) := ⟨own_below HO.out hg (H2.out.1.alloc H2.out.1.size _) (Nat.le_refl _) HSZ.out, by rw [HT.out, List.map_take]; exact h3⟩
      clear h3 hg
      go_wp2_with fail
      exact ⟨⟨k + 1, by omega, by go_num, HS.out⟩, by simp [intOf]; omega⟩
    · have hd : decide ((k : Int) < (n : Int)) = false := by simp; omega
      have hkn : k = n := by omega
      rw [hkn] at hw
      clear hkn
      go_wp2_with fail
      go_ret
      exact ⟨_, rfl, hw.out.2, hw.out.1⟩
end Go.Proofs.Ytohmkmekdnfkoaa
