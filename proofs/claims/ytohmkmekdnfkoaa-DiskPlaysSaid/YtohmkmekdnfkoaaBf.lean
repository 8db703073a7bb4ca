/- Layer 12: the script's rows; small. -/
import Derived.Test.YtohmkmekdnfkoaaBd
namespace Go.Proofs.Ytohmkmekdnfkoaa
open Go.RowKit
structure OpM where
  kind : Int
  n : Int
  fill : Int
  short : Int
  kv : Value
  keep : List Bool
  torn : Int
  cut : Int
/-- A call's seven cells. -/
structure OpAt (w : World) (b o : Nat) (p : OpM) : Prop where
  c0 : w.cell? ⟨b, o, none⟩ = some (.int .i64 p.kind)
  c1 : w.cell? ⟨b, o + 1, none⟩ = some (.int .i64 p.n)
  c2 : w.cell? ⟨b, o + 2, none⟩ = some (.int .u8 p.fill)
  c3 : w.cell? ⟨b, o + 3, none⟩ = some (.int .i64 p.short)
  c4 : w.cell? ⟨b, o + 4, none⟩ = some p.kv
  c5 : w.cell? ⟨b, o + 5, none⟩ = some (.int .i64 p.torn)
  c6 : w.cell? ⟨b, o + 6, none⟩ = some (.int .i64 p.cut)
theorem OpAt.on {w w' : World} {b o : Nat} {p : OpM} (h : OpAt w b o p) (hb : Below w.heap.size w w') (hl : b < w.heap.size) : OpAt w' b o p :=
  ⟨(cell_below hb hl).trans h.c0, (cell_below hb hl).trans h.c1, (cell_below hb hl).trans h.c2, (cell_below hb hl).trans h.c3, (cell_below hb hl).trans h.c4, (cell_below hb hl).trans h.c5, (cell_below hb hl).trans h.c6⟩
/-- A slice of calls. -/
def RowO (w : World) (s : Value) (L : List OpM) : Prop :=
  ((s = .slice none 0 0 ∧ L = []) ∨ (∃ a c, s = .slice (some a) 0 c ∧ L = []) ∨ ∃ b o c, s = .slice (some ⟨b, o, none⟩) L.length c ∧ b < w.heap.size ∧ ∀ i p, L[i]? = some p → OpAt w b (o + i * 7) p) ∧ ∀ p ∈ L, RowT w p.kv p.keep
theorem RowO.on {w w' : World} {s : Value} {L : List OpM} (h : RowO w s L) (hb : Below w.heap.size w w') : RowO w' s L := by
  refine ⟨?_, fun p hp => (h.2 p hp).on hb⟩
  rcases h.1 with h | h | ⟨b, o, c, h1, h2, h3⟩
  · exact .inl h
  · exact .inr (.inl h)
  · exact .inr (.inr ⟨b, o, c, h1, Nat.lt_of_lt_of_le h2 hb.size, fun i p hp => (h3 i p hp).on hb h2⟩)
theorem RowO.shape {w : World} {v : Value} {L : List OpM} (h : RowO w v L) : ∃ ao c, v = .slice ao L.length c := by
  rcases h.1 with ⟨rfl, rfl⟩ | ⟨a, c, rfl, rfl⟩ | ⟨b, o, c, rfl, _, _⟩ <;> exact ⟨_, _, rfl⟩
theorem RowO.addr {w : World} {ao : Option Addr} {n c : Nat} {L : List OpM} (h : RowO w (.slice ao n c) L) (h0 : 0 < L.length) : ∃ b o, ao = some ⟨b, o, none⟩ ∧ b < w.heap.size ∧ ∀ i p, L[i]? = some p → OpAt w b (o + i * 7) p := by
  rcases h.1 with ⟨_, rfl⟩ | ⟨_, _, _, rfl⟩ | ⟨b, o, c', e, h1, h2⟩
  · simp at h0
  · simp at h0
  · cases e; exact ⟨b, o, rfl, h1, h2⟩
theorem RowT.shape {w : World} {v : Value} {E : List Bool} (h : RowT w v E) : ∃ ao c, v = .slice ao E.length c := by
  rcases h with ⟨rfl, rfl⟩ | ⟨a, c, rfl, rfl⟩ | ⟨b, o, c, rfl, _, _⟩ <;> exact ⟨_, _, rfl⟩
def smallI (L : List OpM) (most : Int) : Bool := L.all (fun p => decide (p.keep.length ≤ 100)) && decide ((L.length : Int) ≤ most)
def cellsO (p : OpM) : Array Value := #[.int .i64 p.kind, .int .i64 p.n, .int .u8 p.fill, .int .i64 p.short, p.kv, .int .i64 p.torn, .int .i64 p.cut]
set_option maxHeartbeats 4000000 in
set_option maxRecDepth 100000 in
theorem small_c (s : Value) (L : List OpM) (most : Int) (w : World) (hr : RowO w s L) (hl : L.length ≤ 9223372036854775807) (_hm : rngI most) : Calls Try.prog 9 #[s, .int .i64 most] w fun e w' => e = .returned (.bool (smallI L most)) ∧ Below w.heap.size w w' := by
  have HR := Lib.hid hr
  obtain ⟨ao, ac, rfl⟩ := hr.shape
  obtain ⟨n, hn⟩ : ∃ n, L.length = n := ⟨_, rfl⟩
  have HN := Lib.hid hn
  rw [hn] at HR ⊢
  have HL : Hid (n ≤ 9223372036854775807) := by rw [← hn]; exact hl
  clear hr hl hn
  go_enter Try.func9, Try.ntmps9
  go_wp2_with fail
  go_loopw [6, 9] (fun s6 s9 wr => ∃ k : Nat, k ≤ n ∧ s9 = .int .i64 (k : Int) ∧ Hid (Below w.heap.size w wr ∧ ∀ j p, L[j]? = some p → j < k → p.keep.length ≤ 100)) (fun _ s9 _ => n - (intOf s9).toNat)
  case atStart => exact ⟨0, by omega, rfl, Below.refl _ _, fun _ _ _ h => absurd h (Nat.not_lt_zero _)⟩
  case round =>
    obtain ⟨k, hk, rfl, hw⟩ := hrel
    by_cases hlt : k < n
    · have hd : decide ((k : Int) < (n : Int)) = true := by simp; omega
      have hki : (k : Int) < (n : Int) := by omega
      have ek : wrap64 ((k : Int) + 1) = ((k + 1 : Nat) : Int) := by have := HL.out; rw [wrapR _ (by omega) (by omega)]; omega
      obtain ⟨sb, so, rfl, hsb, hsc⟩ := RowO.addr HR.out (by rw [HN.out]; omega)
      obtain ⟨p, hp⟩ : ∃ p, L[k]? = some p := ⟨_, List.getElem?_eq_getElem (by rw [HN.out]; exact hlt)⟩
      obtain ⟨c0, c1, c2, c3, c4, c5, c6⟩ := (hsc k p hp).on hw.out.1 hsb
      obtain ⟨ks, kc, hkv⟩ := (HR.out.2 p (List.mem_of_getElem? hp)).shape
      rw [hkv] at c4
      obtain ⟨kn, hkn⟩ : ∃ x, p.keep.length = x := ⟨_, rfl⟩
      rw [hkn] at c4
      have HK : Hid (L[k]? = some p ∧ p.keep.length = kn) := ⟨hp, hkn⟩
      clear hsb hsc hp hkn hkv
      have HBW := hw.out.1
      go_upto_region 4 with fail
      obtain ⟨G, hG⟩ : ∃ G, wr.heap.size = G := ⟨_, rfl⟩
      obtain ⟨w1, hw1⟩ : ∃ WW, wr.alloc (.cells #[.int .i64 p.kind, .int .i64 p.n, .int .u8 p.fill, .int .i64 p.short, .slice ks kn kc, .int .i64 p.torn, .int .i64 p.cut] 34) = WW := ⟨_, rfl⟩
      have P1 : Hid (Below w.heap.size w w1 ∧ Blk w1 G 34 #[.int .i64 p.kind, .int .i64 p.n, .int .u8 p.fill, .int .i64 p.short, .slice ks kn kc, .int .i64 p.torn, .int .i64 p.cut]) := by
        rw [← hw1, ← hG]; exact ⟨HBW.alloc HBW.size _, Blk.new _ _ _⟩
      rw [hw1, hG]
      have c4' : w1.cell? ⟨G, 4, none⟩ = some (.slice ks kn kc) := P1.out.2.cell 4
      clear hw1 hG c0 c1 c2 c3 c4 c5 c6 HBW
      by_cases hg : kn > 100
      · have hdg : decide ((kn : Int) > 100) = true := by simp; omega
        have hf : Hid (smallI L most = false) := by
          unfold smallI Hid
          rw [Bool.and_eq_false_iff]
          left
          rw [List.all_eq_false]
          exact ⟨p, List.mem_of_getElem? HK.out.1, by rw [HK.out.2]; simp; omega⟩
        go_wp2_with fail
        go_ret
        exact ⟨by rw [hf.out]; rfl, P1.out.1⟩
      · have hdg : decide ((kn : Int) > 100) = false := by simp; omega
        have hw' := hw.out.2
        go_wp2_with fail
        refine ⟨⟨k + 1, by omega, by rw [ek], P1.out.1, fun j q hq hj => ?_⟩, ?_⟩
        · by_cases e : j = k
          · subst e
            rw [HK.out.1] at hq
            obtain rfl := Option.some.inj hq
            rw [HK.out.2]; omega
          · exact hw' j q hq (by omega)
        · rw [ek]; simp [intOf]; omega
    · have hd : decide ((k : Int) < (n : Int)) = false := by simp; omega
      have hkn : Hid (k = n) := by unfold Hid; omega
      obtain ⟨r, hr⟩ : ∃ r, decide ((n : Int) ≤ most) = r := ⟨_, rfl⟩
      have hf : Hid (smallI L most = r) := by
        unfold smallI Hid
        rw [HN.out, hr, List.all_eq_true.2, Bool.true_and]
        intro p hp
        obtain ⟨j, hj⟩ := List.mem_iff_getElem?.1 hp
        have hjl := (List.getElem?_eq_some_iff.1 hj).1
        rw [HN.out] at hjl
        simpa using hw.out.2 j p hj (by rw [hkn.out]; exact hjl)
      have hb9 := Lib.hid hw.out.1
      go_wp2_with fail
      go_ret
      exact ⟨by rw [hf.out]; rfl, hb9.out⟩
end Go.Proofs.Ytohmkmekdnfkoaa
