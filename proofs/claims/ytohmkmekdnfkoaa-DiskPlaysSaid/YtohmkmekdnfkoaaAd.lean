/- Layer 12: the document's disk, all of it. -/
import Derived.Test.YtohmkmekdnfkoaaAc
namespace Go.Proofs.Ytohmkmekdnfkoaa
open Go.RowKit
def flatW : List Wr → List Value
  | [] => []
  | x :: l => .int .i64 x.1 :: x.2.1 :: flatW l
theorem flatW_len : ∀ l : List Wr, (flatW l).length = l.length * 2
  | [] => rfl
  | x :: l => by unfold flatW; simp [flatW_len l]; omega
theorem flatW_append : ∀ l m : List Wr, flatW (l ++ m) = flatW l ++ flatW m
  | [], _ => rfl
  | x :: l, m => by simp only [List.cons_append, flatW, flatW_append l m]
theorem flatW_at : ∀ (l : List Wr) (i : Nat) (x : Wr), l[i]? = some x → (flatW l)[i * 2]? = some (.int .i64 x.1) ∧ (flatW l)[i * 2 + 1]? = some x.2.1
  | [], _, _, h => by simp at h
  | d :: l, 0, x, h => by
    obtain rfl : d = x := by simpa using h
    exact ⟨rfl, rfl⟩
  | d :: l, i + 1, x, h => by
    have hh := flatW_at l i x (by simpa using h)
    unfold flatW
    rw [show (i + 1) * 2 = i * 2 + 2 by omega]
    exact hh
def OwnW (w : World) (v : Value) (L : List Wr) : Prop := w.ownsRow 0 41 2 v L.length (flatW L)
theorem OwnW.row {w : World} {v : Value} {L : List Wr} (h : OwnW w v L) : RowW w v L := by
  have hr := h
  obtain ⟨_, ⟨rfl, hn⟩ | ⟨g, cap, cur, rfl, _, hg, hc, _, hs, ht⟩⟩ := h
  · exact .inl ⟨rfl, List.eq_nil_of_length_eq_zero hn⟩
  · refine .inr (.inr ⟨g, 0, cap, rfl, (Array.getElem?_eq_some_iff.1 hg).1, fun i p hp => ?_⟩)
    obtain ⟨e0, e1⟩ := flatW_at L i p hp
    have key := fun j u hj => World.ownsRow.cells hr (g := g) rfl j u hj
    have k0 := key _ _ e0
    have k1 := key _ _ e1
    rw [show (⟨g, 0, none⟩ : Addr).add (i * 2) = ⟨g, 0 + i * 2, none⟩ from Addr.add_lit ..] at k0
    rw [show (⟨g, 0, none⟩ : Addr).add (i * 2 + 1) = ⟨g, 0 + (i * 2 + 1), none⟩ from Addr.add_lit ..] at k1
    rw [← Nat.add_assoc] at k1
    exact ⟨k0, k1⟩
/-- The document's disk, all of it: its territory T, what is safe, the writes that wait. -/
structure RefAt (T : Nat → Prop) (w : World) (g : Nat) (safe : List Int) (size : Int) (L : List Wr) (left done : Int) (armed down : Bool) (sv wv : Value) : Prop where
  tg : T g
  blk : Blk w g 31 (cellsD sv size wv left done armed down)
  safe : OwnB w 0 sv safe
  ts : ∀ k, sv.ownBlock = some k → T k
  wait : OwnW w wv L
  tw : ∀ k, wv.ownBlock = some k → T k
  byts : ∀ x ∈ L, OwnB w 0 x.2.1 x.2.2 ∧ ∀ k, x.2.1.ownBlock = some k → T k
theorem RefAt.keep {T S : Nat → Prop} {w w' : World} {g : Nat} {safe : List Int} {size : Int} {L : List Wr} {left done : Int} {armed down : Bool} {sv wv : Value} (h : RefAt T w g safe size L left done armed down sv wv) (hk : Keep S w w') (hs : ∀ k, T k → S k) : RefAt T w' g safe size L left done armed down sv wv :=
  ⟨h.tg, hk.blk h.blk (hs _ h.tg), owns_keep h.safe hk fun k e => hs k (h.ts k e), h.ts, owns_keep h.wait hk fun k e => hs k (h.tw k e), h.tw, fun x hx => ⟨owns_keep (h.byts x hx).1 hk fun k e => hs k ((h.byts x hx).2 k e), (h.byts x hx).2⟩⟩
theorem RefAt.grow {T : Nat → Prop} {w w' : World} {g : Nat} {safe : List Int} {size : Int} {L : List Wr} {left done : Int} {armed down : Bool} {sv wv : Value} (h : RefAt T w g safe size L left done armed down sv wv) (hb : Below w.heap.size w w') : RefAt T w' g safe size L left done armed down sv wv := h.keep (Keep.of_below (S := fun _ => True) hb) fun _ _ => trivial
theorem RefAt.wide {T T' : Nat → Prop} {w : World} {g : Nat} {safe : List Int} {size : Int} {L : List Wr} {left done : Int} {armed down : Bool} {sv wv : Value} (h : RefAt T w g safe size L left done armed down sv wv) (ht : ∀ k, T k → T' k) : RefAt T' w g safe size L left done armed down sv wv :=
  ⟨ht _ h.tg, h.blk, h.safe, fun k e => ht k (h.ts k e), h.wait, fun k e => ht k (h.tw k e), fun x hx => ⟨(h.byts x hx).1, fun k e => ht k ((h.byts x hx).2 k e)⟩⟩
/-- The four last cells change. -/
theorem RefAt.cells {T : Nat → Prop} {w w' : World} {g : Nat} {safe : List Int} {size : Int} {L : List Wr} {left done left' done' : Int} {armed down armed' down' : Bool} {sv wv : Value} (h : RefAt T w g safe size L left done armed down sv wv) (hb : Blk w' g 31 (cellsD sv size wv left' done' armed' down')) (hk : Keep (fun k => k ≠ g) w w') : RefAt T w' g safe size L left' done' armed' down' sv wv :=
  ⟨h.tg, hb, owns_keep h.safe hk fun k e => fun hg => owns_off h.safe h.blk (by decide) (hg ▸ e), h.ts, owns_keep h.wait hk fun k e => fun hg => owns_off h.wait h.blk (by decide) (hg ▸ e), h.tw, fun x hx => ⟨owns_keep (h.byts x hx).1 hk fun k e => fun hg => owns_off (h.byts x hx).1 h.blk (by decide) (hg ▸ e), (h.byts x hx).2⟩⟩
theorem RefAt.waitR {T : Nat → Prop} {w : World} {g : Nat} {safe : List Int} {size : Int} {L : List Wr} {left done : Int} {armed down : Bool} {sv wv : Value} (h : RefAt T w g safe size L left done armed down sv wv) : WaitR w wv L := ⟨h.wait.row, fun x hx => (h.byts x hx).1.row⟩
/-- Sync's answer: the error, what is safe, what waits. -/
def syncE (left : Int) (armed down : Bool) : Int := if down = true then 40 else (cmdOut left 0 armed down).2
end Go.Proofs.Ytohmkmekdnfkoaa
