/-
  The web, the queue and the list in memory, side by side.
-/
import Derived.Test.YtlijlmjgnhheaaaNewWeb
namespace Go.Proofs.Ytlijlmjgnhheaaa
open Go.RowKit

/-- all blocks of the web are below Z. -/
def webUnder (Z Wb n ga gb gw : Nat) (V : Nat → Value) : Prop := (Wb < Z ∧ ga < Z ∧ gb < Z ∧ gw < Z) ∧ ∀ i, i < 2 * n → ∀ g, (V i).ownBlock = some g → g < Z

theorem webUnder_of {Wb B n ga gb gw : Nat} {sv : Value} {L : Nat → List Nat} {Wt : Nat → Nat} {V : Nat → Value} {w : World} (h : WebIn Wb B sv n L Wt ga gb gw V w) : webUnder w.heap.size Wb n ga gb gw V :=
  ⟨⟨(Array.getElem?_eq_some_iff.1 h.box).1, h.rowA.lt, h.rowB.lt, h.rowW.lt⟩, fun i hi g hg => ((h.own i hi).lt g hg).2⟩

theorem own_under {u u' : World} {B Z e s n : Nat} {v : Value} {xs : List Value} (h : u.ownsRow B e s v n xs) (b : Below Z u u') (hZ : ∀ g, v.ownBlock = some g → g < Z) : u'.ownsRow B e s v n xs := by
  refine ⟨h.1, ?_⟩
  rcases h.2 with hz | ⟨g, cap, cur, rfl, hB, hg, r⟩
  · exact .inl hz
  · exact .inr ⟨g, cap, cur, rfl, hB, by rw [b.block g (hZ g rfl)]; exact hg, r⟩

theorem WebIn.under {Wb B Z n ga gb gw : Nat} {sv : Value} {L : Nat → List Nat} {Wt : Nat → Nat} {V : Nat → Value} {u u' : World} (h : WebIn Wb B sv n L Wt ga gb gw V u) (hu : webUnder Z Wb n ga gb gw V) (b : Below Z u u') : WebIn Wb B sv n L Wt ga gb gw V u' :=
  ⟨by rw [b.block _ hu.1.1]; exact h.box, h.rowA.of_block (b.block _ hu.1.2.1), h.rowB.of_block (b.block _ hu.1.2.2.1), h.rowW.of_block (b.block _ hu.1.2.2.2), h.ne, h.low, fun i hi => own_under (h.own i hi) b (hu.2 i hi), h.noW, h.dist⟩

/-- the list stays under what is done to the queue. -/
theorem own_quKept {H Z n k : Nat} {v : Value} {xs : List Value} {w w' : World} (h : w.ownsRow Z 40 5 v n xs) (hH : ∃ cs, w.heap[H]? = some (.cells cs 149 (0, 0))) (b : quKept H k w w') : w'.ownsRow Z 40 5 v n xs := by
  refine ⟨h.1, ?_⟩
  rcases h.2 with hz | ⟨g, cap, cur, rfl, hB, hg, r⟩
  · exact .inl hz
  · obtain ⟨cs, hcs⟩ := hH
    exact .inr ⟨g, cap, cur, rfl, hB, b.2 g _ _ _ hg (block_ne hg hcs (by decide)) (by decide), r⟩

theorem quAt.box {H B : Nat} {q : List Nat} {w : World} (h : quAt H B q w) : ∃ cs, w.heap[H]? = some (.cells cs 149 (0, 0)) := by
  obtain ⟨v, hH, _⟩ := h
  exact ⟨_, hH⟩
theorem quAt.lt {H B : Nat} {q : List Nat} {w : World} (h : quAt H B q w) : H < w.heap.size := by
  obtain ⟨v, hH, _⟩ := h
  exact (Array.getElem?_eq_some_iff.1 hH).1

/-- the queue stays where a row of steps grows. -/
theorem quAt.grown {H B Z n : Nat} {q : List Nat} {w w' : World} {v : Value} {xs : List Value} (h : quAt H B q w) (hv : w.ownsRow Z 40 5 v n xs) (hg : w.grownBy w' v.ownBlock) : quAt H B q w' := by
  obtain ⟨x, hH, hx⟩ := h
  refine ⟨x, ?_, hx.kept hg ?_⟩
  · rw [hg.block H (Array.getElem?_eq_some_iff.1 hH).1 (row_other hv hH (by decide))]; exact hH
  · cases hb : x.ownBlock with
    | none => exact .inl rfl
    | some g =>
      right
      rcases hx.2 with ⟨e, _⟩ | ⟨g', cap, cur, rfl, _, hg', _⟩
      · rw [e] at hb; simp [Value.ownBlock] at hb
      · simp only [Value.ownBlock, Option.some.injEq] at hb
        subst hb
        exact row_other hv hg' (by decide)
theorem quAt.below {H B : Nat} {q : List Nat} {w w' : World} (h : quAt H B q w) (b : Below w.heap.size w w') : quAt H B q w' := by
  obtain ⟨x, hH, hx⟩ := h
  exact ⟨x, by rw [b.block _ (Array.getElem?_eq_some_iff.1 hH).1]; exact hH, own_kept hx b⟩
theorem quAt.set {H Z : Nat} {q : List Nat} {w : World} (h : quAt H Z q w) {g : Nat} (hg : g < Z) (hZ : Z ≤ H) (i : Nat) (u : Value) : quAt H Z q (w.setCell ⟨g, i, none⟩ u) := by
  obtain ⟨x, hH, hx⟩ := h
  refine ⟨x, by rw [Below.heap_setCell _ _ _ _ (show H ≠ g by omega)]; exact hH, own_setOther hx (fun e => ?_) _⟩
  have := (hx.lt g e).1
  omega
theorem own_set {Z n : Nat} {v : Value} {xs : List Value} {w : World} (h : w.ownsRow Z 40 5 v n xs) {g : Nat} (hg : g < Z) (i : Nat) (u : Value) : (w.setCell ⟨g, i, none⟩ u).ownsRow Z 40 5 v n xs :=
  own_setOther h (fun e => by have := (h.lt g e).1; omega) _

/-- the queue at the beginning. -/
theorem quAt_new (w : World) (Z : Nat) (hZ : Z ≤ w.heap.size) : quAt (w.heap.size + 1) Z [] ((w.alloc (Obj.cells #[] 3)).alloc (Obj.cells #[.slice (some ⟨w.heap.size, 0, none⟩) 0 0] 149)) := by
  refine ⟨_, ?_, rfl, .inr ⟨w.heap.size, 0, #[], rfl, hZ, ?_, Nat.le_refl _, Nat.zero_le _, rfl, rfl⟩⟩
  · have h := heap_alloc_new (w.alloc (Obj.cells #[] 3)) (Obj.cells #[.slice (some ⟨w.heap.size, 0, none⟩) 0 0] 149)
    rw [World.size_alloc] at h
    exact h
  · rw [Below.heap_alloc _ _ _ (by simp)]
    exact heap_alloc_new w _

theorem picked_snoc (l : List _root_.Pl.Sp) (D : List Nat) (k : Nat) (s : _root_.Pl.Sp) (h : l[k]? = some s) : _root_.Pl.picked l (D ++ [k]) = _root_.Pl.picked l D ++ [s] := by
  unfold _root_.Pl.picked
  rw [List.map_append, List.map_cons, List.map_nil, List.getD_eq_getElem?_getD, h]; rfl
theorem picked_length (l : List _root_.Pl.Sp) (D : List Nat) : (_root_.Pl.picked l D).length = D.length := by unfold _root_.Pl.picked; rw [List.length_map]

end Go.Proofs.Ytlijlmjgnhheaaa
