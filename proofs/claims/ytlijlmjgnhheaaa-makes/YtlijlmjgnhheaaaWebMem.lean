/-
  The web of steps in memory: who is ahead of whom, who is behind, for how many each waits.
-/
import Derived.Test.YtlijlmjgnhheaaaSearch
namespace Go.Proofs.Ytlijlmjgnhheaaa
open Go.RowKit

/-- the parts of a web: its box, two rows of lists and a row of numbers. -/
structure WebIn (Wb B : Nat) (sv : Value) (n : Nat) (L : Nat → List Nat) (Wt : Nat → Nat) (ga gb gw : Nat) (V : Nat → Value) (w : World) : Prop where
  box : w.heap[Wb]? = some (.cells #[sv, .slice (some ⟨ga, 0, none⟩) n n, .slice (some ⟨gb, 0, none⟩) n n, .slice (some ⟨gw, 0, none⟩) n n] 147 (0, 0))
  rowA : w.rowIs ga 58 n V
  rowB : w.rowIs gb 58 n (fun i => V (n + i))
  rowW : w.rowIs gw 3 n (fun i => .int .i64 (Wt i : Nat))
  ne : ga ≠ gb
  low : B ≤ Wb ∧ B ≤ ga ∧ B ≤ gb ∧ B ≤ gw
  own : ∀ i, i < 2 * n → w.ownsRow B 3 1 (V i) (L i).length (nums (L i))
  noW : ∀ i, i < 2 * n → (V i).ownBlock ≠ some gw
  dist : ∀ i j g, i < 2 * n → j < 2 * n → i ≠ j → (V i).ownBlock = some g → (V j).ownBlock ≠ some g

def webAt (Wb B : Nat) (sv : Value) (n : Nat) (L : Nat → List Nat) (Wt : Nat → Nat) (w : World) : Prop := ∃ ga gb gw V, WebIn Wb B sv n L Wt ga gb gw V w

theorem rowIs_block {w : World} {b : Nat} {t : TypeId} {n : Nat} {f : Nat → Value} (h : w.rowIs b t n f) : ∃ cs, w.heap[b]? = some (.cells cs t (0, 0)) := by
  obtain ⟨c, h1, _⟩ := h
  exact ⟨c, h1⟩

theorem block_ne {w : World} {a b : Nat} {ca cb : Array Value} {ta tb : TypeId} {fa fb : Nat × Nat} (ha : w.heap[a]? = some (.cells ca ta fa)) (hb : w.heap[b]? = some (.cells cb tb fb)) (ht : ta ≠ tb) : a ≠ b := by
  intro e
  subst e
  rw [ha] at hb
  simp only [Option.some.injEq, Obj.cells.injEq] at hb
  exact ht hb.2.1

theorem WebIn.congr {Wb B n ga gb gw : Nat} {sv : Value} {L L' : Nat → List Nat} {Wt Wt' : Nat → Nat} {V : Nat → Value} {w : World} (h : WebIn Wb B sv n L Wt ga gb gw V w) (hL : ∀ i, i < 2 * n → L' i = L i) (hW : ∀ i, i < n → Wt' i = Wt i) : WebIn Wb B sv n L' Wt' ga gb gw V w :=
  ⟨h.box, h.rowA, h.rowB, h.rowW.congr (fun i hi => by rw [hW i hi]), h.ne, h.low, fun i hi => by rw [hL i hi]; exact h.own i hi, h.noW, h.dist⟩

/-- what leaves all blocks of the web as they were leaves the web. -/
theorem WebIn.kept {Wb B n ga gb gw : Nat} {sv : Value} {L : Nat → List Nat} {Wt : Nat → Nat} {V : Nat → Value} {w w' : World} (h : WebIn Wb B sv n L Wt ga gb gw V w) (hk : ∀ k, k < w.heap.size → w'.heap[k]? = w.heap[k]?) (hs : w.heap.size ≤ w'.heap.size) (ho : w'.os = w.os) (ht : w'.tape = w.tape) (hout : w'.output = w.output) : WebIn Wb B sv n L Wt ga gb gw V w' := by
  refine ⟨by rw [hk Wb (Array.getElem?_eq_some_iff.1 h.box).1]; exact h.box, h.rowA.of_block (hk _ h.rowA.lt), h.rowB.of_block (hk _ h.rowB.lt), h.rowW.of_block (hk _ h.rowW.lt), h.ne, h.low, fun i hi => ?_, h.noW, h.dist⟩
  exact (h.own i hi).kept (row := none) ⟨ho, ht, hout, hs, fun k hk' _ => hk k hk'⟩ (by cases hv : (V i).ownBlock <;> simp)

theorem WebIn.below {Wb B n ga gb gw : Nat} {sv : Value} {L : Nat → List Nat} {Wt : Nat → Nat} {V : Nat → Value} {w w' : World} (h : WebIn Wb B sv n L Wt ga gb gw V w) (b : Below w.heap.size w w') : WebIn Wb B sv n L Wt ga gb gw V w' :=
  h.kept b.block b.size b.os b.tape b.output

/-- a number more in one of the lists. -/
def more1 (L : Nat → List Nat) (m x : Nat) : Nat → List Nat := fun i => if i = m then L i ++ [x] else L i
def setV (V : Nat → Value) (m : Nat) (v : Value) : Nat → Value := fun i => if i = m then v else V i

theorem WebIn.push {Wb B n ga gb gw : Nat} {sv : Value} {L : Nat → List Nat} {Wt : Nat → Nat} {V : Nat → Value} {w w2 : World} (h : WebIn Wb B sv n L Wt ga gb gw V w) {m x : Nat} (hm : m < 2 * n) {v' : Value} {g : Nat}
    (hg : w.grownBy w2 (V m).ownBlock) (ho : w2.ownsRow B 3 1 v' ((L m).length + 1) (nums (L m) ++ [.int .i64 (x : Nat)])) (hv : v'.ownBlock = some g) (hlies : (V m).ownBlock = some g ∨ w.heap.size ≤ g)
    {G c : Nat} (hG : (G = ga ∧ c = m ∧ m < n) ∨ (G = gb ∧ n + c = m ∧ c < n)) :
    WebIn Wb B sv n (more1 L m x) Wt ga gb gw (setV V m v') (w2.setCell ⟨G, c, none⟩ v') ∧ (B ≤ w.heap.size → Below B w (w2.setCell ⟨G, c, none⟩ v')) := by
  obtain ⟨ca, hga⟩ := rowIs_block h.rowA
  obtain ⟨cb, hgb⟩ := rowIs_block h.rowB
  obtain ⟨cw, hgw⟩ := rowIs_block h.rowW
  have lA := h.rowA.lt
  have lB := h.rowB.lt
  have lW := h.rowW.lt
  have lX := (Array.getElem?_eq_some_iff.1 h.box).1
  have hom := h.own m hm
  have nX : some Wb ≠ (V m).ownBlock := row_other hom h.box (by decide)
  have nA : some ga ≠ (V m).ownBlock := row_other hom hga (by decide)
  have nB : some gb ≠ (V m).ownBlock := row_other hom hgb (by decide)
  have nW : some gw ≠ (V m).ownBlock := fun e => h.noW m hm e.symm
  have kX := hg.block Wb lX nX
  have kA := hg.block ga lA nA
  have kB := hg.block gb lB nB
  have kW := hg.block gw lW nW
  have hGb : ∃ cs, w.heap[G]? = some (.cells cs 58 (0, 0)) := by
    rcases hG with ⟨e, _⟩ | ⟨e, _⟩
    · rw [e]; exact ⟨ca, hga⟩
    · rw [e]; exact ⟨cb, hgb⟩
  obtain ⟨cG, hGG⟩ := hGb
  have lG : G < w.heap.size := (Array.getElem?_eq_some_iff.1 hGG).1
  have hBG : B ≤ G := by rcases hG with ⟨e, _⟩ | ⟨e, _⟩ <;> rw [e]; exact h.low.2.1; exact h.low.2.2.1
  have eX : Wb ≠ G := block_ne h.box hGG (by decide)
  have eW : gw ≠ G := block_ne hgw hGG (by decide)
  refine ⟨⟨?_, ?_, ?_, ?_, h.ne, h.low, fun i hi => ?_, fun i hi => ?_, fun i j g' hi hj hij => ?_⟩, fun hB => ?_⟩
  · rw [Below.heap_setCell _ _ _ _ eX, kX]; exact h.box
  · have r := h.rowA.of_block (w' := w2) kA
    rcases hG with ⟨e, e1, e2⟩ | ⟨e, e1, e2⟩
    · subst e
      exact (r.set c v').congr (fun i hi => by unfold setV; by_cases hic : i = c <;> simp [hic, e1])
    · refine (r.setOther (by rw [e]; exact h.ne) v').congr (fun i hi => ?_)
      unfold setV; rw [if_neg (by omega)]
  · have r := h.rowB.of_block (w' := w2) kB
    rcases hG with ⟨e, e1, e2⟩ | ⟨e, e1, e2⟩
    · refine (r.setOther (by rw [e]; exact h.ne.symm) v').congr (fun i hi => ?_)
      unfold setV; rw [if_neg (by omega)]
    · subst e
      refine (r.set c v').congr (fun i hi => ?_)
      unfold setV
      by_cases hic : i = c
      · rw [if_pos hic, if_pos (by omega)]
      · rw [if_neg hic, if_neg (by omega)]
  · exact (h.rowW.of_block (w' := w2) kW).setOther eW v'
  · by_cases him : i = m
    · subst him
      have h1 : more1 L i x i = L i ++ [x] := by unfold more1; rw [if_pos rfl]
      have h2 : setV V i v' i = v' := by unfold setV; rw [if_pos rfl]
      rw [h1, h2, nums, List.map_append, List.length_append]
      refine own_setOther ho ?_ _
      rw [hv]
      intro e
      simp only [Option.some.injEq] at e
      subst e
      rcases hlies with h3 | h3
      · exact row_other hom hGG (by decide) h3.symm
      · omega
    · have h1 : more1 L m x i = L i := by unfold more1; rw [if_neg him]
      have h2 : setV V m v' i = V i := by unfold setV; rw [if_neg him]
      rw [h1, h2]
      have ho1 := h.own i hi
      refine own_setOther (ho1.kept hg ?_) (fun e => row_other ho1 hGG (by decide) e.symm) _
      cases hvi : (V i).ownBlock with
      | none => exact .inl rfl
      | some b =>
        right
        intro e
        exact h.dist i m b hi hm him hvi e.symm
  · by_cases him : i = m
    · subst him
      have h2 : setV V i v' i = v' := by unfold setV; rw [if_pos rfl]
      rw [h2, hv]
      intro e
      simp only [Option.some.injEq] at e
      subst e
      rcases hlies with h3 | h3
      · exact h.noW i hi h3
      · omega
    · have h2 : setV V m v' i = V i := by unfold setV; rw [if_neg him]
      rw [h2]; exact h.noW i hi
  · have hlt : ∀ i, i < 2 * n → ∀ b, (V i).ownBlock = some b → b < w.heap.size := fun i hi b hb => ((h.own i hi).lt b hb).2
    by_cases him : i = m
    · subst him
      have h2 : setV V i v' i = v' := by unfold setV; rw [if_pos rfl]
      have h3 : setV V i v' j = V j := by unfold setV; rw [if_neg (Ne.symm hij)]
      rw [h2, h3, hv]
      intro e
      simp only [Option.some.injEq] at e
      subst e
      rcases hlies with h4 | h4
      · exact h.dist i j g hi hj hij h4
      · intro e
        have := hlt j hj g e
        omega
    · have h2 : setV V m v' i = V i := by unfold setV; rw [if_neg him]
      rw [h2]
      by_cases hjm : j = m
      · subst hjm
        have h3 : setV V j v' j = v' := by unfold setV; rw [if_pos rfl]
        rw [h3, hv]
        intro e1 e2
        simp only [Option.some.injEq] at e2
        subst e2
        rcases hlies with h4 | h4
        · exact h.dist i j g hi hj hij e1 h4
        · have := hlt i hi g e1
          omega
      · have h3 : setV V m v' j = V j := by unfold setV; rw [if_neg hjm]
        rw [h3]; exact h.dist i j g' hi hj hij
  · exact ((Below.refl B w).grown hg hB (fun j hj => (hom.lt j hj).1)).setCell hBG _

/-- one of the numbers is laid anew. -/
theorem WebIn.wait {Wb B n ga gb gw : Nat} {sv : Value} {L : Nat → List Nat} {Wt : Nat → Nat} {V : Nat → Value} {w : World} (h : WebIn Wb B sv n L Wt ga gb gw V w) (m x : Nat) :
    WebIn Wb B sv n L (fun i => if i = m then x else Wt i) ga gb gw V (w.setCell ⟨gw, m, none⟩ (.int .i64 (x : Nat))) := by
  obtain ⟨ca, hga⟩ := rowIs_block h.rowA
  obtain ⟨cb, hgb⟩ := rowIs_block h.rowB
  obtain ⟨cw, hgw⟩ := rowIs_block h.rowW
  refine ⟨?_, h.rowA.setOther (block_ne hga hgw (by decide)) _, h.rowB.setOther (block_ne hgb hgw (by decide)) _, (h.rowW.set m _).congr (fun i _ => by by_cases hi : i = m <;> simp [hi]), h.ne, h.low, fun i hi => ?_, h.noW, h.dist⟩
  · rw [Below.heap_setCell _ _ _ _ (block_ne h.box hgw (by decide))]; exact h.box
  · exact own_setOther (h.own i hi) (h.noW i hi) _

theorem WebIn.cells {Wb B n ga gb gw : Nat} {sv : Value} {L : Nat → List Nat} {Wt : Nat → Nat} {V : Nat → Value} {w : World} (h : WebIn Wb B sv n L Wt ga gb gw V w) :
    w.cell? ⟨Wb, 0, none⟩ = some sv ∧ w.cell? ⟨Wb, 1, none⟩ = some (.slice (some ⟨ga, 0, none⟩) n n) ∧ w.cell? ⟨Wb, 2, none⟩ = some (.slice (some ⟨gb, 0, none⟩) n n) ∧ w.cell? ⟨Wb, 3, none⟩ = some (.slice (some ⟨gw, 0, none⟩) n n) := by
  refine ⟨?_, ?_, ?_, ?_⟩ <;> rw [Lib.cell_of_heap h.box] <;> rfl

end Go.Proofs.Ytlijlmjgnhheaaa
