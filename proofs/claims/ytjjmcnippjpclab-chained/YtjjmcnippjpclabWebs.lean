/-
  The walk of the search for the first step that goes beyond a place.
  The web of steps in memory: who is ahead of whom, who is behind, for how many each waits.
  What tie makes of the lists: without memory.
-/
import Derived.Test.YtjjmcnippjpclabHeaps
import Derived.Test.YtjjmcnippjpclabMakings
namespace Go.Proofs.Ytjjmcnippjpclab

open Go.RowKit

set_option maxRecDepth 100000 in
set_option maxHeartbeats 1000000 in
theorem cmp_any (k t n f : Int) (d : ByteArray) (from' : Int) (w : World) (h1 : 0 ≤ t) (h2 : t ≤ 10000) (h3 : 0 ≤ n) (h4 : n ≤ 10000) (h5 : 0 ≤ from') (h6 : from' ≤ 10000) :
    Calls Try.prog 90 #[.agg #[.int .i64 k, .int .i64 t, .int .i64 n, .string d, .int .i64 f], .int .i64 from'] w fun e w' => e = .returned (.int .i64 (t + n - from' - 1)) ∧ Below w.heap.size w w' := by
  go_enter Try.func90, Try.ntmps90
  go_wp2_with fail
  go_ret
  exact ⟨rfl, (Below.refl _ _).alloc (Nat.le_refl _) _⟩

set_option maxRecDepth 100000 in
set_option maxHeartbeats 1000000 in
theorem search_any (nx : ByteArray) (sv : Value) (l : List _root_.Pl.Sp) (c : Nat) (B : Nat) (F : Nat) (w : World) (hl : l.length ≤ 4000) (hc : c ≤ 4000) (hF : F ≤ 4000) (ht : Hid (_root_.Pl.tiles 0 l c)) (hw : Hid (w.ownsRow B 37 5 sv l.length (spCells nx l))) :
    Calls Try.prog 89 #[sv, .int .i64 F, .func (.func 90) #[] #[]] w fun e w' => ∃ (r : Nat) (b : Bool), e = .returned (.tuple #[.int .i64 r, .bool b]) ∧ r ≤ l.length ∧ (∀ j s, l[j]? = some s → j < r → s.t + s.n ≤ F) ∧ (∀ j s, l[j]? = some s → r ≤ j → F < s.t + s.n) ∧ Below w.heap.size w w' := by
  obtain ⟨ao, cp, rfl⟩ : ∃ ao cp, sv = .slice ao l.length cp := by
    rcases hw.out.2 with ⟨hv, hz⟩ | ⟨g, cap, cur, hv, _⟩
    · exact ⟨none, 0, by rw [hv, hz]⟩
    · exact ⟨_, _, hv⟩
  go_enter Try.func89, Try.ntmps89
  go_wp2_with fail
  go_loopw [9, 10] (fun x y wr => ∃ i j : Nat, x = .int .i64 i ∧ y = .int .i64 j ∧ i ≤ j ∧ j ≤ l.length ∧ Hid (∀ m s, l[m]? = some s → m < i → s.t + s.n ≤ F) ∧ Hid (∀ m s, l[m]? = some s → j ≤ m → F < s.t + s.n) ∧ Hid (Below w.heap.size w wr)) (fun x y _ => (intOf y).toNat - (intOf x).toNat)
  case atStart => exact ⟨0, l.length, rfl, rfl, Nat.zero_le _, Nat.le_refl _, fun m s _ hm => absurd hm (Nat.not_lt_zero _), fun m s hs hm => absurd (List.getElem?_eq_some_iff.1 hs).1 (by omega), Below.refl _ _⟩
  case round =>
    obtain ⟨i, j, rfl, rfl, hij, hj, hlo, hhi, hbel⟩ := hrel
    by_cases hlt : i < j
    · obtain ⟨H, hH, hH1, hH2⟩ : ∃ H : Nat, ((i : Int) + (j : Int)) / 2 = (H : Int) ∧ i ≤ H ∧ H < j := ⟨(i + j) / 2, by omega, by omega, by omega⟩
      obtain ⟨s, hs⟩ : ∃ s, l[H]? = some s := ⟨l[H]'(by omega), List.getElem?_eq_getElem (by omega)⟩
      obtain ⟨g, hao⟩ : ∃ g, ao = some ⟨g, 0, none⟩ := by
        obtain ⟨g, cap, hv, _⟩ := hw.out.form (by omega)
        simp only [Value.slice.injEq] at hv
        exact ⟨g, hv.1⟩
      subst hao
      have hk0 : (H : Int) < (l.length : Int) := by omega
      have hgl : g < w.heap.size := (hw.out.lt g rfl).2
      obtain ⟨e0, e1, e2, e3, e4⟩ := spCells_at nx l H s hs
      have hlen5 := spCells_length nx l
      have c0 := (hbel.out.cell (p := ⟨g, H * 5, none⟩) hgl).trans ((hw.out.cellAt (H * 5) (by omega)).trans e0)
      have c1 := (hbel.out.cell (p := ⟨g, H * 5 + 1, none⟩) hgl).trans ((hw.out.cellAt (H * 5 + 1) (by omega)).trans e1)
      have c2 := (hbel.out.cell (p := ⟨g, H * 5 + 2, none⟩) hgl).trans ((hw.out.cellAt (H * 5 + 2) (by omega)).trans e2)
      have c3 := (hbel.out.cell (p := ⟨g, H * 5 + 3, none⟩) hgl).trans ((hw.out.cellAt (H * 5 + 3) (by omega)).trans e3)
      have c4 := (hbel.out.cell (p := ⟨g, H * 5 + 4, none⟩) hgl).trans ((hw.out.cellAt (H * 5 + 4) (by omega)).trans e4)
      clear e0 e1 e2 e3 e4
      obtain ⟨_, b1, b2⟩ := _root_.Pl.tiles_mem l 0 c ht.out s (List.mem_of_getElem? hs)
      have HS : Hid (l[H]? = some s) := hs
      clear hs
      go_wp2_with fail
      refine (cmp_any _ _ _ _ _ _ _ (by omega) (by omega) (by omega) (by omega) (by omega) (by omega)).mono ?_
      rintro e v1 ⟨rfl, bv⟩
      have hb1 : Hid (Below w.heap.size w v1) := hbel.out.trans (bv.mono hbel.out.size)
      clear bv c0 c1 c2 c3 c4
      by_cases hcmp : s.t + s.n ≤ F
      · have d : decide ((s.t : Int) + (s.n : Int) - (F : Int) - 1 < 0) = true := decide_eq_true (by omega)
        go_wp2_with fail
        refine ⟨⟨H + 1, j, by go_num, rfl, by omega, hj, fun m x hx hm => ?_, hhi, hb1⟩, by simp [intOf]; omega⟩
        rcases Nat.lt_succ_iff_lt_or_eq.1 hm with hm | rfl
        · have := _root_.Pl.tiles_lt l 0 c ht.out m H x s hx HS.out hm
          omega
        · rw [HS.out] at hx; cases hx; exact hcmp
      · have d : decide ((s.t : Int) + (s.n : Int) - (F : Int) - 1 < 0) = false := decide_eq_false (by omega)
        go_wp2_with fail
        refine ⟨⟨i, H, rfl, rfl, hH1, by omega, hlo, fun m x hx hm => ?_, hb1⟩, by simp [intOf]; omega⟩
        rcases Nat.lt_or_eq_of_le hm with hm | rfl
        · have h1 := _root_.Pl.tiles_lt l 0 c ht.out H m s x HS.out hx hm
          have h2 := (_root_.Pl.tiles_mem l 0 c ht.out x (List.mem_of_getElem? hx)).2.1
          omega
        · rw [HS.out] at hx; cases hx; omega
    · have hije : i = j := by omega
      subst hije
      by_cases hil : i < l.length
      · have hk0 : decide ((i : Int) < (l.length : Int)) = true := decide_eq_true (by omega)
        have hk1 : (i : Int) < (l.length : Int) := by omega
        obtain ⟨s, hs⟩ : ∃ s, l[i]? = some s := ⟨l[i]'(by omega), List.getElem?_eq_getElem (by omega)⟩
        obtain ⟨g, hao⟩ : ∃ g, ao = some ⟨g, 0, none⟩ := by
          obtain ⟨g, cap, hv, _⟩ := hw.out.form (by omega)
          simp only [Value.slice.injEq] at hv
          exact ⟨g, hv.1⟩
        subst hao
        have hgl : g < w.heap.size := (hw.out.lt g rfl).2
        obtain ⟨e0, e1, e2, e3, e4⟩ := spCells_at nx l i s hs
        have hlen5 := spCells_length nx l
        have c0 := (hbel.out.cell (p := ⟨g, i * 5, none⟩) hgl).trans ((hw.out.cellAt (i * 5) (by omega)).trans e0)
        have c1 := (hbel.out.cell (p := ⟨g, i * 5 + 1, none⟩) hgl).trans ((hw.out.cellAt (i * 5 + 1) (by omega)).trans e1)
        have c2 := (hbel.out.cell (p := ⟨g, i * 5 + 2, none⟩) hgl).trans ((hw.out.cellAt (i * 5 + 2) (by omega)).trans e2)
        have c3 := (hbel.out.cell (p := ⟨g, i * 5 + 3, none⟩) hgl).trans ((hw.out.cellAt (i * 5 + 3) (by omega)).trans e3)
        have c4 := (hbel.out.cell (p := ⟨g, i * 5 + 4, none⟩) hgl).trans ((hw.out.cellAt (i * 5 + 4) (by omega)).trans e4)
        clear e0 e1 e2 e3 e4
        obtain ⟨_, b1, b2⟩ := _root_.Pl.tiles_mem l 0 c ht.out s (List.mem_of_getElem? hs)
        clear hs
        go_wp2_with fail
        refine (cmp_any _ _ _ _ _ _ _ (by omega) (by omega) (by omega) (by omega) (by omega) (by omega)).mono ?_
        rintro e v1 ⟨rfl, bv⟩
        have hb1 : Hid (Below w.heap.size w v1) := hbel.out.trans (bv.mono hbel.out.size)
        clear bv c0 c1 c2 c3 c4
        go_wp2_with fail
        go_ret2
        exact ⟨i, _, rfl, hj, hlo.out, hhi.out, hb1.out⟩
      · have hk0 : decide ((i : Int) < (l.length : Int)) = false := decide_eq_false (by omega)
        go_wp2_with fail
        go_ret2
        exact ⟨i, _, rfl, hj, hlo.out, hhi.out, hbel.out⟩

end Go.Proofs.Ytjjmcnippjpclab

namespace Go.Proofs.Ytjjmcnippjpclab

open Go.RowKit

/-- the parts of a web: its box, two rows of lists and a row of numbers. -/
structure WebIn (Wb B : Nat) (sv : Value) (n : Nat) (L : Nat → List Nat) (Wt : Nat → Nat) (ga gb gw : Nat) (V : Nat → Value) (w : World) : Prop where
  box : w.heap[Wb]? = some (.cells #[sv, .slice (some ⟨ga, 0, none⟩) n n, .slice (some ⟨gb, 0, none⟩) n n, .slice (some ⟨gw, 0, none⟩) n n] 109 (0, 0))
  rowA : w.rowIs ga 22 n V
  rowB : w.rowIs gb 22 n (fun i => V (n + i))
  rowW : w.rowIs gw 3 n (fun i => .int .i64 (Wt i : Nat))
  ne : ga ≠ gb
  low : B ≤ Wb ∧ B ≤ ga ∧ B ≤ gb ∧ B ≤ gw
  own : ∀ i, i < 2 * n → w.ownsRow B 3 1 (V i) (L i).length (nums (L i))
  noW : ∀ i, i < 2 * n → (V i).ownBlock ≠ some gw
  dist : ∀ i j g, i < 2 * n → j < 2 * n → i ≠ j → (V i).ownBlock = some g → (V j).ownBlock ≠ some g

def webAt (Wb B : Nat) (sv : Value) (n : Nat) (L : Nat → List Nat) (Wt : Nat → Nat) (w : World) : Prop := ∃ ga gb gw V, WebIn Wb B sv n L Wt ga gb gw V w

theorem rowIs_block {w : World} {b : Nat} {t : TypeId} {n : Nat} {f : Nat → Value} (h : w.rowIs b t n f) : ∃ cs, w.heap[b]? = some (.cells cs t (0, 0)) := by
  obtain ⟨c, h1, _⟩ := h
  exact ⟨c, h1⟩

theorem block_ne {w : World} {a b : Nat} {ca cb : Array Value} {ta tb : TypeId} {fa fb : Nat × Nat} (ha : w.heap[a]? = some (.cells ca ta fa)) (hb : w.heap[b]? = some (.cells cb tb fb)) (ht : ta ≠ tb) : a ≠ b := by
  intro e
  subst e
  rw [ha] at hb
  simp only [Option.some.injEq, Obj.cells.injEq] at hb
  exact ht hb.2.1

theorem WebIn.congr {Wb B n ga gb gw : Nat} {sv : Value} {L L' : Nat → List Nat} {Wt Wt' : Nat → Nat} {V : Nat → Value} {w : World} (h : WebIn Wb B sv n L Wt ga gb gw V w) (hL : ∀ i, i < 2 * n → L' i = L i) (hW : ∀ i, i < n → Wt' i = Wt i) : WebIn Wb B sv n L' Wt' ga gb gw V w :=
  ⟨h.box, h.rowA, h.rowB, h.rowW.congr (fun i hi => by rw [hW i hi]), h.ne, h.low, fun i hi => by rw [hL i hi]; exact h.own i hi, h.noW, h.dist⟩

/-- what leaves all blocks of the web as they were leaves the web. -/
theorem WebIn.kept {Wb B n ga gb gw : Nat} {sv : Value} {L : Nat → List Nat} {Wt : Nat → Nat} {V : Nat → Value} {w w' : World} (h : WebIn Wb B sv n L Wt ga gb gw V w) (hk : ∀ k, k < w.heap.size → w'.heap[k]? = w.heap[k]?) (hs : w.heap.size ≤ w'.heap.size) (ho : w'.os = w.os) (ht : w'.tape = w.tape) (hout : w'.output = w.output) : WebIn Wb B sv n L Wt ga gb gw V w' := by
  refine ⟨by rw [hk Wb (Array.getElem?_eq_some_iff.1 h.box).1]; exact h.box, h.rowA.of_block (hk _ h.rowA.lt), h.rowB.of_block (hk _ h.rowB.lt), h.rowW.of_block (hk _ h.rowW.lt), h.ne, h.low, fun i hi => ?_, h.noW, h.dist⟩
  exact (h.own i hi).kept (row := none) ⟨ho, ht, hout, hs, fun k hk' _ => hk k hk'⟩ (by cases hv : (V i).ownBlock <;> simp)

theorem WebIn.below {Wb B n ga gb gw : Nat} {sv : Value} {L : Nat → List Nat} {Wt : Nat → Nat} {V : Nat → Value} {w w' : World} (h : WebIn Wb B sv n L Wt ga gb gw V w) (b : Below w.heap.size w w') : WebIn Wb B sv n L Wt ga gb gw V w' :=
  h.kept b.block b.size b.os b.tape b.output

/-- a number more in one of the lists. -/
def more1 (L : Nat → List Nat) (m x : Nat) : Nat → List Nat := fun i => if i = m then L i ++ [x] else L i

def setV (V : Nat → Value) (m : Nat) (v : Value) : Nat → Value := fun i => if i = m then v else V i

theorem WebIn.push {Wb B n ga gb gw : Nat} {sv : Value} {L : Nat → List Nat} {Wt : Nat → Nat} {V : Nat → Value} {w w2 : World} (h : WebIn Wb B sv n L Wt ga gb gw V w) {m x : Nat} (hm : m < 2 * n) {v' : Value} {g : Nat}
    (hg : w.grownBy w2 (V m).ownBlock) (ho : w2.ownsRow B 3 1 v' ((L m).length + 1) (nums (L m) ++ [.int .i64 (x : Nat)])) (hv : v'.ownBlock = some g) (hlies : (V m).ownBlock = some g ∨ w.heap.size ≤ g)
    {G c : Nat} (hG : (G = ga ∧ c = m ∧ m < n) ∨ (G = gb ∧ n + c = m ∧ c < n)) :
    WebIn Wb B sv n (more1 L m x) Wt ga gb gw (setV V m v') (w2.setCell ⟨G, c, none⟩ v') ∧ (B ≤ w.heap.size → Below B w (w2.setCell ⟨G, c, none⟩ v')) := by
  obtain ⟨ca, hga⟩ := rowIs_block h.rowA
  obtain ⟨cb, hgb⟩ := rowIs_block h.rowB
  obtain ⟨cw, hgw⟩ := rowIs_block h.rowW
  have lA := h.rowA.lt
  have lB := h.rowB.lt
  have lW := h.rowW.lt
  have lX := (Array.getElem?_eq_some_iff.1 h.box).1
  have hom := h.own m hm
  have nX : some Wb ≠ (V m).ownBlock := row_other hom h.box (by decide)
  have nA : some ga ≠ (V m).ownBlock := row_other hom hga (by decide)
  have nB : some gb ≠ (V m).ownBlock := row_other hom hgb (by decide)
  have nW : some gw ≠ (V m).ownBlock := fun e => h.noW m hm e.symm
  have kX := hg.block Wb lX nX
  have kA := hg.block ga lA nA
  have kB := hg.block gb lB nB
  have kW := hg.block gw lW nW
  have hGb : ∃ cs, w.heap[G]? = some (.cells cs 22 (0, 0)) := by
    rcases hG with ⟨e, _⟩ | ⟨e, _⟩
    · rw [e]; exact ⟨ca, hga⟩
    · rw [e]; exact ⟨cb, hgb⟩
  obtain ⟨cG, hGG⟩ := hGb
  have lG : G < w.heap.size := (Array.getElem?_eq_some_iff.1 hGG).1
  have hBG : B ≤ G := by rcases hG with ⟨e, _⟩ | ⟨e, _⟩ <;> rw [e]; exact h.low.2.1; exact h.low.2.2.1
  have eX : Wb ≠ G := block_ne h.box hGG (by decide)
  have eW : gw ≠ G := block_ne hgw hGG (by decide)
  refine ⟨⟨?_, ?_, ?_, ?_, h.ne, h.low, fun i hi => ?_, fun i hi => ?_, fun i j g' hi hj hij => ?_⟩, fun hB => ?_⟩
  · rw [Below.heap_setCell _ _ _ _ eX, kX]; exact h.box
  · have r := h.rowA.of_block (w' := w2) kA
    rcases hG with ⟨e, e1, e2⟩ | ⟨e, e1, e2⟩
    · subst e
      exact (r.set c v').congr (fun i hi => by unfold setV; by_cases hic : i = c <;> simp [hic, e1])
    · refine (r.setOther (by rw [e]; exact h.ne) v').congr (fun i hi => ?_)
      unfold setV; rw [if_neg (by omega)]
  · have r := h.rowB.of_block (w' := w2) kB
    rcases hG with ⟨e, e1, e2⟩ | ⟨e, e1, e2⟩
    · refine (r.setOther (by rw [e]; exact h.ne.symm) v').congr (fun i hi => ?_)
      unfold setV; rw [if_neg (by omega)]
    · subst e
      refine (r.set c v').congr (fun i hi => ?_)
      unfold setV
      by_cases hic : i = c
      · rw [if_pos hic, if_pos (by omega)]
      · rw [if_neg hic, if_neg (by omega)]
  · exact (h.rowW.of_block (w' := w2) kW).setOther eW v'
  · by_cases him : i = m
    · subst him
      have h1 : more1 L i x i = L i ++ [x] := by unfold more1; rw [if_pos rfl]
      have h2 : setV V i v' i = v' := by unfold setV; rw [if_pos rfl]
      rw [h1, h2, nums, List.map_append, List.length_append]
      refine own_setOther ho ?_ _
      rw [hv]
      intro e
      simp only [Option.some.injEq] at e
      subst e
      rcases hlies with h3 | h3
      · exact row_other hom hGG (by decide) h3.symm
      · omega
    · have h1 : more1 L m x i = L i := by unfold more1; rw [if_neg him]
      have h2 : setV V m v' i = V i := by unfold setV; rw [if_neg him]
      rw [h1, h2]
      have ho1 := h.own i hi
      refine own_setOther (ho1.kept hg ?_) (fun e => row_other ho1 hGG (by decide) e.symm) _
      cases hvi : (V i).ownBlock with
      | none => exact .inl rfl
      | some b =>
        right
        intro e
        exact h.dist i m b hi hm him hvi e.symm
  · by_cases him : i = m
    · subst him
      have h2 : setV V i v' i = v' := by unfold setV; rw [if_pos rfl]
      rw [h2, hv]
      intro e
      simp only [Option.some.injEq] at e
      subst e
      rcases hlies with h3 | h3
      · exact h.noW i hi h3
      · omega
    · have h2 : setV V m v' i = V i := by unfold setV; rw [if_neg him]
      rw [h2]; exact h.noW i hi
  · have hlt : ∀ i, i < 2 * n → ∀ b, (V i).ownBlock = some b → b < w.heap.size := fun i hi b hb => ((h.own i hi).lt b hb).2
    by_cases him : i = m
    · subst him
      have h2 : setV V i v' i = v' := by unfold setV; rw [if_pos rfl]
      have h3 : setV V i v' j = V j := by unfold setV; rw [if_neg (Ne.symm hij)]
      rw [h2, h3, hv]
      intro e
      simp only [Option.some.injEq] at e
      subst e
      rcases hlies with h4 | h4
      · exact h.dist i j g hi hj hij h4
      · intro e
        have := hlt j hj g e
        omega
    · have h2 : setV V m v' i = V i := by unfold setV; rw [if_neg him]
      rw [h2]
      by_cases hjm : j = m
      · subst hjm
        have h3 : setV V j v' j = v' := by unfold setV; rw [if_pos rfl]
        rw [h3, hv]
        intro e1 e2
        simp only [Option.some.injEq] at e2
        subst e2
        rcases hlies with h4 | h4
        · exact h.dist i j g hi hj hij e1 h4
        · have := hlt i hi g e1
          omega
      · have h3 : setV V m v' j = V j := by unfold setV; rw [if_neg hjm]
        rw [h3]; exact h.dist i j g' hi hj hij
  · exact ((Below.refl B w).grown hg hB (fun j hj => (hom.lt j hj).1)).setCell hBG _

/-- one of the numbers is laid anew. -/
theorem WebIn.wait {Wb B n ga gb gw : Nat} {sv : Value} {L : Nat → List Nat} {Wt : Nat → Nat} {V : Nat → Value} {w : World} (h : WebIn Wb B sv n L Wt ga gb gw V w) (m x : Nat) :
    WebIn Wb B sv n L (fun i => if i = m then x else Wt i) ga gb gw V (w.setCell ⟨gw, m, none⟩ (.int .i64 (x : Nat))) := by
  obtain ⟨ca, hga⟩ := rowIs_block h.rowA
  obtain ⟨cb, hgb⟩ := rowIs_block h.rowB
  obtain ⟨cw, hgw⟩ := rowIs_block h.rowW
  refine ⟨?_, h.rowA.setOther (block_ne hga hgw (by decide)) _, h.rowB.setOther (block_ne hgb hgw (by decide)) _, (h.rowW.set m _).congr (fun i _ => by by_cases hi : i = m <;> simp [hi]), h.ne, h.low, fun i hi => ?_, h.noW, h.dist⟩
  · rw [Below.heap_setCell _ _ _ _ (block_ne h.box hgw (by decide))]; exact h.box
  · exact own_setOther (h.own i hi) (h.noW i hi) _

theorem WebIn.cells {Wb B n ga gb gw : Nat} {sv : Value} {L : Nat → List Nat} {Wt : Nat → Nat} {V : Nat → Value} {w : World} (h : WebIn Wb B sv n L Wt ga gb gw V w) :
    w.cell? ⟨Wb, 0, none⟩ = some sv ∧ w.cell? ⟨Wb, 1, none⟩ = some (.slice (some ⟨ga, 0, none⟩) n n) ∧ w.cell? ⟨Wb, 2, none⟩ = some (.slice (some ⟨gb, 0, none⟩) n n) ∧ w.cell? ⟨Wb, 3, none⟩ = some (.slice (some ⟨gw, 0, none⟩) n n) := by
  refine ⟨?_, ?_, ?_, ?_⟩ <;> rw [Lib.cell_of_heap h.box] <;> rfl

end Go.Proofs.Ytjjmcnippjpclab

namespace Go.Proofs.Ytjjmcnippjpclab

/-- the lists when the first i steps have been looked at for the Copy k. -/
def tieL (l : List _root_.Pl.Sp) (k i : Nat) (L : Nat → List Nat) : Nat → List Nat := fun m =>
  if m < l.length then (if m < i ∧ _root_.Pl.tied l k m = true then L m ++ [k] else L m)
  else if m = l.length + k then L m ++ (List.range i).filter (_root_.Pl.tied l k) else L m

def tieW (l : List _root_.Pl.Sp) (k i : Nat) (W : Nat → Nat) : Nat → Nat := fun m => if m < i ∧ _root_.Pl.tied l k m = true then W m + 1 else W m

theorem tieL_free {l : List _root_.Pl.Sp} {k i : Nat} (L : Nat → List Nat) (h : ∀ m, m < i → _root_.Pl.tied l k m = false) (m : Nat) : tieL l k i L m = L m := by
  unfold tieL
  split
  · rw [if_neg]
    intro ⟨h1, h2⟩
    rw [h m h1] at h2; cases h2
  · split
    · have : (List.range i).filter (_root_.Pl.tied l k) = [] := by
        rw [List.filter_eq_nil_iff]
        intro x hx
        rw [h x (List.mem_range.1 hx)]; simp
      rw [this, List.append_nil]
    · rfl

theorem tieW_free {l : List _root_.Pl.Sp} {k i : Nat} (W : Nat → Nat) (h : ∀ m, m < i → _root_.Pl.tied l k m = false) (m : Nat) : tieW l k i W m = W m := by
  unfold tieW
  rw [if_neg]
  intro ⟨h1, h2⟩
  rw [h m h1] at h2; cases h2

theorem filter_snoc (p : Nat → Bool) (i : Nat) : (List.range (i + 1)).filter p = (List.range i).filter p ++ (if p i = true then [i] else []) := by
  rw [List.range_succ, List.filter_append]
  cases h : p i <;> simp [h]

theorem tieL_skip {l : List _root_.Pl.Sp} {k i : Nat} (L : Nat → List Nat) (h : _root_.Pl.tied l k i = false) (m : Nat) : tieL l k (i + 1) L m = tieL l k i L m := by
  unfold tieL
  rw [filter_snoc, if_neg (c := _root_.Pl.tied l k i = true) (by rw [h]; simp), List.append_nil]
  have : (m < i + 1 ∧ _root_.Pl.tied l k m = true) ↔ (m < i ∧ _root_.Pl.tied l k m = true) := by
    constructor
    · rintro ⟨h1, h2⟩
      refine ⟨?_, h2⟩
      rcases Nat.lt_succ_iff_lt_or_eq.1 h1 with h1 | rfl
      · exact h1
      · rw [h] at h2; cases h2
    · rintro ⟨h1, h2⟩; exact ⟨by omega, h2⟩
  simp only [this]

theorem tieW_skip {l : List _root_.Pl.Sp} {k i : Nat} (W : Nat → Nat) (h : _root_.Pl.tied l k i = false) (m : Nat) : tieW l k (i + 1) W m = tieW l k i W m := by
  unfold tieW
  have : (m < i + 1 ∧ _root_.Pl.tied l k m = true) ↔ (m < i ∧ _root_.Pl.tied l k m = true) := by
    constructor
    · rintro ⟨h1, h2⟩
      refine ⟨?_, h2⟩
      rcases Nat.lt_succ_iff_lt_or_eq.1 h1 with h1 | rfl
      · exact h1
      · rw [h] at h2; cases h2
    · rintro ⟨h1, h2⟩; exact ⟨by omega, h2⟩
  simp only [this]

theorem tieL_next {l : List _root_.Pl.Sp} {k i : Nat} (L : Nat → List Nat) (h : _root_.Pl.tied l k i = true) (hi : i < l.length) (m : Nat) : tieL l k (i + 1) L m = more1 (more1 (tieL l k i L) i k) (l.length + k) i m := by
  unfold more1 tieL
  rw [filter_snoc, if_pos (c := _root_.Pl.tied l k i = true) h]
  by_cases hm : m < l.length
  · simp only [hm, if_true]
    rw [if_neg (c := m = l.length + k) (by omega)]
    by_cases hmi : m = i
    · subst hmi
      rw [if_pos ⟨by omega, h⟩, if_pos rfl, if_neg (by omega)]
    · rw [if_neg (c := m = i) hmi]
      have : (m < i + 1 ∧ _root_.Pl.tied l k m = true) ↔ (m < i ∧ _root_.Pl.tied l k m = true) := by
        constructor
        · rintro ⟨h1, h2⟩; exact ⟨by omega, h2⟩
        · rintro ⟨h1, h2⟩; exact ⟨by omega, h2⟩
      simp only [this]
  · simp only [hm, if_false]
    by_cases hmk : m = l.length + k
    · rw [if_pos hmk, if_pos hmk, if_neg (c := m = i) (by omega), if_pos hmk, List.append_assoc]
    · rw [if_neg hmk, if_neg hmk, if_neg (c := m = i) (by omega), if_neg hmk]

theorem tieW_next {l : List _root_.Pl.Sp} {k i : Nat} (W : Nat → Nat) (h : _root_.Pl.tied l k i = true) (m : Nat) : tieW l k (i + 1) W m = if m = i then tieW l k i W i + 1 else tieW l k i W m := by
  unfold tieW
  by_cases hmi : m = i
  · subst hmi
    rw [if_pos ⟨by omega, h⟩, if_pos rfl, if_neg (by omega)]
  · rw [if_neg (c := m = i) hmi]
    have : (m < i + 1 ∧ _root_.Pl.tied l k m = true) ↔ (m < i ∧ _root_.Pl.tied l k m = true) := by
      constructor
      · rintro ⟨h1, h2⟩; exact ⟨by omega, h2⟩
      · rintro ⟨h1, h2⟩; exact ⟨by omega, h2⟩
    simp only [this]

theorem tie_rest {l : List _root_.Pl.Sp} {k i : Nat} (L : Nat → List Nat) (W : Nat → Nat) (hi : i ≤ l.length) (h : ∀ m, i ≤ m → _root_.Pl.tied l k m = false) (m : Nat) : tieL l k l.length L m = tieL l k i L m ∧ tieW l k l.length W m = tieW l k i W m := by
  have : ∀ d, i + d ≤ l.length → tieL l k (i + d) L m = tieL l k i L m ∧ tieW l k (i + d) W m = tieW l k i W m := by
    intro d
    induction d with
    | zero => intro _; exact ⟨rfl, rfl⟩
    | succ d ih =>
      intro hd
      obtain ⟨h1, h2⟩ := ih (by omega)
      exact ⟨(tieL_skip L (h (i + d) (by omega)) m).trans h1, (tieW_skip W (h (i + d) (by omega)) m).trans h2⟩
  have h1 := this (l.length - i) (by omega)
  rw [show i + (l.length - i) = l.length by omega] at h1
  exact h1

end Go.Proofs.Ytjjmcnippjpclab
