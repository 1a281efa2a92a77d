/-
  The walk of the law on Write: of every plan both answer the same, and the list that was handed in is as it was, its spare room too.
-/
import Derived.Test.YtjjmcnippjpclaaSame
import Derived.Test.YtjjmcnippjpclaaWriteBoth
import Derived.Lib.SmallJoins
import Derived.Lib.SliceRun
import Derived.Deep.CutRange
namespace Go.Proofs.Ytjjmcnippjpclaa

open Go.RowKit

theorem stepsOld_below {w w' : World} {a : Option Addr} {st : List Pl.St} (h : stepsOld w a st) (b : Below w.heap.size w w') : stepsOld w' a st := by
  rcases h with h | ⟨x, o, ha, hx, hc⟩
  · exact .inl h
  · exact .inr ⟨x, o, ha, Nat.lt_of_lt_of_le hx b.size, fun i s hs => stAt_below (hc i s hs) b hx⟩

theorem x0_at {W : World} {g : Nat} {st : List Pl.St} (h : W.heap[g]? = some (Obj.cells (stCells st ++ (zero5 ++ zero5)).toArray 40 (0, 0))) : W.cell? ⟨g, st.length * 5, none⟩ = some (.int .i64 0) := by
  rw [Lib.cell_of_heap h, ← stCells_length]; simp [zero5]

theorem x1_at {W : World} {g : Nat} {st : List Pl.St} (h : W.heap[g]? = some (Obj.cells (stCells st ++ (zero5 ++ zero5)).toArray 40 (0, 0))) : W.cell? ⟨g, (st.length + 1) * 5, none⟩ = some (.int .i64 0) := by
  rw [Lib.cell_of_heap h, show (st.length + 1) * 5 = (stCells st).length + 5 by rw [stCells_length]; omega]; simp [zero5]

theorem marked {W : World} {g : Nat} {st : List Pl.St} (h : W.heap[g]? = some (Obj.cells (stCells st ++ (zero5 ++ zero5)).toArray 40 (0, 0))) :
    ((W.setCell ⟨g, st.length * 5, none⟩ (.int .i64 77)).setCell ⟨g, (st.length + 1) * 5, none⟩ (.int .i64 77)).heap[g]? = some (Obj.cells (stCells st ++ (mark5 ++ mark5)).toArray 40 (0, 0)) := by
  rw [Joins.block_setCell (Joins.block_setCell h _) _]
  congr 2
  rw [List.setIfInBounds_toArray, List.setIfInBounds_toArray]
  congr 1
  rw [← stCells_length, show (st.length + 1) * 5 = (stCells st).length + 5 by rw [stCells_length]; omega]
  rw [List.set_append_right _ _ (Nat.le_refl _), Nat.sub_self, List.set_append_right _ _ (by omega), show (stCells st).length + 5 - (stCells st).length = 5 by omega]
  rfl

theorem mark_at {W : World} {g : Nat} {st : List Pl.St} (h : W.heap[g]? = some (Obj.cells (stCells st ++ (mark5 ++ mark5)).toArray 40 (0, 0))) :
    W.cell? ⟨g, st.length * 5, none⟩ = some (.int .i64 77) ∧ W.cell? ⟨g, st.length * 5 + 1, none⟩ = some (.int .i64 0) ∧ W.cell? ⟨g, st.length * 5 + 2, none⟩ = some (.int .i64 0) ∧ W.cell? ⟨g, st.length * 5 + 3, none⟩ = some (.string ⟨#[]⟩) ∧ W.cell? ⟨g, st.length * 5 + 4, none⟩ = some (.int .i64 0) ∧
    W.cell? ⟨g, (st.length + 1) * 5, none⟩ = some (.int .i64 77) ∧ W.cell? ⟨g, (st.length + 1) * 5 + 1, none⟩ = some (.int .i64 0) ∧ W.cell? ⟨g, (st.length + 1) * 5 + 2, none⟩ = some (.int .i64 0) ∧ W.cell? ⟨g, (st.length + 1) * 5 + 3, none⟩ = some (.string ⟨#[]⟩) ∧ W.cell? ⟨g, (st.length + 1) * 5 + 4, none⟩ = some (.int .i64 0) := by
  have e : (st.length + 1) * 5 = (stCells st).length + 5 := by rw [stCells_length]; omega
  rw [e, ← stCells_length]
  refine ⟨?_, ?_, ?_, ?_, ?_, ?_, ?_, ?_, ?_, ?_⟩ <;> rw [Lib.cell_of_heap h] <;> simp [mark5, Nat.add_assoc]

theorem mark0_at {W : World} {g : Nat} (h : W.heap[g]? = some (Obj.cells (stCells [] ++ (mark5 ++ mark5)).toArray 40 (0, 0))) :
    W.cell? ⟨g, 0, none⟩ = some (.int .i64 77) ∧ W.cell? ⟨g, 1, none⟩ = some (.int .i64 0) ∧ W.cell? ⟨g, 2, none⟩ = some (.int .i64 0) ∧ W.cell? ⟨g, 3, none⟩ = some (.string ⟨#[]⟩) ∧ W.cell? ⟨g, 4, none⟩ = some (.int .i64 0) ∧
    W.cell? ⟨g, 5, none⟩ = some (.int .i64 77) ∧ W.cell? ⟨g, 6, none⟩ = some (.int .i64 0) ∧ W.cell? ⟨g, 7, none⟩ = some (.int .i64 0) ∧ W.cell? ⟨g, 8, none⟩ = some (.string ⟨#[]⟩) ∧ W.cell? ⟨g, 9, none⟩ = some (.int .i64 0) := by
  refine ⟨?_, ?_, ?_, ?_, ?_, ?_, ?_, ?_, ?_, ?_⟩ <;> rw [Lib.cell_of_heap h] <;> rfl

theorem stepsOld_at {w : World} {a : Option Addr} {st : List Pl.St} (h : stepsOld w a st) : ∃ b o, ∀ w', Below w.heap.size w w' → 0 < w'.heap.size → stepsAt w' a b o st := by
  rcases h with rfl | ⟨b, o, ha, hb, hc⟩
  · exact ⟨0, 0, fun w' _ h0 => ⟨.inl rfl, h0, fun i s h => by simp at h⟩⟩
  · exact ⟨b, o, fun w' hw _ => ⟨.inr ha, Nat.lt_of_lt_of_le hb hw.size, fun i s hs => stAt_below (hc i s hs) hw hb⟩⟩

theorem marked0 {W : World} {g : Nat} (h : W.heap[g]? = some (Obj.cells (stCells [] ++ (zero5 ++ zero5)).toArray 40 (0, 0))) :
    ((W.setCell ⟨g, 0, none⟩ (.int .i64 77)).setCell ⟨g, 5, none⟩ (.int .i64 77)).heap[g]? = some (Obj.cells (stCells [] ++ (mark5 ++ mark5)).toArray 40 (0, 0)) := by
  have := marked (st := []) h
  simp only [List.length_nil, Nat.zero_mul, Nat.zero_add, Nat.one_mul] at this
  exact this

theorem x00_at {W : World} {g : Nat} (h : W.heap[g]? = some (Obj.cells (stCells [] ++ (zero5 ++ zero5)).toArray 40 (0, 0))) : W.cell? ⟨g, 0, none⟩ = some (.int .i64 0) := by
  have := x0_at (st := []) h
  simp only [List.length_nil, Nat.zero_mul] at this
  exact this

theorem x10_at {W : World} {g : Nat} (h : W.heap[g]? = some (Obj.cells (stCells [] ++ (zero5 ++ zero5)).toArray 40 (0, 0))) : W.cell? ⟨g, 5, none⟩ = some (.int .i64 0) := by
  have := x1_at (st := []) h
  simp only [List.length_nil, Nat.zero_add, Nat.one_mul] at this
  exact this

set_option maxRecDepth 100000 in
set_option maxHeartbeats 1000000 in
theorem writes_some (ol nl : Int) (os ns : ByteArray) (x : Addr) (c : Nat) (st : List Pl.St) (w : World) (hm : st.length ≤ 2932031007402) (hst : Hid (stepsOld w (some x) st)) :
    Calls Try.prog 5 #[.agg #[.int .i64 ol, .int .i64 nl, .string os, .string ns, .slice (some x) st.length c]] w fun e w' => e = .returned (.bool true) ∧ Below w.heap.size w w' := by
  
  obtain ⟨Z, hZ⟩ : ∃ Z, Z = madeCells zero5.toArray ((st.length + 2) * 5) := ⟨_, rfl⟩
  have hmk : ∀ w, (Instr.makeSlice 29 (.int .i64 ((st.length : Int) + 2)) (.int .i64 ((st.length : Int) + 2))).run Try.prog w = .ok (.slice (some ⟨w.heap.size, 0, none⟩) (st.length + 2) (st.length + 2)) (w.alloc (.cells Z 40)) := fun w => by rw [hZ]; exact make_steps st.length (by omega) w
  obtain ⟨W, hcp0, hWg, hWo, hWs, hWb⟩ := copy_steps (some x) c (w.heap.size + 1) st ((w.alloc (Obj.cells #[.int .i64 ol, .int .i64 nl, .string os, .string ns, .slice (some x) st.length c] 31)).alloc (Obj.cells Z 40)) (by rw [hZ]; have := heap_alloc_new (w.alloc (Obj.cells #[.int .i64 ol, .int .i64 nl, .string os, .string ns, .slice (some x) st.length c] 31)) (Obj.cells (madeCells zero5.toArray ((st.length + 2) * 5)) 40); rw [World.size_alloc] at this; exact this) (stepsOld_below hst.out (((Below.refl _ _).alloc (Nat.le_refl _) _).alloc (by simp) _))
  have hcp := hcp0 3
  
  have hWb1 : Hid (Below (w.heap.size + 1) (w.alloc (Obj.cells #[.int .i64 ol, .int .i64 nl, .string os, .string ns, .slice (some x) st.length c] 31)) W) := ((Below.refl _ _).alloc (by simp) _).trans hWb
  have HWg : Hid (W.heap[w.heap.size + 1]? = some (Obj.cells (stCells st ++ (zero5 ++ zero5)).toArray 40 (0, 0))) := hWg
  have hsz : W.heap.size = w.heap.size + 2 := by rw [hWs]; simp
  obtain ⟨p0, p1, p2, p3, p4⟩ := boxed (Nat.lt_succ_self _) hWb1.out
  have x0 : W.cell? ⟨w.heap.size + 1, st.length * 5, none⟩ = some (.int .i64 0) := x0_at HWg.out
  have x1 : W.cell? ⟨w.heap.size + 1, (st.length + 1) * 5, none⟩ = some (.int .i64 0) := x1_at HWg.out
  have f0 : W.frozen? ⟨w.heap.size + 1, st.length * 5, none⟩ = false := Lib.frozen_of_heap HWg.out _
  have f1 : W.frozen? ⟨w.heap.size + 1, (st.length + 1) * 5, none⟩ = false := Lib.frozen_of_heap HWg.out _
  
  obtain ⟨W3, hW3⟩ : ∃ W3, W3 = (W.setCell ⟨w.heap.size + 1, st.length * 5, none⟩ (.int .i64 77)).setCell ⟨w.heap.size + 1, (st.length + 1) * 5, none⟩ (.int .i64 77) := ⟨_, rfl⟩
  have H3g : Hid (W3.heap[w.heap.size + 1]? = some (Obj.cells (stCells st ++ (mark5 ++ mark5)).toArray 40 (0, 0))) := by rw [hW3]; exact marked HWg.out
  have h3s : W3.heap.size = w.heap.size + 2 := by rw [hW3, World.size_setCell, World.size_setCell, hsz]
  have H3b : Hid (Below (w.heap.size + 1) (w.alloc (Obj.cells #[.int .i64 ol, .int .i64 nl, .string os, .string ns, .slice (some x) st.length c] 31)) W3) := by rw [hW3]; exact (hWb1.out.setCell (Nat.le_refl _) _).setCell (Nat.le_refl _) _
  have HW3 : Hid (W3 = (W.setCell ⟨w.heap.size + 1, st.length * 5, none⟩ (.int .i64 77)).setCell ⟨w.heap.size + 1, (st.length + 1) * 5, none⟩ (.int .i64 77)) := hW3
  have hq : Hid (stepsAt (W3.alloc (Obj.cells #[.int .i64 ol, .int .i64 nl, .string os, .string ns, .slice (some ⟨w.heap.size + 1, 0, none⟩) st.length (st.length + 2)] 31)) (some ⟨w.heap.size + 1, 0, none⟩) (w.heap.size + 1) 0 st) := stepsAt_below ⟨.inr rfl, by omega, stAt_block H3g.out⟩ ((Below.refl W3.heap.size _).alloc (Nat.le_refl _) _) (by omega)
  have hnil : ∀ w, (binOp .eql 29 (.slice (some x) st.length c) (.slice none 0 0)).run Try.prog w = .ok (.bool false) w := fun w => Lib.run_eql_slice_nil w 29 40 _ _ _ 0 0 Try.underlying29
  clear hcp0 hWg hWo hWs hWb hZ hW3
  go_enter Try.func5, Try.ntmps5
  go_wp2_with fail
  rw [← HW3.out]
  refine (write_any ol nl os ns (some ⟨w.heap.size + 1, 0, none⟩) (w.heap.size + 1) 0 (st.length + 2) st _ (by omega) hq).mono ?_
  rintro e v1 ⟨rfl, b1⟩
  have hs1 : w.heap.size + 2 < v1.heap.size := by have := b1.size; simp at this; omega
  have B1 : Hid (Below (w.heap.size + 1) (w.alloc (Obj.cells #[.int .i64 ol, .int .i64 nl, .string os, .string ns, .slice (some x) st.length c] 31)) v1) := (H3b.out.alloc (by omega) _).trans (b1.mono (by simp; omega))
  have G1 : Hid (v1.heap[w.heap.size + 1]? = some (Obj.cells (stCells st ++ (mark5 ++ mark5)).toArray 40 (0, 0))) := by
    show _ = _
    rw [b1.block _ (by simp; omega), Below.heap_alloc _ _ _ (by omega)]; exact H3g.out
  clear p0 p1 p2 p3 p4 x0 x1 f0 f1 b1
  obtain ⟨p0, p1, p2, p3, p4⟩ := boxed (Nat.lt_succ_self _) B1.out
  obtain ⟨b, o, hbo⟩ := stepsOld_at hst.out
  have P1 : Hid (stepsAt v1 (some x) b o st) := hbo v1 (((Below.refl _ _).alloc (Nat.le_refl _) _).trans (B1.out.mono (by omega))) (by omega)
  have HBO : Hid (∀ w', Below w.heap.size w w' → 0 < w'.heap.size → stepsAt w' (some x) b o st) := hbo
  clear hbo
  go_wp2_with fail
  refine (refWrite_any ol nl os ns (some x) b o c st v1 P1).mono ?_
  rintro e v2 ⟨rfl, b2⟩
  have hs2 : w.heap.size + 2 < v2.heap.size := by have := b2.size; omega
  have B2 : Hid (Below (w.heap.size + 1) (w.alloc (Obj.cells #[.int .i64 ol, .int .i64 nl, .string os, .string ns, .slice (some x) st.length c] 31)) v2) := B1.out.trans (b2.mono (by omega))
  have G2 : Hid (v2.heap[w.heap.size + 1]? = some (Obj.cells (stCells st ++ (mark5 ++ mark5)).toArray 40 (0, 0))) := by
    show _ = _
    rw [b2.block _ (by omega)]; exact G1.out
  clear p0 p1 p2 p3 p4 b2
  obtain ⟨p0, p1, p2, p3, p4⟩ := boxed (Nat.lt_succ_self _) B2.out
  have P2 : Hid (stepsAt v2.drew (some x) b o st) := HBO.out v2.drew (((Below.refl _ _).alloc (Nat.le_refl _) _).trans (B2.out.mono (by omega))).drew (by show 0 < v2.heap.size; omega)
  have Q2 : Hid (stepsAt v2.drew (some ⟨w.heap.size + 1, 0, none⟩) (w.heap.size + 1) 0 st) := ⟨.inr rfl, by show _ < v2.heap.size; omega, stAt_block (w := v2.drew) G2.out⟩
  generalize wText ol nl os ns st = WT
  generalize wErr ol nl os ns st = WE
  go_wp2_with fail
  go_cut [10] from 49 to 54 (fun r wx => r = .bool true ∧ Hid (Below v2.heap.size v2 wx))
  case first =>
    go_region_with (go_at_call 23; refine (sameSteps_any (some ⟨w.heap.size + 1, 0, none⟩) (some x) (w.heap.size + 1) 0 (st.length + 2) b o c st _ (by first | omega | simp) Q2 P2).mono ?_; rintro e v3 ⟨rfl, b3⟩)
    all_goals (try go_wp2_with fail)
    all_goals go_meet
    all_goals exact ⟨rfl, ⟨b3.os, b3.tape, b3.output, b3.size, b3.block⟩⟩
  case rest =>
    obtain ⟨rfl, b3⟩ := hcut
    have G3 : wc.heap[w.heap.size + 1]? = some (Obj.cells (stCells st ++ (mark5 ++ mark5)).toArray 40 (0, 0)) := by
      rw [b3.out.block _ (by omega)]; exact G2.out
    obtain ⟨m0, m1, m2, m3, m4, k0, k1, k2, k3, k4⟩ := mark_at G3
    have hn0 : ((st.length : Int) : Int) < ((st.length : Int) + 2) := by omega
    have hn1 : ((st.length : Int) : Int) + 1 < ((st.length : Int) + 2) := by omega
    clear G3
    go_wp2_with fail
    go_ret
    refine ⟨by simp, ?_⟩
    exact (((Below.refl w.heap.size w).alloc (Nat.le_refl _) _).trans (B2.out.mono (by omega))).trans (b3.out.mono (by omega))

set_option maxRecDepth 100000 in
set_option maxHeartbeats 1000000 in
theorem writes_none (ol nl : Int) (os ns : ByteArray) (w : World) :
    Calls Try.prog 5 #[.agg #[.int .i64 ol, .int .i64 nl, .string os, .string ns, .slice none 0 0]] w fun e w' => e = .returned (.bool true) ∧ Below w.heap.size w w' := by
  have hst : Hid (stepsOld w none []) := .inl rfl
  obtain ⟨Z, hZ⟩ : ∃ Z, Z = madeCells zero5.toArray ((0 + 2) * 5) := ⟨_, rfl⟩
  have hmk : ∀ w, (Instr.makeSlice 29 (.int .i64 2) (.int .i64 2)).run Try.prog w = .ok (.slice (some ⟨w.heap.size, 0, none⟩) 2 2) (w.alloc (.cells Z 40)) := fun w => by rw [hZ]; exact make_steps 0 (by omega) w
  obtain ⟨W, hcp0, hWg, hWo, hWs, hWb⟩ := copy_steps none 0 (w.heap.size + 1) [] ((w.alloc (Obj.cells #[.int .i64 ol, .int .i64 nl, .string os, .string ns, .slice none 0 0] 31)).alloc (Obj.cells Z 40)) (by rw [hZ]; have := heap_alloc_new (w.alloc (Obj.cells #[.int .i64 ol, .int .i64 nl, .string os, .string ns, .slice none 0 0] 31)) (Obj.cells (madeCells zero5.toArray ((0 + 2) * 5)) 40); rw [World.size_alloc] at this; exact this) (stepsOld_below hst.out (((Below.refl _ _).alloc (Nat.le_refl _) _).alloc (by simp) _))
  have hcp := hcp0 3
  simp only [List.length_nil] at hcp
  have hWb1 : Hid (Below (w.heap.size + 1) (w.alloc (Obj.cells #[.int .i64 ol, .int .i64 nl, .string os, .string ns, .slice none 0 0] 31)) W) := ((Below.refl _ _).alloc (by simp) _).trans hWb
  have HWg : Hid (W.heap[w.heap.size + 1]? = some (Obj.cells (stCells [] ++ (zero5 ++ zero5)).toArray 40 (0, 0))) := hWg
  have hsz : W.heap.size = w.heap.size + 2 := by rw [hWs]; simp
  obtain ⟨p0, p1, p2, p3, p4⟩ := boxed (Nat.lt_succ_self _) hWb1.out
  have x0 : W.cell? ⟨w.heap.size + 1, 0, none⟩ = some (.int .i64 0) := x00_at HWg.out
  have x1 : W.cell? ⟨w.heap.size + 1, 5, none⟩ = some (.int .i64 0) := x10_at HWg.out
  have f0 : W.frozen? ⟨w.heap.size + 1, 0, none⟩ = false := Lib.frozen_of_heap HWg.out _
  have f1 : W.frozen? ⟨w.heap.size + 1, 5, none⟩ = false := Lib.frozen_of_heap HWg.out _
  simp only [Nat.zero_add] at hcp
  obtain ⟨W3, hW3⟩ : ∃ W3, W3 = (W.setCell ⟨w.heap.size + 1, 0, none⟩ (.int .i64 77)).setCell ⟨w.heap.size + 1, 5, none⟩ (.int .i64 77) := ⟨_, rfl⟩
  have H3g : Hid (W3.heap[w.heap.size + 1]? = some (Obj.cells (stCells [] ++ (mark5 ++ mark5)).toArray 40 (0, 0))) := by rw [hW3]; exact marked0 HWg.out
  have h3s : W3.heap.size = w.heap.size + 2 := by rw [hW3, World.size_setCell, World.size_setCell, hsz]
  have H3b : Hid (Below (w.heap.size + 1) (w.alloc (Obj.cells #[.int .i64 ol, .int .i64 nl, .string os, .string ns, .slice none 0 0] 31)) W3) := by rw [hW3]; exact (hWb1.out.setCell (Nat.le_refl _) _).setCell (Nat.le_refl _) _
  have HW3 : Hid (W3 = (W.setCell ⟨w.heap.size + 1, 0, none⟩ (.int .i64 77)).setCell ⟨w.heap.size + 1, 5, none⟩ (.int .i64 77)) := hW3
  have hq : Hid (stepsAt (W3.alloc (Obj.cells #[.int .i64 ol, .int .i64 nl, .string os, .string ns, .slice none 0 0] 31)) none 0 0 []) := ⟨.inl rfl, by simp, fun i s h => by simp at h⟩
  have hnil : ∀ w, (binOp .eql 29 (.slice none 0 0) (.slice none 0 0)).run Try.prog w = .ok (.bool true) w := fun w => Lib.run_eql_slice_nil w 29 40 _ _ _ 0 0 Try.underlying29
  clear hcp0 hWg hWo hWs hWb hZ hW3
  go_enter Try.func5, Try.ntmps5
  go_wp2_with fail
  rw [← HW3.out]
  refine (write_any ol nl os ns none 0 0 0 [] _ (by simp) hq).mono ?_
  rintro e v1 ⟨rfl, b1⟩
  have hs1 : w.heap.size + 2 < v1.heap.size := by have := b1.size; simp at this; omega
  have B1 : Hid (Below (w.heap.size + 1) (w.alloc (Obj.cells #[.int .i64 ol, .int .i64 nl, .string os, .string ns, .slice none 0 0] 31)) v1) := (H3b.out.alloc (by omega) _).trans (b1.mono (by simp; omega))
  have G1 : Hid (v1.heap[w.heap.size + 1]? = some (Obj.cells (stCells [] ++ (mark5 ++ mark5)).toArray 40 (0, 0))) := by
    show _ = _
    rw [b1.block _ (by simp; omega), Below.heap_alloc _ _ _ (by omega)]; exact H3g.out
  clear p0 p1 p2 p3 p4 x0 x1 f0 f1 b1
  obtain ⟨p0, p1, p2, p3, p4⟩ := boxed (Nat.lt_succ_self _) B1.out
  obtain ⟨b, o, hbo⟩ := stepsOld_at hst.out
  have P1 : Hid (stepsAt v1 none b o []) := hbo v1 (((Below.refl _ _).alloc (Nat.le_refl _) _).trans (B1.out.mono (by omega))) (by omega)
  have HBO : Hid (∀ w', Below w.heap.size w w' → 0 < w'.heap.size → stepsAt w' none b o []) := hbo
  clear hbo
  go_wp2_with fail
  refine (refWrite_any ol nl os ns none b o 0 [] v1 P1).mono ?_
  rintro e v2 ⟨rfl, b2⟩
  have hs2 : w.heap.size + 2 < v2.heap.size := by have := b2.size; omega
  have B2 : Hid (Below (w.heap.size + 1) (w.alloc (Obj.cells #[.int .i64 ol, .int .i64 nl, .string os, .string ns, .slice none 0 0] 31)) v2) := B1.out.trans (b2.mono (by omega))
  have G2 : Hid (v2.heap[w.heap.size + 1]? = some (Obj.cells (stCells [] ++ (mark5 ++ mark5)).toArray 40 (0, 0))) := by
    show _ = _
    rw [b2.block _ (by omega)]; exact G1.out
  clear p0 p1 p2 p3 p4 b2
  obtain ⟨p0, p1, p2, p3, p4⟩ := boxed (Nat.lt_succ_self _) B2.out
  have P2 : Hid (stepsAt v2.drew none b o []) := HBO.out v2.drew (((Below.refl _ _).alloc (Nat.le_refl _) _).trans (B2.out.mono (by omega))).drew (by show 0 < v2.heap.size; omega)
  have Q2 : Hid (stepsAt v2.drew (some ⟨w.heap.size + 1, 0, none⟩) (w.heap.size + 1) 0 []) := ⟨.inr rfl, by show _ < v2.heap.size; omega, stAt_block (w := v2.drew) G2.out⟩
  generalize wText ol nl os ns [] = WT
  generalize wErr ol nl os ns [] = WE
  go_wp2_with fail
  go_cut [10] from 49 to 54 (fun r wx => r = .bool true ∧ Hid (Below v2.heap.size v2 wx))
  case first =>
    go_region_with (go_at_call 23; refine (sameSteps_any (some ⟨w.heap.size + 1, 0, none⟩) none (w.heap.size + 1) 0 2 b o 0 [] _ (by first | omega | simp) Q2 P2).mono ?_; rintro e v3 ⟨rfl, b3⟩)
    all_goals (try go_wp2_with fail)
    all_goals go_meet
    all_goals exact ⟨rfl, ⟨b3.os, b3.tape, b3.output, b3.size, b3.block⟩⟩
  case rest =>
    obtain ⟨rfl, b3⟩ := hcut
    have G3 : wc.heap[w.heap.size + 1]? = some (Obj.cells (stCells [] ++ (mark5 ++ mark5)).toArray 40 (0, 0)) := by
      rw [b3.out.block _ (by omega)]; exact G2.out
    obtain ⟨m0, m1, m2, m3, m4, k0, k1, k2, k3, k4⟩ := mark0_at G3
    have hn0 : (0 : Int) < 2 := by omega
    have hn1 : (0 : Int) + 1 < 2 := by omega
    clear G3
    go_wp2_with fail
    go_ret
    refine ⟨by simp, ?_⟩
    exact (((Below.refl w.heap.size w).alloc (Nat.le_refl _) _).trans (B2.out.mono (by omega))).trans (b3.out.mono (by omega))

theorem writes_walk (ol nl : Int) (os ns : ByteArray) (a : Option Addr) (c : Nat) (st : List Pl.St) (w : World) (hm : st.length ≤ 2932031007402) (hst : stepsOld w a st) (hnil : a = none → c = 0 ∧ st = []) :
    Calls Try.prog 5 #[.agg #[.int .i64 ol, .int .i64 nl, .string os, .string ns, .slice a st.length c]] w fun e w' => e = .returned (.bool true) ∧ Below w.heap.size w w' := by
  cases a with
  | none =>
    obtain ⟨rfl, rfl⟩ := hnil rfl
    exact writes_none ol nl os ns w
  | some x => exact writes_some ol nl os ns x c st w hm hst

end Go.Proofs.Ytjjmcnippjpclaa
