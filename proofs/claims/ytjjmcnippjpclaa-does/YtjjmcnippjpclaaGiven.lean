/-
  The law's own list of steps: made, copied into, held against the one that came in.
-/
import Derived.Test.YtjjmcnippjpclaaOpen
import Derived.Laws.CopyRow
import Derived.Laws.MakeOwn
import Derived.Deep.QuietTactic
import Derived.BigQuiet
import Derived.WalkSmall
namespace Go.Proofs.Ytjjmcnippjpclaa

open Go.RowKit

/-- the cells of steps, one behind the other. -/
def stCells (st : List Pl.St) : List Value := st.flatMap fun s => [.int .i64 s.k, .int .i64 s.t, .int .i64 s.n, .string s.d, .int .i64 s.f]

theorem stCells_length (st : List Pl.St) : (stCells st).length = st.length * 5 := by
  induction st with
  | nil => rfl
  | cons s r ih =>
    have : stCells (s :: r) = [.int .i64 s.k, .int .i64 s.t, .int .i64 s.n, .string s.d, .int .i64 s.f] ++ stCells r := by simp [stCells]
    rw [this, List.length_append, ih, List.length_cons]
    simp only [List.length_cons, List.length_nil]
    omega

theorem stCells_at : ∀ (st : List Pl.St) (i : Nat) (s : Pl.St), st[i]? = some s → ∀ (R : List Value),
    (stCells st ++ R)[i * 5]? = some (.int .i64 s.k) ∧ (stCells st ++ R)[i * 5 + 1]? = some (.int .i64 s.t) ∧ (stCells st ++ R)[i * 5 + 2]? = some (.int .i64 s.n) ∧ (stCells st ++ R)[i * 5 + 3]? = some (.string s.d) ∧ (stCells st ++ R)[i * 5 + 4]? = some (.int .i64 s.f)
  | [], i, s, h, _ => by simp at h
  | x :: r, 0, s, h, R => by
    simp only [List.getElem?_cons_zero, Option.some.injEq] at h
    subst h
    simp [stCells]
  | x :: r, i + 1, s, h, R => by
    have ih := stCells_at r i s (by simpa using h) R
    have e : stCells (x :: r) ++ R = .int .i64 x.k :: .int .i64 x.t :: .int .i64 x.n :: .string x.d :: .int .i64 x.f :: (stCells r ++ R) := by simp [stCells]
    rw [e, show (i + 1) * 5 = i * 5 + 1 + 1 + 1 + 1 + 1 by omega]
    simpa using ih

theorem stCells_one (st : List Pl.St) : ∀ v ∈ stCells st, v.oneCell' = true := by
  intro v hv
  obtain ⟨s, _, hs⟩ := List.mem_flatMap.1 hv
  simp at hs
  rcases hs with rfl | rfl | rfl | rfl | rfl <;> rfl

/-- where the cells lie in memory. -/
theorem stCells_mem {w : World} {b o : Nat} {st : List Pl.St} (h : ∀ i s, st[i]? = some s → stAt w b (o + i * 5) s) : ∀ j v, (stCells st)[j]? = some v → w.cell? ⟨b, o + j, none⟩ = some v := by
  intro j v hv
  have hj : j < st.length * 5 := by rw [← stCells_length]; exact (List.getElem?_eq_some_iff.1 hv).1
  obtain ⟨s, hs⟩ : ∃ s, st[j / 5]? = some s := ⟨st[j / 5], List.getElem?_eq_getElem (by omega)⟩
  obtain ⟨e0, e1, e2, e3, e4⟩ := stCells_at st (j / 5) s hs []
  obtain ⟨c0, c1, c2, c3, c4⟩ := h (j / 5) s hs
  rw [List.append_nil] at e0 e1 e2 e3 e4
  have hm : j % 5 = 0 ∨ j % 5 = 1 ∨ j % 5 = 2 ∨ j % 5 = 3 ∨ j % 5 = 4 := by omega
  rcases hm with hm | hm | hm | hm | hm
  · rw [show j = j / 5 * 5 by omega] at hv ⊢
    rw [e0] at hv; rw [← hv]; exact c0
  · rw [show j = j / 5 * 5 + 1 by omega] at hv ⊢
    rw [e1] at hv; rw [← hv, ← Nat.add_assoc]; exact c1
  · rw [show j = j / 5 * 5 + 2 by omega] at hv ⊢
    rw [e2] at hv; rw [← hv, ← Nat.add_assoc]; exact c2
  · rw [show j = j / 5 * 5 + 3 by omega] at hv ⊢
    rw [e3] at hv; rw [← hv, ← Nat.add_assoc]; exact c3
  · rw [show j = j / 5 * 5 + 4 by omega] at hv ⊢
    rw [e4] at hv; rw [← hv, ← Nat.add_assoc]; exact c4

/-- a block that holds steps from its beginning on. -/
theorem stAt_block {w : World} {g : Nat} {st : List Pl.St} {R : List Value} {t : TypeId} {fz : Nat × Nat} (h : w.heap[g]? = some (.cells (stCells st ++ R).toArray t fz)) : ∀ i s, st[i]? = some s → stAt w g (0 + i * 5) s := by
  intro i s hs
  obtain ⟨e0, e1, e2, e3, e4⟩ := stCells_at st i s hs R
  rw [Nat.zero_add]
  refine ⟨?_, ?_, ?_, ?_, ?_⟩ <;> simp [World.cell?, *]

def zero5 : List Value := [.int .i64 0, .int .i64 0, .int .i64 0, .string ⟨#[]⟩, .int .i64 0]

def mark5 : List Value := [.int .i64 77, .int .i64 0, .int .i64 0, .string ⟨#[]⟩, .int .i64 0]

theorem info40 : (Try.prog.info? 40).map (fun i => (i.zero, i.size, i.bytes)) = some (some (.agg zero5.toArray), 5, 48) := by kernel_rfl

theorem make_steps (n : Nat) (hn : n ≤ 2932031007402) (w : World) :
    (Instr.makeSlice 29 (.int .i64 ((n : Int) + 2)) (.int .i64 ((n : Int) + 2))).run Try.prog w = .ok (.slice (some ⟨w.heap.size, 0, none⟩) (n + 2) (n + 2)) (w.alloc (.cells (madeCells zero5.toArray ((n + 2) * 5)) 40)) := by
  obtain ⟨i, hi, hzz⟩ := Option.map_eq_some_iff.1 info40
  simp only [Prod.mk.injEq] at hzz
  obtain ⟨hz, hs, hb⟩ := hzz
  have hr := run_make (P := Try.prog) w 29 40 i (.agg zero5.toArray) Try.underlying29 hi hz .i64 .i64 ((n : Int) + 2) ((n : Int) + 2) (by omega) (by omega) (by rw [hb]; omega) (by omega)
  rw [hs, show ((n : Int) + 2).toNat = n + 2 by omega] at hr
  exact hr

theorem made_drop (n : Nat) : (madeCells zero5.toArray ((n + 2) * 5)).toList.drop (n * 5) = zero5 ++ zero5 := by
  apply List.ext_getElem?
  intro j
  rw [List.getElem?_drop]
  by_cases hj : j < 10
  · have h1 : n * 5 + j < (n + 2) * 5 := by omega
    have h2 : (n * 5 + j) % 5 = j % 5 := by omega
    have h3 : j = 0 ∨ j = 1 ∨ j = 2 ∨ j = 3 ∨ j = 4 ∨ j = 5 ∨ j = 6 ∨ j = 7 ∨ j = 8 ∨ j = 9 := by omega
    rw [Array.getElem?_toList, madeCells, Array.getElem?_map, Array.getElem?_range, if_pos h1, Option.map_some]
    rw [show zero5.toArray.size = 5 from rfl, h2]
    rcases h3 with rfl | rfl | rfl | rfl | rfl | rfl | rfl | rfl | rfl | rfl <;> rfl
  · rw [List.getElem?_eq_none (by rw [Array.length_toList, size_madeCells]; omega), List.getElem?_eq_none (by simp [zero5]; omega)]

theorem copy_steps (a : Option Addr) (c g : Nat) (st : List Pl.St) (w : World) (hg : w.heap[g]? = some (.cells (madeCells zero5.toArray ((st.length + 2) * 5)) 40 (0, 0))) (hst : stepsOld w a st) :
    ∃ W, (∀ ty, (Builtin.copy_ #[29, 29] ty #[.slice (some ⟨g, 0, none⟩) (st.length + 2) (st.length + 2), .slice a st.length c]).run Try.prog w = .ok (goInt st.length) W) ∧
      W.heap[g]? = some (.cells (stCells st ++ (zero5 ++ zero5)).toArray 40 (0, 0)) ∧ (∀ k, k ≠ g → W.heap[k]? = w.heap[k]?) ∧ W.heap.size = w.heap.size ∧ Below g w W := by
  obtain ⟨i, hi, hzz⟩ := Option.map_eq_some_iff.1 info40
  simp only [Prod.mk.injEq] at hzz
  have hs := hzz.2.1
  have hmin : Nat.min st.length (st.length + 2) = st.length := Nat.min_eq_left (by omega)
  rcases hst with rfl | ⟨b, o, rfl, hb, hc⟩
  · refine ⟨w, fun ty => ?_, ?_, fun _ _ => rfl, rfl, Below.refl _ _⟩
    · cases a with
      | none => simp [Builtin.copy_, run_underlying Try.underlying29, Builtin.lenOf, Builtin.firstCells, sizeOf, typeInfo, hi, storeCells]
      | some x =>
        have hl := run_loadCells_list (P := Try.prog) w x [] (fun j v hv => by simp at hv)
        simp only [List.length_nil] at hl
        simp [Builtin.copy_, run_underlying Try.underlying29, Builtin.lenOf, Builtin.firstCells, sizeOf, typeInfo, hi, hl, storeCells]
    · rw [hg]
      have := made_drop 0
      rw [Nat.zero_mul, List.drop_zero] at this
      show some (Obj.cells (madeCells zero5.toArray ((0 + 2) * 5)) 40 (0, 0)) = _
      rw [← Array.toArray_toList (xs := madeCells zero5.toArray ((0 + 2) * 5)), this]
      rfl
  · have hl := run_loadCells_list (P := Try.prog) w ⟨b, o, none⟩ (stCells st) (fun j v hv => by rw [add_plain]; exact stCells_mem hc j v hv)
    have hst2 := run_storeCells_at Try.prog g 0 40 (stCells st) 0 (madeCells zero5.toArray ((st.length + 2) * 5)) w hg (by rw [size_madeCells, stCells_length]; omega) (stCells_one st)
    rw [stCells_length] at hl hst2
    rw [Nat.zero_add, Nat.zero_add, List.take_zero, List.nil_append, made_drop] at hst2
    refine ⟨w.setRow g (stCells st ++ (zero5 ++ zero5)).toArray, fun ty => ?_, ?_, fun k hk => ?_, ?_, ?_⟩
    · simp [Builtin.copy_, run_underlying Try.underlying29, Builtin.lenOf, Builtin.firstCells, sizeOf, typeInfo, hi, hs, hmin, hl, hst2]
    · exact setRow_heap w g _ _ 40 _ hg
    · exact setRow_other w g k _ hk
    · simp [World.setRow]
    · exact ⟨rfl, rfl, rfl, by simp [World.setRow], fun k hk => setRow_other w g k _ (by omega)⟩

end Go.Proofs.Ytjjmcnippjpclaa
