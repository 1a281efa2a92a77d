/-
  The walks of the queue of steps: less, swap, push, pop.
-/
import Derived.Test.YtlijlmjgnhheaaaJoin
namespace Go.Proofs.Ytlijlmjgnhheaaa
open Go.RowKit

set_option maxRecDepth 100000 in
set_option maxHeartbeats 4000000 in
theorem less_any (g n c i j x y : Nat) (w : World) (hi : i < n) (hj : j < n) (hx : w.cell? ⟨g, i, none⟩ = some (.int .i64 x)) (hy : w.cell? ⟨g, j, none⟩ = some (.int .i64 y)) :
    Calls Try.prog 142 #[.slice (some ⟨g, 0, none⟩) n c, .int .i64 i, .int .i64 j] w fun e w' => e = .returned (.bool (decide (x < y))) ∧ ∃ m, w' = w.drewN m := by
  have h1 : (i : Int) < (n : Int) := by omega
  have h2 : (j : Int) < (n : Int) := by omega
  have h3 : (0 : Int) ≤ (i : Int) := by omega
  have h4 : (0 : Int) ≤ (j : Int) := by omega
  go_enter Try.func142, Try.ntmps142
  go_wp2_with fail
  go_quiet (fail)
  go_wp2_with fail
  go_ret
  exact ⟨rfl, _, rfl⟩

set_option maxRecDepth 100000 in
set_option maxHeartbeats 4000000 in
theorem swap_any (g n c i j x y : Nat) (w : World) (hi : i < n) (hj : j < n) (hx : w.cell? ⟨g, i, none⟩ = some (.int .i64 x)) (hy : w.cell? ⟨g, j, none⟩ = some (.int .i64 y)) (hf : ∀ k, w.frozen? ⟨g, k, none⟩ = false) :
    Calls Try.prog 145 #[.slice (some ⟨g, 0, none⟩) n c, .int .i64 i, .int .i64 j] w fun e w' => e = .returned (.tuple #[]) ∧ w' = ((w.setCell ⟨g, i, none⟩ (.int .i64 y)).setCell ⟨g, j, none⟩ (.int .i64 x)).drew := by
  have h1 : (i : Int) < (n : Int) := by omega
  have h2 : (j : Int) < (n : Int) := by omega
  have h3 : (0 : Int) ≤ (i : Int) := by omega
  have h4 : (0 : Int) ≤ (j : Int) := by omega
  have hs : (w.setCell ⟨g, i, none⟩ (.int .i64 y)).cell? ⟨g, j, none⟩ = some (.int .i64 y) := by
    by_cases hij : i = j
    · subst hij
      exact World.cell?_setCell_same _ _ _ hx
    · rw [World.cell?_setCell_other _ _ _ _ (by intro h; cases h; exact hij rfl), hy]
  go_enter Try.func145, Try.ntmps145
  go_wp2_with fail
  go_region
  go_returns
  exact ⟨rfl, rfl⟩

/-- a list of numbers as cells. -/
def nums (q : List Nat) : List Value := q.map fun i => .int .i64 (i : Nat)

/-- a queue: its box, and the row of its numbers. -/
def quAt (H B : Nat) (q : List Nat) (w : World) : Prop :=
  ∃ v, w.heap[H]? = some (.cells #[v] 149 (0, 0)) ∧ w.ownsRow B 3 1 v q.length (nums q)

/-- what the calls of a queue leave as it was. -/
def quKept (H B : Nat) (w w' : World) : Prop := Below B w w' ∧ ∀ k cs t fz, w.heap[k]? = some (.cells cs t fz) → k ≠ H → t ≠ 3 → w'.heap[k]? = some (.cells cs t fz)

theorem assert_int (x : Int) (w : World) : (Instr.typeAssert (.iface 3 (.int .i64 x)) 20 3 false).run Try.prog w = .ok (.int .i64 x) w := by
  unfold Instr.typeAssert
  simp [Sem.run_bind, run_underlying, Try.underlying3]

theorem set1 {w : World} {H : Nat} {v : Value} {t : TypeId} (h : w.heap[H]? = some (.cells #[v] t (0, 0))) (u : Value) : (w.setCell ⟨H, 0, none⟩ u).heap[H]? = some (.cells #[u] t (0, 0)) := by
  simp [World.setCell, Array.getElem?_modify, h]
theorem grown_set (w : World) (g i : Nat) (u : Value) : w.grownBy (w.setCell ⟨g, i, none⟩ u) (some g) :=
  ⟨rfl, rfl, rfl, by rw [World.size_setCell]; exact Nat.le_refl _, fun k _ hk => Below.heap_setCell _ _ _ _ (fun e => hk (by rw [e]))⟩
theorem own_setOther {w : World} {B e s n : Nat} {v : Value} {xs : List Value} (h : w.ownsRow B e s v n xs) {H : Nat} (hne : v.ownBlock ≠ some H) (u : Value) {i : Nat} : (w.setCell ⟨H, i, none⟩ u).ownsRow B e s v n xs :=
  h.kept (grown_set w H i u) (.inr hne)
/-- a block of another type is not that of the row. -/
theorem row_other {w : World} {B e s n k : Nat} {v : Value} {xs : List Value} {cs : Array Value} {t : TypeId} {fz : Nat × Nat} (h : w.ownsRow B e s v n xs) (hk : w.heap[k]? = some (.cells cs t fz)) (ht : t ≠ e) : some k ≠ v.ownBlock := by
  intro e
  rcases h.2 with ⟨hv, _⟩ | ⟨g0, cap0, cur0, hv, _, hg0, _⟩
  · rw [hv] at e; simp [Value.ownBlock] at e
  · rw [hv] at e
    simp only [Value.ownBlock, Option.some.injEq] at e
    subst e
    rw [hg0] at hk
    simp only [Option.some.injEq, Obj.cells.injEq] at hk
    exact ht hk.2.1.symm

set_option maxRecDepth 100000 in
set_option maxHeartbeats 4000000 in
theorem pushM_any (H B : Nat) (q : List Nat) (x : Nat) (w : World) (hB : B ≤ H) (hq : q.length ≤ 100000) (h : Hid (quAt H B q w)) :
    Calls Try.prog 144 #[.pointer (some ⟨H, 0, none⟩), .iface 3 (.int .i64 x)] w fun e w' => e = .returned (.tuple #[]) ∧ quAt H B (q ++ [x]) w' ∧ quKept H B w w' := by
  obtain ⟨i3, hi, hzz⟩ := Option.map_eq_some_iff.1 info3
  simp only [Prod.mk.injEq] at hzz
  obtain ⟨v, hH, hw⟩ := h.out
  have HH : Hid (w.heap[H]? = some (.cells #[v] 149 (0, 0))) := hH
  have HW : Hid (w.ownsRow B 3 1 v q.length (nums q)) := hw
  have hlt : H < w.heap.size := (Array.getElem?_eq_some_iff.1 hH).1
  have c0 : w.cell? ⟨H, 0, none⟩ = some v := by rw [Lib.cell_of_heap hH]; rfl
  obtain ⟨vo, vn, vc, rfl⟩ : ∃ vo vn vc, v = .slice vo vn vc := by
    rcases hw.2 with ⟨hv, _⟩ | ⟨g, cap, cur, hv, _⟩ <;> exact ⟨_, _, _, hv⟩
  clear hH hw
  have ta := assert_int (x : Int)
  go_enter Try.func144, Try.ntmps144
  go_wp2_with fail
  refine wp_region_noPanic ?_
  refine wp_region_R (S := fun w' => w'.cell? ⟨H, 0, none⟩ = some (.slice vo vn vc)) [9] (by kernel_rfl) c0 (fun hHeld => ?_)
  refine wpAnyR_take (i := 0) (v := ?v0) rfl (by kernel_rfl) (by kernel_rfl) (by kernel_rfl) (by kernel_rfl) (by kernel_rfl) (fun _ _ _ h => h) (Or.inl ⟨by rfl, ?hy0⟩) (by assumption) ?rest0
  case hy0 =>
    intro w hSw
    (try dsimp only at hSw)
    go_simp
    try with_reducible rfl
  simp only [Act.put, List.setIfInBounds_toArray, List.set_cons_zero, List.set_cons_succ, List.getElem_toArray, List.getElem_cons_zero]
  refine wpAnyR_take (i := 1) (v := ?v1) rfl (by kernel_rfl) (by kernel_rfl) (by kernel_rfl) (by kernel_rfl) (by kernel_rfl) (fun _ _ _ h => h) (Or.inl ⟨by rfl, ?hy1⟩) (by assumption) ?rest1
  case hy1 =>
    intro w hSw
    (try dsimp only at hSw)
    go_simp
    try with_reducible rfl
  simp only [Act.put, List.setIfInBounds_toArray, List.set_cons_zero, List.set_cons_succ, List.getElem_toArray, List.getElem_cons_zero, List.getElem_cons_succ]
  refine wpAnyR_take (i := 2) (v := ?v2) rfl (by kernel_rfl) (by kernel_rfl) (by kernel_rfl) (by kernel_rfl) (by kernel_rfl) (fun _ _ _ h => h) (Or.inl ⟨by rfl, ?hy2⟩) (by assumption) ?rest2
  case hy2 =>
    intro w hSw
    (try dsimp only at hSw)
    go_simp
    try with_reducible rfl
  simp only [Act.put, List.setIfInBounds_toArray, List.set_cons_zero, List.set_cons_succ, List.getElem_toArray, List.getElem_cons_zero, List.getElem_cons_succ]
  refine wpAnyR_take (i := 3) (v := ?v3) rfl (by kernel_rfl) (by kernel_rfl) (by kernel_rfl) (by kernel_rfl) (by kernel_rfl) (fun _ _ _ h => h) (Or.inl ⟨by rfl, ?hy3⟩) (by assumption) ?rest3
  case hy3 =>
    intro w hSw
    (try dsimp only at hSw)
    go_simp
    try with_reducible rfl
  simp only [Act.put, List.setIfInBounds_toArray, List.set_cons_zero, List.set_cons_succ, List.getElem_toArray, List.getElem_cons_zero, List.getElem_cons_succ]
  refine wpAnyR_take (i := 4) (v := ?v4) rfl (by kernel_rfl) (by kernel_rfl) (by kernel_rfl) (by kernel_rfl) (by kernel_rfl) (fun _ _ _ h => h) (Or.inl ⟨by rfl, ?hy4⟩) (by assumption) ?rest4
  case hy4 =>
    intro w hSw
    (try dsimp only at hSw)
    go_simp
    try with_reducible rfl
  simp only [Act.put, List.setIfInBounds_toArray, List.set_cons_zero, List.set_cons_succ, List.getElem_toArray, List.getElem_cons_zero, List.getElem_cons_succ]
  refine wpAnyR_take (i := 5) (v := ?v5) rfl (by kernel_rfl) (by kernel_rfl) (by kernel_rfl) (by kernel_rfl) (by kernel_rfl) (fun _ _ _ h => h) (Or.inl ⟨by rfl, ?hy5⟩) (by assumption) ?rest5
  case hy5 =>
    intro w hSw
    (try dsimp only at hSw)
    go_simp
    try with_reducible rfl
  simp only [Act.put, List.setIfInBounds_toArray, List.set_cons_zero, List.set_cons_succ, List.getElem_toArray, List.getElem_cons_zero, List.getElem_cons_succ]
  refine wpAnyR_ready (rs := [6]) (by kernel_rfl) (by simp) ?_
  refine AllReadyR.cons rfl (fun K hK => ?_) AllReadyR.nil
  go_simp
  refine hK.out _ _ ?_ (fun hHeld => ?_)
  · exact (World.cell?_of_block (Below.heap_alloc w.drew _ _ hlt)).trans c0
  clear hK
  (try simp only [Act.put, List.setIfInBounds_toArray, List.set_cons_zero, List.set_cons_succ, List.getElem_toArray, List.getElem_cons_zero, List.getElem_cons_succ])
  refine wpAnyR_ready (rs := [7]) (by kernel_rfl) (by simp) ?_
  refine AllReadyR.cons rfl (fun K hK => ?_) AllReadyR.nil
  simp only [List.getElem_toArray, List.getElem_cons_succ, List.getElem_cons_zero]
  rw [if_pos (by rfl)]
  refine wp_append_lies _ _ _ 149 (by rfl) B 3 i3 (.int .i64 0) 1 8 Try.underlying149 hi hzz.1 hzz.2.1 hzz.2.2 rfl (by decide) (.slice vo vn vc) q.length (nums q) (by rfl) (by exact HW.out.alloc _) ⟨w.heap.size, 0, none⟩ 1 1 [.int .i64 x] (by rfl) rfl ?d1 ?d2 (by decide) ?d3 ?d4 ?d5 (w.heap.size + 1) ?d6 ?_
  case d1 => exact World.news_of_block (cs := #[.int .i64 x]) (heap_alloc_new w _)
  case d2 => intro u hu; simp at hu; subst hu; rfl
  case d3 => unfold maxLen; omega
  case d4 => omega
  case d5 => simp; omega
  case d6 => simp
  intro g cap w1 hown1 hg1 hat1 hlt1
  have hne : some H ≠ (Value.slice vo vn vc).ownBlock := by
    intro e
    rcases HW.out.2 with ⟨hv, _⟩ | ⟨g0, cap0, cur0, hv, _, hg0, _⟩
    · rw [hv] at e; simp [Value.ownBlock] at e
    · rw [hv] at e
      simp only [Value.ownBlock, Option.some.injEq] at e
      subst e
      have h1 := HH.out
      rw [hg0] at h1
      simp at h1
  have hb1 : w1.heap[H]? = some (.cells #[.slice vo vn vc] 149 (0, 0)) := by
    rw [hg1.block H (by simp; omega) hne]
    exact (Below.heap_alloc w _ _ hlt).trans HH.out
  have c1 : w1.cell? ⟨H, 0, none⟩ = some (.slice vo vn vc) := by rw [Lib.cell_of_heap hb1]; rfl
  have f1 : w1.frozen? ⟨H, 0, none⟩ = false := Lib.frozen_of_heap hb1 _
  have HB1 : Hid (w1.heap[H]? = some (.cells #[.slice vo vn vc] 149 (0, 0))) := hb1
  have HO1 : Hid (w1.ownsRow B 3 1 (.slice (some ⟨g, 0, none⟩) (q.length + 1) cap) (q.length + 1) (nums q ++ [.int .i64 x])) := hown1
  have HG1 : Hid ((w.alloc (Obj.cells #[.int .i64 x] 3)).drew.grownBy w1 (Value.slice vo vn vc).ownBlock) := hg1
  have HGne : Hid (g ≠ H) := by
    intro e
    subst e
    rcases hown1.2 with ⟨hv, _⟩ | ⟨g0, cap0, cur0, hv, _, hg0, _⟩
    · cases hv
    · simp only [Value.slice.injEq, Option.some.injEq, Addr.mk.injEq] at hv
      rw [← hv.1.1, hb1] at hg0
      simp at hg0
  clear hb1 hown1 hg1
  refine hK.out _ _ ?_ (fun hHeld => ?_)
  · exact c1
  clear hK
  (try simp only [Act.put, List.setIfInBounds_toArray, List.set_cons_zero, List.set_cons_succ])
  refine wpAnyR_take (i := 8) (v := ?v8) rfl (by kernel_rfl) (by kernel_rfl) (by kernel_rfl) (by kernel_rfl) (by kernel_rfl) (fun _ _ _ h => h) (Or.inl ⟨by rfl, ?hy8⟩) (by assumption) ?rest8
  case hy8 =>
    intro w hSw
    (try dsimp only at hSw)
    go_simp
    try with_reducible rfl
  simp only [Act.put, List.setIfInBounds_toArray, List.set_cons_zero, List.set_cons_succ, List.getElem_toArray, List.getElem_cons_zero, List.getElem_cons_succ]
  refine wpAnyR_ready (rs := [9]) (by kernel_rfl) (by simp) ?_
  refine AllReadyR.free rfl (by kernel_rfl) (fun K hK => ?_) AllReadyR.nil
  go_simp
  refine hK.out _ _ ?_
  clear hK
  (try simp only [Act.put, List.setIfInBounds_toArray, List.set_cons_zero, List.set_cons_succ, List.getElem_toArray, List.getElem_cons_zero, List.getElem_cons_succ])
  refine wpAnyR_done (by kernel_rfl) ?_ _
  refine NoPanic.normal ?_
  go_wp2_with fail
  go_returns
  refine ⟨rfl, ⟨_, set1 HB1.out _, ?_⟩, ?_, ?_⟩
  · have h2 : (w1.setCell ⟨H, 0, none⟩ (.slice (some ⟨g, 0, none⟩) (q.length + 1) cap)).ownsRow B 3 1 (.slice (some ⟨g, 0, none⟩) (q.length + 1) cap) (q.length + 1) (nums q ++ [.int .i64 x]) := own_setOther HO1.out (by intro e; simp only [Value.ownBlock, Option.some.injEq] at e; exact HGne.out e) _
    rw [nums, List.map_append, List.length_append]
    exact h2
  · have b1 : Below B w (w.alloc (Obj.cells #[.int .i64 x] 3)).drew := ((Below.refl B w).alloc (by omega) _).drew
    exact (b1.grown HG1.out (by simp; omega) (fun j hj => (HW.out.lt j hj).1)).setCell hB _
  · intro k cs t fz hk hkH ht
    have hkl : k < w.heap.size := (Array.getElem?_eq_some_iff.1 hk).1
    rw [Below.heap_setCell _ _ _ _ hkH, HG1.out.block k (by simp; omega) ?_]
    · exact (Below.heap_alloc w _ _ hkl).trans hk
    · exact row_other HW.out hk ht

theorem ssa_some (ts : Array TypeId) (t : TypeId) (a : Addr) (s m : String) : Builtin.ssaWrapNilChk_ ts t #[.pointer (some a), strVal s, strVal m] = pure (.pointer (some a)) := rfl
theorem m148 : (Try.prog.info? 148).map (fun i => (i.methods.find? (·.name == "Len")).map (fun m => (m.path, m.func))) = some (some (#[], some (99, false))) := by kernel_rfl
theorem m148l : (Try.prog.info? 148).map (fun i => (i.methods.find? (·.name == "Less")).map (fun m => (m.path, m.func))) = some (some (#[], some (142, false))) := by kernel_rfl
theorem m148s : (Try.prog.info? 148).map (fun i => (i.methods.find? (·.name == "Swap")).map (fun m => (m.path, m.func))) = some (some (#[], some (145, false))) := by kernel_rfl

theorem meth_any (name : String) (f : FuncId) (hm : (Try.prog.info? 148).map (fun i => (i.methods.find? (·.name == name)).map (fun m => (m.path, m.func))) = some (some (#[], some (f, false)))) (w : World) (H : Nat) (v : Value) (hc : w.cell? ⟨H, 0, none⟩ = some v) :
    (method 284 148 (.pointer (some ⟨H, 0, none⟩)) name).run Try.prog w = .ok (f, v) w := by
  obtain ⟨i, hi, hmm⟩ := Option.map_eq_some_iff.1 hm
  obtain ⟨m, hf, hp⟩ := Option.map_eq_some_iff.1 hmm
  simp only [Prod.mk.injEq] at hp
  unfold method
  simp [typeInfo, hi, hf, hp.1, hp.2, follow, receiverAt, go_sem, Place.get, ssa_some, hc]

theorem own_shrink {w : World} {B e s n m g cap : Nat} {xs : List Value} (h : w.ownsRow B e s (.slice (some ⟨g, 0, none⟩) n cap) n xs) (hm : m ≤ n) : w.ownsRow B e s (.slice (some ⟨g, 0, none⟩) m cap) m (xs.take (m * s)) := by
  obtain ⟨h1, h2⟩ := h
  rcases h2 with ⟨hv, _⟩ | ⟨g0, cap0, cur0, hv, hb, hg, hn, hc, hz, ht⟩
  · cases hv
  · simp only [Value.slice.injEq, Option.some.injEq, Addr.mk.injEq, and_true, true_and] at hv
    obtain ⟨e1, e2⟩ := hv
    subst e1; subst e2
    have hle : m * s ≤ n * s := Nat.mul_le_mul_right _ hm
    refine ⟨by rw [List.length_take, h1, Nat.min_eq_left hle], .inr ⟨g, cap, cur0, rfl, hb, hg, by omega, hc, hz, ?_⟩⟩
    rw [← ht, List.take_take, Nat.min_eq_left hle]

set_option maxRecDepth 100000 in
set_option maxHeartbeats 4000000 in
theorem popM_any (H B : Nat) (q : List Nat) (x : Nat) (w : World) (hB : B ≤ H) (hq : q.length ≤ 100000) (h : Hid (quAt H B (q ++ [x]) w)) :
    Calls Try.prog 143 #[.pointer (some ⟨H, 0, none⟩)] w fun e w' => e = .returned (.iface 3 (.int .i64 x)) ∧ quAt H B q w' ∧ quKept H B w w' := by
  obtain ⟨v, hH, hw⟩ := h.out
  rw [List.length_append] at hw
  obtain ⟨g, cap, hv, _⟩ := hw.form (by simp)
  subst hv
  have hw2 : w.ownsRow B 3 1 (.slice (some ⟨g, 0, none⟩) (q.length + 1) cap) (q.length + 1) (nums q ++ [.int .i64 x]) := by
    rw [nums, List.map_append] at hw; exact hw
  have HH : Hid (w.heap[H]? = some (.cells #[.slice (some ⟨g, 0, none⟩) (q.length + 1) cap] 149 (0, 0))) := hH
  have HW : Hid (w.ownsRow B 3 1 (.slice (some ⟨g, 0, none⟩) (q.length + 1) cap) (q.length + 1) (nums q ++ [.int .i64 x])) := hw2
  have hlt : H < w.heap.size := (Array.getElem?_eq_some_iff.1 hH).1
  have c0 : w.cell? ⟨H, 0, none⟩ = some (.slice (some ⟨g, 0, none⟩) (q.length + 1) cap) := by rw [Lib.cell_of_heap hH]; rfl
  have f0 : w.frozen? ⟨H, 0, none⟩ = false := Lib.frozen_of_heap hH _
  have c1 : w.cell? ⟨g, q.length, none⟩ = some (.int .i64 x) := by
    rw [hw2.cellAt q.length (by omega), List.getElem?_append_right (by simp [nums])]
    simp [nums]
  have hcap : (q.length : Int) ≤ (cap : Int) := by
    rcases hw2.2 with ⟨hv, _⟩ | ⟨g0, cap0, cur0, hv, _, _, hn, _⟩
    · cases hv
    · simp only [Value.slice.injEq, true_and] at hv
      rw [← hv.2] at hn
      omega
  clear hH hw hw2
  go_enter Try.func143, Try.ntmps143
  go_wp2_with fail
  go_ret
  have hne : (Value.slice (some ⟨g, 0, none⟩) q.length cap).ownBlock ≠ some H := by
    intro e
    exact row_other HW.out HH.out (by decide) (by rw [← e]; rfl)
  refine ⟨rfl, ⟨_, set1 HH.out _, own_setOther ?_ hne _⟩, (Below.refl B w).setCell hB _, fun k cs t fz hk hkH _ => ?_⟩
  · have h2 := own_shrink HW.out (Nat.le_succ q.length)
    rw [Nat.mul_one, List.take_left' (by simp [nums])] at h2
    exact h2
  · rw [Below.heap_setCell _ _ _ _ hkH]; exact hk
end Go.Proofs.Ytlijlmjgnhheaaa
