/-
  The walks of the queue of steps: less, swap, push, pop.
  The walks of container/heap over the queue of steps: up, down, Push, Pop. Of the order nothing is said: what is in the queue stays in it.
  The walks of heap.Push and heap.Pop.
-/
import Derived.Test.YtjjmcnippjpclabJoin
namespace Go.Proofs.Ytjjmcnippjpclab

open Go.RowKit

set_option maxRecDepth 100000 in
set_option maxHeartbeats 4000000 in
theorem less_any (g n c i j x y : Nat) (w : World) (hi : i < n) (hj : j < n) (hx : w.cell? ⟨g, i, none⟩ = some (.int .i64 x)) (hy : w.cell? ⟨g, j, none⟩ = some (.int .i64 y)) :
    Calls Try.prog 116 #[.slice (some ⟨g, 0, none⟩) n c, .int .i64 i, .int .i64 j] w fun e w' => e = .returned (.bool (decide (x < y))) ∧ ∃ m, w' = w.drewN m := by
  have h1 : (i : Int) < (n : Int) := by omega
  have h2 : (j : Int) < (n : Int) := by omega
  have h3 : (0 : Int) ≤ (i : Int) := by omega
  have h4 : (0 : Int) ≤ (j : Int) := by omega
  go_enter Try.func116, Try.ntmps116
  go_wp2_with fail
  go_quiet (fail)
  go_wp2_with fail
  go_ret
  exact ⟨rfl, _, rfl⟩

set_option maxRecDepth 100000 in
set_option maxHeartbeats 4000000 in
theorem swap_any (g n c i j x y : Nat) (w : World) (hi : i < n) (hj : j < n) (hx : w.cell? ⟨g, i, none⟩ = some (.int .i64 x)) (hy : w.cell? ⟨g, j, none⟩ = some (.int .i64 y)) (hf : ∀ k, w.frozen? ⟨g, k, none⟩ = false) :
    Calls Try.prog 119 #[.slice (some ⟨g, 0, none⟩) n c, .int .i64 i, .int .i64 j] w fun e w' => e = .returned (.tuple #[]) ∧ w' = ((w.setCell ⟨g, i, none⟩ (.int .i64 y)).setCell ⟨g, j, none⟩ (.int .i64 x)).drew := by
  have h1 : (i : Int) < (n : Int) := by omega
  have h2 : (j : Int) < (n : Int) := by omega
  have h3 : (0 : Int) ≤ (i : Int) := by omega
  have h4 : (0 : Int) ≤ (j : Int) := by omega
  have hs : (w.setCell ⟨g, i, none⟩ (.int .i64 y)).cell? ⟨g, j, none⟩ = some (.int .i64 y) := by
    by_cases hij : i = j
    · subst hij
      exact World.cell?_setCell_same _ _ _ hx
    · rw [World.cell?_setCell_other _ _ _ _ (by intro h; cases h; exact hij rfl), hy]
  go_enter Try.func119, Try.ntmps119
  go_wp2_with fail
  go_region
  go_returns
  exact ⟨rfl, rfl⟩

/-- a list of numbers as cells. -/
def nums (q : List Nat) : List Value := q.map fun i => .int .i64 (i : Nat)

/-- a queue: its box, and the row of its numbers. -/
def quAt (H B : Nat) (q : List Nat) (w : World) : Prop :=
  ∃ v, w.heap[H]? = some (.cells #[v] 111 (0, 0)) ∧ w.ownsRow B 3 1 v q.length (nums q)

/-- what the calls of a queue leave as it was. -/
def quKept (H B : Nat) (w w' : World) : Prop := Below B w w' ∧ ∀ k cs t fz, w.heap[k]? = some (.cells cs t fz) → k ≠ H → t ≠ 3 → w'.heap[k]? = some (.cells cs t fz)

theorem assert_int (x : Int) (w : World) : (Instr.typeAssert (.iface 3 (.int .i64 x)) 20 3 false).run Try.prog w = .ok (.int .i64 x) w := by
  unfold Instr.typeAssert
  simp [Sem.run_bind, run_underlying, Try.underlying3]

theorem set1 {w : World} {H : Nat} {v : Value} {t : TypeId} (h : w.heap[H]? = some (.cells #[v] t (0, 0))) (u : Value) : (w.setCell ⟨H, 0, none⟩ u).heap[H]? = some (.cells #[u] t (0, 0)) := by
  simp [World.setCell, Array.getElem?_modify, h]

theorem grown_set (w : World) (g i : Nat) (u : Value) : w.grownBy (w.setCell ⟨g, i, none⟩ u) (some g) :=
  ⟨rfl, rfl, rfl, by rw [World.size_setCell]; exact Nat.le_refl _, fun k _ hk => Below.heap_setCell _ _ _ _ (fun e => hk (by rw [e]))⟩

theorem own_setOther {w : World} {B e s n : Nat} {v : Value} {xs : List Value} (h : w.ownsRow B e s v n xs) {H : Nat} (hne : v.ownBlock ≠ some H) (u : Value) {i : Nat} : (w.setCell ⟨H, i, none⟩ u).ownsRow B e s v n xs :=
  h.kept (grown_set w H i u) (.inr hne)

/-- a block of another type is not that of the row. -/
theorem row_other {w : World} {B e s n k : Nat} {v : Value} {xs : List Value} {cs : Array Value} {t : TypeId} {fz : Nat × Nat} (h : w.ownsRow B e s v n xs) (hk : w.heap[k]? = some (.cells cs t fz)) (ht : t ≠ e) : some k ≠ v.ownBlock := by
  intro e
  rcases h.2 with ⟨hv, _⟩ | ⟨g0, cap0, cur0, hv, _, hg0, _⟩
  · rw [hv] at e; simp [Value.ownBlock] at e
  · rw [hv] at e
    simp only [Value.ownBlock, Option.some.injEq] at e
    subst e
    rw [hg0] at hk
    simp only [Option.some.injEq, Obj.cells.injEq] at hk
    exact ht hk.2.1.symm

theorem infoInt : (Try.prog.info? 3).map (fun i => (i.zero, i.size, i.bytes)) = some (some (.int .i64 0), 1, 8) := by kernel_rfl

set_option maxRecDepth 100000 in
set_option maxHeartbeats 4000000 in
theorem pushM_any (H B : Nat) (q : List Nat) (x : Nat) (w : World) (hB : B ≤ H) (hq : q.length ≤ 100000) (h : Hid (quAt H B q w)) :
    Calls Try.prog 118 #[.pointer (some ⟨H, 0, none⟩), .iface 3 (.int .i64 x)] w fun e w' => e = .returned (.tuple #[]) ∧ quAt H B (q ++ [x]) w' ∧ quKept H B w w' := by
  obtain ⟨i3, hi, hzz⟩ := Option.map_eq_some_iff.1 infoInt
  simp only [Prod.mk.injEq] at hzz
  obtain ⟨v, hH, hw⟩ := h.out
  have HH : Hid (w.heap[H]? = some (.cells #[v] 111 (0, 0))) := hH
  have HW : Hid (w.ownsRow B 3 1 v q.length (nums q)) := hw
  have hlt : H < w.heap.size := (Array.getElem?_eq_some_iff.1 hH).1
  have c0 : w.cell? ⟨H, 0, none⟩ = some v := by rw [Lib.cell_of_heap hH]; rfl
  obtain ⟨vo, vn, vc, rfl⟩ : ∃ vo vn vc, v = .slice vo vn vc := by
    rcases hw.2 with ⟨hv, _⟩ | ⟨g, cap, cur, hv, _⟩ <;> exact ⟨_, _, _, hv⟩
  clear hH hw
  have ta := assert_int (x : Int)
  go_enter Try.func118, Try.ntmps118
  go_wp2_with fail
  refine wp_region_noPanic ?_
  refine wp_region_R (S := fun w' => w'.cell? ⟨H, 0, none⟩ = some (.slice vo vn vc)) [9] (by kernel_rfl) c0 (fun hHeld => ?_)
  refine wpAnyR_take (i := 0) (v := ?v0) rfl (by kernel_rfl) (by kernel_rfl) (by kernel_rfl) (by kernel_rfl) (by kernel_rfl) (fun _ _ _ h => h) (Or.inl ⟨by rfl, ?hy0⟩) (by assumption) ?rest0
  case hy0 =>
    intro w hSw
    (try dsimp only at hSw)
    go_simp
    try with_reducible rfl
  simp only [Act.put, List.setIfInBounds_toArray, List.set_cons_zero, List.set_cons_succ, List.getElem_toArray, List.getElem_cons_zero]
  refine wpAnyR_take (i := 1) (v := ?v1) rfl (by kernel_rfl) (by kernel_rfl) (by kernel_rfl) (by kernel_rfl) (by kernel_rfl) (fun _ _ _ h => h) (Or.inl ⟨by rfl, ?hy1⟩) (by assumption) ?rest1
  case hy1 =>
    intro w hSw
    (try dsimp only at hSw)
    go_simp
    try with_reducible rfl
  simp only [Act.put, List.setIfInBounds_toArray, List.set_cons_zero, List.set_cons_succ, List.getElem_toArray, List.getElem_cons_zero, List.getElem_cons_succ]
  refine wpAnyR_take (i := 2) (v := ?v2) rfl (by kernel_rfl) (by kernel_rfl) (by kernel_rfl) (by kernel_rfl) (by kernel_rfl) (fun _ _ _ h => h) (Or.inl ⟨by rfl, ?hy2⟩) (by assumption) ?rest2
  case hy2 =>
    intro w hSw
    (try dsimp only at hSw)
    go_simp
    try with_reducible rfl
  simp only [Act.put, List.setIfInBounds_toArray, List.set_cons_zero, List.set_cons_succ, List.getElem_toArray, List.getElem_cons_zero, List.getElem_cons_succ]
  refine wpAnyR_take (i := 3) (v := ?v3) rfl (by kernel_rfl) (by kernel_rfl) (by kernel_rfl) (by kernel_rfl) (by kernel_rfl) (fun _ _ _ h => h) (Or.inl ⟨by rfl, ?hy3⟩) (by assumption) ?rest3
  case hy3 =>
    intro w hSw
    (try dsimp only at hSw)
    go_simp
    try with_reducible rfl
  simp only [Act.put, List.setIfInBounds_toArray, List.set_cons_zero, List.set_cons_succ, List.getElem_toArray, List.getElem_cons_zero, List.getElem_cons_succ]
  refine wpAnyR_take (i := 4) (v := ?v4) rfl (by kernel_rfl) (by kernel_rfl) (by kernel_rfl) (by kernel_rfl) (by kernel_rfl) (fun _ _ _ h => h) (Or.inl ⟨by rfl, ?hy4⟩) (by assumption) ?rest4
  case hy4 =>
    intro w hSw
    (try dsimp only at hSw)
    go_simp
    try with_reducible rfl
  simp only [Act.put, List.setIfInBounds_toArray, List.set_cons_zero, List.set_cons_succ, List.getElem_toArray, List.getElem_cons_zero, List.getElem_cons_succ]
  refine wpAnyR_take (i := 5) (v := ?v5) rfl (by kernel_rfl) (by kernel_rfl) (by kernel_rfl) (by kernel_rfl) (by kernel_rfl) (fun _ _ _ h => h) (Or.inl ⟨by rfl, ?hy5⟩) (by assumption) ?rest5
  case hy5 =>
    intro w hSw
    (try dsimp only at hSw)
    go_simp
    try with_reducible rfl
  simp only [Act.put, List.setIfInBounds_toArray, List.set_cons_zero, List.set_cons_succ, List.getElem_toArray, List.getElem_cons_zero, List.getElem_cons_succ]
  refine wpAnyR_ready (rs := [6]) (by kernel_rfl) (by simp) ?_
  refine AllReadyR.cons rfl (fun K hK => ?_) AllReadyR.nil
  go_simp
  refine hK.out _ _ ?_ (fun hHeld => ?_)
  · exact (World.cell?_of_block (Below.heap_alloc w.drew _ _ hlt)).trans c0
  clear hK
  (try simp only [Act.put, List.setIfInBounds_toArray, List.set_cons_zero, List.set_cons_succ, List.getElem_toArray, List.getElem_cons_zero, List.getElem_cons_succ])
  refine wpAnyR_ready (rs := [7]) (by kernel_rfl) (by simp) ?_
  refine AllReadyR.cons rfl (fun K hK => ?_) AllReadyR.nil
  simp only [List.getElem_toArray, List.getElem_cons_succ, List.getElem_cons_zero]
  rw [if_pos (by rfl)]
  refine wp_append_lies _ _ _ 111 (by rfl) B 3 i3 (.int .i64 0) 1 8 Try.underlying111 hi hzz.1 hzz.2.1 hzz.2.2 rfl (by decide) (.slice vo vn vc) q.length (nums q) (by rfl) (by exact HW.out.alloc _) ⟨w.heap.size, 0, none⟩ 1 1 [.int .i64 x] (by rfl) rfl ?d1 ?d2 (by decide) ?d3 ?d4 ?d5 (w.heap.size + 1) ?d6 ?_
  case d1 => exact World.news_of_block (cs := #[.int .i64 x]) (heap_alloc_new w _)
  case d2 => intro u hu; simp at hu; subst hu; rfl
  case d3 => unfold maxLen; omega
  case d4 => omega
  case d5 => simp; omega
  case d6 => simp
  intro g cap w1 hown1 hg1 hat1 hlt1
  have hne : some H ≠ (Value.slice vo vn vc).ownBlock := by
    intro e
    rcases HW.out.2 with ⟨hv, _⟩ | ⟨g0, cap0, cur0, hv, _, hg0, _⟩
    · rw [hv] at e; simp [Value.ownBlock] at e
    · rw [hv] at e
      simp only [Value.ownBlock, Option.some.injEq] at e
      subst e
      have h1 := HH.out
      rw [hg0] at h1
      simp at h1
  have hb1 : w1.heap[H]? = some (.cells #[.slice vo vn vc] 111 (0, 0)) := by
    rw [hg1.block H (by simp; omega) hne]
    exact (Below.heap_alloc w _ _ hlt).trans HH.out
  have c1 : w1.cell? ⟨H, 0, none⟩ = some (.slice vo vn vc) := by rw [Lib.cell_of_heap hb1]; rfl
  have f1 : w1.frozen? ⟨H, 0, none⟩ = false := Lib.frozen_of_heap hb1 _
  have HB1 : Hid (w1.heap[H]? = some (.cells #[.slice vo vn vc] 111 (0, 0))) := hb1
  have HO1 : Hid (w1.ownsRow B 3 1 (.slice (some ⟨g, 0, none⟩) (q.length + 1) cap) (q.length + 1) (nums q ++ [.int .i64 x])) := hown1
  have HG1 : Hid ((w.alloc (Obj.cells #[.int .i64 x] 3)).drew.grownBy w1 (Value.slice vo vn vc).ownBlock) := hg1
  have HGne : Hid (g ≠ H) := by
    intro e
    subst e
    rcases hown1.2 with ⟨hv, _⟩ | ⟨g0, cap0, cur0, hv, _, hg0, _⟩
    · cases hv
    · simp only [Value.slice.injEq, Option.some.injEq, Addr.mk.injEq] at hv
      rw [← hv.1.1, hb1] at hg0
      simp at hg0
  clear hb1 hown1 hg1
  refine hK.out _ _ ?_ (fun hHeld => ?_)
  · exact c1
  clear hK
  (try simp only [Act.put, List.setIfInBounds_toArray, List.set_cons_zero, List.set_cons_succ])
  refine wpAnyR_take (i := 8) (v := ?v8) rfl (by kernel_rfl) (by kernel_rfl) (by kernel_rfl) (by kernel_rfl) (by kernel_rfl) (fun _ _ _ h => h) (Or.inl ⟨by rfl, ?hy8⟩) (by assumption) ?rest8
  case hy8 =>
    intro w hSw
    (try dsimp only at hSw)
    go_simp
    try with_reducible rfl
  simp only [Act.put, List.setIfInBounds_toArray, List.set_cons_zero, List.set_cons_succ, List.getElem_toArray, List.getElem_cons_zero, List.getElem_cons_succ]
  refine wpAnyR_ready (rs := [9]) (by kernel_rfl) (by simp) ?_
  refine AllReadyR.free rfl (by kernel_rfl) (fun K hK => ?_) AllReadyR.nil
  go_simp
  refine hK.out _ _ ?_
  clear hK
  (try simp only [Act.put, List.setIfInBounds_toArray, List.set_cons_zero, List.set_cons_succ, List.getElem_toArray, List.getElem_cons_zero, List.getElem_cons_succ])
  refine wpAnyR_done (by kernel_rfl) ?_ _
  refine NoPanic.normal ?_
  go_wp2_with fail
  go_returns
  refine ⟨rfl, ⟨_, set1 HB1.out _, ?_⟩, ?_, ?_⟩
  · have h2 : (w1.setCell ⟨H, 0, none⟩ (.slice (some ⟨g, 0, none⟩) (q.length + 1) cap)).ownsRow B 3 1 (.slice (some ⟨g, 0, none⟩) (q.length + 1) cap) (q.length + 1) (nums q ++ [.int .i64 x]) := own_setOther HO1.out (by intro e; simp only [Value.ownBlock, Option.some.injEq] at e; exact HGne.out e) _
    rw [nums, List.map_append, List.length_append]
    exact h2
  · have b1 : Below B w (w.alloc (Obj.cells #[.int .i64 x] 3)).drew := ((Below.refl B w).alloc (by omega) _).drew
    exact (b1.grown HG1.out (by simp; omega) (fun j hj => (HW.out.lt j hj).1)).setCell hB _
  · intro k cs t fz hk hkH ht
    have hkl : k < w.heap.size := (Array.getElem?_eq_some_iff.1 hk).1
    rw [Below.heap_setCell _ _ _ _ hkH, HG1.out.block k (by simp; omega) ?_]
    · exact (Below.heap_alloc w _ _ hkl).trans hk
    · exact row_other HW.out hk ht

theorem ssa_some (ts : Array TypeId) (t : TypeId) (a : Addr) (s m : String) : Builtin.ssaWrapNilChk_ ts t #[.pointer (some a), strVal s, strVal m] = pure (.pointer (some a)) := rfl

theorem m148 : (Try.prog.info? 110).map (fun i => (i.methods.find? (·.name == "Len")).map (fun m => (m.path, m.func))) = some (some (#[], some (73, false))) := by kernel_rfl

theorem m148l : (Try.prog.info? 110).map (fun i => (i.methods.find? (·.name == "Less")).map (fun m => (m.path, m.func))) = some (some (#[], some (116, false))) := by kernel_rfl

theorem m148s : (Try.prog.info? 110).map (fun i => (i.methods.find? (·.name == "Swap")).map (fun m => (m.path, m.func))) = some (some (#[], some (119, false))) := by kernel_rfl

theorem meth_any (name : String) (f : FuncId) (hm : (Try.prog.info? 110).map (fun i => (i.methods.find? (·.name == name)).map (fun m => (m.path, m.func))) = some (some (#[], some (f, false)))) (w : World) (H : Nat) (v : Value) (hc : w.cell? ⟨H, 0, none⟩ = some v) :
    (method 253 110 (.pointer (some ⟨H, 0, none⟩)) name).run Try.prog w = .ok (f, v) w := by
  obtain ⟨i, hi, hmm⟩ := Option.map_eq_some_iff.1 hm
  obtain ⟨m, hf, hp⟩ := Option.map_eq_some_iff.1 hmm
  simp only [Prod.mk.injEq] at hp
  unfold method
  simp [typeInfo, hi, hf, hp.1, hp.2, follow, receiverAt, go_sem, Place.get, ssa_some, hc]

theorem own_shrink {w : World} {B e s n m g cap : Nat} {xs : List Value} (h : w.ownsRow B e s (.slice (some ⟨g, 0, none⟩) n cap) n xs) (hm : m ≤ n) : w.ownsRow B e s (.slice (some ⟨g, 0, none⟩) m cap) m (xs.take (m * s)) := by
  obtain ⟨h1, h2⟩ := h
  rcases h2 with ⟨hv, _⟩ | ⟨g0, cap0, cur0, hv, hb, hg, hn, hc, hz, ht⟩
  · cases hv
  · simp only [Value.slice.injEq, Option.some.injEq, Addr.mk.injEq, and_true, true_and] at hv
    obtain ⟨e1, e2⟩ := hv
    subst e1; subst e2
    have hle : m * s ≤ n * s := Nat.mul_le_mul_right _ hm
    refine ⟨by rw [List.length_take, h1, Nat.min_eq_left hle], .inr ⟨g, cap, cur0, rfl, hb, hg, by omega, hc, hz, ?_⟩⟩
    rw [← ht, List.take_take, Nat.min_eq_left hle]

set_option maxRecDepth 100000 in
set_option maxHeartbeats 4000000 in
theorem popM_any (H B : Nat) (q : List Nat) (x : Nat) (w : World) (hB : B ≤ H) (hq : q.length ≤ 100000) (h : Hid (quAt H B (q ++ [x]) w)) :
    Calls Try.prog 117 #[.pointer (some ⟨H, 0, none⟩)] w fun e w' => e = .returned (.iface 3 (.int .i64 x)) ∧ quAt H B q w' ∧ quKept H B w w' := by
  obtain ⟨v, hH, hw⟩ := h.out
  rw [List.length_append] at hw
  obtain ⟨g, cap, hv, _⟩ := hw.form (by simp)
  subst hv
  have hw2 : w.ownsRow B 3 1 (.slice (some ⟨g, 0, none⟩) (q.length + 1) cap) (q.length + 1) (nums q ++ [.int .i64 x]) := by
    rw [nums, List.map_append] at hw; exact hw
  have HH : Hid (w.heap[H]? = some (.cells #[.slice (some ⟨g, 0, none⟩) (q.length + 1) cap] 111 (0, 0))) := hH
  have HW : Hid (w.ownsRow B 3 1 (.slice (some ⟨g, 0, none⟩) (q.length + 1) cap) (q.length + 1) (nums q ++ [.int .i64 x])) := hw2
  have hlt : H < w.heap.size := (Array.getElem?_eq_some_iff.1 hH).1
  have c0 : w.cell? ⟨H, 0, none⟩ = some (.slice (some ⟨g, 0, none⟩) (q.length + 1) cap) := by rw [Lib.cell_of_heap hH]; rfl
  have f0 : w.frozen? ⟨H, 0, none⟩ = false := Lib.frozen_of_heap hH _
  have c1 : w.cell? ⟨g, q.length, none⟩ = some (.int .i64 x) := by
    rw [hw2.cellAt q.length (by omega), List.getElem?_append_right (by simp [nums])]
    simp [nums]
  have hcap : (q.length : Int) ≤ (cap : Int) := by
    rcases hw2.2 with ⟨hv, _⟩ | ⟨g0, cap0, cur0, hv, _, _, hn, _⟩
    · cases hv
    · simp only [Value.slice.injEq, true_and] at hv
      rw [← hv.2] at hn
      omega
  clear hH hw hw2
  go_enter Try.func117, Try.ntmps117
  go_wp2_with fail
  go_ret
  have hne : (Value.slice (some ⟨g, 0, none⟩) q.length cap).ownBlock ≠ some H := by
    intro e
    exact row_other HW.out HH.out (by decide) (by rw [← e]; rfl)
  refine ⟨rfl, ⟨_, set1 HH.out _, own_setOther ?_ hne _⟩, (Below.refl B w).setCell hB _, fun k cs t fz hk hkH _ => ?_⟩
  · have h2 := own_shrink HW.out (Nat.le_succ q.length)
    rw [Nat.mul_one, List.take_left' (by simp [nums])] at h2
    exact h2
  · rw [Below.heap_setCell _ _ _ _ hkH]; exact hk

end Go.Proofs.Ytjjmcnippjpclab

namespace Go.Proofs.Ytjjmcnippjpclab

open Go.RowKit

theorem quKept.refl (H B : Nat) (w : World) : quKept H B w w := ⟨Below.refl _ _, fun _ _ _ _ h _ _ => h⟩

theorem quKept.trans {H B : Nat} {a b c : World} (h : quKept H B a b) (k : quKept H B b c) : quKept H B a c := ⟨h.1.trans k.1, fun i cs t fz hi hH ht => k.2 i cs t fz (h.2 i cs t fz hi hH ht) hH ht⟩

theorem quKept.drewN {H B : Nat} {a b : World} (h : quKept H B a b) (n : Nat) : quKept H B a (b.drewN n) := ⟨below_drewN h.1 n, h.2⟩

theorem quKept.drew {H B : Nat} {a b : World} (h : quKept H B a b) : quKept H B a b.drew := ⟨h.1.drew, h.2⟩

/-- a queue opened. -/
theorem quAt.open {H B : Nat} {q : List Nat} {w : World} (h : quAt H B q w) (h0 : 0 < q.length) :
    ∃ g cap, w.heap[H]? = some (.cells #[.slice (some ⟨g, 0, none⟩) q.length cap] 111 (0, 0)) ∧ w.ownsRow B 3 1 (.slice (some ⟨g, 0, none⟩) q.length cap) q.length (nums q) := by
  obtain ⟨v, hH, hw⟩ := h
  obtain ⟨g, cap, hv, _⟩ := hw.form h0
  subst hv
  exact ⟨g, cap, hH, hw⟩

theorem quAt.cells {B : Nat} {q : List Nat} {w : World} {g cap : Nat} (h : w.ownsRow B 3 1 (.slice (some ⟨g, 0, none⟩) q.length cap) q.length (nums q)) (i x : Nat) (hx : q[i]? = some x) : w.cell? ⟨g, i, none⟩ = some (.int .i64 x) := by
  have hl := (List.getElem?_eq_some_iff.1 hx).1
  rw [h.cellAt i (by omega), nums, List.getElem?_map, hx]
  rfl

theorem nums_set (q : List Nat) (i x : Nat) : (nums q).set i (.int .i64 x) = nums (q.set i x) := by rw [nums, nums, List.map_set]

/-- two of the queue's numbers change places. -/
theorem quAt.swap {H B : Nat} {q : List Nat} {w : World} {g cap i j x y : Nat} (hH : w.heap[H]? = some (.cells #[.slice (some ⟨g, 0, none⟩) q.length cap] 111 (0, 0)))
    (h : w.ownsRow B 3 1 (.slice (some ⟨g, 0, none⟩) q.length cap) q.length (nums q)) (hx : q[i]? = some x) (hy : q[j]? = some y) :
    ∃ q', q'.Perm q ∧ quAt H B q' ((w.setCell ⟨g, i, none⟩ (.int .i64 y)).setCell ⟨g, j, none⟩ (.int .i64 x)).drew ∧ quKept H B w ((w.setCell ⟨g, i, none⟩ (.int .i64 y)).setCell ⟨g, j, none⟩ (.int .i64 x)).drew := by
  obtain ⟨hi, ex⟩ := List.getElem?_eq_some_iff.1 hx
  obtain ⟨hj, ey⟩ := List.getElem?_eq_some_iff.1 hy
  have hgH : H ≠ g := fun e => by subst e; exact row_other h hH (by decide) rfl
  have hBg : B ≤ g := (h.lt g rfl).1
  refine ⟨(q.set i y).set j x, by have := List.set_set_perm hi hj; rw [ex, ey] at this; exact this, ⟨.slice (some ⟨g, 0, none⟩) q.length cap, ?_, ?_⟩, (((Below.refl B w).setCell hBg _).setCell hBg _).drew, fun k cs t fz hk hkH ht => ?_⟩
  · show ((w.setCell ⟨g, i, none⟩ (.int .i64 y)).setCell ⟨g, j, none⟩ (.int .i64 x)).heap[H]? = _
    rw [Below.heap_setCell _ _ _ _ hgH, Below.heap_setCell _ _ _ _ hgH]
    exact hH
  · have s0 := h.stored i (.int .i64 y)
    have s1 := s0.1.stored j (.int .i64 x)
    have s2 := s1.1
    rw [nums_set, nums_set] at s2
    rw [List.length_set, List.length_set]
    exact s2
  · have hkg : k ≠ g := fun e => by subst e; exact row_other h hk ht rfl
    show ((w.setCell ⟨g, i, none⟩ (.int .i64 y)).setCell ⟨g, j, none⟩ (.int .i64 x)).heap[k]? = _
    rw [Below.heap_setCell _ _ _ _ hkg, Below.heap_setCell _ _ _ _ hkg]
    exact hk

set_option maxRecDepth 100000 in
set_option maxHeartbeats 4000000 in
theorem up_any (H B : Nat) (q : List Nat) (j : Nat) (w : World) (hq : q.length ≤ 100000) (hj : j < q.length) (h : Hid (quAt H B q w)) :
    Calls Try.prog 91 #[.iface 110 (.pointer (some ⟨H, 0, none⟩)), .int .i64 j] w fun e w' => e = .returned (.tuple #[]) ∧ ∃ q', q'.Perm q ∧ quAt H B q' w' ∧ quKept H B w w' := by
  go_enter Try.func91, Try.ntmps91
  go_wp2_with fail
  go_loopw [1] (fun y wr => ∃ (k : Nat) (r : List Nat), y = .int .i64 k ∧ k < r.length ∧ r.length ≤ 100000 ∧ Hid (r.Perm q) ∧ Hid (quAt H B r wr) ∧ Hid (quKept H B w wr)) (fun y _ => (intOf y).toNat)
  case atStart => exact ⟨j, q, rfl, hj, hq, List.Perm.refl _, h, quKept.refl _ _ _⟩
  case round =>
    obtain ⟨k, r, rfl, hk, hr, hp, hqu, hke⟩ := hrel
    obtain ⟨g, cap, hH, hw⟩ := hqu.out.open (by omega)
    have c0 : wr.cell? ⟨H, 0, none⟩ = some (.slice (some ⟨g, 0, none⟩) r.length cap) := by rw [Lib.cell_of_heap hH]; rfl
    have mL := meth_any "Less" 116 m148l wr H _ c0
    rcases Nat.eq_zero_or_pos k with hk0 | hk0
    · subst hk0
      clear hH hw
      go_wp2_with fail
      go_returns
      exact ⟨rfl, r, hp.out, hqu.out, hke.out⟩
    · obtain ⟨p, hpk, hp1, hp2⟩ : ∃ p : Nat, p < k ∧ ((k : Int) - 1) / 2 = (p : Int) ∧ ((p : Int) == (k : Int)) = false := ⟨(k - 1) / 2, by omega, by omega, beq_eq_false_iff_ne.2 (by omega)⟩
      obtain ⟨x, hx⟩ : ∃ x, r[k]? = some x := ⟨r[k], List.getElem?_eq_getElem hk⟩
      obtain ⟨y, hy⟩ : ∃ y, r[p]? = some y := ⟨r[p], List.getElem?_eq_getElem (by omega)⟩
      have HX : Hid (r[k]? = some x) := hx
      have HY : Hid (r[p]? = some y) := hy
      have cx := quAt.cells hw k x hx
      have cy := quAt.cells hw p y hy
      have HH : Hid (wr.heap[H]? = some (.cells #[.slice (some ⟨g, 0, none⟩) r.length cap] 111 (0, 0))) := hH
      have HW : Hid (wr.ownsRow B 3 1 (.slice (some ⟨g, 0, none⟩) r.length cap) r.length (nums r)) := hw
      have mS : ∀ m, (method 253 110 (.pointer (some ⟨H, 0, none⟩)) "Swap").run Try.prog (wr.drewN m) = .ok (119, .slice (some ⟨g, 0, none⟩) r.length cap) (wr.drewN m) := fun m => meth_any "Swap" 119 m148s (wr.drewN m) H _ c0
      clear hH hw hx hy
      go_wp2_with fail
      refine (less_any g r.length cap k p x y _ hk (by omega) cx cy).mono ?_
      rintro e v1 ⟨rfl, m, rfl⟩
      by_cases hxy : x < y
      · rw [decide_eq_true hxy]
        go_wp2_with fail
        refine (swap_any g r.length cap p k y x (wr.drewN m) (by omega) hk (by exact cy) (by exact cx) (fun i => by exact HW.out.frozenAt i)).mono ?_
        rintro e v2 ⟨rfl, rfl⟩
        obtain ⟨q2, hp2, hq2, hk2⟩ := quAt.swap (w := wr.drewN m) HH.out HW.out HY.out HX.out
        have HP2 : Hid (q2.Perm q) := hp2.trans hp.out
        have HL2 : k < q2.length ∧ q2.length ≤ 100000 := by rw [hp2.length_eq]; omega
        have HQ2 : Hid (quAt H B q2 (((wr.drewN m).setCell ⟨g, p, none⟩ (.int .i64 x)).setCell ⟨g, k, none⟩ (.int .i64 y)).drew) := hq2
        have HK2 : Hid (quKept H B w (((wr.drewN m).setCell ⟨g, p, none⟩ (.int .i64 x)).setCell ⟨g, k, none⟩ (.int .i64 y)).drew) := (hke.out.drewN m).trans hk2
        clear hp2 hq2 hk2
        go_wp2_with fail
        exact ⟨⟨p, q2, rfl, by omega, HL2.2, HP2, HQ2, HK2⟩, by simp [intOf]; omega⟩
      · rw [decide_eq_false hxy]
        go_wp2_with fail
        go_returns
        exact ⟨rfl, r, hp.out, hqu.out, hke.out.drewN m⟩

def isBool (e : Ending) : Prop := ∃ b, e = .returned (.bool b)

set_option maxRecDepth 100000 in
set_option maxHeartbeats 4000000 in
theorem down_any (H B : Nat) (q : List Nat) (n : Nat) (w : World) (hq : q.length ≤ 100000) (hn : n < q.length) (h : Hid (quAt H B q w)) :
    Calls Try.prog 92 #[.iface 110 (.pointer (some ⟨H, 0, none⟩)), .int .i64 0, .int .i64 n] w fun e w' => isBool e ∧ ∃ q', q'.Perm q ∧ quAt H B q' w' ∧ quKept H B w w' := by
  go_enter Try.func92, Try.ntmps92
  go_wp2_with fail
  go_loopw [7] (fun y wr => ∃ (k : Nat) (r : List Nat), y = .int .i64 k ∧ k ≤ n ∧ n < r.length ∧ r.length ≤ 100000 ∧ Hid (r.Perm q) ∧ Hid (quAt H B r wr) ∧ Hid (quKept H B w wr)) (fun y _ => n - (intOf y).toNat)
  case atStart => exact ⟨0, q, rfl, Nat.zero_le _, hn, hq, List.Perm.refl _, h, quKept.refl _ _ _⟩
  case round =>
    obtain ⟨k, r, rfl, hk, hnr, hr, hp, hqu, hke⟩ := hrel
    obtain ⟨J, hJ, hJk⟩ : ∃ J : Nat, 2 * (k : Int) + 1 = (J : Int) ∧ k < J := ⟨2 * k + 1, by omega, by omega⟩
    by_cases h1 : J < n
    · have d1 : decide ((n : Int) ≤ (J : Int)) = false := decide_eq_false (by omega)
      have d2 : decide ((J : Int) < 0) = false := decide_eq_false (by omega)
      obtain ⟨g, cap, hH, hw⟩ := hqu.out.open (by omega)
      have c0 : wr.cell? ⟨H, 0, none⟩ = some (.slice (some ⟨g, 0, none⟩) r.length cap) := by rw [Lib.cell_of_heap hH]; rfl
      obtain ⟨x, hx⟩ : ∃ x, r[k]? = some x := ⟨r[k], List.getElem?_eq_getElem (by omega)⟩
      obtain ⟨y, hy⟩ : ∃ y, r[J]? = some y := ⟨r[J], List.getElem?_eq_getElem (by omega)⟩
      have HX : Hid (r[k]? = some x) := hx
      have HY : Hid (r[J]? = some y) := hy
      have cx := quAt.cells hw k x hx
      have cy := quAt.cells hw J y hy
      have HH : Hid (wr.heap[H]? = some (.cells #[.slice (some ⟨g, 0, none⟩) r.length cap] 111 (0, 0))) := hH
      have HW : Hid (wr.ownsRow B 3 1 (.slice (some ⟨g, 0, none⟩) r.length cap) r.length (nums r)) := hw
      have mS : ∀ m, (method 253 110 (.pointer (some ⟨H, 0, none⟩)) "Swap").run Try.prog (wr.drewN m) = .ok (119, .slice (some ⟨g, 0, none⟩) r.length cap) (wr.drewN m) := fun m => meth_any "Swap" 119 m148s (wr.drewN m) H _ c0
      have mL := meth_any "Less" 116 m148l wr H _ c0
      have mL2 : ∀ m, (method 253 110 (.pointer (some ⟨H, 0, none⟩)) "Less").run Try.prog (wr.drewN m) = .ok (116, .slice (some ⟨g, 0, none⟩) r.length cap) (wr.drewN m) := fun m => meth_any "Less" 116 m148l (wr.drewN m) H _ c0
      clear hH hw hx hy
      obtain ⟨J2, hJ2, hJJ⟩ : ∃ J2 : Nat, (J : Int) + 1 = (J2 : Int) ∧ J2 = J + 1 := ⟨J + 1, by omega, rfl⟩
      have hJ2k : k < J2 := by omega
      have HJJ : Hid (J2 = J + 1) := hJJ
      clear hJJ
      by_cases h2 : J2 < n
      · have d3 : decide ((J2 : Int) < (n : Int)) = true := decide_eq_true (by omega)
        obtain ⟨z, hz⟩ : ∃ z, r[J2]? = some z := ⟨r[J2], List.getElem?_eq_getElem (by omega)⟩
        have HZ : Hid (r[J2]? = some z) := hz
        have cz := quAt.cells HW.out J2 z hz
        clear hz
        go_wp2_with fail
        refine (less_any g r.length cap J2 J z y wr (by omega) (by omega) cz cy).mono ?_
        rintro e v1 ⟨rfl, m1, rfl⟩
        by_cases hzy : z < y
        · rw [decide_eq_true hzy]
          go_wp2_with fail
          refine (less_any g r.length cap J2 k z x (wr.drewN m1) (by omega) (by omega) (by exact cz) (by exact cx)).mono ?_
          rintro e v2 ⟨rfl, m2, rfl⟩
          by_cases hzx : z < x
          · rw [decide_eq_true hzx]
            go_wp2_with fail
            refine (swap_any g r.length cap k J2 x z (wr.drewN (m1 + m2)) (by omega) (by omega) (by exact cx) (by exact cz) (fun i => by exact HW.out.frozenAt i)).mono ?_
            rintro e v3 ⟨rfl, rfl⟩
            obtain ⟨q2, hp2, hq2, hk2⟩ := quAt.swap (w := (wr.drewN (m1 + m2))) HH.out HW.out HX.out HZ.out
            have HP2 : Hid (q2.Perm q) := hp2.trans hp.out
            have HL2 : n < q2.length ∧ q2.length ≤ 100000 := by rw [hp2.length_eq]; omega
            have HQ2 : Hid (quAt H B q2 (((wr.drewN (m1 + m2)).setCell ⟨g, k, none⟩ (.int .i64 z)).setCell ⟨g, J2, none⟩ (.int .i64 x)).drew) := hq2
            have HK2 : Hid (quKept H B w (((wr.drewN (m1 + m2)).setCell ⟨g, k, none⟩ (.int .i64 z)).setCell ⟨g, J2, none⟩ (.int .i64 x)).drew) := (hke.out.drewN (m1 + m2)).trans hk2
            clear hp2 hq2 hk2
            go_wp2_with fail
            exact ⟨⟨J2, q2, rfl, by omega, HL2.1, HL2.2, HP2, HQ2, HK2⟩, by simp [intOf]; omega⟩
          · rw [decide_eq_false hzx]
            go_wp2_with fail
            go_ret
            exact ⟨⟨_, rfl⟩, r, hp.out, hqu.out, (hke.out.drewN (m1 + m2))⟩
        · rw [decide_eq_false hzy]
          go_wp2_with fail
          refine (less_any g r.length cap J k y x (wr.drewN m1) (by omega) (by omega) (by exact cy) (by exact cx)).mono ?_
          rintro e v2 ⟨rfl, m2, rfl⟩
          by_cases hzx : y < x
          · rw [decide_eq_true hzx]
            go_wp2_with fail
            refine (swap_any g r.length cap k J x y (wr.drewN (m1 + m2)) (by omega) (by omega) (by exact cx) (by exact cy) (fun i => by exact HW.out.frozenAt i)).mono ?_
            rintro e v3 ⟨rfl, rfl⟩
            obtain ⟨q2, hp2, hq2, hk2⟩ := quAt.swap (w := (wr.drewN (m1 + m2))) HH.out HW.out HX.out HY.out
            have HP2 : Hid (q2.Perm q) := hp2.trans hp.out
            have HL2 : n < q2.length ∧ q2.length ≤ 100000 := by rw [hp2.length_eq]; omega
            have HQ2 : Hid (quAt H B q2 (((wr.drewN (m1 + m2)).setCell ⟨g, k, none⟩ (.int .i64 y)).setCell ⟨g, J, none⟩ (.int .i64 x)).drew) := hq2
            have HK2 : Hid (quKept H B w (((wr.drewN (m1 + m2)).setCell ⟨g, k, none⟩ (.int .i64 y)).setCell ⟨g, J, none⟩ (.int .i64 x)).drew) := (hke.out.drewN (m1 + m2)).trans hk2
            clear hp2 hq2 hk2
            go_wp2_with fail
            exact ⟨⟨J, q2, rfl, by omega, HL2.1, HL2.2, HP2, HQ2, HK2⟩, by simp [intOf]; omega⟩
          · rw [decide_eq_false hzx]
            go_wp2_with fail
            go_ret
            exact ⟨⟨_, rfl⟩, r, hp.out, hqu.out, (hke.out.drewN (m1 + m2))⟩
      · have d3 : decide ((J2 : Int) < (n : Int)) = false := decide_eq_false (by omega)
        go_wp2_with fail
        refine (less_any g r.length cap J k y x wr (by omega) (by omega) (by exact cy) (by exact cx)).mono ?_
        rintro e v2 ⟨rfl, m2, rfl⟩
        by_cases hzx : y < x
        · rw [decide_eq_true hzx]
          go_wp2_with fail
          refine (swap_any g r.length cap k J x y (wr.drewN m2) (by omega) (by omega) (by exact cx) (by exact cy) (fun i => by exact HW.out.frozenAt i)).mono ?_
          rintro e v3 ⟨rfl, rfl⟩
          obtain ⟨q2, hp2, hq2, hk2⟩ := quAt.swap (w := (wr.drewN m2)) HH.out HW.out HX.out HY.out
          have HP2 : Hid (q2.Perm q) := hp2.trans hp.out
          have HL2 : n < q2.length ∧ q2.length ≤ 100000 := by rw [hp2.length_eq]; omega
          have HQ2 : Hid (quAt H B q2 (((wr.drewN m2).setCell ⟨g, k, none⟩ (.int .i64 y)).setCell ⟨g, J, none⟩ (.int .i64 x)).drew) := hq2
          have HK2 : Hid (quKept H B w (((wr.drewN m2).setCell ⟨g, k, none⟩ (.int .i64 y)).setCell ⟨g, J, none⟩ (.int .i64 x)).drew) := (hke.out.drewN m2).trans hk2
          clear hp2 hq2 hk2
          go_wp2_with fail
          exact ⟨⟨J, q2, rfl, by omega, HL2.1, HL2.2, HP2, HQ2, HK2⟩, by simp [intOf]; omega⟩
        · rw [decide_eq_false hzx]
          go_wp2_with fail
          go_ret
          exact ⟨⟨_, rfl⟩, r, hp.out, hqu.out, (hke.out.drewN m2)⟩
    · have d1 : decide ((n : Int) ≤ (J : Int)) = true := decide_eq_true (by omega)
      go_wp2_with fail
      go_ret
      exact ⟨⟨_, rfl⟩, r, hp.out, hqu.out, hke.out⟩

end Go.Proofs.Ytjjmcnippjpclab

namespace Go.Proofs.Ytjjmcnippjpclab

open Go.RowKit

theorem qlen_any (a : Option Addr) (n c : Nat) (w : World) : Calls Try.prog 73 #[.slice a n c] w fun e w' => e = .returned (.int .i64 n) ∧ w' = w := by
  go_enter Try.func73, Try.ntmps73
  go_wp2
  go_ret
  exact ⟨rfl, rfl⟩

set_option maxRecDepth 100000 in
set_option maxHeartbeats 400000 in
theorem push_any (H B : Nat) (q : List Nat) (x : Nat) (w : World) (hB : B ≤ H) (hq : q.length ≤ 50000) (h : Hid (quAt H B q w)) :
    Calls Try.prog 72 #[.iface 110 (.pointer (some ⟨H, 0, none⟩)), .iface 3 (.int .i64 x)] w fun e w' => e = .returned (.tuple #[]) ∧ ∃ q', q'.Perm (q ++ [x]) ∧ quAt H B q' w' ∧ quKept H B w w' := by
  go_enter Try.func72, Try.ntmps72
  go_wp2_with fail
  refine (pushM_any H B q x w hB (by omega) h).mono ?_
  rintro e v1 ⟨rfl, hq1, hk1⟩
  have HQ1 : Hid (quAt H B (q ++ [x]) v1) := hq1
  have HK1 : Hid (quKept H B w v1) := hk1
  obtain ⟨g, cap, hH, hw⟩ := hq1.open (by simp)
  have c0 : v1.cell? ⟨H, 0, none⟩ = some (.slice (some ⟨g, 0, none⟩) (q ++ [x]).length cap) := by rw [Lib.cell_of_heap hH]; rfl
  have mN := meth_any "Len" 73 m148 v1 H _ c0
  rw [List.length_append] at c0 mN
  clear hq1 hk1 hH hw
  go_wp2_with (go_at_call 73; refine (qlen_any _ _ _ _).mono ?_; rintro e v0 ⟨rfl, h0⟩; rw [h0]; clear h0 v0)
  refine (up_any H B (q ++ [x]) q.length v1 (by simp; omega) (by simp) HQ1).mono ?_
  rintro e v2 ⟨rfl, q2, hp2, hq2, hk2⟩
  have HF : Hid (∃ q', q'.Perm (q ++ [x]) ∧ quAt H B q' v2 ∧ quKept H B w v2) := ⟨q2, hp2, hq2, HK1.out.trans hk2⟩
  clear hp2 hq2 hk2
  go_wp2_with fail
  go_returns
  exact ⟨rfl, HF.out⟩

set_option maxRecDepth 100000 in
set_option maxHeartbeats 400000 in
theorem pop_any (H B : Nat) (q : List Nat) (w : World) (hB : B ≤ H) (hq : q.length ≤ 50000) (h0 : 0 < q.length) (h : Hid (quAt H B q w)) :
    Calls Try.prog 74 #[.iface 110 (.pointer (some ⟨H, 0, none⟩))] w fun e w' => ∃ (x : Nat) (q' : List Nat), e = .returned (.iface 3 (.int .i64 x)) ∧ (x :: q').Perm q ∧ quAt H B q' w' ∧ quKept H B w w' := by
  obtain ⟨n, hn⟩ : ∃ n, q.length = n + 1 := ⟨q.length - 1, by omega⟩
  obtain ⟨g, cap, hH, hw⟩ := h.out.open h0
  have HH : Hid (w.heap[H]? = some (.cells #[.slice (some ⟨g, 0, none⟩) q.length cap] 111 (0, 0))) := hH
  have HW : Hid (w.ownsRow B 3 1 (.slice (some ⟨g, 0, none⟩) q.length cap) q.length (nums q)) := hw
  have c0 : w.cell? ⟨H, 0, none⟩ = some (.slice (some ⟨g, 0, none⟩) q.length cap) := by rw [Lib.cell_of_heap hH]; rfl
  obtain ⟨x, hx⟩ : ∃ x, q[0]? = some x := ⟨q[0], List.getElem?_eq_getElem h0⟩
  obtain ⟨y, hy⟩ : ∃ y, q[n]? = some y := ⟨q[n], List.getElem?_eq_getElem (by omega)⟩
  have cx := quAt.cells hw 0 x hx
  have cy := quAt.cells hw n y hy
  have HX : Hid (q[0]? = some x) := hx
  have HY : Hid (q[n]? = some y) := hy
  have mN := meth_any "Len" 73 m148 w H _ c0
  have mS := meth_any "Swap" 119 m148s w H _ c0
  have HN : Hid (q.length = n + 1) := hn
  have hn5 : n ≤ 50000 := by omega
  rw [hn] at c0 mN mS
  clear hH hw hx hy hn
  go_enter Try.func74, Try.ntmps74
  go_wp2_with (go_at_call 73; refine (qlen_any _ _ _ _).mono ?_; rintro e v0 ⟨rfl, h0⟩; rw [h0]; clear h0 v0)
  refine (swap_any g (n + 1) cap 0 n x y w (by omega) (by omega) cx cy (fun i => HW.out.frozenAt i)).mono ?_
  rintro e v1 ⟨rfl, rfl⟩
  obtain ⟨q2, hp2, hq2, hk2⟩ := quAt.swap (w := w) HH.out HW.out HX.out HY.out
  have HP2 : Hid (q2.Perm q) := hp2
  have hl2 : q2.length = n + 1 := by rw [hp2.length_eq, HN.out]
  have HL2 : Hid (q2.length = n + 1) := hl2
  have HQ2 : Hid (quAt H B q2 ((w.setCell ⟨g, 0, none⟩ (.int .i64 y)).setCell ⟨g, n, none⟩ (.int .i64 x)).drew) := hq2
  have HK2 : Hid (quKept H B w ((w.setCell ⟨g, 0, none⟩ (.int .i64 y)).setCell ⟨g, n, none⟩ (.int .i64 x)).drew) := hk2
  clear hp2 hq2 hk2 cx cy mN mS c0
  generalize ((w.setCell ⟨g, 0, none⟩ (.int .i64 y)).setCell ⟨g, n, none⟩ (.int .i64 x)).drew = v2 at *
  go_wp2_with fail
  refine (down_any H B q2 n v2 (by rw [HL2.out]; have := HN.out; omega) (by rw [HL2.out]; omega) HQ2).mono ?_
  rintro e v3 ⟨⟨b, rfl⟩, q3, hp3, hq3, hk3⟩
  have hl3 : q3.length = n + 1 := by rw [hp3.length_eq, HL2.out]
  obtain ⟨q4, z, h4⟩ : ∃ q4 z, q3 = q4 ++ [z] := by
    have hne : q3 ≠ [] := by intro e; rw [e] at hl3; cases hl3
    exact ⟨q3.dropLast, q3.getLast hne, (List.dropLast_concat_getLast hne).symm⟩
  subst h4
  have HQ3 : Hid (quAt H B (q4 ++ [z]) v3) := hq3
  have HK3 : Hid (quKept H B w v3) := HK2.out.trans hk3
  have HP3 : Hid ((z :: q4).Perm q) := ((List.perm_append_singleton z q4).symm.trans hp3).trans HP2.out
  have hl4 : q4.length ≤ 100000 := by simp at hl3; have := HN.out; omega
  clear hp3 hq3 hk3 hl3
  go_wp2_with fail
  refine (popM_any H B q4 z v3 hB hl4 HQ3).mono ?_
  rintro e v4 ⟨rfl, hq4, hk4⟩
  have HQ4 : Hid (quAt H B q4 v4) := hq4
  have HK4 : Hid (quKept H B w v4) := HK3.out.trans hk4
  clear hq4 hk4
  go_wp2_with fail
  go_ret
  exact ⟨z, q4, rfl, HP3.out, HQ4.out, HK4.out⟩

end Go.Proofs.Ytjjmcnippjpclab
