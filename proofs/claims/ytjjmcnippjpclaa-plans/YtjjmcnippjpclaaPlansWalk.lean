/-
  The walk of the law Plans.
-/
import Derived.Test.YtjjmcnippjpclaaKeptSteps
import Derived.Test.YtjjmcnippjpclaaSamePlan
import Derived.Test.YtjjmcnippjpclaaRefPlan
import Derived.Test.YtjjmcnippjpclaaReadP
namespace Go.Proofs.Ytjjmcnippjpclaa

open Go.RowKit

/-- Read and the document's ReadPlan answer the same of every text. -/
theorem reads_same (s : ByteArray) (hs : s.size ≤ 140737488355328) : ∃ (ol nl : Int) (os ns : ByteArray) (st : List Pl.St) (er : Int), st.length ≤ 2000 ∧
    (∀ v, Calls Try.prog 16 #[.string s] v fun e w' => Below v.heap.size v w' ∧ ∃ x, e = .returned (.tuple #[.agg #[.int .i64 ol, .int .i64 nl, .string os, .string ns, x], .int .i64 er]) ∧ w'.ownsRow v.heap.size 40 5 x st.length (stCells st)) ∧
    (∀ v, Calls Try.prog 17 #[.string s] v fun e w' => Below v.heap.size v w' ∧ ∃ x, e = .returned (.tuple #[.agg #[.int .i64 ol, .int .i64 nl, .string os, .string ns, x], .int .i64 er]) ∧ w'.ownsRow v.heap.size 40 5 x st.length (stCells st)) := by
  by_cases h0 : pErr s = 0
  · have hf : Pl.full (hOL s) (hNL s) (hOS s) (hNS s) (pSt s) = true := by
      cases hf : Pl.full (hOL s) (hNL s) (hOS s) (hNS s) (pSt s) with
      | true => rfl
      | false => simp [pErr, hf] at h0
    have hl : (pSt s).length = hN s := stepsV_length _ _ _
    refine ⟨hOL s, hNL s, hOS s, hNS s, pSt s, 0, (full_specs hf).2.2.1, fun v => (refPlan_any s v hs).mono ?_, fun v => (readP_any s v hs).mono ?_⟩
    all_goals
      rintro e w' ⟨hb, ⟨hne, _⟩ | ⟨_, x, he, hw⟩⟩
      · exact absurd h0 hne
      · exact ⟨hb, x, he, by rw [hl]; exact hw⟩
  · refine ⟨0, 0, ⟨#[]⟩, ⟨#[]⟩, [], pErr s, by simp, fun v => (refPlan_any s v hs).mono ?_, fun v => (readP_any s v hs).mono ?_⟩
    all_goals
      rintro e w' ⟨hb, ⟨_, he⟩ | ⟨hz, _⟩⟩
      · exact ⟨hb, _, he, World.ownsRow_nil _ _ _ _⟩
      · exact absurd hz h0

theorem laid_below (u : World) (o : Obj) : Below u.heap.size u (u.alloc o) := (Below.refl _ _).alloc (Nat.le_refl _) _

theorem own_below {u u' : World} {B n k : Nat} {t : TypeId} {v : Value} {xs : List Value} (h : u.ownsRow B t n v k xs) (b : Below u.heap.size u u') : u'.ownsRow B t n v k xs :=
  h.kept (row := none) ⟨b.os, b.tape, b.output, b.size, fun i hi _ => b.block i hi⟩ (by cases hv : v.ownBlock <;> simp)

theorem block_below {u u' : World} {k : Nat} {o : Obj} (h : u.heap[k]? = some o) (b : Below u.heap.size u u') : u'.heap[k]? = some o := by
  rw [b.block _ (lt_of_heap h)]; exact h

theorem below_all {B : Nat} {w u u' : World} (h : Below B w u) (hB : B ≤ u.heap.size) (b : Below u.heap.size u u') : Below B w u' := h.trans (b.mono hB)

theorem marks_below {m : Int} {u u' : World} {xs : List Value} (h : ∀ x ∈ xs, ∃ n, n ≤ 3000 ∧ isMarks m u x n) (b : Below u.heap.size u u') : ∀ x ∈ xs, ∃ n, n ≤ 3000 ∧ isMarks m u' x n := fun x hx => by
  obtain ⟨n, hn, hm⟩ := h x hx
  exact ⟨n, hn, isMarks_same hm fun g hg => b.block g (isMarks_lt hm g hg)⟩

/-- what lies below the base of a row is as it was when the row was written. -/
theorem grown_below {u u' : World} {B n k : Nat} {t : TypeId} {v : Value} {xs : List Value} (h : u.ownsRow B t n v k xs) (hg : u.grownBy u' v.ownBlock) (hB : B ≤ u.heap.size) : Below B u u' :=
  (Below.refl B u).grown hg hB (fun j hj => (h.lt j hj).1)

theorem own_low {u u' : World} {B C n k : Nat} {t : TypeId} {v : Value} {xs : List Value} (h : u.ownsRow B t n v k xs) (b : Below C u u') (hC : ∀ g, v.ownBlock = some g → g < C) : u'.ownsRow B t n v k xs := by
  refine ⟨h.1, ?_⟩
  rcases h.2 with hz | ⟨g, cap, cur, rfl, hB, hg, r⟩
  · exact .inl hz
  · exact .inr ⟨g, cap, cur, rfl, hB, by rw [b.block g (hC g rfl)]; exact hg, r⟩

theorem marks_low {m : Int} {C : Nat} {u u' : World} {xs : List Value} (h : ∀ x ∈ xs, ∃ n, n ≤ 3000 ∧ isMarks m u x n) (b : Below C u u') (hC : ∀ x ∈ xs, ∀ g, x.ownBlock = some g → g < C) : ∀ x ∈ xs, ∃ n, n ≤ 3000 ∧ isMarks m u' x n := fun x hx => by
  obtain ⟨n, hn, hm⟩ := h x hx
  exact ⟨n, hn, isMarks_same hm fun g hg => b.block g (hC x hx g hg)⟩

theorem marks_lt {m : Int} {u : World} {xs : List Value} (h : ∀ x ∈ xs, ∃ n, n ≤ 3000 ∧ isMarks m u x n) : ∀ x ∈ xs, ∀ g, x.ownBlock = some g → g < u.heap.size := fun x hx g hg => by
  obtain ⟨n, hn, hm⟩ := h x hx
  exact isMarks_lt hm g hg

set_option maxRecDepth 100000 in
set_option maxHeartbeats 8000000 in
theorem plans_walk (s : ByteArray) (hs : s.size ≤ 140737488355328) (w : World) : Calls Try.prog 4 #[.string s] w fun e w' => e = .returned (.bool true) ∧ Below w.heap.size w w' := by
  obtain ⟨ol, nl, os, ns, st, er, hst, h16, h17⟩ := reads_same s hs
  have H16 : Hid (∀ v, Calls Try.prog 16 #[.string s] v fun e w' => Below v.heap.size v w' ∧ ∃ x, e = .returned (.tuple #[.agg #[.int .i64 ol, .int .i64 nl, .string os, .string ns, x], .int .i64 er]) ∧ w'.ownsRow v.heap.size 40 5 x st.length (stCells st)) := h16
  have H17 : Hid (∀ v, Calls Try.prog 17 #[.string s] v fun e w' => Below v.heap.size v w' ∧ ∃ x, e = .returned (.tuple #[.agg #[.int .i64 ol, .int .i64 nl, .string os, .string ns, x], .int .i64 er]) ∧ w'.ownsRow v.heap.size 40 5 x st.length (stCells st)) := h17
  clear h16 h17
  go_enter Try.func4, Try.ntmps4
  go_wp2_with fail
  refine (H16.out _).mono ?_
  rintro e v1 ⟨b1, wv, rfl, hw⟩
  obtain ⟨wa, wc, rfl⟩ : ∃ ao cp, wv = .slice ao st.length cp := by
    rcases hw.2 with ⟨hv, hz⟩ | ⟨g, cap, cur, hv, _⟩
    · exact ⟨none, 0, by rw [hv, hz]⟩
    · exact ⟨_, _, hv⟩
  have W_t0 : Hid (v1.ownsRow w.heap.size 40 5 (.slice wa st.length wc) st.length (stCells st)) := hw
  have B_t0 : Hid (Below w.heap.size w v1) := b1
  have lw : ∀ g, (Value.slice wa st.length wc).ownBlock = some g → g < v1.heap.size := fun g hg => (hw.lt g hg).2
  have z1 : w.heap.size ≤ v1.heap.size := b1.size
  clear hw b1
  have W_t1 : Hid ((v1.alloc (Obj.cells #[.int .i64 ol, .int .i64 nl, .string os, .string ns, .slice wa st.length wc] 31)).ownsRow w.heap.size 40 5 (.slice wa st.length wc) st.length (stCells st)) := own_below W_t0.out (laid_below v1 _)
  have B_t1 : Hid (Below w.heap.size w (v1.alloc (Obj.cells #[.int .i64 ol, .int .i64 nl, .string os, .string ns, .slice wa st.length wc] 31))) := below_all B_t0.out (by omega) (laid_below v1 _)
  clear W_t0 B_t0
  have WB_t1 : Hid ((v1.alloc (Obj.cells #[.int .i64 ol, .int .i64 nl, .string os, .string ns, .slice wa st.length wc] 31)).heap[v1.heap.size]? = some (.cells #[.int .i64 ol, .int .i64 nl, .string os, .string ns, .slice wa st.length wc] 31 (0, 0))) := heap_alloc_new v1 _
  have y1 : (v1.alloc (Obj.cells #[.int .i64 ol, .int .i64 nl, .string os, .string ns, .slice wa st.length wc] 31)).heap.size = v1.heap.size + 1 := by simp
  go_wp2_with fail
  refine (H17.out _).mono ?_
  rintro e v2 ⟨b2, xv, rfl, hx⟩
  obtain ⟨xa, xc, rfl⟩ : ∃ ao cp, xv = .slice ao st.length cp := by
    rcases hx.2 with ⟨hv, hz⟩ | ⟨g, cap, cur, hv, _⟩
    · exact ⟨none, 0, by rw [hv, hz]⟩
    · exact ⟨_, _, hv⟩
  rw [y1] at hx
  have z2 : v1.heap.size + 1 ≤ v2.heap.size := by have := b2.size; omega
  have W_t2 : Hid (v2.ownsRow w.heap.size 40 5 (.slice wa st.length wc) st.length (stCells st)) := own_below W_t1.out b2
  have B_t2 : Hid (Below w.heap.size w v2) := below_all B_t1.out (by omega) b2
  have WB_t2 : Hid (v2.heap[v1.heap.size]? = some (.cells #[.int .i64 ol, .int .i64 nl, .string os, .string ns, .slice wa st.length wc] 31 (0, 0))) := block_below WB_t1.out b2
  clear W_t1 B_t1 WB_t1
  have X_t2 : Hid (v2.ownsRow (v1.heap.size + 1) 40 5 (.slice xa st.length xc) st.length (stCells st)) := hx
  have lx : ∀ g, (Value.slice xa st.length xc).ownBlock = some g → g < v2.heap.size := fun g hg => (hx.lt g hg).2
  clear hx b2 y1
  have W_t3 : Hid ((v2.alloc (Obj.cells #[.int .i64 ol, .int .i64 nl, .string os, .string ns, .slice xa st.length xc] 31)).ownsRow w.heap.size 40 5 (.slice wa st.length wc) st.length (stCells st)) := own_below W_t2.out (laid_below v2 _)
  have B_t3 : Hid (Below w.heap.size w (v2.alloc (Obj.cells #[.int .i64 ol, .int .i64 nl, .string os, .string ns, .slice xa st.length xc] 31))) := below_all B_t2.out (by omega) (laid_below v2 _)
  have WB_t3 : Hid ((v2.alloc (Obj.cells #[.int .i64 ol, .int .i64 nl, .string os, .string ns, .slice xa st.length xc] 31)).heap[v1.heap.size]? = some (.cells #[.int .i64 ol, .int .i64 nl, .string os, .string ns, .slice wa st.length wc] 31 (0, 0))) := block_below WB_t2.out (laid_below v2 _)
  have X_t3 : Hid ((v2.alloc (Obj.cells #[.int .i64 ol, .int .i64 nl, .string os, .string ns, .slice xa st.length xc] 31)).ownsRow (v1.heap.size + 1) 40 5 (.slice xa st.length xc) st.length (stCells st)) := own_below X_t2.out (laid_below v2 _)
  clear W_t2 B_t2 WB_t2 X_t2
  have XB_t3 : Hid ((v2.alloc (Obj.cells #[.int .i64 ol, .int .i64 nl, .string os, .string ns, .slice xa st.length xc] 31)).heap[v2.heap.size]? = some (.cells #[.int .i64 ol, .int .i64 nl, .string os, .string ns, .slice xa st.length xc] 31 (0, 0))) := heap_alloc_new v2 _
  have y2 : (v2.alloc (Obj.cells #[.int .i64 ol, .int .i64 nl, .string os, .string ns, .slice xa st.length xc] 31)).heap.size = v2.heap.size + 1 := by simp
  obtain ⟨p0, p1, p2, p3, p4, _⟩ := planCells (XB_t3.out : (v2.alloc (Obj.cells #[.int .i64 ol, .int .i64 nl, .string os, .string ns, .slice xa st.length xc] 31)).heap[v2.heap.size]? = some (.cells #[.int .i64 ol, .int .i64 nl, .string os, .string ns, .slice xa st.length xc] 31 (0, 0)))
  obtain ⟨q0, q1, q2, q3, q4, _⟩ := planCells (WB_t3.out : (v2.alloc (Obj.cells #[.int .i64 ol, .int .i64 nl, .string os, .string ns, .slice xa st.length xc] 31)).heap[v1.heap.size]? = some (.cells #[.int .i64 ol, .int .i64 nl, .string os, .string ns, .slice wa st.length wc] 31 (0, 0)))
  have SP : Hid (Calls Try.prog 18 #[.agg #[.int .i64 ol, .int .i64 nl, .string os, .string ns, .slice xa st.length xc], .agg #[.int .i64 ol, .int .i64 nl, .string os, .string ns, .slice wa st.length wc]] (v2.alloc (Obj.cells #[.int .i64 ol, .int .i64 nl, .string os, .string ns, .slice xa st.length xc] 31)) fun e w' => e = .returned (.bool true) ∧ Below (v2.alloc (Obj.cells #[.int .i64 ol, .int .i64 nl, .string os, .string ns, .slice xa st.length xc] 31)).heap.size (v2.alloc (Obj.cells #[.int .i64 ol, .int .i64 nl, .string os, .string ns, .slice xa st.length xc] 31)) w') := by
    obtain ⟨a1, b1, o1, c1, e1, h1, _⟩ := own_slice X_t3.out rfl (by omega)
    obtain ⟨a2, b2, o2, c2, e2, h2, _⟩ := own_slice W_t3.out rfl (by omega)
    cases e1; cases e2
    exact samePlan_any ol nl os ns _ _ b1 o1 _ b2 o2 _ st _ hst h1 h2
  go_wp2_with fail
  refine SP.out.mono ?_
  rintro e v3 ⟨rfl, b3⟩
  clear SP p0 p1 p2 p3 p4 q0 q1 q2 q3 q4
  have z3 : v2.heap.size + 1 ≤ v3.heap.size := by have := b3.size; omega
  have W_t4 : Hid (v3.ownsRow w.heap.size 40 5 (.slice wa st.length wc) st.length (stCells st)) := own_below W_t3.out b3
  have B_t4 : Hid (Below w.heap.size w v3) := below_all B_t3.out (by omega) b3
  have WB_t4 : Hid (v3.heap[v1.heap.size]? = some (.cells #[.int .i64 ol, .int .i64 nl, .string os, .string ns, .slice wa st.length wc] 31 (0, 0))) := block_below WB_t3.out b3
  have X_t4 : Hid (v3.ownsRow (v1.heap.size + 1) 40 5 (.slice xa st.length xc) st.length (stCells st)) := own_below X_t3.out b3
  have XB_t4 : Hid (v3.heap[v2.heap.size]? = some (.cells #[.int .i64 ol, .int .i64 nl, .string os, .string ns, .slice xa st.length xc] 31 (0, 0))) := block_below XB_t3.out b3
  clear W_t3 B_t3 WB_t3 X_t3 XB_t3
  clear b3 y2
  obtain ⟨p0, p1, p2, p3, p4, _⟩ := planCells (XB_t4.out : v3.heap[v2.heap.size]? = some (.cells #[.int .i64 ol, .int .i64 nl, .string os, .string ns, .slice xa st.length xc] 31 (0, 0)))
  go_wp2_with fail
  refine (ownSteps_any (-77) _ st (v1.heap.size + 1) v3 (by omega) hst X_t4).mono ?_
  rintro e v4 ⟨ov1, xs1, rfl, ho1, hm1, hg1⟩
  have b4 : Below (v1.heap.size + 1) v3 v4 := grown_below X_t4.out hg1 (by omega)
  clear p0 p1 p2 p3 p4
  have z4 : v3.heap.size ≤ v4.heap.size := hg1.size
  have W_t5 : Hid (v4.ownsRow w.heap.size 40 5 (.slice wa st.length wc) st.length (stCells st)) := own_low W_t4.out b4 (fun g hg => by have := lw g hg; omega)
  have WB_t5 : Hid (v4.heap[v1.heap.size]? = some (.cells #[.int .i64 ol, .int .i64 nl, .string os, .string ns, .slice wa st.length wc] 31 (0, 0))) := by
    show _ = _
    rw [b4.block _ (by omega)]; exact WB_t4.out
  have B_t5 : Hid (Below w.heap.size w v4) := B_t4.out.trans (b4.mono (by omega))
  have O1_t5 : Hid (v4.ownsRow v3.heap.size 29 1 ov1 4 xs1) := ho1
  have M1_t5 : Hid (∀ x ∈ xs1, ∃ n, n ≤ 3000 ∧ isMarks (-77) v4 x n) := hm1
  have lo : ∀ g, ov1.ownBlock = some g → g < v4.heap.size := fun g hg => (ho1.lt g hg).2
  have lm : ∀ x ∈ xs1, ∀ g, x.ownBlock = some g → g < v4.heap.size := marks_lt hm1
  clear ho1 hm1 hg1 b4 X_t4 XB_t4 W_t4 WB_t4 B_t4 lx
  go_wp2_with fail
  refine (H17.out _).mono ?_
  rintro e v5 ⟨b5, yv, rfl, hy⟩
  obtain ⟨ya, yc, rfl⟩ : ∃ ao cp, yv = .slice ao st.length cp := by
    rcases hy.2 with ⟨hv, hz⟩ | ⟨g, cap, cur, hv, _⟩
    · exact ⟨none, 0, by rw [hv, hz]⟩
    · exact ⟨_, _, hv⟩
  have z5 : v4.heap.size ≤ v5.heap.size := b5.size
  have W_t6 : Hid (v5.ownsRow w.heap.size 40 5 (.slice wa st.length wc) st.length (stCells st)) := own_below W_t5.out b5
  have WB_t6 : Hid (v5.heap[v1.heap.size]? = some (.cells #[.int .i64 ol, .int .i64 nl, .string os, .string ns, .slice wa st.length wc] 31 (0, 0))) := block_below WB_t5.out b5
  have B_t6 : Hid (Below w.heap.size w v5) := below_all B_t5.out (by omega) b5
  have O1_t6 : Hid (v5.ownsRow v3.heap.size 29 1 ov1 4 xs1) := own_below O1_t5.out b5
  have M1_t6 : Hid (∀ x ∈ xs1, ∃ n, n ≤ 3000 ∧ isMarks (-77) v5 x n) := marks_below M1_t5.out b5
  clear W_t5 WB_t5 B_t5 O1_t5 M1_t5
  have Y_t6 : Hid (v5.ownsRow v4.heap.size 40 5 (.slice ya st.length yc) st.length (stCells st)) := hy
  clear hy b5
  have W_t7 : Hid ((v5.alloc (Obj.cells #[.int .i64 ol, .int .i64 nl, .string os, .string ns, .slice ya st.length yc] 31)).ownsRow w.heap.size 40 5 (.slice wa st.length wc) st.length (stCells st)) := own_below W_t6.out (laid_below v5 _)
  have WB_t7 : Hid ((v5.alloc (Obj.cells #[.int .i64 ol, .int .i64 nl, .string os, .string ns, .slice ya st.length yc] 31)).heap[v1.heap.size]? = some (.cells #[.int .i64 ol, .int .i64 nl, .string os, .string ns, .slice wa st.length wc] 31 (0, 0))) := block_below WB_t6.out (laid_below v5 _)
  have B_t7 : Hid (Below w.heap.size w (v5.alloc (Obj.cells #[.int .i64 ol, .int .i64 nl, .string os, .string ns, .slice ya st.length yc] 31))) := below_all B_t6.out (by omega) (laid_below v5 _)
  have O1_t7 : Hid ((v5.alloc (Obj.cells #[.int .i64 ol, .int .i64 nl, .string os, .string ns, .slice ya st.length yc] 31)).ownsRow v3.heap.size 29 1 ov1 4 xs1) := own_below O1_t6.out (laid_below v5 _)
  have M1_t7 : Hid (∀ x ∈ xs1, ∃ n, n ≤ 3000 ∧ isMarks (-77) (v5.alloc (Obj.cells #[.int .i64 ol, .int .i64 nl, .string os, .string ns, .slice ya st.length yc] 31)) x n) := marks_below M1_t6.out (laid_below v5 _)
  have Y_t7 : Hid ((v5.alloc (Obj.cells #[.int .i64 ol, .int .i64 nl, .string os, .string ns, .slice ya st.length yc] 31)).ownsRow v4.heap.size 40 5 (.slice ya st.length yc) st.length (stCells st)) := own_below Y_t6.out (laid_below v5 _)
  clear W_t6 WB_t6 B_t6 O1_t6 M1_t6 Y_t6
  have YB_t7 : Hid ((v5.alloc (Obj.cells #[.int .i64 ol, .int .i64 nl, .string os, .string ns, .slice ya st.length yc] 31)).heap[v5.heap.size]? = some (.cells #[.int .i64 ol, .int .i64 nl, .string os, .string ns, .slice ya st.length yc] 31 (0, 0))) := heap_alloc_new v5 _
  have y5 : (v5.alloc (Obj.cells #[.int .i64 ol, .int .i64 nl, .string os, .string ns, .slice ya st.length yc] 31)).heap.size = v5.heap.size + 1 := by simp
  obtain ⟨p0, p1, p2, p3, p4, _⟩ := planCells (YB_t7.out : (v5.alloc (Obj.cells #[.int .i64 ol, .int .i64 nl, .string os, .string ns, .slice ya st.length yc] 31)).heap[v5.heap.size]? = some (.cells #[.int .i64 ol, .int .i64 nl, .string os, .string ns, .slice ya st.length yc] 31 (0, 0)))
  obtain ⟨q0, q1, q2, q3, q4, _⟩ := planCells (WB_t7.out : (v5.alloc (Obj.cells #[.int .i64 ol, .int .i64 nl, .string os, .string ns, .slice ya st.length yc] 31)).heap[v1.heap.size]? = some (.cells #[.int .i64 ol, .int .i64 nl, .string os, .string ns, .slice wa st.length wc] 31 (0, 0)))
  have SP : Hid (Calls Try.prog 18 #[.agg #[.int .i64 ol, .int .i64 nl, .string os, .string ns, .slice ya st.length yc], .agg #[.int .i64 ol, .int .i64 nl, .string os, .string ns, .slice wa st.length wc]] (v5.alloc (Obj.cells #[.int .i64 ol, .int .i64 nl, .string os, .string ns, .slice ya st.length yc] 31)) fun e w' => e = .returned (.bool true) ∧ Below (v5.alloc (Obj.cells #[.int .i64 ol, .int .i64 nl, .string os, .string ns, .slice ya st.length yc] 31)).heap.size (v5.alloc (Obj.cells #[.int .i64 ol, .int .i64 nl, .string os, .string ns, .slice ya st.length yc] 31)) w') := by
    obtain ⟨a1, b1, o1, c1, e1, h1, _⟩ := own_slice Y_t7.out rfl (by omega)
    obtain ⟨a2, b2, o2, c2, e2, h2, _⟩ := own_slice W_t7.out rfl (by omega)
    cases e1; cases e2
    exact samePlan_any ol nl os ns _ _ b1 o1 _ b2 o2 _ st _ hst h1 h2
  go_wp2_with fail
  refine SP.out.mono ?_
  rintro e v6 ⟨rfl, b6⟩
  clear SP p0 p1 p2 p3 p4 q0 q1 q2 q3 q4
  have z6 : v5.heap.size + 1 ≤ v6.heap.size := by have := b6.size; omega
  have W_t8 : Hid (v6.ownsRow w.heap.size 40 5 (.slice wa st.length wc) st.length (stCells st)) := own_below W_t7.out b6
  have WB_t8 : Hid (v6.heap[v1.heap.size]? = some (.cells #[.int .i64 ol, .int .i64 nl, .string os, .string ns, .slice wa st.length wc] 31 (0, 0))) := block_below WB_t7.out b6
  have B_t8 : Hid (Below w.heap.size w v6) := below_all B_t7.out (by omega) b6
  have O1_t8 : Hid (v6.ownsRow v3.heap.size 29 1 ov1 4 xs1) := own_below O1_t7.out b6
  have M1_t8 : Hid (∀ x ∈ xs1, ∃ n, n ≤ 3000 ∧ isMarks (-77) v6 x n) := marks_below M1_t7.out b6
  have Y_t8 : Hid (v6.ownsRow v4.heap.size 40 5 (.slice ya st.length yc) st.length (stCells st)) := own_below Y_t7.out b6
  have YB_t8 : Hid (v6.heap[v5.heap.size]? = some (.cells #[.int .i64 ol, .int .i64 nl, .string os, .string ns, .slice ya st.length yc] 31 (0, 0))) := block_below YB_t7.out b6
  clear W_t7 WB_t7 B_t7 O1_t7 M1_t7 Y_t7 YB_t7
  clear b6 y5
  obtain ⟨p0, p1, p2, p3, p4, _⟩ := planCells (YB_t8.out : v6.heap[v5.heap.size]? = some (.cells #[.int .i64 ol, .int .i64 nl, .string os, .string ns, .slice ya st.length yc] 31 (0, 0)))
  go_wp2_with fail
  refine (ownSteps_any (-78) _ st v4.heap.size v6 (by omega) hst Y_t8).mono ?_
  rintro e v7 ⟨ov2, xs2, rfl, ho2, hm2, hg2⟩
  have b7 : Below v4.heap.size v6 v7 := grown_below Y_t8.out hg2 (by omega)
  clear p0 p1 p2 p3 p4
  have z7 : v6.heap.size ≤ v7.heap.size := hg2.size
  have B_t9 : Hid (Below w.heap.size w v7) := B_t8.out.trans (b7.mono (by omega))
  have O1_t9 : Hid (v7.ownsRow v3.heap.size 29 1 ov1 4 xs1) := own_low O1_t8.out b7 lo
  have M1_t9 : Hid (∀ x ∈ xs1, ∃ n, n ≤ 3000 ∧ isMarks (-77) v7 x n) := marks_low M1_t8.out b7 lm
  have O2_t9 : Hid (v7.ownsRow v6.heap.size 29 1 ov2 4 xs2) := ho2
  have M2_t9 : Hid (∀ x ∈ xs2, ∃ n, n ≤ 3000 ∧ isMarks (-78) v7 x n) := hm2
  clear ho2 hm2 hg2 b7 Y_t8 YB_t8 W_t8 WB_t8 B_t8 O1_t8 M1_t8
  go_wp2_with fail
  refine (keptSteps_any (-77) ov1 xs1 4 _ v7 (by omega) O1_t9 M1_t9).mono ?_
  rintro e v8 ⟨rfl, b8⟩
  have z8 : v7.heap.size ≤ v8.heap.size := b8.size
  have B_t10 : Hid (Below w.heap.size w v8) := below_all B_t9.out (by omega) b8
  have O2_t10 : Hid (v8.ownsRow v6.heap.size 29 1 ov2 4 xs2) := own_below O2_t9.out b8
  have M2_t10 : Hid (∀ x ∈ xs2, ∃ n, n ≤ 3000 ∧ isMarks (-78) v8 x n) := marks_below M2_t9.out b8
  clear B_t9 O2_t9 M2_t9
  clear b8 O1_t9 M1_t9
  go_wp2_with fail
  refine (keptSteps_any (-78) ov2 xs2 4 _ v8 (by omega) O2_t10 M2_t10).mono ?_
  rintro e v9 ⟨rfl, b9⟩
  have B_t11 : Hid (Below w.heap.size w v9) := below_all B_t10.out (by omega) b9
  clear b9
  go_wp2_with fail
  go_ret
  exact ⟨by simp, B_t11.out⟩

end Go.Proofs.Ytjjmcnippjpclaa
