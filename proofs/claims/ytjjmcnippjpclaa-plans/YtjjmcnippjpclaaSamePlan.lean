/-
  The law's samePlan: of two plans that are the same it says so.
-/
import Derived.Test.YtjjmcnippjpclaaSame
namespace Go.Proofs.Ytjjmcnippjpclaa

open Go.RowKit

theorem planCells {v : World} {g : Nat} {a b c d e : Value} (h : v.heap[g]? = some (.cells #[a, b, c, d, e] 31 (0, 0))) :
    v.cell? ⟨g, 0, none⟩ = some a ∧ v.cell? ⟨g, 1, none⟩ = some b ∧ v.cell? ⟨g, 2, none⟩ = some c ∧ v.cell? ⟨g, 3, none⟩ = some d ∧ v.cell? ⟨g, 4, none⟩ = some e ∧ True := by
  refine ⟨?_, ?_, ?_, ?_, ?_, trivial⟩ <;> simp [World.cell?, h]

set_option maxRecDepth 100000 in
set_option maxHeartbeats 4000000 in
theorem samePlan_any (ol nl : Int) (os ns : ByteArray) (a1 a2 : Option Addr) (b1 o1 c1 b2 o2 c2 : Nat) (st : List Pl.St) (w : World) (hm : st.length ≤ 2000) (h1 : Hid (stepsAt w a1 b1 o1 st)) (h2 : Hid (stepsAt w a2 b2 o2 st)) :
    Calls Try.prog 18 #[.agg #[.int .i64 ol, .int .i64 nl, .string os, .string ns, .slice a1 st.length c1], .agg #[.int .i64 ol, .int .i64 nl, .string os, .string ns, .slice a2 st.length c2]] w fun e w' => e = .returned (.bool true) ∧ Below w.heap.size w w' := by
  have HS : Hid (∀ v, Below w.heap.size w v → Calls Try.prog 23 #[.slice a1 st.length c1, .slice a2 st.length c2] v fun e w' => e = .returned (.bool true) ∧ Below v.heap.size v w') := fun v hb =>
    sameSteps_any a1 a2 b1 o1 c1 b2 o2 c2 st v (by omega) (stepsAt_below h1.out hb h1.out.2.1) (stepsAt_below h2.out hb h2.out.2.1)
  go_enter Try.func18, Try.ntmps18
  have B0 : Hid (Below w.heap.size w ((w.alloc (Obj.cells #[.int .i64 ol, .int .i64 nl, .string os, .string ns, .slice a1 st.length c1] 31)).alloc (Obj.cells #[.int .i64 ol, .int .i64 nl, .string os, .string ns, .slice a2 st.length c2] 31))) := ((Below.refl _ _).alloc (Nat.le_refl _) _).alloc (by simp) _
  go_wp2_with fail
  refine (HS.out _ B0.out).mono ?_
  rintro e v1 ⟨rfl, b1⟩
  have X1 : v1.heap[w.heap.size]? = some (.cells #[.int .i64 ol, .int .i64 nl, .string os, .string ns, .slice a1 st.length c1] 31 (0, 0)) := by
    rw [b1.block _ (by simp; omega), Below.heap_alloc _ _ _ (by simp)]; exact heap_alloc_new w _
  have X2 : v1.heap[w.heap.size + 1]? = some (.cells #[.int .i64 ol, .int .i64 nl, .string os, .string ns, .slice a2 st.length c2] 31 (0, 0)) := by
    rw [b1.block _ (by simp)]
    have := heap_alloc_new (w.alloc (Obj.cells #[.int .i64 ol, .int .i64 nl, .string os, .string ns, .slice a1 st.length c1] 31)) (Obj.cells #[.int .i64 ol, .int .i64 nl, .string os, .string ns, .slice a2 st.length c2] 31)
    rw [World.size_alloc] at this
    exact this
  obtain ⟨x0, x1, x2, x3, x4, _⟩ := planCells X1
  obtain ⟨y0, y1, y2, y3, y4, _⟩ := planCells X2
  have B1 : Hid (Below w.heap.size w v1) := B0.out.trans (b1.mono (by simp; omega))
  clear b1 X1 X2 B0 HS
  go_wp2_with fail
  go_ret
  exact ⟨by simp, B1.out⟩

end Go.Proofs.Ytjjmcnippjpclaa
