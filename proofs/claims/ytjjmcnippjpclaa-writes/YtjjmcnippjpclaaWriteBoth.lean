/-
  The walk of the document's own Write.
-/
import Derived.Test.YtjjmcnippjpclaaWrite
import Derived.Test.YtjjmcnippjpclaaChecks
import Derived.Test.YtjjmcnippjpclaaRefWrites
namespace Go.Proofs.Ytjjmcnippjpclaa

open Go.RowKit

set_option maxRecDepth 100000 in
set_option maxHeartbeats 2000000 in
theorem refWrite_any (ol nl : Int) (os ns : ByteArray) (a : Option Addr) (b o c : Nat) (st : List Pl.St) (w : World) (hst : Hid (stepsAt w a b o st)) :
    Calls Try.prog 22 #[.agg #[.int .i64 ol, .int .i64 nl, .string os, .string ns, .slice a st.length c]] w fun e w' => e = .returned (.tuple #[.string (wText ol nl os ns st), .int .i64 (wErr ol nl os ns st)]) ∧ Below w.heap.size w w' := by
  have hst1 : Hid (stepsAt (w.alloc (Obj.cells #[.int .i64 ol, .int .i64 nl, .string os, .string ns, .slice a st.length c] 31)) a b o st) := stepsAt_below hst.out ((Below.refl w.heap.size w).alloc (Nat.le_refl _) _) hst.out.2.1
  have hbl := hst.out.2.1
  have H0 : Hid (Pl.full ol nl os ns st = false → Pl.verdict (Pl.full ol nl os ns st) (Pl.ord [] st) = 3 ∧ wText ol nl os ns st = ⟨#[]⟩ ∧ wErr ol nl os ns st = 1) := fun h => by simp [wText, wErr, Pl.verdict, h]
  have H1 : Hid (Pl.full ol nl os ns st = true → Pl.ord [] st = false → Pl.verdict (Pl.full ol nl os ns st) (Pl.ord [] st) = 6 ∧ wText ol nl os ns st = ⟨#[]⟩ ∧ wErr ol nl os ns st = 6) := fun h k => by simp [wText, wErr, Pl.verdict, h, k]
  have H2 : Hid (Pl.full ol nl os ns st = true → Pl.ord [] st = true → Pl.verdict (Pl.full ol nl os ns st) (Pl.ord [] st) = 0 ∧ wText ol nl os ns st = ⟨(planB ol.toNat nl.toNat os ns st).toArray⟩ ∧ wErr ol nl os ns st = 0) := fun h k => by simp [wText, wErr, Pl.verdict, h, k]
  have H3 : Hid (Pl.full ol nl os ns st = true → (0 ≤ ol ∧ ol ≤ 4000) ∧ (0 ≤ nl ∧ nl ≤ 4000) ∧ os.size = 4 ∧ ns.size = 4 ∧ st.length ≤ 2000 ∧ ∀ s ∈ st, Pl.ok ol nl s = true) := full_spec
  have HM : Hid (∀ w, stepsAt w a b o st → Calls Try.prog 36 #[.agg #[.int .i64 ol, .int .i64 nl, .string os, .string ns, .slice a st.length c]] w fun e w' => e = .returned (.int .i64 (Pl.verdict (Pl.full ol nl os ns st) (Pl.ord [] st))) ∧ Below w.heap.size w w') := fun w h => check_any ol nl os ns a b o c st w h
  generalize Pl.verdict (Pl.full ol nl os ns st) (Pl.ord [] st) = V at *
  generalize Pl.full ol nl os ns st = FU at *
  generalize Pl.ord [] st = RO at *
  generalize wText ol nl os ns st = WT at *
  generalize wErr ol nl os ns st = WE at *
  go_enter Try.func22, Try.ntmps22
  go_wp2_with fail
  refine (HM.out _ hst1.out).mono ?_
  rintro e v1 ⟨rfl, b1⟩
  have B1 : Hid (Below (w.heap.size + 1) (w.alloc (Obj.cells #[.int .i64 ol, .int .i64 nl, .string os, .string ns, .slice a st.length c] 31)) v1) := b1.mono (by simp)
  have hst2 : Hid (stepsAt v1 a b o st) := stepsAt_below hst1.out B1.out (by omega)
  obtain ⟨p0, p1, p2, p3, p4⟩ := boxed (Nat.lt_succ_self _) B1.out
  clear b1 HM
  cases FU
  · obtain ⟨h0, h1, h2⟩ := H0.out rfl
    clear H0 H1 H2 H3
    subst h0
    go_wp2_with fail
    go_ret2
    exact ⟨by rw [h1, h2]; rfl, ((Below.refl w.heap.size w).alloc (Nat.le_refl _) _).trans (B1.out.mono (by omega))⟩
  · obtain ⟨q1, q2, q3, q4, q5, q6⟩ := H3.out rfl
    have Q6 : Hid (∀ s ∈ st, Pl.ok ol nl s = true) := q6
    clear q6
    obtain ⟨OL, rfl⟩ := Int.eq_ofNat_of_zero_le q1.1
    obtain ⟨NL, rfl⟩ := Int.eq_ofNat_of_zero_le q2.1
    cases RO
    · obtain ⟨h0, h1, h2⟩ := H1.out rfl rfl
      clear H0 H1 H2 H3
      subst h0
      go_wp2_with fail
      go_ret2
      exact ⟨by rw [h1, h2]; rfl, ((Below.refl w.heap.size w).alloc (Nat.le_refl _) _).trans (B1.out.mono (by omega))⟩
    · obtain ⟨h0, h1, h2⟩ := H2.out rfl rfl
      have h1' : WT = ⟨(planB OL NL os ns st).toArray⟩ := h1
      clear H0 H1 H2 H3 h1
      subst h0
      go_wp2_with fail
      refine (refwrite_any OL NL os ns a b o c st _ (by omega) (by omega) q3 q4 q5 hst2 Q6).mono ?_
      rintro e v3 ⟨rfl, b3⟩
      have B3 : Hid (Below (w.heap.size + 1) (w.alloc (Obj.cells #[.int .i64 OL, .int .i64 NL, .string os, .string ns, .slice a st.length c] 31)) v3) := B1.out.trans (b3.mono (by have := B1.out.size; simp at this; omega))
      clear b3
      go_wp2_with fail
      go_ret2
      exact ⟨by rw [h1', h2]; rfl, ((Below.refl w.heap.size w).alloc (Nat.le_refl _) _).trans (B3.out.mono (by omega))⟩

end Go.Proofs.Ytjjmcnippjpclaa
