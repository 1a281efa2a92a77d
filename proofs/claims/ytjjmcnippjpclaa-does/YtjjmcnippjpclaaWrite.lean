/-
  The walks of Write and of the document's own Write: of every plan they answer the same.
-/
import Derived.Test.YtjjmcnippjpclaaMays
import Derived.Test.YtjjmcnippjpclaaWritePlan
namespace Go.Proofs.Ytjjmcnippjpclaa

open Go.RowKit

/-- what Write answers: the text. -/
def wText (ol nl : Int) (os ns : ByteArray) (st : List Pl.St) : ByteArray :=
  if Pl.full ol nl os ns st && Pl.ord [] st then ⟨(planB ol.toNat nl.toNat os ns st).toArray⟩ else ⟨#[]⟩

/-- .. and the error. -/
def wErr (ol nl : Int) (os ns : ByteArray) (st : List Pl.St) : Int :=
  if Pl.full ol nl os ns st then (if Pl.ord [] st then 0 else 6) else 1

theorem full_spec {ol nl : Int} {os ns : ByteArray} {st : List Pl.St} (h : Pl.full ol nl os ns st = true) :
    (0 ≤ ol ∧ ol ≤ 4000) ∧ (0 ≤ nl ∧ nl ≤ 4000) ∧ os.size = 4 ∧ ns.size = 4 ∧ st.length ≤ 2000 ∧ ∀ s ∈ st, Pl.ok ol nl s = true := by
  simp only [Pl.full, Pl.head, Bool.and_eq_true, decide_eq_true_eq] at h
  exact ⟨h.1.1.1.1.1, h.1.1.1.1.2, h.1.1.1.2, h.1.1.2, h.1.2, Pl.form_ok st [] h.2⟩

theorem boxed {w : World} {ol nl : Int} {os ns : ByteArray} {sl : Value} {v : World} {B : Nat} (hB : w.heap.size < B) (h : Below B (w.alloc (Obj.cells #[.int .i64 ol, .int .i64 nl, .string os, .string ns, sl] 31)) v) :
    v.cell? ⟨w.heap.size, 0, none⟩ = some (.int .i64 ol) ∧ v.cell? ⟨w.heap.size, 1, none⟩ = some (.int .i64 nl) ∧ v.cell? ⟨w.heap.size, 2, none⟩ = some (.string os) ∧ v.cell? ⟨w.heap.size, 3, none⟩ = some (.string ns) ∧ v.cell? ⟨w.heap.size, 4, none⟩ = some sl := by
  refine ⟨?_, ?_, ?_, ?_, ?_⟩ <;> rw [h.cell hB] <;> simp [go_sem]

set_option maxRecDepth 100000 in
set_option maxHeartbeats 2000000 in
theorem write_any (ol nl : Int) (os ns : ByteArray) (a : Option Addr) (b o c : Nat) (st : List Pl.St) (w : World) (hm : st.length ≤ 4611686018427387904) (hst : Hid (stepsAt w a b o st)) :
    Calls Try.prog 21 #[.agg #[.int .i64 ol, .int .i64 nl, .string os, .string ns, .slice a st.length c]] w fun e w' => e = .returned (.tuple #[.string (wText ol nl os ns st), .int .i64 (wErr ol nl os ns st)]) ∧ Below w.heap.size w w' := by
  have hst1 : Hid (stepsAt (w.alloc (Obj.cells #[.int .i64 ol, .int .i64 nl, .string os, .string ns, .slice a st.length c] 31)) a b o st) := stepsAt_below hst.out ((Below.refl w.heap.size w).alloc (Nat.le_refl _) _) hst.out.2.1
  have hbl := hst.out.2.1
  have H0 : Hid (Pl.full ol nl os ns st = false → wText ol nl os ns st = ⟨#[]⟩ ∧ wErr ol nl os ns st = 1) := fun h => by simp [wText, wErr, h]
  have H1 : Hid (Pl.full ol nl os ns st = true → Pl.ord [] st = false → wText ol nl os ns st = ⟨#[]⟩ ∧ wErr ol nl os ns st = 6) := fun h k => by simp [wText, wErr, h, k]
  have H2 : Hid (Pl.full ol nl os ns st = true → Pl.ord [] st = true → wText ol nl os ns st = ⟨(planB ol.toNat nl.toNat os ns st).toArray⟩ ∧ wErr ol nl os ns st = 0) := fun h k => by simp [wText, wErr, h, k]
  have H3 : Hid (Pl.full ol nl os ns st = true → (0 ≤ ol ∧ ol ≤ 4000) ∧ (0 ≤ nl ∧ nl ≤ 4000) ∧ os.size = 4 ∧ ns.size = 4 ∧ st.length ≤ 2000 ∧ ∀ s ∈ st, Pl.ok ol nl s = true) := full_spec
  have HM : Hid (∀ w, stepsAt w a b o st → Calls Try.prog 38 #[.agg #[.int .i64 ol, .int .i64 nl, .string os, .string ns, .slice a st.length c]] w fun e w' => e = .returned (.bool (Pl.full ol nl os ns st)) ∧ Below w.heap.size w w') := fun w h => mayBe_any ol nl os ns a b o c st w hm h
  generalize Pl.full ol nl os ns st = FU at *
  generalize wText ol nl os ns st = WT at *
  generalize wErr ol nl os ns st = WE at *
  go_enter Try.func21, Try.ntmps21
  go_wp2_with fail
  refine (HM.out _ hst1.out).mono ?_
  rintro e v1 ⟨rfl, b1⟩
  have B1 : Hid (Below (w.heap.size + 1) (w.alloc (Obj.cells #[.int .i64 ol, .int .i64 nl, .string os, .string ns, .slice a st.length c] 31)) v1) := b1.mono (by simp)
  have hst2 : Hid (stepsAt v1 a b o st) := stepsAt_below hst1.out B1.out (by omega)
  obtain ⟨p0, p1, p2, p3, p4⟩ := boxed (Nat.lt_succ_self _) B1.out
  clear b1
  cases FU
  · obtain ⟨h1, h2⟩ := H0.out rfl
    clear H0 H1 H2 H3
    go_wp2_with fail
    go_ret2
    exact ⟨by rw [h1, h2]; rfl, ((Below.refl w.heap.size w).alloc (Nat.le_refl _) _).trans (B1.out.mono (by omega))⟩
  · obtain ⟨q1, q2, q3, q4, q5, q6⟩ := H3.out rfl
    have Q6 : Hid (∀ s ∈ st, Pl.ok ol nl s = true) := q6
    clear q6
    obtain ⟨OL, rfl⟩ := Int.eq_ofNat_of_zero_le q1.1
    obtain ⟨NL, rfl⟩ := Int.eq_ofNat_of_zero_le q2.1
    have G1 : Hid (Pl.ord [] st = false → WT = ⟨#[]⟩ ∧ WE = 6) := H1.out rfl
    have G2 : Hid (Pl.ord [] st = true → WT = ⟨(planB OL NL os ns st).toArray⟩ ∧ WE = 0) := H2.out rfl
    clear H0 H1 H2 H3
    have HO : Hid (∀ w, stepsAt w a b o st → Calls Try.prog 39 #[.agg #[.int .i64 OL, .int .i64 NL, .string os, .string ns, .slice a st.length c]] w fun e w' => e = .returned (.bool (Pl.ord [] st)) ∧ Below w.heap.size w w') := fun w h => inOrder_any OL NL os ns a b o c st w (by omega) (by omega) q5 h Q6
    generalize Pl.ord [] st = RO at *
    go_wp2_with fail
    refine (HO.out _ hst2.out).mono ?_
    rintro e v2 ⟨rfl, b2⟩
    have B2 : Hid (Below (w.heap.size + 1) (w.alloc (Obj.cells #[.int .i64 OL, .int .i64 NL, .string os, .string ns, .slice a st.length c] 31)) v2) := B1.out.trans (b2.mono (by have := B1.out.size; simp at this; omega))
    have hst3 : Hid (stepsAt v2 a b o st) := stepsAt_below hst1.out B2.out (by omega)
    clear p0 p1 p2 p3 p4 b2
    obtain ⟨p0, p1, p2, p3, p4⟩ := boxed (Nat.lt_succ_self _) B2.out
    cases RO
    · obtain ⟨h1, h2⟩ := G1.out rfl
      clear G1 G2
      go_wp2_with fail
      go_ret2
      exact ⟨by rw [h1, h2]; rfl, ((Below.refl w.heap.size w).alloc (Nat.le_refl _) _).trans (B2.out.mono (by omega))⟩
    · obtain ⟨h1, h2⟩ := G2.out rfl
      clear G1 G2
      go_wp2_with fail
      refine (writePlan_any OL NL os ns a b o c st _ (by omega) (by omega) q3 q4 q5 hst3 Q6).mono ?_
      rintro e v3 ⟨rfl, b3⟩
      have B3 : Hid (Below (w.heap.size + 1) (w.alloc (Obj.cells #[.int .i64 OL, .int .i64 NL, .string os, .string ns, .slice a st.length c] 31)) v3) := B2.out.trans (b3.mono (by have := B2.out.size; simp at this; omega))
      clear b3
      go_wp2_with fail
      go_ret2
      exact ⟨by rw [h1, h2]; rfl, ((Below.refl w.heap.size w).alloc (Nat.le_refl _) _).trans (B3.out.mono (by omega))⟩

end Go.Proofs.Ytjjmcnippjpclaa
