/-
  The walks of the document's own look at a step, and at two stretches.
-/
import Derived.Test.YtlijlmjgnhheaaaMay
namespace Go.Proofs.Ytlijlmjgnhheaaa
open Go.RowKit

theorem apart_any (a n b m : Int) (w : World) (h1 : -4000 ≤ a ∧ a ≤ 100000) (h2 : -4000 ≤ n ∧ n ≤ 100000) (h3 : -4000 ≤ b ∧ b ≤ 100000) (h4 : -4000 ≤ m ∧ m ≤ 100000) :
    Calls Try.prog 56 #[.int .i64 a, .int .i64 n, .int .i64 b, .int .i64 m] w fun e w' => e = .returned (.bool (decide (a + n ≤ b ∨ b + m ≤ a))) ∧ w' = w := by
  have e1 : wrap64 (a + n) = a + n := by unfold wrap64; omega
  have e2 : wrap64 (b + m) = b + m := by unfold wrap64; omega
  by_cases h : a + n ≤ b
  · go_enter Try.func56, Try.ntmps56
    go_wp2_with fail
    go_ret
    simp [h]
  · go_enter Try.func56, Try.ntmps56
    go_wp2_with fail
    go_ret
    simp; omega

set_option maxHeartbeats 4000000 in
theorem right_any (k t n f : Int) (d : ByteArray) (ol nl : Int) (os ns : ByteArray) (sl : Value) (w : World) (hol : 0 ≤ ol ∧ ol ≤ 4000) (hnl : 0 ≤ nl ∧ nl ≤ 4000) :
    Calls Try.prog 55 #[.agg #[.int .i64 ol, .int .i64 nl, .string os, .string ns, sl], .agg #[.int .i64 k, .int .i64 t, .int .i64 n, .string d, .int .i64 f]] w fun e w' => e = .returned (.bool (Pl.ok ol nl (k, t, n, d, f))) ∧ Below w.heap.size w w' := by
  have H0 : Hid (1 ≤ n → (0 ≤ t ∧ n ≤ nl ∧ t ≤ nl - n) → ((k = 1 ∧ (d.size : Int) = n ∧ f = 0) ∨ (k = 3 ∧ d.size = 0 ∧ (0 ≤ f ∧ n ≤ ol ∧ f ≤ ol - n))) → Pl.ok ol nl (k, t, n, d, f) = true) := fun a b c => ok_yes ⟨a, b, c⟩
  have H1 : Hid (¬ (1 ≤ n ∧ (0 ≤ t ∧ n ≤ nl ∧ t ≤ nl - n) ∧ ((k = 1 ∧ (d.size : Int) = n ∧ f = 0) ∨ (k = 3 ∧ d.size = 0 ∧ (0 ≤ f ∧ n ≤ ol ∧ f ≤ ol - n)))) → Pl.ok ol nl (k, t, n, d, f) = false) := fun a => ok_no a
  generalize Pl.ok ol nl (k, t, n, d, f) = r at *
  by_cases h1 : n < 1
  · have d1 : decide (n < 1) = true := decide_eq_true h1
    go_enter Try.func55, Try.ntmps55
    go_wp2_with fail
    go_ret
    exact ⟨by rw [H1.out (by omega)]; rfl, by go_grown⟩
  have d1 : decide (n < 1) = false := decide_eq_false h1
  by_cases h2 : 4000 < n
  · have d2 : decide (4000 < n) = true := decide_eq_true h2
    go_enter Try.func55, Try.ntmps55
    go_wp2_with fail
    go_ret
    exact ⟨by rw [H1.out (by omega)]; rfl, by go_grown⟩
  have d2 : decide (4000 < n) = false := decide_eq_false h2
  by_cases h3 : t < 0
  · have d3 : decide (t < 0) = true := decide_eq_true h3
    go_enter Try.func55, Try.ntmps55
    go_wp2_with fail
    go_ret
    exact ⟨by rw [H1.out (by omega)]; rfl, by go_grown⟩
  have d3 : decide (t < 0) = false := decide_eq_false h3
  by_cases h4 : 4000 < t
  · have d4 : decide (4000 < t) = true := decide_eq_true h4
    go_enter Try.func55, Try.ntmps55
    go_wp2_with fail
    go_ret
    exact ⟨by rw [H1.out (by omega)]; rfl, by go_grown⟩
  have d4 : decide (4000 < t) = false := decide_eq_false h4
  by_cases h5 : f < 0
  · have d5 : decide (f < 0) = true := decide_eq_true h5
    go_enter Try.func55, Try.ntmps55
    go_wp2_with fail
    go_ret
    exact ⟨by rw [H1.out (by omega)]; rfl, by go_grown⟩
  have d5 : decide (f < 0) = false := decide_eq_false h5
  by_cases h6 : 4000 < f
  · have d6 : decide (4000 < f) = true := decide_eq_true h6
    go_enter Try.func55, Try.ntmps55
    go_wp2_with fail
    go_ret
    exact ⟨by rw [H1.out (by omega)]; rfl, by go_grown⟩
  have d6 : decide (4000 < f) = false := decide_eq_false h6
  have e1 : wrap64 (t + n) = t + n := by unfold wrap64; omega
  have e2 : wrap64 (f + n) = f + n := by unfold wrap64; omega
  by_cases h7 : nl < t + n
  · have d7 : decide (nl < t + n) = true := decide_eq_true h7
    go_enter Try.func55, Try.ntmps55
    go_wp2_with fail
    go_ret
    exact ⟨by rw [H1.out (by omega)]; rfl, by go_grown⟩
  have d7 : decide (nl < t + n) = false := decide_eq_false h7
  by_cases hk3 : k = 3
  · subst hk3
    by_cases hd : d.size = 0
    · have hd' : d.toList = [] := List.eq_nil_of_length_eq_zero (by rw [toList_size, hd])
      go_enter Try.func55, Try.ntmps55
      go_wp2_with fail
      go_ret
      refine ⟨?_, by go_grown⟩
      show Ending.returned (Value.bool (decide (f + n ≤ ol))) = _
      by_cases hf : f + n ≤ ol
      · rw [H0.out (by omega) (by omega) (.inr ⟨by trivial, hd, by omega⟩), decide_eq_true hf]
      · rw [H1.out (by omega), decide_eq_false hf]
    · have hd' : ¬ d.toList = [] := fun h => hd (by rw [← toList_size, h]; rfl)
      go_enter Try.func55, Try.ntmps55
      go_wp2_with fail
      go_ret
      exact ⟨by rw [H1.out (by omega)]; rfl, by go_grown⟩
  · by_cases hk1 : k = 1
    · subst hk1
      by_cases hf : f = 0
      · subst hf
        go_enter Try.func55, Try.ntmps55
        go_wp2_with fail
        go_ret
        refine ⟨?_, by go_grown⟩
        show Ending.returned (Value.bool ((d.size : Int) == n)) = _
        by_cases hd : (d.size : Int) = n
        · rw [H0.out (by omega) (by omega) (.inl ⟨by trivial, hd, by trivial⟩), hd]; simp
        · rw [H1.out (by omega)]; simp [hd]
      · go_enter Try.func55, Try.ntmps55
        go_wp2_with fail
        go_ret
        exact ⟨by rw [H1.out (by omega)]; rfl, by go_grown⟩
    · go_enter Try.func55, Try.ntmps55
      go_wp2_with fail
      go_ret
      exact ⟨by rw [H1.out (by omega)]; rfl, by go_grown⟩

end Go.Proofs.Ytlijlmjgnhheaaa
