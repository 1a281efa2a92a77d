/-
  The document's own check of any plan.
-/
import Derived.Test.YtlijlmjgnhheaaaCheck
namespace Go.Proofs.Ytlijlmjgnhheaaa
open Go.RowKit

set_option maxRecDepth 100000 in
set_option maxHeartbeats 4000000 in
theorem check_no (ol nl : Int) (os ns : ByteArray) (a : Option Addr) (m c : Nat) (w : World)
    (h : ¬ ((0 ≤ ol ∧ ol ≤ 4000) ∧ (0 ≤ nl ∧ nl ≤ 4000) ∧ os.size = 4 ∧ ns.size = 4 ∧ m ≤ 2000)) :
    Calls Try.prog 36 #[.agg #[.int .i64 ol, .int .i64 nl, .string os, .string ns, .slice a m c]] w fun e w' => e = .returned (.int .i64 3) ∧ Below w.heap.size w w' := by
  have HH : Hid (¬ ((0 ≤ ol ∧ ol ≤ 4000) ∧ (0 ≤ nl ∧ nl ≤ 4000) ∧ os.size = 4 ∧ ns.size = 4 ∧ m ≤ 2000)) := h
  clear h
  by_cases h1 : ol < 0
  · have d1 : decide (ol < 0) = true := decide_eq_true h1
    go_enter Try.func36, Try.ntmps36
    go_wp2_with fail
    go_ret
    exact ⟨rfl, by go_grown⟩
  have d1 : decide (ol < 0) = false := decide_eq_false h1
  by_cases h2 : 4000 < ol
  · have d2 : decide (4000 < ol) = true := decide_eq_true h2
    go_enter Try.func36, Try.ntmps36
    go_wp2_with fail
    go_ret
    exact ⟨rfl, by go_grown⟩
  have d2 : decide (4000 < ol) = false := decide_eq_false h2
  by_cases h3 : nl < 0
  · have d3 : decide (nl < 0) = true := decide_eq_true h3
    go_enter Try.func36, Try.ntmps36
    go_wp2_with fail
    go_ret
    exact ⟨rfl, by go_grown⟩
  have d3 : decide (nl < 0) = false := decide_eq_false h3
  by_cases h4 : 4000 < nl
  · have d4 : decide (4000 < nl) = true := decide_eq_true h4
    go_enter Try.func36, Try.ntmps36
    go_wp2_with fail
    go_ret
    exact ⟨rfl, by go_grown⟩
  have d4 : decide (4000 < nl) = false := decide_eq_false h4
  by_cases h5 : os.size = 4
  · by_cases h6 : ns.size = 4
    · have h7 : 2000 < m := Nat.lt_of_not_le fun h7 => HH.out ⟨by omega, by omega, h5, h6, h7⟩
      have d7 : decide ((2000 : Int) < (m : Int)) = true := decide_eq_true (by omega)
      go_enter Try.func36, Try.ntmps36
      go_wp2_with fail
      go_ret
      exact ⟨rfl, by go_grown⟩
    · go_enter Try.func36, Try.ntmps36
      go_wp2_with fail
      go_ret
      exact ⟨rfl, by go_grown⟩
  · go_enter Try.func36, Try.ntmps36
    go_wp2_with fail
    go_ret
    exact ⟨rfl, by go_grown⟩

theorem check_any (ol nl : Int) (os ns : ByteArray) (a : Option Addr) (b o c : Nat) (st : List Pl.St) (w : World) (hst : Hid (stepsAt w a b o st)) :
    Calls Try.prog 36 #[.agg #[.int .i64 ol, .int .i64 nl, .string os, .string ns, .slice a st.length c]] w fun e w' => e = .returned (.int .i64 (Pl.verdict (Pl.full ol nl os ns st) (Pl.ord [] st))) ∧ Below w.heap.size w w' := by
  by_cases h : (0 ≤ ol ∧ ol ≤ 4000) ∧ (0 ≤ nl ∧ nl ≤ 4000) ∧ os.size = 4 ∧ ns.size = 4 ∧ st.length ≤ 2000
  · obtain ⟨h1, h2, h3, h4, h5⟩ := h
    obtain ⟨OL, rfl⟩ := Int.eq_ofNat_of_zero_le h1.1
    obtain ⟨NL, rfl⟩ := Int.eq_ofNat_of_zero_le h2.1
    rw [Pl.full_yes h1 h2 h3 h4 h5]
    exact check_yes OL NL os ns a b o c st w (by omega) (by omega) h3 h4 h5 hst
  · rw [Pl.full_no h]
    exact check_no ol nl os ns a st.length c w h

end Go.Proofs.Ytlijlmjgnhheaaa
