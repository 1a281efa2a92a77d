/-
  The walk of lives: two answers that the document fixes.
-/
import Derived.Test.YtjjmcnippjpclabSums
import Derived.Test.YtjjmcnippjpclabPlainT
namespace Go.Proofs.Ytjjmcnippjpclab

open Go.RowKit

theorem num300 : strOfNums (Pl.num 300) = ⟨#[130, 44]⟩ := by decide +kernel

theorem sumabc : Pl.sumOf (Pl.ad [97, 98, 99]).1 (Pl.ad [97, 98, 99]).2 = ⟨#[2, 77, 1, 39]⟩ := by decide +kernel

theorem number300 (w : World) : Calls Try.prog 27 #[.int .i64 300] w fun e w' => e = .returned (.tuple #[.string ⟨#[130, 44]⟩, .int .i64 0]) ∧ Below w.heap.size w w' := by
  have := number_yes 300 w (by omega)
  rw [num300] at this
  exact this

theorem sum_abc (w : World) : Calls Try.prog 20 #[.string ⟨#[97, 98, 99]⟩] w fun e w' => e = .returned (.string ⟨#[2, 77, 1, 39]⟩) ∧ Below w.heap.size w w' := by
  have := sum_any ⟨#[97, 98, 99]⟩ w (by unfold maxLen; decide)
  rw [show (ByteArray.mk #[97, 98, 99]).data.toList = [97, 98, 99] from rfl, sumabc] at this
  exact this

set_option maxHeartbeats 400000 in
theorem lives_any (w : World) : Calls Try.prog 10 #[] w fun e w' => e = .returned (.bool true) ∧ Below w.heap.size w w' := by
  go_enter Try.func10, Try.ntmps10
  go_wp2_with fail
  refine (number300 _).mono ?_
  rintro e v1 ⟨rfl, b1⟩
  go_wp2_with fail
  refine (sum_abc _).mono ?_
  rintro e v2 ⟨rfl, b2⟩
  go_wp2
  go_ret
  exact ⟨rfl, b1.trans (b2.mono b1.size)⟩

end Go.Proofs.Ytjjmcnippjpclab
