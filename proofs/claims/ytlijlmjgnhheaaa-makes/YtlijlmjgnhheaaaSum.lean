/-
  The walks of Sum and pick.
-/
import Derived.Test.YtlijlmjgnhheaaaRows
import Derived.Test.YtlijlmjgnhheaaaPlain
import Derived.WalkKit
import Derived.WalkSpells
import Derived.WalkLawsBesides
namespace Go.Proofs.Ytlijlmjgnhheaaa
open Go.RowKit

theorem val_int {k : IntKind} {a b : Int} (h : a = b) : Value.int k a = Value.int k b := by rw [h]

theorem conv4 (w : World) (a b c d : Int) :
    (convert 65 9 (.slice (some ⟨w.heap.size, 0, none⟩) 4 4)).run Try.prog (w.alloc (.cells #[.int .u8 a, .int .u8 b, .int .u8 c, .int .u8 d] 5)) = .ok (.string (strOfNums [a, b, c, d])) (w.alloc (.cells #[.int .u8 a, .int .u8 b, .int .u8 c, .int .u8 d] 5)) := by
  refine run_convert_bytes_arg (P := Try.prog) _ 65 5 Try.underlying65 Try.underlying5 w.heap.size 0 4 4 [a, b, c, d] rfl (fun i hi => ?_) 9 Try.underlying9
  match i, hi with
  | 0, _ => simp
  | 1, _ => simp
  | 2, _ => simp
  | 3, _ => simp

set_option maxHeartbeats 400000 in
theorem sum_any (s : ByteArray) (w : World) (hs : s.size ≤ maxLen) :
    Calls Try.prog 14 #[.string s] w fun e w' => e = .returned (.string (Pl.sumOf (Pl.ad s.data.toList).1 (Pl.ad s.data.toList).2)) ∧ Below w.heap.size w w' := by
  unfold maxLen at hs
  have h4 := conv4
  go_enter Try.func14, Try.ntmps14
  go_wp2
  go_loop [3, 4, 8] (fun a b i => ∃ k : Nat, k ≤ s.size ∧ i = .int .i64 k ∧ a = .int .u32 (Pl.ad (s.data.toList.take k)).1 ∧ b = .int .u32 (Pl.ad (s.data.toList.take k)).2) (fun _ _ i => s.size - (intOf i).toNat)
  case atStart => exact ⟨0, Nat.zero_le _, rfl, rfl, rfl⟩
  case round =>
    obtain ⟨k, hk, rfl, rfl, rfl⟩ := hrel
    have hd := Pl.ad_bd (s.data.toList.take k)
    by_cases hlt : k < s.size
    · have HS : Hid (Pl.ad (s.data.toList.take (k + 1)) = Pl.step (Pl.ad (s.data.toList.take k)) s[k]) := by
        show _ = _; rw [Pl.take_snoc s k hlt]; exact Pl.ad_snoc _ _
      obtain ⟨h1, h2, h3, h4⟩ := hd
      have hb := UInt8.toNat_lt s[k]
      go_wp2
      go_round
      case rel =>
        exact ⟨k + 1, by omega, by go_num, val_int (by rw [HS.out]; show _ = (_ + _) % 65521; omega), val_int (by rw [HS.out]; show _ = (_ + (_ + _) % 65521) % 65521; omega)⟩
      case measure => simp [intOf]; omega
    · obtain ⟨h1, h2, h3, h4⟩ := hd
      go_wp2
      go_ret
      have hk2 : k = s.size := by omega
      have ht : s.data.toList.take k = s.data.toList := List.take_of_length_le (by simp; omega)
      rw [ht]
      exact ⟨rfl, (Below.refl _ _).alloc (Nat.le_refl _) _⟩
end Go.Proofs.Ytlijlmjgnhheaaa
