/-
  The walks of the document's own numbers and sum, and of pick.
-/
import Derived.Test.YtlijlmjgnhheaaaNum
import Derived.Test.YtlijlmjgnhheaaaSum
namespace Go.Proofs.Ytlijlmjgnhheaaa
open Go.RowKit

theorem conv1 (w : World) (b : Nat) (a : Int) (hb : b = w.heap.size) :
    (convert 65 9 (.slice (some ⟨b, 0, none⟩) 1 1)).run Try.prog (w.alloc (.cells #[.int .u8 a] 5)) = .ok (.string (strOfNums [a])) (w.alloc (.cells #[.int .u8 a] 5)) := by
  subst hb
  refine run_convert_bytes_arg (P := Try.prog) _ 65 5 Try.underlying65 Try.underlying5 w.heap.size 0 1 1 [a] rfl (fun i hi => ?_) 9 Try.underlying9
  match i, hi with
  | 0, _ => simp

theorem rn1 (n : Nat) (h1 : (n : Int) / 128 ≤ 0) : strOfNums [(n : Int) % 128] = strOfNums (Pl.num n) := by
  rw [Pl.num, show n / 128 = 0 by omega, Pl.hi_zero]
  refine congrArg strOfNums ?_
  simp

theorem rn2 (n : Nat) (h1 : 0 < (n : Int) / 128) (h2 : (n : Int) / 128 / 128 ≤ 0) : strOfNums [128 + (n : Int) / 128 % 128] ++ strOfNums [(n : Int) % 128] = strOfNums (Pl.num n) := by
  rw [← Pl.strOfNums_append, Pl.num, Pl.hi_pos _ (by omega), show n / 128 / 128 = 0 by omega, Pl.hi_zero]
  refine congrArg strOfNums ?_
  simp

theorem rn3 (n : Nat) (h1 : 0 < (n : Int) / 128) (h2 : 0 < (n : Int) / 128 / 128) (h3 : (n : Int) / 128 / 128 / 128 ≤ 0) : strOfNums [128 + (n : Int) / 128 / 128 % 128] ++ (strOfNums [128 + (n : Int) / 128 % 128] ++ strOfNums [(n : Int) % 128]) = strOfNums (Pl.num n) := by
  rw [← Pl.strOfNums_append, ← Pl.strOfNums_append, Pl.num, Pl.hi_pos _ (by omega), Pl.hi_pos _ (by omega), show n / 128 / 128 / 128 = 0 by omega, Pl.hi_zero]
  refine congrArg strOfNums ?_
  simp

theorem rn4 (n : Nat) (h1 : 0 < (n : Int) / 128) (h2 : 0 < (n : Int) / 128 / 128) (h3 : 0 < (n : Int) / 128 / 128 / 128) (h4 : (n : Int) / 128 / 128 / 128 / 128 ≤ 0) : strOfNums [128 + (n : Int) / 128 / 128 / 128 % 128] ++ (strOfNums [128 + (n : Int) / 128 / 128 % 128] ++ (strOfNums [128 + (n : Int) / 128 % 128] ++ strOfNums [(n : Int) % 128])) = strOfNums (Pl.num n) := by
  rw [← Pl.strOfNums_append, ← Pl.strOfNums_append, ← Pl.strOfNums_append, Pl.num, Pl.hi_pos _ (by omega), Pl.hi_pos _ (by omega), Pl.hi_pos _ (by omega), show n / 128 / 128 / 128 / 128 = 0 by omega, Pl.hi_zero]
  refine congrArg strOfNums ?_
  simp

theorem rn5 (n : Nat) (h1 : 0 < (n : Int) / 128) (h2 : 0 < (n : Int) / 128 / 128) (h3 : 0 < (n : Int) / 128 / 128 / 128) (h4 : 0 < (n : Int) / 128 / 128 / 128 / 128) (h5 : (n : Int) / 128 / 128 / 128 / 128 / 128 ≤ 0) : strOfNums [128 + (n : Int) / 128 / 128 / 128 / 128 % 128] ++ (strOfNums [128 + (n : Int) / 128 / 128 / 128 % 128] ++ (strOfNums [128 + (n : Int) / 128 / 128 % 128] ++ (strOfNums [128 + (n : Int) / 128 % 128] ++ strOfNums [(n : Int) % 128]))) = strOfNums (Pl.num n) := by
  rw [← Pl.strOfNums_append, ← Pl.strOfNums_append, ← Pl.strOfNums_append, ← Pl.strOfNums_append, Pl.num, Pl.hi_pos _ (by omega), Pl.hi_pos _ (by omega), Pl.hi_pos _ (by omega), Pl.hi_pos _ (by omega), show n / 128 / 128 / 128 / 128 / 128 = 0 by omega, Pl.hi_zero]
  refine congrArg strOfNums ?_
  simp

theorem ret_s {s t : ByteArray} (h : s = t) : Ending.returned (.string s) = .returned (.string t) := by rw [h]

set_option maxHeartbeats 1000000 in
theorem refnum_any (n : Nat) (w : World) (h : n ≤ 2147483647) :
    Calls Try.prog 32 #[.int .i64 n] w fun e w' => e = .returned (.string (strOfNums (Pl.num n))) ∧ Below w.heap.size w w' := by
  have k1 := conv1
  go_enter Try.func32, Try.ntmps32
  go_wp2
  go_rounds 5
  all_goals go_ret
  · exact ⟨ret_s (rn5 n ‹_› ‹_› ‹_› ‹_› ‹_›), by go_grown⟩
  · exact ⟨ret_s (rn4 n ‹_› ‹_› ‹_› ‹_›), by go_grown⟩
  · exact ⟨ret_s (rn3 n ‹_› ‹_› ‹_›), by go_grown⟩
  · exact ⟨ret_s (rn2 n ‹_› ‹_›), by go_grown⟩
  · exact ⟨ret_s (rn1 n ‹_›), by go_grown⟩

set_option maxHeartbeats 400000 in
theorem refsum_any (s : ByteArray) (w : World) (hs : s.size ≤ maxLen) :
    Calls Try.prog 15 #[.string s] w fun e w' => e = .returned (.string (Pl.sumOf (Pl.ad s.data.toList).1 (Pl.ad s.data.toList).2)) ∧ Below w.heap.size w w' := by
  unfold maxLen at hs
  have h4 := conv4
  go_enter Try.func15, Try.ntmps15
  go_wp2
  go_loop [3, 4, 5] (fun a b i => ∃ k : Nat, k ≤ s.size ∧ i = .int .i64 k ∧ a = .int .i64 (Pl.ad (s.data.toList.take k)).1 ∧ b = .int .i64 (Pl.ad (s.data.toList.take k)).2) (fun _ _ i => s.size - (intOf i).toNat)
  case atStart => exact ⟨0, Nat.zero_le _, rfl, rfl, rfl⟩
  case round =>
    obtain ⟨k, hk, rfl, rfl, rfl⟩ := hrel
    have hd := Pl.ad_bd (s.data.toList.take k)
    by_cases hlt : k < s.size
    · have HS : Hid (Pl.ad (s.data.toList.take (k + 1)) = Pl.step (Pl.ad (s.data.toList.take k)) s[k]) := by
        show _ = _; rw [Pl.take_snoc s k hlt]; exact Pl.ad_snoc _ _
      obtain ⟨h1, h2, h3, h4⟩ := hd
      have hb := UInt8.toNat_lt s[k]
      go_wp2
      go_round
      case rel =>
        exact ⟨k + 1, by omega, by go_num, val_int (by rw [HS.out]; show _ = (_ + _) % 65521; omega), val_int (by rw [HS.out]; show _ = (_ + (_ + _) % 65521) % 65521; omega)⟩
      case measure => simp [intOf]; omega
    · obtain ⟨h1, h2, h3, h4⟩ := hd
      go_wp2
      go_ret
      have ht : s.data.toList.take k = s.data.toList := List.take_of_length_le (by simp; omega)
      rw [ht]
      exact ⟨rfl, (Below.refl _ _).alloc (Nat.le_refl _) _⟩

theorem ret_int {k : IntKind} {a b : Int} (h : a = b) : Ending.returned (.int k a) = .returned (.int k b) := by rw [h]

def pickN (c n : Int) : Int := (if c < 0 then -(c + 1) else c) % n

theorem pick_any (c n : Int) (w : World) (h1 : -9223372036854775808 ≤ c) (h2 : c ≤ 9223372036854775807) (h3 : 0 < n) (h4 : n ≤ 9223372036854775807) :
    Calls Try.prog 30 #[.int .i64 c, .int .i64 n] w fun e w' => e = .returned (.int .i64 (pickN c n)) ∧ w' = w := by
  by_cases hc : c < 0
  · go_enter Try.func30, Try.ntmps30
    go_wp2
    go_ret
    exact ⟨ret_int (by unfold pickN; rw [if_pos hc, ← Int.neg_tmod]; exact Int.tmod_eq_emod_of_nonneg (by omega)), rfl⟩
  · go_enter Try.func30, Try.ntmps30
    go_wp2
    go_ret
    exact ⟨ret_int (by unfold pickN; rw [if_neg (by omega)]), rfl⟩
end Go.Proofs.Ytlijlmjgnhheaaa
