/-
  The walks of Number, the document's number, and pick.
-/
import Derived.Test.YtlijlmjgnhheaaaRows
import Derived.Test.YtlijlmjgnhheaaaNumPlain
import Derived.WalkKit
import Derived.WalkSpells
import Derived.WalkLawsBesides
import Derived.Handy
namespace Go.Proofs.Ytlijlmjgnhheaaa
open Go.RowKit

set_option maxHeartbeats 400000 in
theorem number_no (n : Int) (w : World) (h : n < 0 ∨ 2147483647 < n) :
    Calls Try.prog 10 #[.int .i64 n] w fun e w' => e = .returned (.tuple #[.string ⟨#[]⟩, .int .i64 1]) ∧ w' = w := by
  rcases h with h | h
  · go_enter Try.func10, Try.ntmps10
    go_wp2
    go_ret2
    exact ⟨rfl, rfl⟩
  · have h' : ¬ n < 0 := by omega
    go_enter Try.func10, Try.ntmps10
    go_wp2
    go_ret2
    exact ⟨rfl, rfl⟩

theorem conv5 (w : World) (x : List Int) (j : Nat) (c : Nat) (hj : j + c = x.length) :
    (convert 65 9 (.slice (some ⟨w.heap.size, j, none⟩) c c)).run Try.prog (w.alloc (.cells (x.map (Value.int .u8)).toArray 67)) = .ok (.string (strOfNums (x.drop j))) (w.alloc (.cells (x.map (Value.int .u8)).toArray 67)) := by
  refine run_convert_bytes_arg (P := Try.prog) _ 65 5 Try.underlying65 Try.underlying5 w.heap.size j c c (x.drop j) (by simp; omega) (fun i hi => ?_) 9 Try.underlying9
  have h1 : j + i < x.length := by omega
  simp [List.getD, List.getElem?_drop, List.getElem?_eq_getElem h1]

theorem hiInt (x : Int) (m : Nat) (hx : x = (m : Int)) : bits .or .u8 (bits .and .i64 x 127 % 256) 128 = 128 + ((m % 128 : Nat) : Int) := by
  subst hx; exact Pl.high _ (by omega)

theorem loInt (x : Int) (m : Nat) (hx : x = (m : Int)) : bits .and .i64 x 127 % 256 = ((m % 128 : Nat) : Int) := by
  subst hx; exact Pl.low _ (by omega)

theorem num1 (n : Nat) (h1 : (n : Int) / 128 ≤ 0) : [bits .and .i64 (n : Int) 127 % 256] = Pl.num n := by
  rw [Pl.num, show n / 128 = 0 by omega, Pl.hi_zero, loInt _ n rfl]; rfl

theorem num2 (n : Nat) (h1 : 0 < (n : Int) / 128) (h2 : (n : Int) / 128 / 128 ≤ 0) : [bits .or .u8 (bits .and .i64 ((n : Int) / 128) 127 % 256) 128, bits .and .i64 (n : Int) 127 % 256] = Pl.num n := by
  rw [Pl.num, Pl.hi_pos _ (by omega), show n / 128 / 128 = 0 by omega, Pl.hi_zero, hiInt _ (n / 128) (by omega), loInt _ n rfl]; rfl

theorem num3 (n : Nat) (h1 : 0 < (n : Int) / 128) (h2 : 0 < (n : Int) / 128 / 128) (h3 : (n : Int) / 128 / 128 / 128 ≤ 0) : [bits .or .u8 (bits .and .i64 ((n : Int) / 128 / 128) 127 % 256) 128, bits .or .u8 (bits .and .i64 ((n : Int) / 128) 127 % 256) 128, bits .and .i64 (n : Int) 127 % 256] = Pl.num n := by
  rw [Pl.num, Pl.hi_pos _ (by omega), Pl.hi_pos _ (by omega), show n / 128 / 128 / 128 = 0 by omega, Pl.hi_zero, hiInt _ (n / 128 / 128) (by omega), hiInt _ (n / 128) (by omega), loInt _ n rfl]; rfl

theorem num4 (n : Nat) (h1 : 0 < (n : Int) / 128) (h2 : 0 < (n : Int) / 128 / 128) (h3 : 0 < (n : Int) / 128 / 128 / 128) (h4 : (n : Int) / 128 / 128 / 128 / 128 ≤ 0) : [bits .or .u8 (bits .and .i64 ((n : Int) / 128 / 128 / 128) 127 % 256) 128, bits .or .u8 (bits .and .i64 ((n : Int) / 128 / 128) 127 % 256) 128, bits .or .u8 (bits .and .i64 ((n : Int) / 128) 127 % 256) 128, bits .and .i64 (n : Int) 127 % 256] = Pl.num n := by
  rw [Pl.num, Pl.hi_pos _ (by omega), Pl.hi_pos _ (by omega), Pl.hi_pos _ (by omega), show n / 128 / 128 / 128 / 128 = 0 by omega, Pl.hi_zero, hiInt _ (n / 128 / 128 / 128) (by omega), hiInt _ (n / 128 / 128) (by omega), hiInt _ (n / 128) (by omega), loInt _ n rfl]; rfl

theorem num5 (n : Nat) (h1 : 0 < (n : Int) / 128) (h2 : 0 < (n : Int) / 128 / 128) (h3 : 0 < (n : Int) / 128 / 128 / 128) (h4 : 0 < (n : Int) / 128 / 128 / 128 / 128) (h5 : (n : Int) / 128 / 128 / 128 / 128 / 128 ≤ 0) : [bits .or .u8 (bits .and .i64 ((n : Int) / 128 / 128 / 128 / 128) 127 % 256) 128, bits .or .u8 (bits .and .i64 ((n : Int) / 128 / 128 / 128) 127 % 256) 128, bits .or .u8 (bits .and .i64 ((n : Int) / 128 / 128) 127 % 256) 128, bits .or .u8 (bits .and .i64 ((n : Int) / 128) 127 % 256) 128, bits .and .i64 (n : Int) 127 % 256] = Pl.num n := by
  rw [Pl.num, Pl.hi_pos _ (by omega), Pl.hi_pos _ (by omega), Pl.hi_pos _ (by omega), Pl.hi_pos _ (by omega), show n / 128 / 128 / 128 / 128 / 128 = 0 by omega, Pl.hi_zero, hiInt _ (n / 128 / 128 / 128 / 128) (by omega), hiInt _ (n / 128 / 128 / 128) (by omega), hiInt _ (n / 128 / 128) (by omega), hiInt _ (n / 128) (by omega), loInt _ n rfl]; rfl

theorem ret_str {s t : ByteArray} {k : IntKind} {n : Int} (h : s = t) : Ending.returned (.tuple #[.string s, .int k n]) = .returned (.tuple #[.string t, .int k n]) := by rw [h]

set_option maxHeartbeats 1000000 in
theorem number_yes (n : Nat) (w : World) (h : n ≤ 2147483647) :
    Calls Try.prog 10 #[.int .i64 n] w fun e w' => e = .returned (.tuple #[.string (strOfNums (Pl.num n)), .int .i64 0]) ∧ Below w.heap.size w w' := by
  have k5 := fun (w : World) (a b c d e : Int) => conv5 w [a, b, c, d, e] 0 5 rfl
  have k4 := fun (w : World) (a b c d e : Int) => conv5 w [a, b, c, d, e] 1 4 rfl
  have k3 := fun (w : World) (a b c d e : Int) => conv5 w [a, b, c, d, e] 2 3 rfl
  have k2 := fun (w : World) (a b c d e : Int) => conv5 w [a, b, c, d, e] 3 2 rfl
  have k1 := fun (w : World) (a b c d e : Int) => conv5 w [a, b, c, d, e] 4 1 rfl
  simp only [List.map_cons, List.map_nil, List.drop_zero, List.drop_succ_cons] at k1 k2 k3 k4 k5
  go_enter Try.func10, Try.ntmps10
  go_wp2
  go_rounds 5
  all_goals go_ret2
  · exact ⟨ret_str (congrArg strOfNums (num5 n ‹_› ‹_› ‹_› ‹_› ‹_›)), (Below.refl _ _).alloc (Nat.le_refl _) _⟩
  · exact ⟨ret_str (congrArg strOfNums (num4 n ‹_› ‹_› ‹_› ‹_›)), (Below.refl _ _).alloc (Nat.le_refl _) _⟩
  · exact ⟨ret_str (congrArg strOfNums (num3 n ‹_› ‹_› ‹_›)), (Below.refl _ _).alloc (Nat.le_refl _) _⟩
  · exact ⟨ret_str (congrArg strOfNums (num2 n ‹_› ‹_›)), (Below.refl _ _).alloc (Nat.le_refl _) _⟩
  · exact ⟨ret_str (congrArg strOfNums (num1 n ‹_›)), (Below.refl _ _).alloc (Nat.le_refl _) _⟩
end Go.Proofs.Ytlijlmjgnhheaaa
