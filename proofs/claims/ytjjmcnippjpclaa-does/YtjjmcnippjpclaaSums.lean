/-
  The walks of Sum and pick.
  The walks of Number, the document's number, and pick.
  The walks of the document's own numbers and sum, and of pick.
  The walks of Read and of the document's own reading.
  The walk of the document's own reading of a number.
-/
import Derived.Test.YtjjmcnippjpclaaRows
import Derived.Test.YtjjmcnippjpclaaPlainT
import Derived.WalkKit
import Derived.WalkSpells
import Derived.WalkLawsBesides
import Derived.Handy
import Derived.Deep.QuietTactic
import Derived.BigQuiet
import Derived.Lib.Strings
import Derived.Deep.RegionHeld3
namespace Go.Proofs.Ytjjmcnippjpclaa

open Go.RowKit

theorem val_int {k : IntKind} {a b : Int} (h : a = b) : Value.int k a = Value.int k b := by rw [h]

theorem conv4 (w : World) (a b c d : Int) :
    (convert 65 9 (.slice (some ⟨w.heap.size, 0, none⟩) 4 4)).run Try.prog (w.alloc (.cells #[.int .u8 a, .int .u8 b, .int .u8 c, .int .u8 d] 5)) = .ok (.string (strOfNums [a, b, c, d])) (w.alloc (.cells #[.int .u8 a, .int .u8 b, .int .u8 c, .int .u8 d] 5)) := by
  refine run_convert_bytes_arg (P := Try.prog) _ 65 5 Try.underlying65 Try.underlying5 w.heap.size 0 4 4 [a, b, c, d] rfl (fun i hi => ?_) 9 Try.underlying9
  match i, hi with
  | 0, _ => simp
  | 1, _ => simp
  | 2, _ => simp
  | 3, _ => simp

set_option maxHeartbeats 400000 in
theorem sum_any (s : ByteArray) (w : World) (hs : s.size ≤ maxLen) :
    Calls Try.prog 14 #[.string s] w fun e w' => e = .returned (.string (Pl.sumOf (Pl.ad s.data.toList).1 (Pl.ad s.data.toList).2)) ∧ Below w.heap.size w w' := by
  unfold maxLen at hs
  have h4 := conv4
  go_enter Try.func14, Try.ntmps14
  go_wp2
  go_loop [3, 4, 8] (fun a b i => ∃ k : Nat, k ≤ s.size ∧ i = .int .i64 k ∧ a = .int .u32 (Pl.ad (s.data.toList.take k)).1 ∧ b = .int .u32 (Pl.ad (s.data.toList.take k)).2) (fun _ _ i => s.size - (intOf i).toNat)
  case atStart => exact ⟨0, Nat.zero_le _, rfl, rfl, rfl⟩
  case round =>
    obtain ⟨k, hk, rfl, rfl, rfl⟩ := hrel
    have hd := Pl.ad_bd (s.data.toList.take k)
    by_cases hlt : k < s.size
    · have HS : Hid (Pl.ad (s.data.toList.take (k + 1)) = Pl.step (Pl.ad (s.data.toList.take k)) s[k]) := by
        show _ = _; rw [Pl.take_snoc s k hlt]; exact Pl.ad_snoc _ _
      obtain ⟨h1, h2, h3, h4⟩ := hd
      have hb := UInt8.toNat_lt s[k]
      go_wp2
      go_round
      case rel =>
        exact ⟨k + 1, by omega, by go_num, val_int (by rw [HS.out]; show _ = (_ + _) % 65521; omega), val_int (by rw [HS.out]; show _ = (_ + (_ + _) % 65521) % 65521; omega)⟩
      case measure => simp [intOf]; omega
    · obtain ⟨h1, h2, h3, h4⟩ := hd
      go_wp2
      go_ret
      have hk2 : k = s.size := by omega
      have ht : s.data.toList.take k = s.data.toList := List.take_of_length_le (by simp; omega)
      rw [ht]
      exact ⟨rfl, (Below.refl _ _).alloc (Nat.le_refl _) _⟩

end Go.Proofs.Ytjjmcnippjpclaa

namespace Go.Proofs.Ytjjmcnippjpclaa

open Go.RowKit

set_option maxHeartbeats 400000 in
theorem number_no (n : Int) (w : World) (h : n < 0 ∨ 2147483647 < n) :
    Calls Try.prog 10 #[.int .i64 n] w fun e w' => e = .returned (.tuple #[.string ⟨#[]⟩, .int .i64 1]) ∧ w' = w := by
  rcases h with h | h
  · go_enter Try.func10, Try.ntmps10
    go_wp2
    go_ret2
    exact ⟨rfl, rfl⟩
  · have h' : ¬ n < 0 := by omega
    go_enter Try.func10, Try.ntmps10
    go_wp2
    go_ret2
    exact ⟨rfl, rfl⟩

theorem conv5 (w : World) (x : List Int) (j : Nat) (c : Nat) (hj : j + c = x.length) :
    (convert 65 9 (.slice (some ⟨w.heap.size, j, none⟩) c c)).run Try.prog (w.alloc (.cells (x.map (Value.int .u8)).toArray 67)) = .ok (.string (strOfNums (x.drop j))) (w.alloc (.cells (x.map (Value.int .u8)).toArray 67)) := by
  refine run_convert_bytes_arg (P := Try.prog) _ 65 5 Try.underlying65 Try.underlying5 w.heap.size j c c (x.drop j) (by simp; omega) (fun i hi => ?_) 9 Try.underlying9
  have h1 : j + i < x.length := by omega
  simp [List.getD, List.getElem?_drop, List.getElem?_eq_getElem h1]

theorem hiInt (x : Int) (m : Nat) (hx : x = (m : Int)) : bits .or .u8 (bits .and .i64 x 127 % 256) 128 = 128 + ((m % 128 : Nat) : Int) := by
  subst hx; exact Pl.high _ (by omega)

theorem loInt (x : Int) (m : Nat) (hx : x = (m : Int)) : bits .and .i64 x 127 % 256 = ((m % 128 : Nat) : Int) := by
  subst hx; exact Pl.low _ (by omega)

theorem num1 (n : Nat) (h1 : (n : Int) / 128 ≤ 0) : [bits .and .i64 (n : Int) 127 % 256] = Pl.num n := by
  rw [Pl.num, show n / 128 = 0 by omega, Pl.hi_zero, loInt _ n rfl]; rfl

theorem num2 (n : Nat) (h1 : 0 < (n : Int) / 128) (h2 : (n : Int) / 128 / 128 ≤ 0) : [bits .or .u8 (bits .and .i64 ((n : Int) / 128) 127 % 256) 128, bits .and .i64 (n : Int) 127 % 256] = Pl.num n := by
  rw [Pl.num, Pl.hi_pos _ (by omega), show n / 128 / 128 = 0 by omega, Pl.hi_zero, hiInt _ (n / 128) (by omega), loInt _ n rfl]; rfl

theorem num3 (n : Nat) (h1 : 0 < (n : Int) / 128) (h2 : 0 < (n : Int) / 128 / 128) (h3 : (n : Int) / 128 / 128 / 128 ≤ 0) : [bits .or .u8 (bits .and .i64 ((n : Int) / 128 / 128) 127 % 256) 128, bits .or .u8 (bits .and .i64 ((n : Int) / 128) 127 % 256) 128, bits .and .i64 (n : Int) 127 % 256] = Pl.num n := by
  rw [Pl.num, Pl.hi_pos _ (by omega), Pl.hi_pos _ (by omega), show n / 128 / 128 / 128 = 0 by omega, Pl.hi_zero, hiInt _ (n / 128 / 128) (by omega), hiInt _ (n / 128) (by omega), loInt _ n rfl]; rfl

theorem num4 (n : Nat) (h1 : 0 < (n : Int) / 128) (h2 : 0 < (n : Int) / 128 / 128) (h3 : 0 < (n : Int) / 128 / 128 / 128) (h4 : (n : Int) / 128 / 128 / 128 / 128 ≤ 0) : [bits .or .u8 (bits .and .i64 ((n : Int) / 128 / 128 / 128) 127 % 256) 128, bits .or .u8 (bits .and .i64 ((n : Int) / 128 / 128) 127 % 256) 128, bits .or .u8 (bits .and .i64 ((n : Int) / 128) 127 % 256) 128, bits .and .i64 (n : Int) 127 % 256] = Pl.num n := by
  rw [Pl.num, Pl.hi_pos _ (by omega), Pl.hi_pos _ (by omega), Pl.hi_pos _ (by omega), show n / 128 / 128 / 128 / 128 = 0 by omega, Pl.hi_zero, hiInt _ (n / 128 / 128 / 128) (by omega), hiInt _ (n / 128 / 128) (by omega), hiInt _ (n / 128) (by omega), loInt _ n rfl]; rfl

theorem num5 (n : Nat) (h1 : 0 < (n : Int) / 128) (h2 : 0 < (n : Int) / 128 / 128) (h3 : 0 < (n : Int) / 128 / 128 / 128) (h4 : 0 < (n : Int) / 128 / 128 / 128 / 128) (h5 : (n : Int) / 128 / 128 / 128 / 128 / 128 ≤ 0) : [bits .or .u8 (bits .and .i64 ((n : Int) / 128 / 128 / 128 / 128) 127 % 256) 128, bits .or .u8 (bits .and .i64 ((n : Int) / 128 / 128 / 128) 127 % 256) 128, bits .or .u8 (bits .and .i64 ((n : Int) / 128 / 128) 127 % 256) 128, bits .or .u8 (bits .and .i64 ((n : Int) / 128) 127 % 256) 128, bits .and .i64 (n : Int) 127 % 256] = Pl.num n := by
  rw [Pl.num, Pl.hi_pos _ (by omega), Pl.hi_pos _ (by omega), Pl.hi_pos _ (by omega), Pl.hi_pos _ (by omega), show n / 128 / 128 / 128 / 128 / 128 = 0 by omega, Pl.hi_zero, hiInt _ (n / 128 / 128 / 128 / 128) (by omega), hiInt _ (n / 128 / 128 / 128) (by omega), hiInt _ (n / 128 / 128) (by omega), hiInt _ (n / 128) (by omega), loInt _ n rfl]; rfl

theorem ret_str {s t : ByteArray} {k : IntKind} {n : Int} (h : s = t) : Ending.returned (.tuple #[.string s, .int k n]) = .returned (.tuple #[.string t, .int k n]) := by rw [h]

set_option maxHeartbeats 1000000 in
theorem number_yes (n : Nat) (w : World) (h : n ≤ 2147483647) :
    Calls Try.prog 10 #[.int .i64 n] w fun e w' => e = .returned (.tuple #[.string (strOfNums (Pl.num n)), .int .i64 0]) ∧ Below w.heap.size w w' := by
  have k5 := fun (w : World) (a b c d e : Int) => conv5 w [a, b, c, d, e] 0 5 rfl
  have k4 := fun (w : World) (a b c d e : Int) => conv5 w [a, b, c, d, e] 1 4 rfl
  have k3 := fun (w : World) (a b c d e : Int) => conv5 w [a, b, c, d, e] 2 3 rfl
  have k2 := fun (w : World) (a b c d e : Int) => conv5 w [a, b, c, d, e] 3 2 rfl
  have k1 := fun (w : World) (a b c d e : Int) => conv5 w [a, b, c, d, e] 4 1 rfl
  simp only [List.map_cons, List.map_nil, List.drop_zero, List.drop_succ_cons] at k1 k2 k3 k4 k5
  go_enter Try.func10, Try.ntmps10
  go_wp2
  go_rounds 5
  all_goals go_ret2
  · exact ⟨ret_str (congrArg strOfNums (num5 n ‹_› ‹_› ‹_› ‹_› ‹_›)), (Below.refl _ _).alloc (Nat.le_refl _) _⟩
  · exact ⟨ret_str (congrArg strOfNums (num4 n ‹_› ‹_› ‹_› ‹_›)), (Below.refl _ _).alloc (Nat.le_refl _) _⟩
  · exact ⟨ret_str (congrArg strOfNums (num3 n ‹_› ‹_› ‹_›)), (Below.refl _ _).alloc (Nat.le_refl _) _⟩
  · exact ⟨ret_str (congrArg strOfNums (num2 n ‹_› ‹_›)), (Below.refl _ _).alloc (Nat.le_refl _) _⟩
  · exact ⟨ret_str (congrArg strOfNums (num1 n ‹_›)), (Below.refl _ _).alloc (Nat.le_refl _) _⟩

end Go.Proofs.Ytjjmcnippjpclaa

namespace Go.Proofs.Ytjjmcnippjpclaa

open Go.RowKit

theorem conv1 (w : World) (b : Nat) (a : Int) (hb : b = w.heap.size) :
    (convert 65 9 (.slice (some ⟨b, 0, none⟩) 1 1)).run Try.prog (w.alloc (.cells #[.int .u8 a] 5)) = .ok (.string (strOfNums [a])) (w.alloc (.cells #[.int .u8 a] 5)) := by
  subst hb
  refine run_convert_bytes_arg (P := Try.prog) _ 65 5 Try.underlying65 Try.underlying5 w.heap.size 0 1 1 [a] rfl (fun i hi => ?_) 9 Try.underlying9
  match i, hi with
  | 0, _ => simp

theorem rn1 (n : Nat) (h1 : (n : Int) / 128 ≤ 0) : strOfNums [(n : Int) % 128] = strOfNums (Pl.num n) := by
  rw [Pl.num, show n / 128 = 0 by omega, Pl.hi_zero]
  refine congrArg strOfNums ?_
  simp

theorem rn2 (n : Nat) (h1 : 0 < (n : Int) / 128) (h2 : (n : Int) / 128 / 128 ≤ 0) : strOfNums [128 + (n : Int) / 128 % 128] ++ strOfNums [(n : Int) % 128] = strOfNums (Pl.num n) := by
  rw [← Pl.strOfNums_append, Pl.num, Pl.hi_pos _ (by omega), show n / 128 / 128 = 0 by omega, Pl.hi_zero]
  refine congrArg strOfNums ?_
  simp

theorem rn3 (n : Nat) (h1 : 0 < (n : Int) / 128) (h2 : 0 < (n : Int) / 128 / 128) (h3 : (n : Int) / 128 / 128 / 128 ≤ 0) : strOfNums [128 + (n : Int) / 128 / 128 % 128] ++ (strOfNums [128 + (n : Int) / 128 % 128] ++ strOfNums [(n : Int) % 128]) = strOfNums (Pl.num n) := by
  rw [← Pl.strOfNums_append, ← Pl.strOfNums_append, Pl.num, Pl.hi_pos _ (by omega), Pl.hi_pos _ (by omega), show n / 128 / 128 / 128 = 0 by omega, Pl.hi_zero]
  refine congrArg strOfNums ?_
  simp

theorem rn4 (n : Nat) (h1 : 0 < (n : Int) / 128) (h2 : 0 < (n : Int) / 128 / 128) (h3 : 0 < (n : Int) / 128 / 128 / 128) (h4 : (n : Int) / 128 / 128 / 128 / 128 ≤ 0) : strOfNums [128 + (n : Int) / 128 / 128 / 128 % 128] ++ (strOfNums [128 + (n : Int) / 128 / 128 % 128] ++ (strOfNums [128 + (n : Int) / 128 % 128] ++ strOfNums [(n : Int) % 128])) = strOfNums (Pl.num n) := by
  rw [← Pl.strOfNums_append, ← Pl.strOfNums_append, ← Pl.strOfNums_append, Pl.num, Pl.hi_pos _ (by omega), Pl.hi_pos _ (by omega), Pl.hi_pos _ (by omega), show n / 128 / 128 / 128 / 128 = 0 by omega, Pl.hi_zero]
  refine congrArg strOfNums ?_
  simp

theorem rn5 (n : Nat) (h1 : 0 < (n : Int) / 128) (h2 : 0 < (n : Int) / 128 / 128) (h3 : 0 < (n : Int) / 128 / 128 / 128) (h4 : 0 < (n : Int) / 128 / 128 / 128 / 128) (h5 : (n : Int) / 128 / 128 / 128 / 128 / 128 ≤ 0) : strOfNums [128 + (n : Int) / 128 / 128 / 128 / 128 % 128] ++ (strOfNums [128 + (n : Int) / 128 / 128 / 128 % 128] ++ (strOfNums [128 + (n : Int) / 128 / 128 % 128] ++ (strOfNums [128 + (n : Int) / 128 % 128] ++ strOfNums [(n : Int) % 128]))) = strOfNums (Pl.num n) := by
  rw [← Pl.strOfNums_append, ← Pl.strOfNums_append, ← Pl.strOfNums_append, ← Pl.strOfNums_append, Pl.num, Pl.hi_pos _ (by omega), Pl.hi_pos _ (by omega), Pl.hi_pos _ (by omega), Pl.hi_pos _ (by omega), show n / 128 / 128 / 128 / 128 / 128 = 0 by omega, Pl.hi_zero]
  refine congrArg strOfNums ?_
  simp

theorem ret_s {s t : ByteArray} (h : s = t) : Ending.returned (.string s) = .returned (.string t) := by rw [h]

theorem ret_int {k : IntKind} {a b : Int} (h : a = b) : Ending.returned (.int k a) = .returned (.int k b) := by rw [h]

def pickN (c n : Int) : Int := (if c < 0 then -(c + 1) else c) % n

theorem pick_any (c n : Int) (w : World) (h1 : -9223372036854775808 ≤ c) (h2 : c ≤ 9223372036854775807) (h3 : 0 < n) (h4 : n ≤ 9223372036854775807) :
    Calls Try.prog 30 #[.int .i64 c, .int .i64 n] w fun e w' => e = .returned (.int .i64 (pickN c n)) ∧ w' = w := by
  by_cases hc : c < 0
  · go_enter Try.func30, Try.ntmps30
    go_wp2
    go_ret
    exact ⟨ret_int (by unfold pickN; rw [if_pos hc, ← Int.neg_tmod]; exact Int.tmod_eq_emod_of_nonneg (by omega)), rfl⟩
  · go_enter Try.func30, Try.ntmps30
    go_wp2
    go_ret
    exact ⟨ret_int (by unfold pickN; rw [if_neg (by omega)]), rfl⟩

end Go.Proofs.Ytjjmcnippjpclaa

namespace Go.Proofs.Ytjjmcnippjpclaa

open Go.RowKit

/-- what Read answers, by what was read. -/
def rdRes (at' : Nat) (o : Option (Nat × Nat)) : Ending := match o with
  | none => .returned (.tuple #[.int .i64 0, .int .i64 0, .int .i64 3])
  | some p => .returned (.tuple #[.int .i64 (p.1 : Int), .int .i64 ((at' + p.2 : Nat) : Int), .int .i64 0])

set_option maxRecDepth 100000 in
set_option maxHeartbeats 400000 in
theorem read_no (s : ByteArray) (a : Int) (w : World) (hs : s.size ≤ maxLen) (h : a < 0 ∨ (s.size : Int) < a) :
    Calls Try.prog 12 #[.string s, .int .i64 a] w fun e w' => e = .returned (.tuple #[.int .i64 0, .int .i64 0, .int .i64 1]) ∧ w' = w := by
  unfold maxLen at hs
  rcases h with h | h
  · go_enter Try.func12, Try.ntmps12
    go_wp2
    go_ret3
    exact ⟨rfl, rfl⟩
  · have h' : ¬ a < 0 := by omega
    go_enter Try.func12, Try.ntmps12
    go_wp2
    go_ret3
    exact ⟨rfl, rfl⟩

theorem orv (n : Nat) (c : UInt8) (h : n ≤ 16777215) : bits .or .i64 ((n : Int) * 128) (wrap64 (bits .and .u8 (c.toNat : Int) 127)) = ((n * 128 + c.toNat % 128 : Nat) : Int) := by
  rw [Pl.u8and127 _ (UInt8.toNat_lt c), show wrap64 ((c.toNat % 128 : Nat) : Int) = ((c.toNat % 128 : Nat) : Int) by unfold wrap64; omega, Pl.or7 n _ (by omega) (by omega)]
  omega

theorem ret3 {k : IntKind} {a b c d : Int} {v : Value} (h : a = c) (h' : b = d) : Ending.returned (.tuple #[.int k a, .int k b, v]) = .returned (.tuple #[.int k c, .int k d, v]) := by rw [h, h']

theorem drop_at (s : ByteArray) (k : Nat) (h : k < s.size) : s.data.toList.drop k = s[k] :: s.data.toList.drop (k + 1) := by
  rw [List.drop_eq_getElem_cons (by simpa using h)]; rfl

set_option maxRecDepth 100000 in
set_option maxHeartbeats 400000 in
theorem read_end (s : ByteArray) (w : World) :
    Calls Try.prog 12 #[.string s, .int .i64 s.size] w fun e w' => e = rdRes s.size (Pl.rd (s.data.toList.drop s.size)) ∧ w' = w := by
  have e : s.data.toList.drop s.size = [] := List.drop_eq_nil_of_le (by simp)
  rw [e]
  clear e
  go_enter Try.func12, Try.ntmps12
  go_wp2
  go_rounds 1
  go_ret3
  exact ⟨rfl, rfl⟩

set_option maxRecDepth 100000 in
set_option maxHeartbeats 400000 in
theorem read_empty (s : ByteArray) (a : Nat) (w : World) (h : a < s.size) (hb : s[a].toNat = 128) :
    Calls Try.prog 12 #[.string s, .int .i64 a] w fun e w' => e = rdRes a (Pl.rd (s.data.toList.drop a)) ∧ w' = w := by
  have e : Pl.rd (s.data.toList.drop a) = none := by
    rw [drop_at s a h]; unfold Pl.rd; rw [if_pos]
    rw [List.head?_cons]; exact congrArg some (UInt8.toNat_inj.1 hb)
  rw [e]
  clear e
  go_enter Try.func12, Try.ntmps12
  go_wp2
  go_ret3
  exact ⟨rfl, rfl⟩

set_option maxRecDepth 100000 in
set_option maxHeartbeats 400000 in
theorem read_in (s : ByteArray) (a : Nat) (w : World) (hs : s.size ≤ maxLen) (h : a < s.size) (hb : s[a].toNat ≠ 128) :
    Calls Try.prog 12 #[.string s, .int .i64 a] w fun e w' => e = rdRes a (Pl.rdF 0 (s.data.toList.drop a)) ∧ w' = w := by
  unfold maxLen at hs
  have hb1 : (((s[a].toNat : Nat) : Int) == 128) = false := by simp; omega
  have hb2 : decide (s.size < a) = false := by simp; omega
  have hb3 : decide ((a : Int) < 0) = false := by simp
  go_enter Try.func12, Try.ntmps12
  go_wp2
  go_loop [7, 8] (fun nv iv => ∃ n j : Nat, a + j ≤ s.size ∧ n ≤ 2147483647 ∧ nv = .int .i64 n ∧ iv = .int .i64 ((a + j : Nat) : Int) ∧ Hid (Pl.rdF 0 (s.data.toList.drop a) = (Pl.rdF n (s.data.toList.drop (a + j))).map fun p => (p.1, p.2 + j))) (fun _ i => s.size - (intOf i).toNat)
  case atStart => exact ⟨0, 0, by omega, by omega, rfl, rfl, by show _ = _; simp⟩
  case round =>
    clear hb hb1 hb2 hb3
    obtain ⟨n, j, hj, hn, rfl, rfl, HR⟩ := hrel
    by_cases hlt : a + j < s.size
    · have hc := UInt8.toNat_lt s[a + j]
      go_wp2
      · go_ret3
        rw [HR.out, Pl.rdF_stop n _ (by omega)]
        exact ⟨rfl, rfl⟩
      · go_ret3
        rw [HR.out, drop_at s (a + j) hlt, Pl.rdF_last n _ _ (by omega) (by omega)]
        exact ⟨ret3 (orv n _ (by omega)) (by show _ = ((a + (1 + j) : Nat) : Int); omega), rfl⟩
      · go_round
        case rel =>
          refine ⟨n * 128 + s[a + j].toNat % 128, j + 1, by omega, by omega, val_int (orv n _ (by omega)), by go_num, ?_⟩
          show _ = _
          rw [HR.out, drop_at s (a + j) hlt, Pl.rdF_go n _ _ (by omega) (by omega), Option.map_map]
          congr 1
          funext p
          show (p.1, p.2 + 1 + j) = (p.1, p.2 + (j + 1))
          congr 1
          omega
        case measure => simp [intOf]; omega
    · go_wp2
      go_ret3
      have e : s.data.toList.drop (a + j) = [] := List.drop_eq_nil_of_le (by simp; omega)
      rw [HR.out, e]
      exact ⟨rfl, rfl⟩

theorem read_any (s : ByteArray) (a : Nat) (w : World) (hs : s.size ≤ maxLen) (h : a ≤ s.size) :
    Calls Try.prog 12 #[.string s, .int .i64 a] w fun e w' => e = rdRes a (Pl.rd (s.data.toList.drop a)) ∧ w' = w := by
  by_cases h1 : a = s.size
  · subst h1; exact read_end s w
  · have h2 : a < s.size := by omega
    by_cases h3 : s[a].toNat = 128
    · exact read_empty s a w h2 h3
    · have e : Pl.rd (s.data.toList.drop a) = Pl.rdF 0 (s.data.toList.drop a) := by
        unfold Pl.rd; rw [if_neg]
        rw [drop_at s a h2, List.head?_cons]
        intro e; injection e with e; exact h3 (by rw [e]; rfl)
      rw [e]
      exact read_in s a w hs h2 h3

end Go.Proofs.Ytjjmcnippjpclaa

namespace Go.Proofs.Ytjjmcnippjpclaa

open Go.RowKit

/-- what the document's reading answers, by what was read. -/
def rrRes (at' : Nat) (o : Option (Nat × Nat)) : Ending := match o with
  | none => .returned (.tuple #[.int .i64 0, .int .i64 (-1)])
  | some p => .returned (.tuple #[.int .i64 (p.1 : Int), .int .i64 ((at' + p.2 : Nat) : Int)])

theorem slice_at (s : ByteArray) (a j : Nat) (w : World) (h : a + j < s.size) :
    (Instr.slice 9 (.string s) (some (.int .i64 (a : Int))) (some (.int .i64 ((a : Int) + (j : Int) + 1))) none).run Try.prog w = .ok (.string (s.extract a (a + j + 1))) w := by
  rw [run_slice_string (P := Try.prog) w 9 s .i64 .i64 (a : Int) ((a : Int) + (j : Int) + 1) Try.underlying9 (by omega) (by omega) (by omega)]
  rw [show ((a : Int) + (j : Int) + 1).toNat = a + j + 1 by omega, Int.toNat_natCast]

theorem split_at (s : ByteArray) (a j : Nat) (h : a + j < s.size) :
    s.data.toList.drop a = (s.data.toList.drop a).take j ++ s[a + j] :: s.data.toList.drop (a + j + 1) := by
  rw [← drop_at s (a + j) h, ← List.drop_drop, List.take_append_drop]

theorem ext_at (s : ByteArray) (a j : Nat) (h : a + j < s.size) :
    (s.extract a (a + j + 1)).data.toList = (s.data.toList.drop a).take j ++ [s[a + j]] := by
  rw [Lib.extract_data, show a + j + 1 - a = j + 1 by omega]
  conv => lhs; rw [split_at s a j h]
  have hl : ((s.data.toList.drop a).take j).length = j := by
    have : s.data.toList.length = s.size := by simp
    simp only [List.length_take, List.length_drop]; omega
  rw [List.take_append, hl, show j + 1 - j = 1 by omega, List.take_of_length_le (by omega)]
  rfl

theorem ret2 {k : IntKind} {a b c d : Int} (h : a = c) (h' : b = d) : Ending.returned (.tuple #[.int k a, .int k b]) = .returned (.tuple #[.int k c, .int k d]) := by rw [h, h']

theorem take_len (s : ByteArray) (a j : Nat) (h : a + j ≤ s.size) : ((s.data.toList.drop a).take j).length = j := by
  have : s.data.toList.length = s.size := by simp
  simp only [List.length_take, List.length_drop]; omega

theorem take_more (s : ByteArray) (a j : Nat) (h : a + j < s.size) : (s.data.toList.drop a).take (j + 1) = (s.data.toList.drop a).take j ++ [s[a + j]] := by
  have := ext_at s a j h
  rwa [Lib.extract_data, show a + j + 1 - a = j + 1 by omega] at this

theorem rd_fit (s : ByteArray) (a j v c : Nat) (x : Int) (h : a + j < s.size) (hm : Pl.more ((s.data.toList.drop a).take j) = true) (hv : Pl.valF 0 ((s.data.toList.drop a).take j) = v)
    (hC : s[a + j].toNat = c) (hc : (c : Int) < 128) (hx : 128 * (v : Int) + (c : Int) % 128 = x) (hx1 : x ≤ 2147483647)
    (he : (!(strOfNums (Pl.num x.toNat)).toList == (s.extract a (a + j + 1)).toList) = false) : Pl.rd (s.data.toList.drop a) = some (x.toNat, j + 1) := by
  have e : x.toNat = Pl.valF 0 ((s.data.toList.drop a).take j ++ [s[a + j]]) := by rw [Pl.valF_snoc, hv, hC]; omega
  have hl := take_len s a j (by omega)
  rw [split_at s a j h, Pl.rd_yes _ s[a + j] _ hm (by omega) (by rw [← e]; omega), hl, e]
  rw [← e, ← ext_at s a j h]
  have he2 : (strOfNums (Pl.num x.toNat)).toList = (s.extract a (a + j + 1)).toList := by simpa using he
  rw [ByteArray.toList_eq, ByteArray.toList_eq] at he2
  rw [← he2]; rfl

theorem rd_unfit (s : ByteArray) (a j v c : Nat) (x : Int) (h : a + j < s.size) (hm : Pl.more ((s.data.toList.drop a).take j) = true) (hv : Pl.valF 0 ((s.data.toList.drop a).take j) = v)
    (hC : s[a + j].toNat = c) (hc : (c : Int) < 128) (hx : 128 * (v : Int) + (c : Int) % 128 = x)
    (he : 2147483647 < x ∨ (!(strOfNums (Pl.num x.toNat)).toList == (s.extract a (a + j + 1)).toList) = true) : Pl.rd (s.data.toList.drop a) = none := by
  have e : x.toNat = Pl.valF 0 ((s.data.toList.drop a).take j ++ [s[a + j]]) := by rw [Pl.valF_snoc, hv, hC]; omega
  rw [split_at s a j h]
  refine Pl.rd_no _ s[a + j] _ hm (by omega) ?_
  rw [← e]
  rcases he with he | he
  · exact .inl (by omega)
  · refine .inr ?_
    rw [← ext_at s a j h]
    have he2 : (strOfNums (Pl.num x.toNat)).toList ≠ (s.extract a (a + j + 1)).toList := by simpa using he
    rw [ByteArray.toList_eq, ByteArray.toList_eq] at he2
    exact he2

end Go.Proofs.Ytjjmcnippjpclaa
