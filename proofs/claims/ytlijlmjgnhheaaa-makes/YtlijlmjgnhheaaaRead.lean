/-
  The walks of Read and of the document's own reading.
-/
import Derived.Test.YtlijlmjgnhheaaaRef
import Derived.Test.YtlijlmjgnhheaaaReadPlain
namespace Go.Proofs.Ytlijlmjgnhheaaa
open Go.RowKit

/-- what Read answers, by what was read. -/
def rdRes (at' : Nat) (o : Option (Nat × Nat)) : Ending := match o with
  | none => .returned (.tuple #[.int .i64 0, .int .i64 0, .int .i64 3])
  | some p => .returned (.tuple #[.int .i64 (p.1 : Int), .int .i64 ((at' + p.2 : Nat) : Int), .int .i64 0])

set_option maxRecDepth 100000 in
set_option maxHeartbeats 400000 in
theorem read_no (s : ByteArray) (a : Int) (w : World) (hs : s.size ≤ maxLen) (h : a < 0 ∨ (s.size : Int) < a) :
    Calls Try.prog 12 #[.string s, .int .i64 a] w fun e w' => e = .returned (.tuple #[.int .i64 0, .int .i64 0, .int .i64 1]) ∧ w' = w := by
  unfold maxLen at hs
  rcases h with h | h
  · go_enter Try.func12, Try.ntmps12
    go_wp2
    go_ret3
    exact ⟨rfl, rfl⟩
  · have h' : ¬ a < 0 := by omega
    go_enter Try.func12, Try.ntmps12
    go_wp2
    go_ret3
    exact ⟨rfl, rfl⟩

theorem orv (n : Nat) (c : UInt8) (h : n ≤ 16777215) : bits .or .i64 ((n : Int) * 128) (wrap64 (bits .and .u8 (c.toNat : Int) 127)) = ((n * 128 + c.toNat % 128 : Nat) : Int) := by
  rw [Pl.u8and127 _ (UInt8.toNat_lt c), show wrap64 ((c.toNat % 128 : Nat) : Int) = ((c.toNat % 128 : Nat) : Int) by unfold wrap64; omega, Pl.or7 n _ (by omega) (by omega)]
  omega

theorem ret3 {k : IntKind} {a b c d : Int} {v : Value} (h : a = c) (h' : b = d) : Ending.returned (.tuple #[.int k a, .int k b, v]) = .returned (.tuple #[.int k c, .int k d, v]) := by rw [h, h']

theorem drop_at (s : ByteArray) (k : Nat) (h : k < s.size) : s.data.toList.drop k = s[k] :: s.data.toList.drop (k + 1) := by
  rw [List.drop_eq_getElem_cons (by simpa using h)]; rfl

set_option maxRecDepth 100000 in
set_option maxHeartbeats 400000 in
theorem read_end (s : ByteArray) (w : World) :
    Calls Try.prog 12 #[.string s, .int .i64 s.size] w fun e w' => e = rdRes s.size (Pl.rd (s.data.toList.drop s.size)) ∧ w' = w := by
  have e : s.data.toList.drop s.size = [] := List.drop_eq_nil_of_le (by simp)
  rw [e]
  clear e
  go_enter Try.func12, Try.ntmps12
  go_wp2
  go_rounds 1
  go_ret3
  exact ⟨rfl, rfl⟩

set_option maxRecDepth 100000 in
set_option maxHeartbeats 400000 in
theorem read_empty (s : ByteArray) (a : Nat) (w : World) (h : a < s.size) (hb : s[a].toNat = 128) :
    Calls Try.prog 12 #[.string s, .int .i64 a] w fun e w' => e = rdRes a (Pl.rd (s.data.toList.drop a)) ∧ w' = w := by
  have e : Pl.rd (s.data.toList.drop a) = none := by
    rw [drop_at s a h]; unfold Pl.rd; rw [if_pos]
    rw [List.head?_cons]; exact congrArg some (UInt8.toNat_inj.1 hb)
  rw [e]
  clear e
  go_enter Try.func12, Try.ntmps12
  go_wp2
  go_ret3
  exact ⟨rfl, rfl⟩

set_option maxRecDepth 100000 in
set_option maxHeartbeats 400000 in
theorem read_in (s : ByteArray) (a : Nat) (w : World) (hs : s.size ≤ maxLen) (h : a < s.size) (hb : s[a].toNat ≠ 128) :
    Calls Try.prog 12 #[.string s, .int .i64 a] w fun e w' => e = rdRes a (Pl.rdF 0 (s.data.toList.drop a)) ∧ w' = w := by
  unfold maxLen at hs
  have hb1 : (((s[a].toNat : Nat) : Int) == 128) = false := by simp; omega
  have hb2 : decide (s.size < a) = false := by simp; omega
  have hb3 : decide ((a : Int) < 0) = false := by simp
  go_enter Try.func12, Try.ntmps12
  go_wp2
  go_loop [7, 8] (fun nv iv => ∃ n j : Nat, a + j ≤ s.size ∧ n ≤ 2147483647 ∧ nv = .int .i64 n ∧ iv = .int .i64 ((a + j : Nat) : Int) ∧ Hid (Pl.rdF 0 (s.data.toList.drop a) = (Pl.rdF n (s.data.toList.drop (a + j))).map fun p => (p.1, p.2 + j))) (fun _ i => s.size - (intOf i).toNat)
  case atStart => exact ⟨0, 0, by omega, by omega, rfl, rfl, by show _ = _; simp⟩
  case round =>
    clear hb hb1 hb2 hb3
    obtain ⟨n, j, hj, hn, rfl, rfl, HR⟩ := hrel
    by_cases hlt : a + j < s.size
    · have hc := UInt8.toNat_lt s[a + j]
      go_wp2
      · go_ret3
        rw [HR.out, Pl.rdF_stop n _ (by omega)]
        exact ⟨rfl, rfl⟩
      · go_ret3
        rw [HR.out, drop_at s (a + j) hlt, Pl.rdF_last n _ _ (by omega) (by omega)]
        exact ⟨ret3 (orv n _ (by omega)) (by show _ = ((a + (1 + j) : Nat) : Int); omega), rfl⟩
      · go_round
        case rel =>
          refine ⟨n * 128 + s[a + j].toNat % 128, j + 1, by omega, by omega, val_int (orv n _ (by omega)), by go_num, ?_⟩
          show _ = _
          rw [HR.out, drop_at s (a + j) hlt, Pl.rdF_go n _ _ (by omega) (by omega), Option.map_map]
          congr 1
          funext p
          show (p.1, p.2 + 1 + j) = (p.1, p.2 + (j + 1))
          congr 1
          omega
        case measure => simp [intOf]; omega
    · go_wp2
      go_ret3
      have e : s.data.toList.drop (a + j) = [] := List.drop_eq_nil_of_le (by simp; omega)
      rw [HR.out, e]
      exact ⟨rfl, rfl⟩
theorem read_any (s : ByteArray) (a : Nat) (w : World) (hs : s.size ≤ maxLen) (h : a ≤ s.size) :
    Calls Try.prog 12 #[.string s, .int .i64 a] w fun e w' => e = rdRes a (Pl.rd (s.data.toList.drop a)) ∧ w' = w := by
  by_cases h1 : a = s.size
  · subst h1; exact read_end s w
  · have h2 : a < s.size := by omega
    by_cases h3 : s[a].toNat = 128
    · exact read_empty s a w h2 h3
    · have e : Pl.rd (s.data.toList.drop a) = Pl.rdF 0 (s.data.toList.drop a) := by
        unfold Pl.rd; rw [if_neg]
        rw [drop_at s a h2, List.head?_cons]
        intro e; injection e with e; exact h3 (by rw [e]; rfl)
      rw [e]
      exact read_in s a w hs h2 h3

end Go.Proofs.Ytlijlmjgnhheaaa
