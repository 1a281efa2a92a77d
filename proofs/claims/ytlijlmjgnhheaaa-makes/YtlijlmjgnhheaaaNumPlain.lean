/-
  Plain facts on the text of a number (P3): no program is named here.
-/
import Derived.WalkKit
import Derived.Laws.BytesArg
import Derived.Laws.BitsAllLaws
import Derived.Laws.Bits128
namespace Go.Proofs.Ytlijlmjgnhheaaa
namespace Pl

/-- the groups ahead of the last one, each with its highest bit set: so many at most. -/
def hiF : Nat → Nat → List Int
  | 0, _ => []
  | k + 1, n => if n = 0 then [] else hiF k (n / 128) ++ [128 + ((n % 128 : Nat) : Int)]

/-- all of them. -/
def hi (n : Nat) : List Int := hiF n n

theorem hiF_enough : ∀ (k n : Nat), n ≤ k → ∀ m, n ≤ m → hiF k n = hiF m n := by
  intro k
  induction k with
  | zero =>
    intro n h m _
    have : n = 0 := by omega
    subst this
    cases m with
    | zero => rfl
    | succ m => rw [hiF, hiF, if_pos rfl]
  | succ k ih =>
    intro n h m hm
    by_cases h0 : n = 0
    · subst h0
      cases m with
      | zero => rw [hiF, hiF, if_pos rfl]
      | succ m => rw [hiF, hiF, if_pos rfl, if_pos rfl]
    · cases m with
      | zero => omega
      | succ m => rw [hiF, hiF, if_neg h0, if_neg h0, ih (n / 128) (by omega) m (by omega)]

/-- the text of a number, byte by byte. -/
def num (n : Nat) : List Int := hi (n / 128) ++ [((n % 128 : Nat) : Int)]

theorem hi_zero : hi 0 = [] := rfl
theorem hi_pos (n : Nat) (h : 0 < n) : hi n = hi (n / 128) ++ [128 + ((n % 128 : Nat) : Int)] := by
  obtain ⟨k, rfl⟩ : ∃ k, n = k + 1 := ⟨n - 1, by omega⟩
  unfold hi
  rw [hiF, if_neg (by omega), hiF_enough k ((k + 1) / 128) (by omega) ((k + 1) / 128) (by omega)]

theorem hi_mem (n : Nat) : ∀ x ∈ hi n, 128 ≤ x ∧ x < 256 := by
  induction n using Nat.strongRecOn with
  | _ n ih =>
    by_cases h : n = 0
    · subst h; rw [hi_zero]; intro x hx; cases hx
    · rw [hi_pos n (by omega)]
      intro x hx
      rw [List.mem_append] at hx
      rcases hx with hx | hx
      · exact ih _ (by omega) x hx
      · simp at hx; omega

/-- how long: 'hi' of a number below 128^k has at most k groups. -/
theorem hi_len : ∀ (k n : Nat), n < 128 ^ k → (hi n).length ≤ k := by
  intro k
  induction k with
  | zero => intro n h; have : n = 0 := by simpa using h
            subst this; rw [hi_zero]; simp
  | succ k ih =>
    intro n h
    by_cases h0 : n = 0
    · subst h0; rw [hi_zero]; simp
    · rw [hi_pos n (by omega)]
      have := ih (n / 128) (by rw [Nat.pow_succ] at h; omega)
      simp; omega

theorem strOfNums_append (a b : List Int) : strOfNums (a ++ b) = strOfNums a ++ strOfNums b := by
  apply ByteArray.ext
  simp [strOfNums]

theorem strOfNums_size (a : List Int) : (strOfNums a).size = a.length := by
  simp [strOfNums, ByteArray.size]

theorem or7 (x y : Nat) (h : x < 72057594037927936) (hy : y < 128) : bits .or .i64 ((x : Int) * 128) (y : Int) = (x : Int) * 128 + (y : Int) := by
  have e : ((x : Int) * 128) = ((x * 128 : Nat) : Int) := by omega
  rw [e]
  show IntKind.i64.wrap ((BitVec.ofInt 64 ((x * 128 : Nat) : Int) ||| BitVec.ofInt 64 (y : Int)).toNat : Int) = _
  rw [BitVec.toNat_or, ofInt_u64 _ (by omega), ofInt_u64 _ (by omega), nat_join 7 (x * 128) y (by omega) (by omega), IntKind.wrap_i64]
  omega

theorem or128 (y : Nat) (h : y < 128) : bits .or .u8 (y : Int) 128 = 128 + (y : Int) := by
  have := u8_or_nat y 128 (by omega) (by omega)
  rw [show ((128 : Nat) : Int) = 128 from rfl] at this
  rw [this, Nat.or_comm, nat_join 7 128 y (by omega) (by omega)]
  omega

theorem u8and127 (y : Nat) (h : y < 256) : bits .and .u8 (y : Int) 127 = ((y % 128 : Nat) : Int) := by
  have := u8_and_nat y 127 (by omega) (by omega)
  rw [show ((127 : Nat) : Int) = 127 from rfl] at this
  rw [this, nat_mask7]

theorem low (x : Int) (h0 : 0 ≤ x) : bits .and .i64 x 127 % 256 = ((x.toNat % 128 : Nat) : Int) := by
  rw [i64_and127]; omega

theorem high (x : Int) (h0 : 0 ≤ x) : bits .or .u8 (bits .and .i64 x 127 % 256) 128 = 128 + ((x.toNat % 128 : Nat) : Int) := by
  rw [low x h0]; exact or128 _ (by omega)

end Pl
end Go.Proofs.Ytlijlmjgnhheaaa
