/-
  Plain facts on the sum of a text (P4) and on numbers: no program is named here.
-/
import Derived.WalkKit
import Derived.Laws.BytesArg
namespace Go.Proofs.Ytlijlmjgnhheaaa
namespace Pl

/-- one byte of a sum: the two rests. -/
def step (p : Int × Int) (c : UInt8) : Int × Int := ((p.1 + (c.toNat : Int)) % 65521, (p.2 + (p.1 + (c.toNat : Int)) % 65521) % 65521)
def ad (l : List UInt8) : Int × Int := l.foldl step (1, 0)

theorem ad_snoc (l : List UInt8) (c : UInt8) : ad (l ++ [c]) = step (ad l) c := by simp [ad]

theorem step_bd (p : Int × Int) (c : UInt8) : 0 ≤ (step p c).1 ∧ (step p c).1 < 65521 ∧ 0 ≤ (step p c).2 ∧ (step p c).2 < 65521 := by
  unfold step; omega

theorem fold_bd (l : List UInt8) : ∀ p : Int × Int, 0 ≤ p.1 ∧ p.1 < 65521 ∧ 0 ≤ p.2 ∧ p.2 < 65521 → 0 ≤ (l.foldl step p).1 ∧ (l.foldl step p).1 < 65521 ∧ 0 ≤ (l.foldl step p).2 ∧ (l.foldl step p).2 < 65521 := by
  induction l with
  | nil => intro p h; exact h
  | cons c r ih => intro p _; exact ih _ (step_bd p c)

theorem ad_bd (l : List UInt8) : 0 ≤ (ad l).1 ∧ (ad l).1 < 65521 ∧ 0 ≤ (ad l).2 ∧ (ad l).2 < 65521 := fold_bd l _ (by decide)

theorem take_snoc (s : ByteArray) (k : Nat) (h : k < s.size) : s.data.toList.take (k + 1) = s.data.toList.take k ++ [s[k]] := by
  rw [List.take_succ_eq_append_getElem (by simpa using h)]; rfl

/-- the four bytes of a sum. -/
def sumOf (a b : Int) : ByteArray := strOfNums [b / 256, b % 256, a / 256, a % 256]

end Pl
end Go.Proofs.Ytlijlmjgnhheaaa
