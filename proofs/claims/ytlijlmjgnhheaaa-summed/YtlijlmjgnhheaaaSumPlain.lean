/-
  Plain facts on a sum when one byte is turned (P4): no program is named here.
-/
import Derived.Test.YtlijlmjgnhheaaaPlain
import Derived.Laws.BitsAllLaws
namespace Go.Proofs.Ytlijlmjgnhheaaa
namespace Pl

def total (l : List UInt8) : Nat := (l.map UInt8.toNat).sum

theorem fold_fst (l : List UInt8) : ∀ p : Int × Int, (l.foldl step p).1 % 65521 = (p.1 + (total l : Int)) % 65521 := by
  induction l with
  | nil => intro p; simp [total]
  | cons c r ih =>
    intro p
    rw [List.foldl_cons, ih]
    have : total (c :: r) = c.toNat + total r := by simp [total]
    rw [this]
    unfold step
    simp only
    omega

theorem ad_fst (l : List UInt8) : (ad l).1 = (1 + (total l : Int)) % 65521 := by
  have h := fold_fst l (1, 0)
  have b := ad_bd l
  have e : (ad l).1 % 65521 = (1 + (total l : Int)) % 65521 := h
  rw [← e]
  omega

theorem total_set (l : List UInt8) : ∀ (i : Nat) (h : i < l.length) (c : UInt8), total (l.set i c) + l[i].toNat = total l + c.toNat := by
  induction l with
  | nil => intro i h; simp at h
  | cons x r ih =>
    intro i h c
    cases i with
    | zero => simp [total]; omega
    | succ i =>
      have := ih i (by simpa using h) c
      simp [total] at this ⊢
      omega

theorem ad_set (l : List UInt8) (i : Nat) (h : i < l.length) (c : UInt8) (hc : c ≠ l[i]) : (ad (l.set i c)).1 ≠ (ad l).1 := by
  rw [ad_fst, ad_fst]
  have h1 := total_set l i h c
  have h2 := UInt8.toNat_lt c
  have h3 := UInt8.toNat_lt l[i]
  have h4 : c.toNat ≠ l[i].toNat := fun e => hc (UInt8.toNat_inj.1 e)
  omega

theorem sumOf_fst (a b c d : Int) (ha : 0 ≤ a ∧ a < 65521) (hc : 0 ≤ c ∧ c < 65521) (h : sumOf a b = sumOf c d) : a = c := by
  have h1 := congrArg (fun s : ByteArray => s.data.toList) h
  simp only [sumOf, strOfNums_data, List.map_cons, List.map_nil, List.cons.injEq, and_true] at h1
  obtain ⟨_, _, h2, h3⟩ := h1
  have g2 := congrArg UInt8.toNat h2
  have g3 := congrArg UInt8.toNat h3
  rw [UInt8.toNat_ofNat', UInt8.toNat_ofNat'] at g2 g3
  omega

/-- turning one byte turns the sum. -/
theorem sum_turned (l : List UInt8) (i : Nat) (h : i < l.length) (c : UInt8) (hc : c ≠ l[i]) :
    sumOf (ad (l.set i c)).1 (ad (l.set i c)).2 ≠ sumOf (ad l).1 (ad l).2 := by
  intro e
  have b1 := ad_bd (l.set i c)
  have b2 := ad_bd l
  exact ad_set l i h c hc (sumOf_fst _ _ _ _ ⟨b1.1, b1.2.1⟩ ⟨b2.1, b2.2.1⟩ e)

/-- a byte and a number that is not 0: another byte. -/
theorem xor_ne (x y : Nat) (hy : y ≠ 0) : x ^^^ y ≠ x := by
  intro h
  have : x ^^^ (x ^^^ y) = x ^^^ x := by rw [h]
  rw [← Nat.xor_assoc, Nat.xor_self, Nat.zero_xor] at this
  exact hy this

theorem u8xor (x y : Nat) (hx : x < 256) (hy : y < 256) : bits .xor .u8 (x : Int) (y : Int) = ((x ^^^ y : Nat) : Int) := u8_xor_nat x y hx hy

theorem xor_lt (x y : Nat) (hx : x < 256) (hy : y < 256) : x ^^^ y < 256 := Nat.xor_lt_two_pow (n := 8) hx hy

theorem sum_size (a b : Int) : (sumOf a b).size = 4 := by simp [sumOf, strOfNums_size]

end Pl
end Go.Proofs.Ytlijlmjgnhheaaa
