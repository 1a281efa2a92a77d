/-
  What tie makes of the lists: without memory.
-/
import Derived.Test.YtlijlmjgnhheaaaWebMem
namespace Go.Proofs.Ytlijlmjgnhheaaa

/-- the lists when the first i steps have been looked at for the Copy k. -/
def tieL (l : List _root_.Pl.Sp) (k i : Nat) (L : Nat → List Nat) : Nat → List Nat := fun m =>
  if m < l.length then (if m < i ∧ _root_.Pl.tied l k m = true then L m ++ [k] else L m)
  else if m = l.length + k then L m ++ (List.range i).filter (_root_.Pl.tied l k) else L m
def tieW (l : List _root_.Pl.Sp) (k i : Nat) (W : Nat → Nat) : Nat → Nat := fun m => if m < i ∧ _root_.Pl.tied l k m = true then W m + 1 else W m

theorem tieL_free {l : List _root_.Pl.Sp} {k i : Nat} (L : Nat → List Nat) (h : ∀ m, m < i → _root_.Pl.tied l k m = false) (m : Nat) : tieL l k i L m = L m := by
  unfold tieL
  split
  · rw [if_neg]
    intro ⟨h1, h2⟩
    rw [h m h1] at h2; cases h2
  · split
    · have : (List.range i).filter (_root_.Pl.tied l k) = [] := by
        rw [List.filter_eq_nil_iff]
        intro x hx
        rw [h x (List.mem_range.1 hx)]; simp
      rw [this, List.append_nil]
    · rfl
theorem tieW_free {l : List _root_.Pl.Sp} {k i : Nat} (W : Nat → Nat) (h : ∀ m, m < i → _root_.Pl.tied l k m = false) (m : Nat) : tieW l k i W m = W m := by
  unfold tieW
  rw [if_neg]
  intro ⟨h1, h2⟩
  rw [h m h1] at h2; cases h2

theorem filter_snoc (p : Nat → Bool) (i : Nat) : (List.range (i + 1)).filter p = (List.range i).filter p ++ (if p i = true then [i] else []) := by
  rw [List.range_succ, List.filter_append]
  cases h : p i <;> simp [h]

theorem tieL_skip {l : List _root_.Pl.Sp} {k i : Nat} (L : Nat → List Nat) (h : _root_.Pl.tied l k i = false) (m : Nat) : tieL l k (i + 1) L m = tieL l k i L m := by
  unfold tieL
  rw [filter_snoc, if_neg (c := _root_.Pl.tied l k i = true) (by rw [h]; simp), List.append_nil]
  have : (m < i + 1 ∧ _root_.Pl.tied l k m = true) ↔ (m < i ∧ _root_.Pl.tied l k m = true) := by
    constructor
    · rintro ⟨h1, h2⟩
      refine ⟨?_, h2⟩
      rcases Nat.lt_succ_iff_lt_or_eq.1 h1 with h1 | rfl
      · exact h1
      · rw [h] at h2; cases h2
    · rintro ⟨h1, h2⟩; exact ⟨by omega, h2⟩
  simp only [this]
theorem tieW_skip {l : List _root_.Pl.Sp} {k i : Nat} (W : Nat → Nat) (h : _root_.Pl.tied l k i = false) (m : Nat) : tieW l k (i + 1) W m = tieW l k i W m := by
  unfold tieW
  have : (m < i + 1 ∧ _root_.Pl.tied l k m = true) ↔ (m < i ∧ _root_.Pl.tied l k m = true) := by
    constructor
    · rintro ⟨h1, h2⟩
      refine ⟨?_, h2⟩
      rcases Nat.lt_succ_iff_lt_or_eq.1 h1 with h1 | rfl
      · exact h1
      · rw [h] at h2; cases h2
    · rintro ⟨h1, h2⟩; exact ⟨by omega, h2⟩
  simp only [this]

theorem tieL_next {l : List _root_.Pl.Sp} {k i : Nat} (L : Nat → List Nat) (h : _root_.Pl.tied l k i = true) (hi : i < l.length) (m : Nat) : tieL l k (i + 1) L m = more1 (more1 (tieL l k i L) i k) (l.length + k) i m := by
  unfold more1 tieL
  rw [filter_snoc, if_pos (c := _root_.Pl.tied l k i = true) h]
  by_cases hm : m < l.length
  · simp only [hm, if_true]
    rw [if_neg (c := m = l.length + k) (by omega)]
    by_cases hmi : m = i
    · subst hmi
      rw [if_pos ⟨by omega, h⟩, if_pos rfl, if_neg (by omega)]
    · rw [if_neg (c := m = i) hmi]
      have : (m < i + 1 ∧ _root_.Pl.tied l k m = true) ↔ (m < i ∧ _root_.Pl.tied l k m = true) := by
        constructor
        · rintro ⟨h1, h2⟩; exact ⟨by omega, h2⟩
        · rintro ⟨h1, h2⟩; exact ⟨by omega, h2⟩
      simp only [this]
  · simp only [hm, if_false]
    by_cases hmk : m = l.length + k
    · rw [if_pos hmk, if_pos hmk, if_neg (c := m = i) (by omega), if_pos hmk, List.append_assoc]
    · rw [if_neg hmk, if_neg hmk, if_neg (c := m = i) (by omega), if_neg hmk]
theorem tieW_next {l : List _root_.Pl.Sp} {k i : Nat} (W : Nat → Nat) (h : _root_.Pl.tied l k i = true) (m : Nat) : tieW l k (i + 1) W m = if m = i then tieW l k i W i + 1 else tieW l k i W m := by
  unfold tieW
  by_cases hmi : m = i
  · subst hmi
    rw [if_pos ⟨by omega, h⟩, if_pos rfl, if_neg (by omega)]
  · rw [if_neg (c := m = i) hmi]
    have : (m < i + 1 ∧ _root_.Pl.tied l k m = true) ↔ (m < i ∧ _root_.Pl.tied l k m = true) := by
      constructor
      · rintro ⟨h1, h2⟩; exact ⟨by omega, h2⟩
      · rintro ⟨h1, h2⟩; exact ⟨by omega, h2⟩
    simp only [this]

theorem tie_rest {l : List _root_.Pl.Sp} {k i : Nat} (L : Nat → List Nat) (W : Nat → Nat) (hi : i ≤ l.length) (h : ∀ m, i ≤ m → _root_.Pl.tied l k m = false) (m : Nat) : tieL l k l.length L m = tieL l k i L m ∧ tieW l k l.length W m = tieW l k i W m := by
  have : ∀ d, i + d ≤ l.length → tieL l k (i + d) L m = tieL l k i L m ∧ tieW l k (i + d) W m = tieW l k i W m := by
    intro d
    induction d with
    | zero => intro _; exact ⟨rfl, rfl⟩
    | succ d ih =>
      intro hd
      obtain ⟨h1, h2⟩ := ih (by omega)
      exact ⟨(tieL_skip L (h (i + d) (by omega)) m).trans h1, (tieW_skip W (h (i + d) (by omega)) m).trans h2⟩
  have h1 := this (l.length - i) (by omega)
  rw [show i + (l.length - i) = l.length by omega] at h1
  exact h1

end Go.Proofs.Ytlijlmjgnhheaaa
