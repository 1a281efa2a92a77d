/-
  Doing the steps of a made patch on one text: which bytes stand there behind so many steps.
-/
import Derived.Test.YtjjmcnippjpclabMadeBack
namespace Go.Proofs.Ytjjmcnippjpclab

open Go.RowKit

/-- has a place been written by one of these steps? -/
def covS (l : List _root_.Pl.Sp) (j : Nat) : Bool := l.any fun s => decide (s.t ≤ j ∧ j < s.t + s.n)

/-- .. or by the first k bytes of one step more? -/
def covK (l : List _root_.Pl.Sp) (s : _root_.Pl.Sp) (k j : Nat) : Bool := covS l j || decide (s.t ≤ j ∧ j < s.t + k)

/-- the byte that stands at a place. -/
def inPl (o n : ByteArray) (c : Bool) (j : Nat) : UInt8 := if c then n.data.getD j 0 else o.data.getD j 0

theorem covS_snoc (l : List _root_.Pl.Sp) (s : _root_.Pl.Sp) (j : Nat) : covS (l ++ [s]) j = covK l s s.n j := by
  simp [covS, covK, List.any_append]

theorem covK_zero (l : List _root_.Pl.Sp) (s : _root_.Pl.Sp) (j : Nat) : covK l s 0 j = covS l j := by
  unfold covK
  rw [decide_eq_false (by omega), Bool.or_false]

theorem covK_succ (l : List _root_.Pl.Sp) (s : _root_.Pl.Sp) (k j : Nat) : covK l s (k + 1) j = if j = s.t + k then true else covK l s k j := by
  unfold covK
  by_cases h : j = s.t + k
  · rw [if_pos h, decide_eq_true (by omega), Bool.or_true]
  · rw [if_neg h]
    congr 1
    exact decide_eq_decide.2 (by omega)

theorem covS_true {l : List _root_.Pl.Sp} {j : Nat} (h : covS l j = true) : ∃ s ∈ l, s.t ≤ j ∧ j < s.t + s.n := by
  obtain ⟨s, hs, h⟩ := List.any_eq_true.1 h
  exact ⟨s, hs, of_decide_eq_true h⟩

theorem covS_take {M : List _root_.Pl.Sp} {i j : Nat} (h : covS (M.take i) j = true) : ∃ p a, p < i ∧ M[p]? = some a ∧ a.t ≤ j ∧ j < a.t + a.n := by
  obtain ⟨s, hs, h⟩ := covS_true h
  obtain ⟨p, hp⟩ := List.getElem?_of_mem hs
  have hlt : p < i := by
    have := (List.getElem?_eq_some_iff.1 hp).1
    rw [List.length_take] at this
    omega
  rw [List.getElem?_take, if_pos hlt] at hp
  exact ⟨p, s, hlt, hp, h⟩

/-- a place to which a step goes has not been written before. -/
theorem to_free {l M : List _root_.Pl.Sp} (hM : _root_.Pl.Sorted l M) {i j : Nat} {s : _root_.Pl.Sp} (hs : M[i]? = some s) (h1 : s.t ≤ j) (h2 : j < s.t + s.n) : covS (M.take i) j = false := by
  cases h : covS (M.take i) j with
  | false => rfl
  | true =>
    obtain ⟨p, a, hp, ha, h3, h4⟩ := covS_take h
    have := hM.apart p i a s ha hs (by omega)
    omega

/-- a place from which a step copies has not been written before. -/
theorem from_free {l M : List _root_.Pl.Sp} (hM : _root_.Pl.Sorted l M) {i j f : Nat} {s : _root_.Pl.Sp} (hs : M[i]? = some s) (hf : s.src = some f) (h1 : f ≤ j) (h2 : j < f + s.n) : covS (M.take i) j = false := by
  cases h : covS (M.take i) j with
  | false => rfl
  | true =>
    obtain ⟨p, a, hp, ha, h3, h4⟩ := covS_take h
    have := hM.order p i a s f ha hs hp hf
    omega

/-- behind all steps every place of the new text has been written. -/
theorem all_cov {o n : ByteArray} {l M : List _root_.Pl.Sp} (hG : _root_.Pl.Good o n l) (hM : M.Perm l) {j : Nat} (hj : j < n.size) : covS M j = true := by
  obtain ⟨s, hs, h3, h4⟩ := _root_.Pl.tiles_cov l 0 n.size hG.tile j (Nat.zero_le _) hj
  exact List.any_eq_true.2 ⟨s, hM.symm.subset hs, decide_eq_true ⟨h3, h4⟩⟩

theorem getD_at (x : ByteArray) (j : Nat) (h : j < x.size) : x.data.getD j 0 = x[j] := by
  rw [Array.getD_eq_getD_getElem?, Array.getElem?_eq_getElem h]
  rfl

/-- what a copy reads on the way is what it brings. -/
theorem copy_brings {o n : ByteArray} {l M : List _root_.Pl.Sp} (hG : _root_.Pl.Good o n l) (hM : _root_.Pl.Sorted l M) {i f : Nat} {s : _root_.Pl.Sp} (hs : M[i]? = some s) (hf : s.src = some f) (k : Nat) (hk : k < s.n) :
    inPl o n (covS (M.take i) (f + k)) (f + k) = n.data.getD (s.t + k) 0 := by
  have hsl := hM.perm.subset (List.mem_of_getElem? hs)
  obtain ⟨_, _, hb⟩ := hG.fit s hsl f hf
  rw [from_free hM hs hf (j := f + k) (by omega) (by omega)]
  unfold inPl
  rw [if_neg (by decide), Array.getD_eq_getD_getElem?, Array.getD_eq_getD_getElem?, hb k hk]

end Go.Proofs.Ytjjmcnippjpclab
