/-
  The walk of source: where bytes of the new text stand in the old one.
-/
import Derived.Test.YtlijlmjgnhheaaaMatch
namespace Go.Proofs.Ytlijlmjgnhheaaa
open Go.RowKit

theorem extract_at (s : ByteArray) (a b j : Nat) (h : a + j < b) (hb : b ≤ s.size) : (s.extract a b).data[j]? = s.data[a + j]? := by
  rw [ByteArray.data_extract, Array.getElem?_extract, if_pos (by rw [show s.data.size = s.size from rfl, Nat.min_eq_left hb]; omega)]

def hasP (s p : ByteArray) : Bool := decide (p.size ≤ s.size) && ((s.extract 0 p.size).toList == p.toList)

theorem toList_data (s : ByteArray) : s.toList = s.data.toList := ByteArray.toList_eq s

theorem hasP_stands {s p : ByteArray} (h : hasP s p = true) : standsAt s p 0 p.size := by
  simp only [hasP, Bool.and_eq_true, decide_eq_true_eq, beq_iff_eq] at h
  refine ⟨by omega, Nat.le_refl _, fun j hj => ?_⟩
  have e : (s.extract 0 p.size).data = p.data := by
    apply Array.ext'
    rw [← toList_data, ← toList_data]; exact h.2
  rw [← e, extract_at s 0 p.size j (by omega) h.1]

set_option maxRecDepth 100000 in
set_option maxHeartbeats 1000000 in
theorem hasPrefix_any (s p : ByteArray) (w : World) (_ : s.size ≤ 4611686018427387904) (_ : p.size ≤ 4611686018427387904) :
    Calls Try.prog 105 #[.string s, .string p] w fun e w' => e = .returned (.bool (hasP s p)) ∧ w' = w := by
  by_cases h : p.size ≤ s.size
  · have H : Hid (hasP s p = ((s.extract 0 p.size).toList == p.toList)) := by simp [Hid, hasP, h]
    go_enter Try.func105, Try.ntmps105
    go_wp2
    go_ret
    exact ⟨by rw [H.out]; rfl, rfl⟩
  · have H : Hid (hasP s p = false) := by simp [Hid, hasP, h]
    go_enter Try.func105, Try.ntmps105
    go_wp2
    go_ret
    exact ⟨by rw [H.out]; rfl, rfl⟩

/-- so many bytes of the new text from a place on stand in the old one. -/
def srcAt (o n : ByteArray) (here f z : Nat) : Prop := f + z ≤ o.size ∧ here + z ≤ n.size ∧ ∀ j, j < z → o.data[f + j]? = n.data[here + j]?

theorem srcAt_of {o n : ByteArray} {here f z : Nat} (hn : here ≤ n.size) (h : standsAt o (n.extract here n.size) f z) : srcAt o n here f z := by
  obtain ⟨h1, h2, h3⟩ := h
  rw [ByteArray.size_extract, Nat.min_self] at h2
  exact ⟨h1, by omega, fun j hj => by rw [h3 j hj, extract_at n here n.size j (by omega) (Nat.le_refl _)]⟩

theorem srcAt_here {o n : ByteArray} {here z : Nat} (h : here + z ≤ n.size) (ho : here ≤ o.size) (hp : hasP (o.extract here o.size) (n.extract here (here + z)) = true) : srcAt o n here here z := by
  obtain ⟨h1, h2, h3⟩ := hasP_stands hp
  rw [ByteArray.size_extract, ByteArray.size_extract, Nat.min_self, Nat.min_eq_left h] at h1
  refine ⟨by omega, h, fun j hj => ?_⟩
  have e := h3 j (by rw [ByteArray.size_extract, Nat.min_eq_left h]; omega)
  rw [extract_at n here (here + z) j (by omega) h, Nat.zero_add, extract_at o here o.size j (by omega) (Nat.le_refl _)] at e
  exact e

set_option maxRecDepth 100000 in
set_option maxHeartbeats 1000000 in
theorem source_any (o n : ByteArray) (here : Nat) (w : World) (ho : o.size ≤ 4000) (hn : n.size ≤ 4000) (hh : here ≤ n.size) :
    Calls Try.prog 78 #[.string o, .string n, .int .i64 here] w fun e w' => ∃ f z : Nat, e = .returned (.tuple #[.int .i64 f, .int .i64 z]) ∧ srcAt o n here f z ∧ Below w.heap.size w w' := by
  go_enter Try.func78, Try.ntmps78
  go_wp2_with fail
  refine (longest_any o (n.extract here n.size) o.size _ (by omega) (by rw [ByteArray.size_extract]; omega) (Nat.le_refl _)).mono ?_
  rintro e v ⟨f, z, rfl, hst, hb⟩
  have hsrc : Hid (srcAt o n here f z) := srcAt_of hh hst
  have h1 := hsrc.out.1
  have h2 := hsrc.out.2.1
  clear hst
  by_cases hlo : here < o.size
  · have d : decide ((here : Int) < (o.size : Int)) = true := decide_eq_true (by omega)
    have g4 : IntKind.i64.wrap ((here : Int) + (z : Int)) = (here : Int) + (z : Int) := by rw [IntKind.wrap_i64]; omega
    have g1 : (here : Int) + (z : Int) ≤ (n.size : Int) := by omega
    have g2 : (here : Int) ≤ (here : Int) + (z : Int) := by omega
    have g3 : ((here : Int) + (z : Int)).toNat = here + z := by omega
    have g5 : (here : Int) ≤ (o.size : Int) := by omega
    go_wp2_with fail
    go_quiet ((go_at_call 105; refine Calls.quiet_of_same (hasPrefix_any _ _ _ (by rw [ByteArray.size_extract]; omega) (by rw [ByteArray.size_extract]; omega))))
    go_wp2_with fail
    · have hp : hasP (o.extract here o.size) (n.extract here (here + z)) = true := by assumption
      go_ret2
      exact ⟨here, z, rfl, srcAt_here h2 (by omega) hp, below_drewN hb _⟩
    · go_ret2
      exact ⟨f, z, rfl, hsrc.out, below_drewN hb _⟩
  · have d : decide ((here : Int) < (o.size : Int)) = false := decide_eq_false (by omega)
    go_wp2_with fail
    go_quiet (fail)
    go_wp2_with fail
    go_ret2
    exact ⟨f, z, rfl, hsrc.out, below_drewN hb _⟩
end Go.Proofs.Ytlijlmjgnhheaaa
