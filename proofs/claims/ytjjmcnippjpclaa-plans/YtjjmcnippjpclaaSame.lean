/-
  The walk of sameSteps: two lists of steps that are the same.
-/
import Derived.Test.YtjjmcnippjpclaaGiven
namespace Go.Proofs.Ytjjmcnippjpclaa

open Go.RowKit

set_option maxRecDepth 100000 in
set_option maxHeartbeats 2000000 in
theorem sameSteps_any (a1 a2 : Option Addr) (b1 o1 c1 b2 o2 c2 : Nat) (st : List Pl.St) (w : World) (hm : st.length ≤ 4611686018427387904) (h1 : Hid (stepsAt w a1 b1 o1 st)) (h2 : Hid (stepsAt w a2 b2 o2 st)) :
    Calls Try.prog 23 #[.slice a1 st.length c1, .slice a2 st.length c2] w fun e w' => e = .returned (.bool true) ∧ Below w.heap.size w w' := by
  go_enter Try.func23, Try.ntmps23
  go_wp2_with fail
  go_loopw [5] (fun i wr => ∃ k : Nat, k ≤ st.length ∧ i = .int .i64 k ∧ Hid (Below w.heap.size w wr)) (fun i _ => st.length - (intOf i).toNat)
  case atStart => exact ⟨0, Nat.zero_le _, rfl, Below.refl _ _⟩
  case round =>
    obtain ⟨k, hk, rfl, hb⟩ := hrel
    by_cases hlt : k < st.length
    · obtain ⟨s, hs⟩ : ∃ s, st[k]? = some s := ⟨st[k], List.getElem?_eq_getElem hlt⟩
      have ha1 : a1 = some ⟨b1, o1, none⟩ := by
        rcases h1.out.1 with h | h
        · rw [h] at hlt; exact absurd hlt (Nat.not_lt_zero _)
        · exact h
      have ha2 : a2 = some ⟨b2, o2, none⟩ := by
        rcases h2.out.1 with h | h
        · rw [h] at hlt; exact absurd hlt (Nat.not_lt_zero _)
        · exact h
      subst ha1 ha2
      obtain ⟨e0, e1, e2, e3, e4⟩ := stAt_below (h1.out.2.2 k s hs) hb.out h1.out.2.1
      obtain ⟨d0, d1, d2, d3, d4⟩ := stAt_below (h2.out.2.2 k s hs) hb.out h2.out.2.1
      have hk0 : (k : Int) < (st.length : Int) := by omega
      go_wp2_with fail
      go_quiet (fail)
      go_wp2_with fail
      exact ⟨⟨k + 1, by omega, by go_num, below_drewN hb.out _⟩, by simp [intOf]; omega⟩
    · have hke : k = st.length := by omega
      subst hke
      go_wp2_with fail
      go_ret
      exact ⟨rfl, hb.out⟩

end Go.Proofs.Ytjjmcnippjpclaa
