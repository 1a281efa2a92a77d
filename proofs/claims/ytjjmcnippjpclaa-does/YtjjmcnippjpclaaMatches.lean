/-
  The walks of package match: how many bytes two texts have alike, and where the most of some bytes stand.
  The walk of source: where bytes of the new text stand in the old one.
-/
import Derived.Test.YtjjmcnippjpclaaSums
import Derived.Deep.QuietTactic
import Derived.BigQuiet
import Derived.WalkSmall
import Derived.WalkMore
import Derived.Deep.LoopGhost
import Derived.Deep.RegionHeld3
namespace Go.Proofs.Ytjjmcnippjpclaa

open Go.RowKit

theorem data_at (s : ByteArray) (k : Nat) (h : k < s.size) : s.data[k]? = some s[k] := Array.getElem?_eq_getElem h

theorem same_at {s t : ByteArray} {k j : Nat} (h : k < s.size) (h' : j < t.size) : ((s[k].toNat : Int) == (t[j].toNat : Int)) = true ↔ s.data[k]? = t.data[j]? := by
  rw [data_at s k h, data_at t j h', beq_iff_eq, Option.some.injEq, UInt8.toNat_inj.symm]
  omega

/-- so many bytes have two texts alike from their fronts on. -/
def isFront (s t : ByteArray) (k : Nat) : Prop := k ≤ s.size ∧ k ≤ t.size ∧ (∀ j, j < k → s.data[j]? = t.data[j]?) ∧ (k < s.size → k < t.size → s.data[k]? ≠ t.data[k]?)

set_option maxRecDepth 100000 in
set_option maxHeartbeats 1000000 in
theorem front_any (s t : ByteArray) (w : World) (hs : s.size ≤ 4611686018427387904) (ht : t.size ≤ 4611686018427387904) :
    Calls Try.prog 79 #[.string s, .string t] w fun e w' => ∃ k : Nat, e = .returned (.int .i64 k) ∧ isFront s t k ∧ Below w.heap.size w w' := by
  go_enter Try.func79, Try.ntmps79
  go_wp2_with fail
  go_loopw [5] (fun i wr => ∃ k : Nat, i = .int .i64 k ∧ k ≤ s.size ∧ k ≤ t.size ∧ Hid (∀ j, j < k → s.data[j]? = t.data[j]?) ∧ Hid (Below w.heap.size w wr)) (fun i _ => s.size - (intOf i).toNat)
  case atStart => exact ⟨0, rfl, Nat.zero_le _, Nat.zero_le _, fun j hj => absurd hj (Nat.not_lt_zero _), Below.refl _ _⟩
  case round =>
    obtain ⟨k, rfl, hk1, hk2, hpre, hb⟩ := hrel
    by_cases hm : t.size < s.size
    · by_cases h2 : k < t.size
      · have d : decide ((k : Int) < (t.size : Int)) = true := decide_eq_true (by omega)
        have h1 : k < s.size := by omega
        go_wp2_with fail
        go_region
        go_wp2_with fail
        · have he : ((s[k].toNat : Int) == (t[k].toNat : Int)) = true := by assumption
          refine ⟨⟨k + 1, by go_num, by omega, by omega, fun j hj => ?_, hb.out.drew⟩, by simp [intOf]; omega⟩
          rcases Nat.lt_succ_iff_lt_or_eq.1 hj with h | rfl
          · exact hpre.out j h
          · exact (same_at h1 h2).1 he
        · have he : ((s[k].toNat : Int) == (t[k].toNat : Int)) = false := by assumption
          go_ret
          refine ⟨k, rfl, ⟨hk1, hk2, hpre.out, fun _ _ h => ?_⟩, hb.out.drew⟩
          rw [(same_at h1 h2).2 h] at he; cases he
      · have d : decide ((k : Int) < (t.size : Int)) = false := decide_eq_false (by omega)
        go_wp2_with fail
        go_region
        go_wp2_with fail
        go_ret
        exact ⟨k, rfl, ⟨hk1, hk2, hpre.out, fun _ h => absurd h h2⟩, hb.out.drew⟩
    · by_cases h1 : k < s.size
      · have d : decide ((k : Int) < (s.size : Int)) = true := decide_eq_true (by omega)
        have h2 : k < t.size := by omega
        go_wp2_with fail
        go_region
        go_wp2_with fail
        · have he : ((s[k].toNat : Int) == (t[k].toNat : Int)) = true := by assumption
          refine ⟨⟨k + 1, by go_num, by omega, by omega, fun j hj => ?_, hb.out.drew⟩, by simp [intOf]; omega⟩
          rcases Nat.lt_succ_iff_lt_or_eq.1 hj with h | rfl
          · exact hpre.out j h
          · exact (same_at h1 h2).1 he
        · have he : ((s[k].toNat : Int) == (t[k].toNat : Int)) = false := by assumption
          go_ret
          refine ⟨k, rfl, ⟨hk1, hk2, hpre.out, fun _ _ h => ?_⟩, hb.out.drew⟩
          rw [(same_at h1 h2).2 h] at he; cases he
      · have d : decide ((k : Int) < (s.size : Int)) = false := decide_eq_false (by omega)
        go_wp2_with fail
        go_region
        go_wp2_with fail
        go_ret
        exact ⟨k, rfl, ⟨hk1, hk2, hpre.out, fun h => absurd h h1⟩, hb.out.drew⟩

/-- so many bytes that are sought stand in a text from a place on. -/
def standsAt (s t : ByteArray) (a z : Nat) : Prop := a + z ≤ s.size ∧ z ≤ t.size ∧ ∀ j, j < z → s.data[a + j]? = t.data[j]?

set_option maxRecDepth 100000 in
set_option maxHeartbeats 1000000 in
theorem longest_any (s t : ByteArray) (n : Nat) (w : World) (hs : s.size ≤ 4611686018427387904) (ht : t.size ≤ 4611686018427387904) (hn : n ≤ s.size) :
    Calls Try.prog 108 #[.string s, .int .i64 n, .string t] w fun e w' => ∃ a z : Nat, e = .returned (.tuple #[.int .i64 a, .int .i64 z]) ∧ standsAt s t a z ∧ Below w.heap.size w w' := by
  go_enter Try.func108, Try.ntmps108
  go_wp2_with fail
  go_step3
  go_wp2_with fail
  go_step3
  go_wp2_with fail
  go_loopg [6, 7, 12] n (fun g x y i wr => ∃ a z k : Nat, x = .int .i64 a ∧ y = .int .i64 z ∧ i = .int .i64 k ∧ k + g = n ∧ a + z ≤ s.size ∧ z ≤ t.size ∧ Hid (standsAt s t a z) ∧ Hid (Below w.heap.size w wr))
  case atStart => exact ⟨0, 0, 0, rfl, rfl, rfl, Nat.zero_add _, Nat.zero_le _, Nat.zero_le _, ⟨Nat.zero_le _, Nat.zero_le _, fun j hj => absurd hj (Nat.not_lt_zero _)⟩, Below.refl _ _⟩
  case round =>
    obtain ⟨a, z, k, rfl, rfl, rfl, hk, haz, hz, hst, hb⟩ := hrel
    by_cases hkn : k < n
    · obtain ⟨R, hR, hR1, hR2⟩ : ∃ R : Nat, (if (s.size : Int) - (k : Int) < (t.size : Int) then (s.size : Int) - (k : Int) else (t.size : Int)) = (R : Int) ∧ R ≤ t.size ∧ k + R ≤ s.size := by
        by_cases h : (s.size : Int) - (k : Int) < (t.size : Int)
        · exact ⟨s.size - k, by rw [if_pos h]; omega, by omega, by omega⟩
        · exact ⟨t.size, by rw [if_neg h], by omega, by omega⟩
      by_cases hRz : R ≤ z
      · have d : decide ((R : Int) ≤ (z : Int)) = true := decide_eq_true (by omega)
        go_wp2_with fail
        go_quiet (fail)
        go_wp2_with fail
        go_roundg (gk - 1)
        case measure => omega
        case rel => exact ⟨a, z, k + 1, rfl, rfl, by go_num, by omega, haz, hz, hst, below_drewN hb.out _⟩
      · have d : decide ((R : Int) ≤ (z : Int)) = false := decide_eq_false (by omega)
        have g1 : k + z < s.size := by omega
        have g2 : z < t.size := by omega
        have g3 : ((k : Int) + (z : Int)).toNat = k + z := by omega
        have g4 : IntKind.i64.wrap ((k : Int) + (z : Int)) = (k : Int) + (z : Int) := by rw [IntKind.wrap_i64]; omega
        have g5 : (k : Int) + (z : Int) < (s.size : Int) := by omega
        have g6 : (0 : Int) ≤ (k : Int) + (z : Int) := by omega
        go_wp2_with fail
        go_quiet (fail)
        go_wp2_with fail
        · go_roundg (gk - 1)
          case measure => omega
          case rel => exact ⟨a, z, k + 1, rfl, rfl, by go_num, by omega, haz, hz, hst, below_drewN hb.out _⟩
        · clear hR
          have hb1 : Hid (Below w.heap.size w (wr.drewN nq)) := below_drewN hb.out _
          go_loopg [6, 7, 37] R (fun g x y i wq => ∃ a z l : Nat, x = .int .i64 a ∧ y = .int .i64 z ∧ i = .int .i64 l ∧ l + g = R ∧ a + z ≤ s.size ∧ z ≤ t.size ∧ Hid (standsAt s t a z) ∧ Hid (∀ j, j < l → s.data[k + j]? = t.data[j]?) ∧ Hid (Below w.heap.size w wq))
          case atStart => exact ⟨a, z, 0, rfl, rfl, rfl, Nat.zero_add _, haz, hz, hst, fun j hj => absurd hj (Nat.not_lt_zero _), hb1⟩
          case round =>
            obtain ⟨a, z, l, rfl, rfl, rfl, hl, haz, hz, hst, hpre, hb⟩ := hrel
            by_cases hlR : l < R
            · have g1 : k + l < s.size := by omega
              have g2 : l < t.size := by omega
              have g3 : ((k : Int) + (l : Int)).toNat = k + l := by omega
              have g4 : IntKind.i64.wrap ((k : Int) + (l : Int)) = (k : Int) + (l : Int) := by rw [IntKind.wrap_i64]; omega
              have g5 : (k : Int) + (l : Int) < (s.size : Int) := by omega
              have g6 : (0 : Int) ≤ (k : Int) + (l : Int) := by omega
              go_wp2_with fail
              go_quiet (fail)
              go_wp2_with fail
              · go_roundg (n - k - 1)
                case measure => omega
                case rel => exact ⟨a, z, k + 1, rfl, rfl, by go_num, by omega, haz, hz, hst, below_drewN hb.out _⟩
              · have he : s.data[k + l]? = t.data[l]? := by
                  have h1 : ((s[k + l].toNat : Int) != (t[l].toNat : Int)) = false := by assumption
                  have h2 : ((s[k + l].toNat : Int) == (t[l].toNat : Int)) = true := by rw [bne_eq_false_iff_eq] at h1; exact beq_iff_eq.2 h1
                  exact (same_at g1 g2).1 h2
                have hpre1 : ∀ j, j < l + 1 → s.data[k + j]? = t.data[j]? := fun j hj => by
                  rcases Nat.lt_succ_iff_lt_or_eq.1 hj with h | rfl
                  · exact hpre.out j h
                  · exact he
                go_roundg (R - l - 1)
                case measure => omega
                case rel => exact ⟨k, l + 1, l + 1, rfl, by go_num, by go_num, by omega, by omega, by omega, ⟨by omega, by omega, hpre1⟩, hpre1, below_drewN hb.out _⟩
              · have he : s.data[k + l]? = t.data[l]? := by
                  have h1 : ((s[k + l].toNat : Int) != (t[l].toNat : Int)) = false := by assumption
                  have h2 : ((s[k + l].toNat : Int) == (t[l].toNat : Int)) = true := by rw [bne_eq_false_iff_eq] at h1; exact beq_iff_eq.2 h1
                  exact (same_at g1 g2).1 h2
                have hpre1 : ∀ j, j < l + 1 → s.data[k + j]? = t.data[j]? := fun j hj => by
                  rcases Nat.lt_succ_iff_lt_or_eq.1 hj with h | rfl
                  · exact hpre.out j h
                  · exact he
                go_roundg (R - l - 1)
                case measure => omega
                case rel => exact ⟨a, z, l + 1, rfl, rfl, by go_num, by omega, haz, hz, hst, hpre1, below_drewN hb.out _⟩
            · go_wp2_with fail
              rw [Exit.noGoto_ret]
              go_ret2
              exact ⟨a, z, rfl, hst.out, hb.out⟩
    · go_wp2_with fail
      try rw [Exit.noGoto_ret]
      go_ret2
      exact ⟨a, z, rfl, hst.out, hb.out⟩

end Go.Proofs.Ytjjmcnippjpclaa

namespace Go.Proofs.Ytjjmcnippjpclaa

open Go.RowKit

theorem extract_at (s : ByteArray) (a b j : Nat) (h : a + j < b) (hb : b ≤ s.size) : (s.extract a b).data[j]? = s.data[a + j]? := by
  rw [ByteArray.data_extract, Array.getElem?_extract, if_pos (by rw [show s.data.size = s.size from rfl, Nat.min_eq_left hb]; omega)]

def hasP (s p : ByteArray) : Bool := decide (p.size ≤ s.size) && ((s.extract 0 p.size).toList == p.toList)

theorem toList_data (s : ByteArray) : s.toList = s.data.toList := ByteArray.toList_eq s

theorem hasP_stands {s p : ByteArray} (h : hasP s p = true) : standsAt s p 0 p.size := by
  simp only [hasP, Bool.and_eq_true, decide_eq_true_eq, beq_iff_eq] at h
  refine ⟨by omega, Nat.le_refl _, fun j hj => ?_⟩
  have e : (s.extract 0 p.size).data = p.data := by
    apply Array.ext'
    rw [← toList_data, ← toList_data]; exact h.2
  rw [← e, extract_at s 0 p.size j (by omega) h.1]

set_option maxRecDepth 100000 in
set_option maxHeartbeats 1000000 in
theorem hasPrefix_any (s p : ByteArray) (w : World) (_ : s.size ≤ 4611686018427387904) (_ : p.size ≤ 4611686018427387904) :
    Calls Try.prog 109 #[.string s, .string p] w fun e w' => e = .returned (.bool (hasP s p)) ∧ w' = w := by
  by_cases h : p.size ≤ s.size
  · have H : Hid (hasP s p = ((s.extract 0 p.size).toList == p.toList)) := by simp [Hid, hasP, h]
    go_enter Try.func109, Try.ntmps109
    go_wp2
    go_ret
    exact ⟨by rw [H.out]; rfl, rfl⟩
  · have H : Hid (hasP s p = false) := by simp [Hid, hasP, h]
    go_enter Try.func109, Try.ntmps109
    go_wp2
    go_ret
    exact ⟨by rw [H.out]; rfl, rfl⟩

/-- so many bytes of the new text from a place on stand in the old one. -/
def srcAt (o n : ByteArray) (here f z : Nat) : Prop := f + z ≤ o.size ∧ here + z ≤ n.size ∧ ∀ j, j < z → o.data[f + j]? = n.data[here + j]?

theorem srcAt_of {o n : ByteArray} {here f z : Nat} (hn : here ≤ n.size) (h : standsAt o (n.extract here n.size) f z) : srcAt o n here f z := by
  obtain ⟨h1, h2, h3⟩ := h
  rw [ByteArray.size_extract, Nat.min_self] at h2
  exact ⟨h1, by omega, fun j hj => by rw [h3 j hj, extract_at n here n.size j (by omega) (Nat.le_refl _)]⟩

theorem srcAt_here {o n : ByteArray} {here z : Nat} (h : here + z ≤ n.size) (ho : here ≤ o.size) (hp : hasP (o.extract here o.size) (n.extract here (here + z)) = true) : srcAt o n here here z := by
  obtain ⟨h1, h2, h3⟩ := hasP_stands hp
  rw [ByteArray.size_extract, ByteArray.size_extract, Nat.min_self, Nat.min_eq_left h] at h1
  refine ⟨by omega, h, fun j hj => ?_⟩
  have e := h3 j (by rw [ByteArray.size_extract, Nat.min_eq_left h]; omega)
  rw [extract_at n here (here + z) j (by omega) h, Nat.zero_add, extract_at o here o.size j (by omega) (Nat.le_refl _)] at e
  exact e

set_option maxRecDepth 100000 in
set_option maxHeartbeats 1000000 in
theorem source_any (o n : ByteArray) (here : Nat) (w : World) (ho : o.size ≤ 4000) (hn : n.size ≤ 4000) (hh : here ≤ n.size) :
    Calls Try.prog 80 #[.string o, .string n, .int .i64 here] w fun e w' => ∃ f z : Nat, e = .returned (.tuple #[.int .i64 f, .int .i64 z]) ∧ srcAt o n here f z ∧ Below w.heap.size w w' := by
  go_enter Try.func80, Try.ntmps80
  go_wp2_with fail
  refine (longest_any o (n.extract here n.size) o.size _ (by omega) (by rw [ByteArray.size_extract]; omega) (Nat.le_refl _)).mono ?_
  rintro e v ⟨f, z, rfl, hst, hb⟩
  have hsrc : Hid (srcAt o n here f z) := srcAt_of hh hst
  have h1 := hsrc.out.1
  have h2 := hsrc.out.2.1
  clear hst
  by_cases hlo : here < o.size
  · have d : decide ((here : Int) < (o.size : Int)) = true := decide_eq_true (by omega)
    have g4 : IntKind.i64.wrap ((here : Int) + (z : Int)) = (here : Int) + (z : Int) := by rw [IntKind.wrap_i64]; omega
    have g1 : (here : Int) + (z : Int) ≤ (n.size : Int) := by omega
    have g2 : (here : Int) ≤ (here : Int) + (z : Int) := by omega
    have g3 : ((here : Int) + (z : Int)).toNat = here + z := by omega
    have g5 : (here : Int) ≤ (o.size : Int) := by omega
    go_wp2_with fail
    go_quiet ((go_at_call 109; refine Calls.quiet_of_same (hasPrefix_any _ _ _ (by rw [ByteArray.size_extract]; omega) (by rw [ByteArray.size_extract]; omega))))
    go_wp2_with fail
    · have hp : hasP (o.extract here o.size) (n.extract here (here + z)) = true := by assumption
      go_ret2
      exact ⟨here, z, rfl, srcAt_here h2 (by omega) hp, below_drewN hb _⟩
    · go_ret2
      exact ⟨f, z, rfl, hsrc.out, below_drewN hb _⟩
  · have d : decide ((here : Int) < (o.size : Int)) = false := decide_eq_false (by omega)
    go_wp2_with fail
    go_quiet (fail)
    go_wp2_with fail
    go_ret2
    exact ⟨f, z, rfl, hsrc.out, below_drewN hb _⟩

end Go.Proofs.Ytjjmcnippjpclaa
