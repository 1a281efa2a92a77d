/-
  Plain facts on the text of a number and its reading (P3): it comes back, wherever it stands; no program is named here.
-/
import Derived.Test.YtlijlmjgnhheaaaReadPlain
namespace Go.Proofs.Ytlijlmjgnhheaaa
namespace Pl

def bytes (l : List Int) : List UInt8 := l.map fun n => UInt8.ofNat n.toNat

theorem bytes_append (a b : List Int) : bytes (a ++ b) = bytes a ++ bytes b := by simp [bytes]

theorem val_hi (n : Nat) : valF 0 (bytes (hi n)) = n ∧ more (bytes (hi n)) = true := by
  induction n using Nat.strongRecOn with
  | _ n ih =>
    by_cases h : n = 0
    · subst h; rw [hi_zero]; exact ⟨rfl, rfl⟩
    · rw [hi_pos n (by omega), bytes_append]
      obtain ⟨h1, h2⟩ := ih (n / 128) (by omega)
      have e : bytes [128 + ((n % 128 : Nat) : Int)] = [UInt8.ofNat (128 + n % 128)] := by
        simp only [bytes, List.map_cons, List.map_nil]
        rw [show (128 + ((n % 128 : Nat) : Int)).toNat = 128 + n % 128 by omega]
      have t : (UInt8.ofNat (128 + n % 128)).toNat = 128 + n % 128 := by rw [UInt8.toNat_ofNat']; omega
      rw [e, valF_snoc, more_snoc, h1, t]
      exact ⟨by omega, h2, by omega⟩

theorem num_bytes (n : Nat) : bytes (num n) = bytes (hi (n / 128)) ++ [UInt8.ofNat (n % 128)] := by
  unfold num
  rw [bytes_append]
  rfl

theorem low_toNat (n : Nat) : (UInt8.ofNat (n % 128)).toNat = n % 128 := by rw [UInt8.toNat_ofNat']; omega

theorem val_num (n : Nat) : valF 0 (bytes (num n)) = n := by
  rw [num_bytes, valF_snoc, (val_hi _).1, low_toNat]
  omega

theorem num_len (n : Nat) : (bytes (num n)).length = (hi (n / 128)).length + 1 := by rw [num_bytes]; simp [bytes]

/-- a number comes back from its text, whatever stands behind it. -/
theorem rd_num (n : Nat) (h : n ≤ 2147483647) (r : List UInt8) : rd (bytes (num n) ++ r) = some (n, (bytes (num n)).length) := by
  have e := val_num n
  rw [num_bytes] at e
  have ht : (num (valF 0 (bytes (hi (n / 128)) ++ [UInt8.ofNat (n % 128)]))).map (fun n => UInt8.ofNat n.toNat) = bytes (hi (n / 128)) ++ [UInt8.ofNat (n % 128)] := by
    rw [e, ← num_bytes]; rfl
  have := rd_yes (bytes (hi (n / 128))) (UInt8.ofNat (n % 128)) r (val_hi _).2 (by rw [low_toNat]; omega) (by omega) ht
  rw [e] at this
  rw [num_bytes, List.append_assoc, List.length_append]
  exact this

/-- a text that lacks its end is none. -/
theorem rd_cut (n : Nat) : rd (bytes (hi (n / 128))) = none := by
  have := rd_long (bytes (hi (n / 128))) [] (val_hi _).2 (.inr rfl)
  rwa [List.append_nil] at this

theorem hi_mono (a : Nat) : ∀ b, a ≤ b → (hi a).length ≤ (hi b).length := by
  induction a using Nat.strongRecOn with
  | _ a ih =>
    intro b h
    by_cases h0 : a = 0
    · subst h0; rw [hi_zero]; simp
    · rw [hi_pos a (by omega), hi_pos b (by omega)]
      have := ih (a / 128) (by omega) (b / 128) (Nat.div_le_div_right h)
      simp; exact this

theorem num_mono (a b : Nat) (h : a ≤ b) : (bytes (num a)).length ≤ (bytes (num b)).length := by
  rw [num_len, num_len]
  have := hi_mono (a / 128) (b / 128) (Nat.div_le_div_right h)
  omega

theorem num_inj (a b : Nat) (h : bytes (num a) = bytes (num b)) : a = b := by
  have := congrArg (valF 0) h
  rwa [val_num, val_num] at this

theorem num_len5 (n : Nat) (h : n ≤ 2147483647) : (bytes (num n)).length ≤ 5 := by
  rw [num_len]
  have := hi_len 4 (n / 128) (by omega)
  omega

end Pl
end Go.Proofs.Ytlijlmjgnhheaaa
