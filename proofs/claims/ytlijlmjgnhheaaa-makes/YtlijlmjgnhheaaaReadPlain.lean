/-
  Plain facts on reading a number (P3): no program is named here.
-/
import Derived.Test.YtlijlmjgnhheaaaNumPlain
namespace Go.Proofs.Ytlijlmjgnhheaaa
namespace Pl

/-- groups read on, one by one, from a number that was read so far: the number, and how many bytes. -/
def rdF (n : Nat) : List UInt8 → Option (Nat × Nat)
  | [] => none
  | c :: r => if 16777215 < n then none else if c.toNat < 128 then some (n * 128 + c.toNat % 128, 1) else (rdF (n * 128 + c.toNat % 128) r).map fun p => (p.1, p.2 + 1)

/-- the number that stands at the head of a text, and how many bytes it has. -/
def rd (l : List UInt8) : Option (Nat × Nat) := if l.head? = some 128 then none else rdF 0 l

/-- the number of some groups behind a number. -/
def valF (n : Nat) (l : List UInt8) : Nat := l.foldl (fun n c => n * 128 + c.toNat % 128) n

theorem valF_nil (n : Nat) : valF n [] = n := rfl
theorem valF_cons (n : Nat) (c : UInt8) (l : List UInt8) : valF n (c :: l) = valF (n * 128 + c.toNat % 128) l := rfl
theorem valF_snoc (n : Nat) (c : UInt8) (l : List UInt8) : valF n (l ++ [c]) = valF n l * 128 + c.toNat % 128 := by simp [valF]
theorem valF_ge (l : List UInt8) : ∀ n, n ≤ valF n l := by
  induction l with
  | nil => intro n; exact Nat.le_refl _
  | cons c r ih => intro n; rw [valF_cons]; have := ih (n * 128 + c.toNat % 128); omega

/-- are all of some bytes marked 'there is more'? -/
def more (l : List UInt8) : Bool := l.all fun c => decide (128 ≤ c.toNat)

theorem more_cons (c : UInt8) (l : List UInt8) : more (c :: l) = true ↔ 128 ≤ c.toNat ∧ more l = true := by simp [more]
theorem more_snoc (c : UInt8) (l : List UInt8) : more (l ++ [c]) = true ↔ more l = true ∧ 128 ≤ c.toNat := by simp [more]

/-- groups that all go on, then one that does not: the number. -/
theorem rdF_some (a : List UInt8) (c : UInt8) (r : List UInt8) (hc : c.toNat < 128) : ∀ n, more a = true → valF n a ≤ 16777215 → rdF n (a ++ c :: r) = some (valF n (a ++ [c]), a.length + 1) := by
  induction a with
  | nil =>
    intro n _ h
    rw [valF_nil] at h
    show rdF n (c :: r) = _
    rw [rdF, if_neg (by omega), if_pos hc]
    rfl
  | cons x a ih =>
    intro n hm h
    rw [more_cons] at hm
    rw [valF_cons] at h
    have h1 := valF_ge a (n * 128 + x.toNat % 128)
    show rdF n (x :: (a ++ c :: r)) = some (valF n (x :: (a ++ [c])), _)
    rw [rdF, if_neg (by omega), if_neg (by omega), ih _ hm.2 h, valF_cons]
    rfl

theorem rdF_big (a r : List UInt8) : ∀ n, more a = true → 16777215 < valF n a → rdF n (a ++ r) = none := by
  induction a with
  | nil =>
    intro n _ h
    rw [valF_nil] at h
    cases r with
    | nil => rfl
    | cons c r => show rdF n (c :: r) = none; rw [rdF, if_pos h]
  | cons x a ih =>
    intro n hm h
    rw [more_cons] at hm
    rw [valF_cons] at h
    show rdF n (x :: (a ++ r)) = none
    by_cases hn : 16777215 < n
    · rw [rdF, if_pos hn]
    · rw [rdF, if_neg hn, if_neg (by omega), ih _ hm.2 h]; rfl

theorem rdF_end (a : List UInt8) : ∀ n, more a = true → rdF n a = none := by
  induction a with
  | nil => intro n _; rfl
  | cons x a ih =>
    intro n hm
    rw [more_cons] at hm
    by_cases hn : 16777215 < n
    · rw [rdF, if_pos hn]
    · rw [rdF, if_neg hn, if_neg (by omega), ih _ hm.2]; rfl

/-- groups that go on, the first not empty: they are the text of their number. -/
theorem hi_val (x : UInt8) (hx : 128 < x.toNat) : ∀ (k : Nat) (a : List UInt8), a.length = k → more a = true → 128 ^ k ≤ valF 0 (x :: a) ∧ hi (valF 0 (x :: a)) = (x :: a).map fun c => (c.toNat : Int) := by
  intro k
  induction k with
  | zero =>
    intro a ha _
    have : a = [] := List.eq_nil_of_length_eq_zero ha
    subst this
    have hlt := UInt8.toNat_lt x
    rw [valF_cons, valF_nil, hi_pos _ (by omega), show (0 * 128 + x.toNat % 128) / 128 = 0 by omega, hi_zero]
    refine ⟨by omega, ?_⟩
    simp only [List.nil_append, List.map_cons, List.map_nil, List.cons.injEq, and_true]
    omega
  | succ k ih =>
    intro a ha hm
    obtain ⟨b, c, rfl⟩ : ∃ b c, a = b ++ [c] := ⟨a.dropLast, a.getLast (by intro h; simp [h] at ha), (List.dropLast_concat_getLast _).symm⟩
    rw [more_snoc] at hm
    obtain ⟨g1, g2⟩ := ih b (by simpa using ha) hm.1
    have hlt := UInt8.toNat_lt c
    have hp : 0 < 128 ^ k := Nat.pow_pos (by omega)
    show _ ≤ valF 0 ((x :: b) ++ [c]) ∧ hi (valF 0 ((x :: b) ++ [c])) = ((x :: b) ++ [c]).map _
    rw [valF_snoc, hi_pos _ (by omega), show (valF 0 (x :: b) * 128 + c.toNat % 128) / 128 = valF 0 (x :: b) by omega, g2, List.map_append]
    refine ⟨by rw [Nat.pow_succ]; omega, ?_⟩
    simp only [List.map_cons, List.map_nil, List.append_cancel_left_eq, List.cons.injEq, and_true]
    omega

theorem byte_back (c : UInt8) : UInt8.ofNat (c.toNat : Int).toNat = c := by simp

theorem map_back (l : List UInt8) : (l.map fun c => (c.toNat : Int)).map (fun n => UInt8.ofNat n.toNat) = l := by
  induction l with
  | nil => rfl
  | cons c r ih => rw [List.map_cons, List.map_cons, ih, byte_back]

/-- the head of a number's text is no empty group. -/
theorem hi_head (n : Nat) (h : 0 < n) : ∃ x r, hi n = x :: r ∧ 128 < x ∧ x < 256 := by
  induction n using Nat.strongRecOn with
  | _ n ih =>
    rw [hi_pos n h]
    by_cases h1 : n / 128 = 0
    · rw [h1, hi_zero]; exact ⟨_, [], rfl, by omega, by omega⟩
    · obtain ⟨x, r, e, g⟩ := ih (n / 128) (by omega) (by omega)
      rw [e]; exact ⟨x, _, rfl, g⟩

/-- A: groups that go on, and one that does not, within bounds, which are the text of their number. -/
theorem rd_yes (a : List UInt8) (c : UInt8) (r : List UInt8) (hm : more a = true) (hc : c.toNat < 128) (hn : valF 0 (a ++ [c]) ≤ 2147483647)
    (ht : (num (valF 0 (a ++ [c]))).map (fun n => UInt8.ofNat n.toNat) = a ++ [c]) : rd (a ++ c :: r) = some (valF 0 (a ++ [c]), a.length + 1) := by
  rw [valF_snoc] at hn
  have h0 : (a ++ c :: r).head? ≠ some 128 := by
    cases a with
    | nil => intro h; simp at h; subst h; revert hc; decide
    | cons x a =>
      intro h
      simp at h
      subst h
      rw [valF_snoc] at ht
      unfold num at ht
      rw [show (valF 0 (128 :: a) * 128 + c.toNat % 128) / 128 = valF 0 (128 :: a) by omega] at ht
      by_cases hz : valF 0 (128 :: a) = 0
      · rw [hz, hi_zero] at ht; simp at ht
      · obtain ⟨x, r', e, g1, g2⟩ := hi_head _ (Nat.pos_of_ne_zero hz)
        rw [e] at ht
        simp at ht
        have := congrArg UInt8.toNat ht.1
        rw [UInt8.toNat_ofNat'] at this
        have e128 : (128 : UInt8).toNat = 128 := rfl
        rw [e128] at this
        omega
  unfold rd
  rw [if_neg h0, rdF_some a c r hc 0 hm (by omega)]

/-- B: where they are beyond MaxNumber or are not the text of their number: none. -/
theorem rd_no (a : List UInt8) (c : UInt8) (r : List UInt8) (hm : more a = true) (hc : c.toNat < 128)
    (h : 2147483647 < valF 0 (a ++ [c]) ∨ (num (valF 0 (a ++ [c]))).map (fun n => UInt8.ofNat n.toNat) ≠ a ++ [c]) : rd (a ++ c :: r) = none := by
  unfold rd
  by_cases h0 : (a ++ c :: r).head? = some 128
  · rw [if_pos h0]
  rw [if_neg h0]
  by_cases hb : 16777215 < valF 0 a
  · exact rdF_big a (c :: r) 0 hm hb
  · exfalso
    rw [valF_snoc] at h
    rcases h with h | h
    · omega
    · apply h
      unfold num
      rw [show (valF 0 a * 128 + c.toNat % 128) / 128 = valF 0 a by omega, show (valF 0 a * 128 + c.toNat % 128) % 128 = c.toNat by omega]
      cases a with
      | nil => rw [valF_nil, hi_zero]; simp
      | cons x a =>
        rw [more_cons] at hm
        have hx : 128 < x.toNat := by
          rcases Nat.lt_or_ge 128 x.toNat with g | g
          · exact g
          · exfalso; apply h0
            have : x = 128 := UInt8.toNat_inj.1 (by show _ = 128; omega)
            subst this; rfl
        rw [(hi_val x hx a.length a rfl hm.2).2, List.map_append, map_back]
        simp

/-- C: five groups that go on, or a text that ends so: none. -/
theorem rd_long (a r : List UInt8) (hm : more a = true) (h : a.length = 5 ∨ r = []) : rd (a ++ r) = none := by
  unfold rd
  by_cases h0 : (a ++ r).head? = some 128
  · rw [if_pos h0]
  rw [if_neg h0]
  rcases h with h | h
  · cases a with
    | nil => simp at h
    | cons x a =>
      rw [more_cons] at hm
      have hx : 128 < x.toNat := by
        rcases Nat.lt_or_ge 128 x.toNat with g | g
        · exact g
        · exfalso; apply h0
          have : x = 128 := UInt8.toNat_inj.1 (by show _ = 128; omega)
          subst this; rfl
      have := (hi_val x hx 4 a (by simpa using h) hm.2).1
      exact rdF_big (x :: a) r 0 ((more_cons _ _).2 hm) (by omega)
  · subst h; rw [List.append_nil]; exact rdF_end a 0 hm

theorem rdF_stop (n : Nat) (l : List UInt8) (h : 16777215 < n) : rdF n l = none := by
  cases l with
  | nil => rfl
  | cons c r => rw [rdF, if_pos h]

theorem rdF_last (n : Nat) (c : UInt8) (r : List UInt8) (h : n ≤ 16777215) (hc : c.toNat < 128) : rdF n (c :: r) = some (n * 128 + c.toNat % 128, 1) := by
  rw [rdF, if_neg (by omega), if_pos hc]

theorem rdF_go (n : Nat) (c : UInt8) (r : List UInt8) (h : n ≤ 16777215) (hc : 128 ≤ c.toNat) : rdF n (c :: r) = (rdF (n * 128 + c.toNat % 128) r).map fun p => (p.1, p.2 + 1) := by
  rw [rdF, if_neg (by omega), if_neg (by omega)]

/-- what is read is a number up to MaxNumber. -/
theorem rdF_bd (l : List UInt8) : ∀ n p, rdF n l = some p → p.1 ≤ 2147483647 ∧ 1 ≤ p.2 ∧ p.2 ≤ l.length := by
  induction l with
  | nil => intro n p h; cases h
  | cons c r ih =>
    intro n p h
    rw [rdF] at h
    by_cases h1 : 16777215 < n
    · rw [if_pos h1] at h; cases h
    · rw [if_neg h1] at h
      by_cases h2 : c.toNat < 128
      · rw [if_pos h2] at h
        cases h
        simp
        omega
      · rw [if_neg h2] at h
        obtain ⟨q, hq, rfl⟩ := Option.map_eq_some_iff.1 h
        have := ih _ q hq
        simp
        omega

theorem rd_bd (l : List UInt8) (p : Nat × Nat) (h : rd l = some p) : p.1 ≤ 2147483647 ∧ 1 ≤ p.2 ∧ p.2 ≤ l.length := by
  unfold rd at h
  split at h
  · cases h
  · exact rdF_bd l 0 p h

theorem valF_lt (l : List UInt8) : ∀ n, valF n l < (n + 1) * 128 ^ l.length := by
  induction l with
  | nil => intro n; rw [valF_nil]; simp
  | cons c r ih =>
    intro n
    rw [valF_cons]
    refine Nat.lt_of_lt_of_le (ih _) ?_
    rw [List.length_cons, Nat.pow_succ, Nat.mul_comm (128 ^ r.length) 128, ← Nat.mul_assoc]
    exact Nat.mul_le_mul_right _ (by omega)

theorem val_lt (l : List UInt8) (h : l.length ≤ 5) : valF 0 l < 34359738368 := by
  have h1 := valF_lt l 0
  have h2 : 128 ^ l.length ≤ 128 ^ 5 := Nat.pow_le_pow_right (by omega) h
  omega

theorem val_lt4 (l : List UInt8) (h : l.length ≤ 4) : valF 0 l < 268435456 := by
  have h1 := valF_lt l 0
  have h2 : 128 ^ l.length ≤ 128 ^ 4 := Nat.pow_le_pow_right (by omega) h
  omega

end Pl
end Go.Proofs.Ytlijlmjgnhheaaa
