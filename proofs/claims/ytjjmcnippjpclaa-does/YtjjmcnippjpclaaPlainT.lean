/-
  Plain facts on the sum of a text (P4) and on numbers: no program is named here.
  Plain facts on the text of a number (P3): no program is named here.
  Plain facts on reading a number (P3): no program is named here.
  Plain facts on the text of a number and its reading (P3): it comes back, wherever it stands; no program is named here.
  Plain facts on a sum when one byte is turned (P4): no program is named here.
-/
import Derived.WalkKit
import Derived.Laws.BytesArg
import Derived.Laws.BitsAllLaws
import Derived.Laws.Bits128
namespace Go.Proofs.Ytjjmcnippjpclaa

namespace Pl

/-- one byte of a sum: the two rests. -/
def step (p : Int × Int) (c : UInt8) : Int × Int := ((p.1 + (c.toNat : Int)) % 65521, (p.2 + (p.1 + (c.toNat : Int)) % 65521) % 65521)

def ad (l : List UInt8) : Int × Int := l.foldl step (1, 0)

theorem ad_snoc (l : List UInt8) (c : UInt8) : ad (l ++ [c]) = step (ad l) c := by simp [ad]

theorem step_bd (p : Int × Int) (c : UInt8) : 0 ≤ (step p c).1 ∧ (step p c).1 < 65521 ∧ 0 ≤ (step p c).2 ∧ (step p c).2 < 65521 := by
  unfold step; omega

theorem fold_bd (l : List UInt8) : ∀ p : Int × Int, 0 ≤ p.1 ∧ p.1 < 65521 ∧ 0 ≤ p.2 ∧ p.2 < 65521 → 0 ≤ (l.foldl step p).1 ∧ (l.foldl step p).1 < 65521 ∧ 0 ≤ (l.foldl step p).2 ∧ (l.foldl step p).2 < 65521 := by
  induction l with
  | nil => intro p h; exact h
  | cons c r ih => intro p _; exact ih _ (step_bd p c)

theorem ad_bd (l : List UInt8) : 0 ≤ (ad l).1 ∧ (ad l).1 < 65521 ∧ 0 ≤ (ad l).2 ∧ (ad l).2 < 65521 := fold_bd l _ (by decide)

theorem take_snoc (s : ByteArray) (k : Nat) (h : k < s.size) : s.data.toList.take (k + 1) = s.data.toList.take k ++ [s[k]] := by
  rw [List.take_succ_eq_append_getElem (by simpa using h)]; rfl

/-- the four bytes of a sum. -/
def sumOf (a b : Int) : ByteArray := strOfNums [b / 256, b % 256, a / 256, a % 256]

end Pl

end Go.Proofs.Ytjjmcnippjpclaa

namespace Go.Proofs.Ytjjmcnippjpclaa

namespace Pl

/-- the groups ahead of the last one, each with its highest bit set: so many at most. -/
def hiF : Nat → Nat → List Int
  | 0, _ => []
  | k + 1, n => if n = 0 then [] else hiF k (n / 128) ++ [128 + ((n % 128 : Nat) : Int)]

/-- all of them. -/
def hi (n : Nat) : List Int := hiF n n

theorem hiF_enough : ∀ (k n : Nat), n ≤ k → ∀ m, n ≤ m → hiF k n = hiF m n := by
  intro k
  induction k with
  | zero =>
    intro n h m _
    have : n = 0 := by omega
    subst this
    cases m with
    | zero => rfl
    | succ m => rw [hiF, hiF, if_pos rfl]
  | succ k ih =>
    intro n h m hm
    by_cases h0 : n = 0
    · subst h0
      cases m with
      | zero => rw [hiF, hiF, if_pos rfl]
      | succ m => rw [hiF, hiF, if_pos rfl, if_pos rfl]
    · cases m with
      | zero => omega
      | succ m => rw [hiF, hiF, if_neg h0, if_neg h0, ih (n / 128) (by omega) m (by omega)]

/-- the text of a number, byte by byte. -/
def num (n : Nat) : List Int := hi (n / 128) ++ [((n % 128 : Nat) : Int)]

theorem hi_zero : hi 0 = [] := rfl

theorem hi_pos (n : Nat) (h : 0 < n) : hi n = hi (n / 128) ++ [128 + ((n % 128 : Nat) : Int)] := by
  obtain ⟨k, rfl⟩ : ∃ k, n = k + 1 := ⟨n - 1, by omega⟩
  unfold hi
  rw [hiF, if_neg (by omega), hiF_enough k ((k + 1) / 128) (by omega) ((k + 1) / 128) (by omega)]

theorem hi_mem (n : Nat) : ∀ x ∈ hi n, 128 ≤ x ∧ x < 256 := by
  induction n using Nat.strongRecOn with
  | _ n ih =>
    by_cases h : n = 0
    · subst h; rw [hi_zero]; intro x hx; cases hx
    · rw [hi_pos n (by omega)]
      intro x hx
      rw [List.mem_append] at hx
      rcases hx with hx | hx
      · exact ih _ (by omega) x hx
      · simp at hx; omega

/-- how long: 'hi' of a number below 128^k has at most k groups. -/
theorem hi_len : ∀ (k n : Nat), n < 128 ^ k → (hi n).length ≤ k := by
  intro k
  induction k with
  | zero => intro n h; have : n = 0 := by simpa using h
            subst this; rw [hi_zero]; simp
  | succ k ih =>
    intro n h
    by_cases h0 : n = 0
    · subst h0; rw [hi_zero]; simp
    · rw [hi_pos n (by omega)]
      have := ih (n / 128) (by rw [Nat.pow_succ] at h; omega)
      simp; omega

theorem strOfNums_append (a b : List Int) : strOfNums (a ++ b) = strOfNums a ++ strOfNums b := by
  apply ByteArray.ext
  simp [strOfNums]

theorem strOfNums_size (a : List Int) : (strOfNums a).size = a.length := by
  simp [strOfNums, ByteArray.size]

theorem or7 (x y : Nat) (h : x < 72057594037927936) (hy : y < 128) : bits .or .i64 ((x : Int) * 128) (y : Int) = (x : Int) * 128 + (y : Int) := by
  have e : ((x : Int) * 128) = ((x * 128 : Nat) : Int) := by omega
  rw [e]
  show IntKind.i64.wrap ((BitVec.ofInt 64 ((x * 128 : Nat) : Int) ||| BitVec.ofInt 64 (y : Int)).toNat : Int) = _
  rw [BitVec.toNat_or, ofInt_u64 _ (by omega), ofInt_u64 _ (by omega), nat_join 7 (x * 128) y (by omega) (by omega), IntKind.wrap_i64]
  omega

theorem or128 (y : Nat) (h : y < 128) : bits .or .u8 (y : Int) 128 = 128 + (y : Int) := by
  have := u8_or_nat y 128 (by omega) (by omega)
  rw [show ((128 : Nat) : Int) = 128 from rfl] at this
  rw [this, Nat.or_comm, nat_join 7 128 y (by omega) (by omega)]
  omega

theorem u8and127 (y : Nat) (h : y < 256) : bits .and .u8 (y : Int) 127 = ((y % 128 : Nat) : Int) := by
  have := u8_and_nat y 127 (by omega) (by omega)
  rw [show ((127 : Nat) : Int) = 127 from rfl] at this
  rw [this, nat_mask7]

theorem low (x : Int) (h0 : 0 ≤ x) : bits .and .i64 x 127 % 256 = ((x.toNat % 128 : Nat) : Int) := by
  rw [i64_and127]; omega

theorem high (x : Int) (h0 : 0 ≤ x) : bits .or .u8 (bits .and .i64 x 127 % 256) 128 = 128 + ((x.toNat % 128 : Nat) : Int) := by
  rw [low x h0]; exact or128 _ (by omega)

end Pl

end Go.Proofs.Ytjjmcnippjpclaa

namespace Go.Proofs.Ytjjmcnippjpclaa

namespace Pl

/-- groups read on, one by one, from a number that was read so far: the number, and how many bytes. -/
def rdF (n : Nat) : List UInt8 → Option (Nat × Nat)
  | [] => none
  | c :: r => if 16777215 < n then none else if c.toNat < 128 then some (n * 128 + c.toNat % 128, 1) else (rdF (n * 128 + c.toNat % 128) r).map fun p => (p.1, p.2 + 1)

/-- the number that stands at the head of a text, and how many bytes it has. -/
def rd (l : List UInt8) : Option (Nat × Nat) := if l.head? = some 128 then none else rdF 0 l

/-- the number of some groups behind a number. -/
def valF (n : Nat) (l : List UInt8) : Nat := l.foldl (fun n c => n * 128 + c.toNat % 128) n

theorem valF_nil (n : Nat) : valF n [] = n := rfl

theorem valF_cons (n : Nat) (c : UInt8) (l : List UInt8) : valF n (c :: l) = valF (n * 128 + c.toNat % 128) l := rfl

theorem valF_snoc (n : Nat) (c : UInt8) (l : List UInt8) : valF n (l ++ [c]) = valF n l * 128 + c.toNat % 128 := by simp [valF]

theorem valF_ge (l : List UInt8) : ∀ n, n ≤ valF n l := by
  induction l with
  | nil => intro n; exact Nat.le_refl _
  | cons c r ih => intro n; rw [valF_cons]; have := ih (n * 128 + c.toNat % 128); omega

/-- are all of some bytes marked 'there is more'? -/
def more (l : List UInt8) : Bool := l.all fun c => decide (128 ≤ c.toNat)

theorem more_cons (c : UInt8) (l : List UInt8) : more (c :: l) = true ↔ 128 ≤ c.toNat ∧ more l = true := by simp [more]

theorem more_snoc (c : UInt8) (l : List UInt8) : more (l ++ [c]) = true ↔ more l = true ∧ 128 ≤ c.toNat := by simp [more]

/-- groups that all go on, then one that does not: the number. -/
theorem rdF_some (a : List UInt8) (c : UInt8) (r : List UInt8) (hc : c.toNat < 128) : ∀ n, more a = true → valF n a ≤ 16777215 → rdF n (a ++ c :: r) = some (valF n (a ++ [c]), a.length + 1) := by
  induction a with
  | nil =>
    intro n _ h
    rw [valF_nil] at h
    show rdF n (c :: r) = _
    rw [rdF, if_neg (by omega), if_pos hc]
    rfl
  | cons x a ih =>
    intro n hm h
    rw [more_cons] at hm
    rw [valF_cons] at h
    have h1 := valF_ge a (n * 128 + x.toNat % 128)
    show rdF n (x :: (a ++ c :: r)) = some (valF n (x :: (a ++ [c])), _)
    rw [rdF, if_neg (by omega), if_neg (by omega), ih _ hm.2 h, valF_cons]
    rfl

theorem rdF_big (a r : List UInt8) : ∀ n, more a = true → 16777215 < valF n a → rdF n (a ++ r) = none := by
  induction a with
  | nil =>
    intro n _ h
    rw [valF_nil] at h
    cases r with
    | nil => rfl
    | cons c r => show rdF n (c :: r) = none; rw [rdF, if_pos h]
  | cons x a ih =>
    intro n hm h
    rw [more_cons] at hm
    rw [valF_cons] at h
    show rdF n (x :: (a ++ r)) = none
    by_cases hn : 16777215 < n
    · rw [rdF, if_pos hn]
    · rw [rdF, if_neg hn, if_neg (by omega), ih _ hm.2 h]; rfl

theorem rdF_end (a : List UInt8) : ∀ n, more a = true → rdF n a = none := by
  induction a with
  | nil => intro n _; rfl
  | cons x a ih =>
    intro n hm
    rw [more_cons] at hm
    by_cases hn : 16777215 < n
    · rw [rdF, if_pos hn]
    · rw [rdF, if_neg hn, if_neg (by omega), ih _ hm.2]; rfl

/-- groups that go on, the first not empty: they are the text of their number. -/
theorem hi_val (x : UInt8) (hx : 128 < x.toNat) : ∀ (k : Nat) (a : List UInt8), a.length = k → more a = true → 128 ^ k ≤ valF 0 (x :: a) ∧ hi (valF 0 (x :: a)) = (x :: a).map fun c => (c.toNat : Int) := by
  intro k
  induction k with
  | zero =>
    intro a ha _
    have : a = [] := List.eq_nil_of_length_eq_zero ha
    subst this
    have hlt := UInt8.toNat_lt x
    rw [valF_cons, valF_nil, hi_pos _ (by omega), show (0 * 128 + x.toNat % 128) / 128 = 0 by omega, hi_zero]
    refine ⟨by omega, ?_⟩
    simp only [List.nil_append, List.map_cons, List.map_nil, List.cons.injEq, and_true]
    omega
  | succ k ih =>
    intro a ha hm
    obtain ⟨b, c, rfl⟩ : ∃ b c, a = b ++ [c] := ⟨a.dropLast, a.getLast (by intro h; simp [h] at ha), (List.dropLast_concat_getLast _).symm⟩
    rw [more_snoc] at hm
    obtain ⟨g1, g2⟩ := ih b (by simpa using ha) hm.1
    have hlt := UInt8.toNat_lt c
    have hp : 0 < 128 ^ k := Nat.pow_pos (by omega)
    show _ ≤ valF 0 ((x :: b) ++ [c]) ∧ hi (valF 0 ((x :: b) ++ [c])) = ((x :: b) ++ [c]).map _
    rw [valF_snoc, hi_pos _ (by omega), show (valF 0 (x :: b) * 128 + c.toNat % 128) / 128 = valF 0 (x :: b) by omega, g2, List.map_append]
    refine ⟨by rw [Nat.pow_succ]; omega, ?_⟩
    simp only [List.map_cons, List.map_nil, List.append_cancel_left_eq, List.cons.injEq, and_true]
    omega

theorem byte_back (c : UInt8) : UInt8.ofNat (c.toNat : Int).toNat = c := by simp

theorem map_back (l : List UInt8) : (l.map fun c => (c.toNat : Int)).map (fun n => UInt8.ofNat n.toNat) = l := by
  induction l with
  | nil => rfl
  | cons c r ih => rw [List.map_cons, List.map_cons, ih, byte_back]

/-- the head of a number's text is no empty group. -/
theorem hi_head (n : Nat) (h : 0 < n) : ∃ x r, hi n = x :: r ∧ 128 < x ∧ x < 256 := by
  induction n using Nat.strongRecOn with
  | _ n ih =>
    rw [hi_pos n h]
    by_cases h1 : n / 128 = 0
    · rw [h1, hi_zero]; exact ⟨_, [], rfl, by omega, by omega⟩
    · obtain ⟨x, r, e, g⟩ := ih (n / 128) (by omega) (by omega)
      rw [e]; exact ⟨x, _, rfl, g⟩

/-- A: groups that go on, and one that does not, within bounds, which are the text of their number. -/
theorem rd_yes (a : List UInt8) (c : UInt8) (r : List UInt8) (hm : more a = true) (hc : c.toNat < 128) (hn : valF 0 (a ++ [c]) ≤ 2147483647)
    (ht : (num (valF 0 (a ++ [c]))).map (fun n => UInt8.ofNat n.toNat) = a ++ [c]) : rd (a ++ c :: r) = some (valF 0 (a ++ [c]), a.length + 1) := by
  rw [valF_snoc] at hn
  have h0 : (a ++ c :: r).head? ≠ some 128 := by
    cases a with
    | nil => intro h; simp at h; subst h; revert hc; decide
    | cons x a =>
      intro h
      simp at h
      subst h
      rw [valF_snoc] at ht
      unfold num at ht
      rw [show (valF 0 (128 :: a) * 128 + c.toNat % 128) / 128 = valF 0 (128 :: a) by omega] at ht
      by_cases hz : valF 0 (128 :: a) = 0
      · rw [hz, hi_zero] at ht; simp at ht
      · obtain ⟨x, r', e, g1, g2⟩ := hi_head _ (Nat.pos_of_ne_zero hz)
        rw [e] at ht
        simp at ht
        have := congrArg UInt8.toNat ht.1
        rw [UInt8.toNat_ofNat'] at this
        have e128 : (128 : UInt8).toNat = 128 := rfl
        rw [e128] at this
        omega
  unfold rd
  rw [if_neg h0, rdF_some a c r hc 0 hm (by omega)]

/-- B: where they are beyond MaxNumber or are not the text of their number: none. -/
theorem rd_no (a : List UInt8) (c : UInt8) (r : List UInt8) (hm : more a = true) (hc : c.toNat < 128)
    (h : 2147483647 < valF 0 (a ++ [c]) ∨ (num (valF 0 (a ++ [c]))).map (fun n => UInt8.ofNat n.toNat) ≠ a ++ [c]) : rd (a ++ c :: r) = none := by
  unfold rd
  by_cases h0 : (a ++ c :: r).head? = some 128
  · rw [if_pos h0]
  rw [if_neg h0]
  by_cases hb : 16777215 < valF 0 a
  · exact rdF_big a (c :: r) 0 hm hb
  · exfalso
    rw [valF_snoc] at h
    rcases h with h | h
    · omega
    · apply h
      unfold num
      rw [show (valF 0 a * 128 + c.toNat % 128) / 128 = valF 0 a by omega, show (valF 0 a * 128 + c.toNat % 128) % 128 = c.toNat by omega]
      cases a with
      | nil => rw [valF_nil, hi_zero]; simp
      | cons x a =>
        rw [more_cons] at hm
        have hx : 128 < x.toNat := by
          rcases Nat.lt_or_ge 128 x.toNat with g | g
          · exact g
          · exfalso; apply h0
            have : x = 128 := UInt8.toNat_inj.1 (by show _ = 128; omega)
            subst this; rfl
        rw [(hi_val x hx a.length a rfl hm.2).2, List.map_append, map_back]
        simp

/-- C: five groups that go on, or a text that ends so: none. -/
theorem rd_long (a r : List UInt8) (hm : more a = true) (h : a.length = 5 ∨ r = []) : rd (a ++ r) = none := by
  unfold rd
  by_cases h0 : (a ++ r).head? = some 128
  · rw [if_pos h0]
  rw [if_neg h0]
  rcases h with h | h
  · cases a with
    | nil => simp at h
    | cons x a =>
      rw [more_cons] at hm
      have hx : 128 < x.toNat := by
        rcases Nat.lt_or_ge 128 x.toNat with g | g
        · exact g
        · exfalso; apply h0
          have : x = 128 := UInt8.toNat_inj.1 (by show _ = 128; omega)
          subst this; rfl
      have := (hi_val x hx 4 a (by simpa using h) hm.2).1
      exact rdF_big (x :: a) r 0 ((more_cons _ _).2 hm) (by omega)
  · subst h; rw [List.append_nil]; exact rdF_end a 0 hm

theorem rdF_stop (n : Nat) (l : List UInt8) (h : 16777215 < n) : rdF n l = none := by
  cases l with
  | nil => rfl
  | cons c r => rw [rdF, if_pos h]

theorem rdF_last (n : Nat) (c : UInt8) (r : List UInt8) (h : n ≤ 16777215) (hc : c.toNat < 128) : rdF n (c :: r) = some (n * 128 + c.toNat % 128, 1) := by
  rw [rdF, if_neg (by omega), if_pos hc]

theorem rdF_go (n : Nat) (c : UInt8) (r : List UInt8) (h : n ≤ 16777215) (hc : 128 ≤ c.toNat) : rdF n (c :: r) = (rdF (n * 128 + c.toNat % 128) r).map fun p => (p.1, p.2 + 1) := by
  rw [rdF, if_neg (by omega), if_neg (by omega)]

/-- what is read is a number up to MaxNumber. -/
theorem rdF_bd (l : List UInt8) : ∀ n p, rdF n l = some p → p.1 ≤ 2147483647 ∧ 1 ≤ p.2 ∧ p.2 ≤ l.length := by
  induction l with
  | nil => intro n p h; cases h
  | cons c r ih =>
    intro n p h
    rw [rdF] at h
    by_cases h1 : 16777215 < n
    · rw [if_pos h1] at h; cases h
    · rw [if_neg h1] at h
      by_cases h2 : c.toNat < 128
      · rw [if_pos h2] at h
        cases h
        simp
        omega
      · rw [if_neg h2] at h
        obtain ⟨q, hq, rfl⟩ := Option.map_eq_some_iff.1 h
        have := ih _ q hq
        simp
        omega

theorem rd_bd (l : List UInt8) (p : Nat × Nat) (h : rd l = some p) : p.1 ≤ 2147483647 ∧ 1 ≤ p.2 ∧ p.2 ≤ l.length := by
  unfold rd at h
  split at h
  · cases h
  · exact rdF_bd l 0 p h

theorem valF_lt (l : List UInt8) : ∀ n, valF n l < (n + 1) * 128 ^ l.length := by
  induction l with
  | nil => intro n; rw [valF_nil]; simp
  | cons c r ih =>
    intro n
    rw [valF_cons]
    refine Nat.lt_of_lt_of_le (ih _) ?_
    rw [List.length_cons, Nat.pow_succ, Nat.mul_comm (128 ^ r.length) 128, ← Nat.mul_assoc]
    exact Nat.mul_le_mul_right _ (by omega)

theorem val_lt (l : List UInt8) (h : l.length ≤ 5) : valF 0 l < 34359738368 := by
  have h1 := valF_lt l 0
  have h2 : 128 ^ l.length ≤ 128 ^ 5 := Nat.pow_le_pow_right (by omega) h
  omega

theorem val_lt4 (l : List UInt8) (h : l.length ≤ 4) : valF 0 l < 268435456 := by
  have h1 := valF_lt l 0
  have h2 : 128 ^ l.length ≤ 128 ^ 4 := Nat.pow_le_pow_right (by omega) h
  omega

end Pl

end Go.Proofs.Ytjjmcnippjpclaa

namespace Go.Proofs.Ytjjmcnippjpclaa

namespace Pl

def bytes (l : List Int) : List UInt8 := l.map fun n => UInt8.ofNat n.toNat

theorem bytes_append (a b : List Int) : bytes (a ++ b) = bytes a ++ bytes b := by simp [bytes]

theorem val_hi (n : Nat) : valF 0 (bytes (hi n)) = n ∧ more (bytes (hi n)) = true := by
  induction n using Nat.strongRecOn with
  | _ n ih =>
    by_cases h : n = 0
    · subst h; rw [hi_zero]; exact ⟨rfl, rfl⟩
    · rw [hi_pos n (by omega), bytes_append]
      obtain ⟨h1, h2⟩ := ih (n / 128) (by omega)
      have e : bytes [128 + ((n % 128 : Nat) : Int)] = [UInt8.ofNat (128 + n % 128)] := by
        simp only [bytes, List.map_cons, List.map_nil]
        rw [show (128 + ((n % 128 : Nat) : Int)).toNat = 128 + n % 128 by omega]
      have t : (UInt8.ofNat (128 + n % 128)).toNat = 128 + n % 128 := by rw [UInt8.toNat_ofNat']; omega
      rw [e, valF_snoc, more_snoc, h1, t]
      exact ⟨by omega, h2, by omega⟩

theorem num_bytes (n : Nat) : bytes (num n) = bytes (hi (n / 128)) ++ [UInt8.ofNat (n % 128)] := by
  unfold num
  rw [bytes_append]
  rfl

theorem low_toNat (n : Nat) : (UInt8.ofNat (n % 128)).toNat = n % 128 := by rw [UInt8.toNat_ofNat']; omega

theorem val_num (n : Nat) : valF 0 (bytes (num n)) = n := by
  rw [num_bytes, valF_snoc, (val_hi _).1, low_toNat]
  omega

theorem num_len (n : Nat) : (bytes (num n)).length = (hi (n / 128)).length + 1 := by rw [num_bytes]; simp [bytes]

/-- a number comes back from its text, whatever stands behind it. -/
theorem rd_num (n : Nat) (h : n ≤ 2147483647) (r : List UInt8) : rd (bytes (num n) ++ r) = some (n, (bytes (num n)).length) := by
  have e := val_num n
  rw [num_bytes] at e
  have ht : (num (valF 0 (bytes (hi (n / 128)) ++ [UInt8.ofNat (n % 128)]))).map (fun n => UInt8.ofNat n.toNat) = bytes (hi (n / 128)) ++ [UInt8.ofNat (n % 128)] := by
    rw [e, ← num_bytes]; rfl
  have := rd_yes (bytes (hi (n / 128))) (UInt8.ofNat (n % 128)) r (val_hi _).2 (by rw [low_toNat]; omega) (by omega) ht
  rw [e] at this
  rw [num_bytes, List.append_assoc, List.length_append]
  exact this

/-- a text that lacks its end is none. -/
theorem rd_cut (n : Nat) : rd (bytes (hi (n / 128))) = none := by
  have := rd_long (bytes (hi (n / 128))) [] (val_hi _).2 (.inr rfl)
  rwa [List.append_nil] at this

theorem hi_mono (a : Nat) : ∀ b, a ≤ b → (hi a).length ≤ (hi b).length := by
  induction a using Nat.strongRecOn with
  | _ a ih =>
    intro b h
    by_cases h0 : a = 0
    · subst h0; rw [hi_zero]; simp
    · rw [hi_pos a (by omega), hi_pos b (by omega)]
      have := ih (a / 128) (by omega) (b / 128) (Nat.div_le_div_right h)
      simp; exact this

theorem num_mono (a b : Nat) (h : a ≤ b) : (bytes (num a)).length ≤ (bytes (num b)).length := by
  rw [num_len, num_len]
  have := hi_mono (a / 128) (b / 128) (Nat.div_le_div_right h)
  omega

theorem num_inj (a b : Nat) (h : bytes (num a) = bytes (num b)) : a = b := by
  have := congrArg (valF 0) h
  rwa [val_num, val_num] at this

theorem num_len5 (n : Nat) (h : n ≤ 2147483647) : (bytes (num n)).length ≤ 5 := by
  rw [num_len]
  have := hi_len 4 (n / 128) (by omega)
  omega

end Pl

end Go.Proofs.Ytjjmcnippjpclaa

namespace Go.Proofs.Ytjjmcnippjpclaa

namespace Pl

def total (l : List UInt8) : Nat := (l.map UInt8.toNat).sum

theorem fold_fst (l : List UInt8) : ∀ p : Int × Int, (l.foldl step p).1 % 65521 = (p.1 + (total l : Int)) % 65521 := by
  induction l with
  | nil => intro p; simp [total]
  | cons c r ih =>
    intro p
    rw [List.foldl_cons, ih]
    have : total (c :: r) = c.toNat + total r := by simp [total]
    rw [this]
    unfold step
    simp only
    omega

theorem ad_fst (l : List UInt8) : (ad l).1 = (1 + (total l : Int)) % 65521 := by
  have h := fold_fst l (1, 0)
  have b := ad_bd l
  have e : (ad l).1 % 65521 = (1 + (total l : Int)) % 65521 := h
  rw [← e]
  omega

theorem total_set (l : List UInt8) : ∀ (i : Nat) (h : i < l.length) (c : UInt8), total (l.set i c) + l[i].toNat = total l + c.toNat := by
  induction l with
  | nil => intro i h; simp at h
  | cons x r ih =>
    intro i h c
    cases i with
    | zero => simp [total]; omega
    | succ i =>
      have := ih i (by simpa using h) c
      simp [total] at this ⊢
      omega

theorem ad_set (l : List UInt8) (i : Nat) (h : i < l.length) (c : UInt8) (hc : c ≠ l[i]) : (ad (l.set i c)).1 ≠ (ad l).1 := by
  rw [ad_fst, ad_fst]
  have h1 := total_set l i h c
  have h2 := UInt8.toNat_lt c
  have h3 := UInt8.toNat_lt l[i]
  have h4 : c.toNat ≠ l[i].toNat := fun e => hc (UInt8.toNat_inj.1 e)
  omega

theorem sumOf_fst (a b c d : Int) (ha : 0 ≤ a ∧ a < 65521) (hc : 0 ≤ c ∧ c < 65521) (h : sumOf a b = sumOf c d) : a = c := by
  have h1 := congrArg (fun s : ByteArray => s.data.toList) h
  simp only [sumOf, strOfNums_data, List.map_cons, List.map_nil, List.cons.injEq, and_true] at h1
  obtain ⟨_, _, h2, h3⟩ := h1
  have g2 := congrArg UInt8.toNat h2
  have g3 := congrArg UInt8.toNat h3
  rw [UInt8.toNat_ofNat', UInt8.toNat_ofNat'] at g2 g3
  omega

/-- turning one byte turns the sum. -/
theorem sum_turned (l : List UInt8) (i : Nat) (h : i < l.length) (c : UInt8) (hc : c ≠ l[i]) :
    sumOf (ad (l.set i c)).1 (ad (l.set i c)).2 ≠ sumOf (ad l).1 (ad l).2 := by
  intro e
  have b1 := ad_bd (l.set i c)
  have b2 := ad_bd l
  exact ad_set l i h c hc (sumOf_fst _ _ _ _ ⟨b1.1, b1.2.1⟩ ⟨b2.1, b2.2.1⟩ e)

/-- a byte and a number that is not 0: another byte. -/
theorem xor_ne (x y : Nat) (hy : y ≠ 0) : x ^^^ y ≠ x := by
  intro h
  have : x ^^^ (x ^^^ y) = x ^^^ x := by rw [h]
  rw [← Nat.xor_assoc, Nat.xor_self, Nat.zero_xor] at this
  exact hy this

theorem u8xor (x y : Nat) (hx : x < 256) (hy : y < 256) : bits .xor .u8 (x : Int) (y : Int) = ((x ^^^ y : Nat) : Int) := u8_xor_nat x y hx hy

theorem xor_lt (x y : Nat) (hx : x < 256) (hy : y < 256) : x ^^^ y < 256 := Nat.xor_lt_two_pow (n := 8) hx hy

theorem sum_size (a b : Int) : (sumOf a b).size = 4 := by simp [sumOf, strOfNums_size]

end Pl

end Go.Proofs.Ytjjmcnippjpclaa
