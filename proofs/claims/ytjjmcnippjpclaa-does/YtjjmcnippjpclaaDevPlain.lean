/-
  A device, plainly: its text, what of it is sure, its log, how much of that is sure, and how many calls it lives; what its calls do; the log's records, and what a log tells.
-/
import Derived.Test.YtjjmcnippjpclaaPlainT
namespace Go.Proofs.Ytjjmcnippjpclaa.Dp

structure Dv where
  text : List UInt8
  safe : List UInt8
  log : List UInt8
  sure : Nat
  life : Int

def tick (l : Int) : Int := if 0 < l then l - 1 else l

theorem tick_ge {l : Int} (h : -1 ≤ l) : -1 ≤ tick l := by unfold tick; split <;> omega

theorem tick_le {l : Int} : tick l ≤ l := by unfold tick; split <;> omega

theorem tick_neg : tick (-1) = -1 := rfl

/-- one call less to live. -/
def Dv.on (x : Dv) : Dv := { x with life := tick x.life }

def pCut (x : Dv) (n : Nat) : Bool × Dv :=
  if x.life = 0 then (false, x) else if n ≤ x.log.length then (true, { x.on with log := x.log.take n, sure := n }) else (false, x.on)

def pSyncText (x : Dv) : Bool × Dv := if x.life = 0 then (false, x) else (true, { x.on with safe := x.text })

def pLog (x : Dv) (s : List UInt8) : Bool × Dv := if x.life = 0 then (false, x) else (true, { x.on with log := x.log ++ s })

def pSyncLog (x : Dv) : Bool × Dv := if x.life = 0 then (false, x) else (true, { x.on with sure := x.log.length })

def pWrite (x : Dv) (a : Nat) (s : List UInt8) : Bool × Dv :=
  if x.life = 0 then (false, x) else if a + s.length ≤ x.text.length then (true, { x.on with text := x.text.take a ++ s ++ x.text.drop (a + s.length) }) else (false, x.on)

def pRead (x : Dv) (n : Nat) : Option (List UInt8) := if x.life = 0 ∨ x.text.length < n then none else some (x.text.take n)

/-- one call behind another, if that went well. -/
def andB (r : Bool × Dv) (f : Dv → Bool × Dv) : Bool × Dv := match r with
  | (true, y) => f y
  | (false, y) => (false, y)

def pLay (x : Dv) (s : List UInt8) : Bool × Dv := andB (pLog x s) pSyncLog

def pPut (x : Dv) (a : Nat) (there piece : List UInt8) : Bool × Dv := if there = piece then (true, x) else andB (pWrite x a piece) pSyncText

def pSettle (x : Dv) (next : List UInt8) (e : Nat) : Bool × Dv := match pRead x next.length with
  | none => (false, x)
  | some there => andB (pPut x 0 (there.take e) (next.take e)) fun y => pPut y e (there.drop e) (next.drop e)

def sumL (l : List UInt8) : ByteArray := Pl.sumOf (Pl.ad l).1 (Pl.ad l).2

/-- a patch that is surely begun is brought to its end. -/
def pGoOn (x : Dv) (next : List UInt8) (NL : Nat) (NS : ByteArray) (e : Nat) : Int × Dv := match pSettle x next e with
  | (false, y) => (7, y)
  | (true, y) => match pRead y NL with
    | none => (7, y)
    | some t => if sumL t = NS then (match pLay y [100] with
      | (true, z) => (0, z)
      | (false, z) => (7, z)) else (5, y)

/-! ### the log -/

/-- a record: a patch that is begun, and what it makes; or that it is done. -/
abbrev Rc := Option (List UInt8 × List UInt8)

def nb (n : Nat) : List UInt8 := Pl.bytes (Pl.num n)

def enc : Rc → List UInt8
  | none => [100]
  | some (p, n) => 98 :: (nb p.length ++ (p ++ (nb n.length ++ n)))

def wf : Rc → Prop
  | none => True
  | some (p, n) => p.length ≤ 2147483647 ∧ n.length ≤ 2147483647

/-- the record that a text opens with, and how long it is. -/
def tk : List UInt8 → Option (Rc × Nat)
  | [] => none
  | b :: r => if b = 98 then (match Pl.rd r with
      | none => none
      | some (n1, c1) => if c1 + n1 ≤ r.length then (match Pl.rd (r.drop (c1 + n1)) with
          | none => none
          | some (n2, c2) => if c1 + n1 + c2 + n2 ≤ r.length then some (some ((r.drop c1).take n1, (r.drop (c1 + n1 + c2)).take n2), 1 + (c1 + n1 + c2 + n2)) else none) else none)
    else if b = 100 then some (none, 1) else none

/-- behind the mark of a begun patch. -/
def tkB (r : List UInt8) : Option (Rc × Nat) := match Pl.rd r with
      | none => none
      | some (n1, c1) => if c1 + n1 ≤ r.length then (match Pl.rd (r.drop (c1 + n1)) with
          | none => none
          | some (n2, c2) => if c1 + n1 + c2 + n2 ≤ r.length then some (some ((r.drop c1).take n1, (r.drop (c1 + n1 + c2)).take n2), 1 + (c1 + n1 + c2 + n2)) else none) else none

theorem tk_cons (b : UInt8) (r : List UInt8) : tk (b :: r) = if b = 98 then tkB r else if b = 100 then some (none, 1) else none := rfl

theorem tk_b (r : List UInt8) : tk (98 :: r) = tkB r := rfl

theorem tk_pos {l : List UInt8} {r : Rc} {c : Nat} (h : tk l = some (r, c)) : 1 ≤ c ∧ c ≤ l.length := by
  cases l with
  | nil => cases h
  | cons b s =>
    rw [tk_cons] at h
    split at h
    · unfold tkB at h
      split at h
      · cases h
      · rename_i n1 c1 h1
        split at h
        · rename_i h2
          split at h
          · cases h
          · split at h
            · cases h; simp only [List.length_cons]; omega
            · cases h
        · cases h
    · split at h
      · cases h; simp
      · cases h

/-- what a log tells. -/
structure Jn where
  patch : List UInt8
  next : List UInt8
  done : Bool
  whole : Nat

def Jn.take (j : Jn) (r : Rc) (c : Nat) : Jn := match r with
  | none => { j with done := true, whole := j.whole + c }
  | some (p, n) => ⟨p, n, false, j.whole + c⟩

def Jn.zero : Jn := ⟨[], [], false, 0⟩

def jn : Nat → List UInt8 → Jn → Jn
  | 0, _, j => j
  | f + 1, l, j => match tk l with
    | none => j
    | some (r, c) => jn f (l.drop c) (j.take r c)

theorem jn_stop (f : Nat) (l : List UInt8) (j : Jn) (h : tk l = none) : jn f l j = j := by cases f <;> simp [jn, h]

theorem jn_fuel : ∀ (f : Nat) (l : List UInt8) (j : Jn), l.length ≤ f → jn f l j = jn l.length l j := by
  intro f
  induction f using Nat.strongRecOn with
  | ind f ih =>
    intro l j hl
    cases hk : tk l with
    | none => rw [jn_stop _ _ _ hk, jn_stop _ _ _ hk]
    | some p =>
      obtain ⟨r, c⟩ := p
      have hc := tk_pos hk
      cases f with
      | zero => omega
      | succ f =>
        cases l with
        | nil => cases hk
        | cons b s =>
          simp only [jn, hk, List.length_cons]
          rw [ih f (Nat.lt_succ_self _) _ _ (by simp at hl ⊢; omega)]
          by_cases hf : s.length < f + 1
          · rw [ih s.length hf _ _ (by simp; omega)]
          · rw [show s.length = f from by simp at hl; omega]
            exact (ih f (Nat.lt_succ_self _) _ _ (by simp at hl ⊢; omega)).symm

def jrn (l : List UInt8) : Jn := jn l.length l .zero

theorem jn_step {l : List UInt8} {r : Rc} {c : Nat} (h : tk l = some (r, c)) (j : Jn) : jn l.length l j = jn (l.drop c).length (l.drop c) (j.take r c) := by
  have hc := tk_pos h
  cases l with
  | nil => cases h
  | cons b s =>
    simp only [List.length_cons, jn, h]
    exact jn_fuel _ _ _ (by simp; omega)

theorem tk_enc (r : Rc) (h : wf r) (t : List UInt8) : tk (enc r ++ t) = some (r, (enc r).length) := by
  cases r with
  | none => rfl
  | some pn =>
    obtain ⟨p, n⟩ := pn
    obtain ⟨h1, h2⟩ := h
    have e1 : ((nb p.length ++ (p ++ (nb n.length ++ n))) ++ t).drop ((nb p.length).length + p.length) = nb n.length ++ (n ++ t) := by
      rw [List.append_assoc, ← List.drop_drop, List.drop_left, List.append_assoc, List.drop_left, List.append_assoc]
    have e0 : ((nb p.length ++ (p ++ (nb n.length ++ n))) ++ t).drop (nb p.length).length = p ++ ((nb n.length ++ n) ++ t) := by
      rw [List.append_assoc, List.drop_left, List.append_assoc]
    have e2 : ((nb p.length ++ (p ++ (nb n.length ++ n))) ++ t).drop ((nb p.length).length + p.length + (nb n.length).length) = n ++ t := by
      rw [← List.drop_drop, e1, List.drop_left]
    show tk (98 :: ((nb p.length ++ (p ++ (nb n.length ++ n))) ++ t)) = _
    rw [tk_b]
    unfold tkB
    have r1 : Pl.rd ((nb p.length ++ (p ++ (nb n.length ++ n))) ++ t) = some (p.length, (nb p.length).length) := by
      rw [List.append_assoc]; exact Pl.rd_num _ h1 _
    have r2 : Pl.rd (nb n.length ++ (n ++ t)) = some (n.length, (nb n.length).length) := Pl.rd_num _ h2 _
    rw [r1]
    simp only [e0, e1, e2, r2]
    rw [if_pos (by simp <;> omega), if_pos (by simp <;> omega)]
    simp only [List.take_left]
    congr 2
    simp [enc]
    try omega

theorem rd_part (k n : Nat) (h : k < (nb n).length) : Pl.rd ((nb n).take k) = none := by
  unfold nb at *
  rw [Pl.num_bytes] at *
  have hm := (Pl.val_hi (n / 128)).2
  have hk : k ≤ (Pl.bytes (Pl.hi (n / 128))).length := by simp at h; omega
  rw [List.take_append_of_le_length hk]
  have : Pl.more ((Pl.bytes (Pl.hi (n / 128))).take k) = true := by
    unfold Pl.more at *
    rw [List.all_eq_true] at *
    intro x hx
    exact hm x (List.mem_of_mem_take hx)
  have := Pl.rd_long _ [] this (.inr rfl)
  rwa [List.append_nil] at this

theorem rd_short {t : List UInt8} {n : Nat} (hn : n ≤ 2147483647) (k : Nat) : Pl.rd ((nb n ++ t).take k) = if k < (nb n).length then none else some (n, (nb n).length) := by
  by_cases h : k < (nb n).length
  · rw [if_pos h, List.take_append_of_le_length (by omega)]
    exact rd_part k n h
  · rw [if_neg h, List.take_append, List.take_of_length_le (by omega)]
    exact Pl.rd_num _ hn _

theorem tk_part (r : Rc) (h : wf r) (k : Nat) (hk : k < (enc r).length) : tk ((enc r).take k) = none := by
  cases k with
  | zero => rfl
  | succ k =>
    cases r with
    | none => simp [enc] at hk
    | some pn =>
      obtain ⟨p, n⟩ := pn
      obtain ⟨h1, h2⟩ := h
      have hl : k < (nb p.length).length + (p.length + ((nb n.length).length + n.length)) := by simpa [enc] using hk
      show tk (98 :: (nb p.length ++ (p ++ (nb n.length ++ n))).take k) = _
      rw [tk_b]
      unfold tkB
      rw [rd_short h1]
      by_cases c1 : k < (nb p.length).length
      · rw [if_pos c1]
      · rw [if_neg c1]
        simp only [List.length_take, List.length_append]
        by_cases c2 : (nb p.length).length + p.length ≤ k
        · rw [if_pos (by omega)]
          have e1 : ((nb p.length ++ (p ++ (nb n.length ++ n))).take k).drop ((nb p.length).length + p.length) = (nb n.length ++ n).take (k - ((nb p.length).length + p.length)) := by
            rw [List.drop_take, ← List.drop_drop, List.drop_left, List.drop_left]
          rw [e1, rd_short h2]
          by_cases c3 : k - ((nb p.length).length + p.length) < (nb n.length).length
          · rw [if_pos c3]
          · rw [if_neg c3]
            simp only []
            rw [if_neg (by omega)]
        · rw [if_neg (by omega)]

/-- the text of records. -/
def E (l : List Rc) : List UInt8 := l.flatMap enc

theorem E_snoc (l : List Rc) (r : Rc) : E (l ++ [r]) = E l ++ enc r := by simp [E]

/-- what records tell. -/
def fold (l : List Rc) : Jn := l.foldl (fun j r => j.take r (enc r).length) .zero

theorem fold_snoc (l : List Rc) (r : Rc) : fold (l ++ [r]) = (fold l).take r (enc r).length := by simp [fold]

theorem fold_whole (l : List Rc) : (fold l).whole = (E l).length := by
  suffices h : ∀ (l : List Rc) (j : Jn), (l.foldl (fun j r => j.take r (enc r).length) j).whole = j.whole + (E l).length by
    have := h l .zero
    rw [show Jn.zero.whole = 0 from rfl, Nat.zero_add] at this
    exact this
  intro l
  induction l with
  | nil => intro j; simp [E]
  | cons r l ih =>
    intro j
    rw [List.foldl_cons, ih]
    have : (j.take r (enc r).length).whole = j.whole + (enc r).length := by cases r <;> rfl
    rw [this]
    simp [E]; omega

theorem jrn_E (l : List Rc) (h : ∀ r ∈ l, wf r) (t : List UInt8) (ht : tk t = none) : jrn (E l ++ t) = fold l := by
  suffices hh : ∀ (l : List Rc) (j : Jn), (∀ r ∈ l, wf r) → jn (E l ++ t).length (E l ++ t) j = l.foldl (fun j r => j.take r (enc r).length) j from hh l .zero h
  intro l
  induction l with
  | nil => intro j _; exact jn_stop _ _ _ ht
  | cons r l ih =>
    intro j hw
    have e : E (r :: l) ++ t = enc r ++ (E l ++ t) := by simp [E]
    rw [e, jn_step (tk_enc r (hw r (by simp)) _), List.drop_left, ih _ (fun x hx => hw x (by simp [hx]))]
    rfl

end Go.Proofs.Ytjjmcnippjpclaa.Dp
