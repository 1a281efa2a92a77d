/-
  Plans without the model: when a step may be, when steps may stand together, and in which order.
-/

namespace Pl

def St : Type := Int × Int × Int × ByteArray × Int

def St.k (s : St) : Int := s.1

def St.t (s : St) : Int := s.2.1

def St.n (s : St) : Int := s.2.2.1

def St.d (s : St) : ByteArray := s.2.2.2.1

def St.f (s : St) : Int := s.2.2.2.2

def ok (ol nl : Int) (s : St) : Bool :=
  decide (1 ≤ s.n ∧ (0 ≤ s.t ∧ s.n ≤ nl ∧ s.t ≤ nl - s.n) ∧ ((s.k = 1 ∧ (s.d.size : Int) = s.n ∧ s.f = 0) ∨ (s.k = 3 ∧ s.d.size = 0 ∧ (0 ≤ s.f ∧ s.n ≤ ol ∧ s.f ≤ ol - s.n))))

/-- does a step of the list go to this place? -/
def cov (l : List St) (i : Int) : Bool := l.any fun s => decide (s.t ≤ i ∧ i < s.t + s.n)

/-- does no step of the list go to a place of this stretch? -/
def free (a n : Int) (l : List St) : Bool := l.all fun s => decide (a + n ≤ s.t ∨ s.t + s.n ≤ a)

def total (l : List St) : Int := (l.map St.n).sum

def form (ol nl : Int) (pre : List St) : List St → Bool
  | [] => decide (total pre = nl)
  | s :: r => ok ol nl s && free s.t s.n pre && form ol nl (pre ++ [s]) r

def ord (pre : List St) : List St → Bool
  | [] => true
  | s :: r => (!decide (s.k = 3) || free s.f s.n pre) && ord (pre ++ [s]) r

def head (ol nl : Int) (os ns : ByteArray) (st : List St) : Bool :=
  decide (0 ≤ ol ∧ ol ≤ 4000) && decide (0 ≤ nl ∧ nl ≤ 4000) && decide (os.size = 4) && decide (ns.size = 4) && decide (st.length ≤ 2000)

/-- OK, ErrOrder or ErrForm. -/
def verdict (f o : Bool) : Int := if f then (if o then 0 else 6) else 3

def full (ol nl : Int) (os ns : ByteArray) (st : List St) : Bool := head ol nl os ns st && form ol nl [] st

theorem total_snoc (l : List St) (s : St) : total (l ++ [s]) = total l + s.n := by simp [total]

theorem cov_snoc (l : List St) (s : St) (i : Int) : cov (l ++ [s]) i = (cov l i || decide (s.t ≤ i ∧ i < s.t + s.n)) := by simp [cov]

theorem drop_at {α : Type} {l : List α} {k : Nat} {s : α} (h : l[k]? = some s) : l.drop k = s :: l.drop (k + 1) := by
  obtain ⟨h1, h2⟩ := List.getElem?_eq_some_iff.mp h
  rw [List.drop_eq_getElem_cons h1, h2]

theorem take_at {α : Type} {l : List α} {k : Nat} {s : α} (h : l[k]? = some s) : l.take (k + 1) = l.take k ++ [s] := by
  rw [List.take_add_one, h]; rfl

theorem form_at {ol nl : Int} {l : List St} {k : Nat} {s : St} (h : l[k]? = some s) :
    form ol nl (l.take k) (l.drop k) = (ok ol nl s && free s.t s.n (l.take k) && form ol nl (l.take (k + 1)) (l.drop (k + 1))) := by
  rw [drop_at h, form, take_at h]

theorem ord_at {l : List St} {k : Nat} {s : St} (h : l[k]? = some s) :
    ord (l.take k) (l.drop k) = ((!decide (s.k = 3) || free s.f s.n (l.take k)) && ord (l.take (k + 1)) (l.drop (k + 1))) := by
  rw [drop_at h, ord, take_at h]

theorem form_end {ol nl : Int} {l : List St} : form ol nl (l.take l.length) (l.drop l.length) = decide (total l = nl) := by
  rw [List.take_length, List.drop_length, form]

theorem ord_end {l : List St} : ord (l.take l.length) (l.drop l.length) = true := by
  rw [List.drop_length, ord]

/-- places that are taken, looked at one by one, and stretches that are held against each other. -/
theorem any_cov (t n : Nat) (l : List St) (hn : 1 ≤ n) (hl : ∀ s ∈ l, 1 ≤ s.n) :
    ((List.range n).any fun i => cov l ((t + i : Nat) : Int)) = !free t n l := by
  rw [Bool.eq_iff_iff]
  simp only [List.any_eq_true, List.mem_range, cov, free, decide_eq_true_eq, Bool.not_eq_true', List.all_eq_false]
  constructor
  · rintro ⟨i, hi, s, hs, h1, h2⟩
    exact ⟨s, hs, by simp; omega⟩
  · rintro ⟨s, hs, h⟩
    have hp := hl s hs
    simp at h
    by_cases h1 : s.t ≤ t
    · exact ⟨0, by omega, s, hs, by omega, by omega⟩
    · exact ⟨(s.t - t).toNat, by omega, s, hs, by omega, by omega⟩

theorem ok_pos {ol nl : Int} {s : St} (h : ok ol nl s = true) : 1 ≤ s.n ∧ 0 ≤ s.t ∧ s.t + s.n ≤ nl := by
  simp only [ok, decide_eq_true_eq] at h
  omega

theorem ok_from {ol nl : Int} {s : St} (h : ok ol nl s = true) (hk : s.k = 3) : 0 ≤ s.f ∧ s.f + s.n ≤ ol := by
  simp only [ok, decide_eq_true_eq] at h
  omega

theorem ok_frm {ol nl : Int} {s : St} (h0 : 0 ≤ ol ∧ ol ≤ 4000) (h : ok ol nl s = true) : 0 ≤ s.f ∧ s.f ≤ 4000 := by
  simp only [ok, decide_eq_true_eq] at h
  omega

/-- the steps of a form that holds are each as they may be. -/
theorem form_ok {ol nl : Int} : ∀ (r pre : List St), form ol nl pre r = true → ∀ s ∈ r, ok ol nl s = true
  | [], _, _, s, hs => by simp at hs
  | x :: r, pre, h, s, hs => by
    simp only [form, Bool.and_eq_true] at h
    rcases List.mem_cons.mp hs with rfl | hs
    · exact h.1.1
    · exact form_ok r _ h.2 s hs

theorem free_snoc (a n : Int) (l : List St) (s : St) : free a n (l ++ [s]) = (free a n l && decide (a + n ≤ s.t ∨ s.t + s.n ≤ a)) := by simp [free]

theorem free_mono {a n : Int} {l : List St} {q k : Nat} (hq : q < k) (h : free a n (l.take (q + 1)) = false) : free a n (l.take k) = false := by
  rw [Bool.eq_false_iff] at h ⊢
  intro hk
  apply h
  simp only [free, List.all_eq_true] at hk ⊢
  intro x hx
  exact hk x (List.mem_of_mem_take (i := q + 1) (by rw [List.take_take, Nat.min_eq_left (by omega)]; exact hx))

theorem full_no {ol nl : Int} {os ns : ByteArray} {st : List St} (h : ¬ ((0 ≤ ol ∧ ol ≤ 4000) ∧ (0 ≤ nl ∧ nl ≤ 4000) ∧ os.size = 4 ∧ ns.size = 4 ∧ st.length ≤ 2000)) : full ol nl os ns st = false := by
  have : head ol nl os ns st = false := by
    rw [Bool.eq_false_iff]
    intro hh
    simp only [head, Bool.and_eq_true, decide_eq_true_eq] at hh
    exact h ⟨hh.1.1.1.1, hh.1.1.1.2, hh.1.1.2, hh.1.2, hh.2⟩
  simp [full, this]

theorem full_yes {ol nl : Int} {os ns : ByteArray} {st : List St} (h1 : 0 ≤ ol ∧ ol ≤ 4000) (h2 : 0 ≤ nl ∧ nl ≤ 4000) (h3 : os.size = 4) (h4 : ns.size = 4) (h5 : st.length ≤ 2000) : full ol nl os ns st = form ol nl (st.take 0) (st.drop 0) := by
  have : head ol nl os ns st = true := by
    simp only [head, Bool.and_eq_true, decide_eq_true_eq]
    exact ⟨⟨⟨⟨h1, h2⟩, h3⟩, h4⟩, h5⟩
  simp [full, this]

theorem cov_nil (i : Int) : cov [] i = false := rfl

theorem mem_take_succ {l : List St} {k : Nat} {s : St} (h : l[k]? = some s) {p : St → Prop} (hp : ∀ x ∈ l.take k, p x) (hs : p s) : ∀ x ∈ l.take (k + 1), p x := by
  intro x hx
  rw [take_at h, List.mem_append] at hx
  rcases hx with hx | hx
  · exact hp x hx
  · rw [List.mem_singleton] at hx; subst hx; exact hs

end Pl
