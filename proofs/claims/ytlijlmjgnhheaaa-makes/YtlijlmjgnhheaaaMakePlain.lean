/-
  Made patches without the model: steps that lie side by side, and what they make.
-/
import Derived.Test.YtlijlmjgnhheaaaPlan
namespace Pl

/-- a step of a made patch: where its bytes go, how many; of a Copy where they come from. -/
structure Sp where
  t : Nat
  n : Nat
  src : Option Nat

def Sp.st (next : ByteArray) (s : Sp) : St := match s.src with
  | some f => ((3 : Int), (s.t : Int), (s.n : Int), ⟨#[]⟩, (f : Int))
  | none => ((1 : Int), (s.t : Int), (s.n : Int), next.extract s.t (s.t + s.n), (0 : Int))

/-- steps one behind the other, from a place up to another. -/
def tiles : Nat → List Sp → Nat → Prop
  | a, [], b => a = b
  | a, s :: r, b => s.t = a ∧ 1 ≤ s.n ∧ tiles (a + s.n) r b

theorem tiles_append : ∀ (l r : List Sp) (a b c : Nat), tiles a l b → tiles b r c → tiles a (l ++ r) c
  | [], _, _, _, _, h, k => by have h : _ = _ := h; subst h; exact k
  | s :: l, r, a, b, c, h, k => ⟨h.1, h.2.1, tiles_append l r _ b c h.2.2 k⟩

theorem tiles_snoc {l : List Sp} {a b : Nat} {s : Sp} (h : tiles a l b) (ht : s.t = b) (hn : 1 ≤ s.n) : tiles a (l ++ [s]) (b + s.n) :=
  tiles_append l [s] a b _ h ⟨ht, hn, rfl⟩

theorem tiles_split : ∀ (l r : List Sp) (a c : Nat), tiles a (l ++ r) c → ∃ b, tiles a l b ∧ tiles b r c
  | [], _, a, _, h => ⟨a, rfl, h⟩
  | s :: l, r, a, c, h => by
    obtain ⟨b, h1, h2⟩ := tiles_split l r _ c h.2.2
    exact ⟨b, ⟨h.1, h.2.1, h1⟩, h2⟩

theorem tiles_le : ∀ (l : List Sp) (a b : Nat), tiles a l b → a ≤ b
  | [], _, _, h => Nat.le_of_eq h
  | s :: l, a, b, h => by have := tiles_le l _ b h.2.2; omega

theorem tiles_mem : ∀ (l : List Sp) (a b : Nat), tiles a l b → ∀ s ∈ l, a ≤ s.t ∧ 1 ≤ s.n ∧ s.t + s.n ≤ b
  | [], _, _, _, s, hs => by simp at hs
  | x :: l, a, b, h, s, hs => by
    rcases List.mem_cons.1 hs with rfl | hs
    · have := tiles_le l _ b h.2.2
      have := h.1; have := h.2.1
      omega
    · have := tiles_mem l _ b h.2.2 s hs; omega

/-- of two steps the first one ends ahead of the second. -/
theorem tiles_lt : ∀ (l : List Sp) (a b : Nat), tiles a l b → ∀ (i j : Nat) (x y : Sp), l[i]? = some x → l[j]? = some y → i < j → x.t + x.n ≤ y.t
  | [], _, _, _, i, _, _, _, hx, _, _ => by simp at hx
  | s :: l, a, b, h, 0, j + 1, x, y, hx, hy, _ => by
    simp only [List.getElem?_cons_zero, Option.some.injEq] at hx
    subst hx
    have := tiles_mem l _ b h.2.2 y (List.mem_of_getElem? (by simpa using hy))
    have := h.1
    omega
  | s :: l, a, b, h, i + 1, j + 1, x, y, hx, hy, hij => tiles_lt l _ b h.2.2 i j x y (by simpa using hx) (by simpa using hy) (by omega)
  | s :: l, a, b, h, i + 1, 0, x, y, hx, hy, hij => by omega
  | s :: l, a, b, h, 0, 0, x, y, hx, hy, hij => by omega

theorem tiles_cov : ∀ (l : List Sp) (a b : Nat), tiles a l b → ∀ i, a ≤ i → i < b → ∃ s ∈ l, s.t ≤ i ∧ i < s.t + s.n
  | [], a, b, h, i, h1, h2 => by have h : a = b := h; omega
  | s :: l, a, b, h, i, h1, h2 => by
    have h0 := h.1
    by_cases hi : i < a + s.n
    · exact ⟨s, by simp, by omega, by omega⟩
    · obtain ⟨x, hx, hh⟩ := tiles_cov l _ b h.2.2 i (by omega) h2
      exact ⟨x, by simp [hx], hh⟩

def sizes (l : List Sp) : Nat := (l.map Sp.n).sum

theorem tiles_sizes : ∀ (l : List Sp) (a b : Nat), tiles a l b → a + sizes l = b
  | [], a, b, h => by have h : a = b := h; simp [sizes, h]
  | s :: l, a, b, h => by have := tiles_sizes l _ b h.2.2; simp only [sizes, List.map_cons, List.sum_cons] at this ⊢; omega

/-- a Copy comes from where the old text has what the new one has there. -/
def fits (old next : ByteArray) (s : Sp) : Prop := ∀ f, s.src = some f → 12 ≤ s.n ∧ f + s.n ≤ old.size ∧ ∀ j, j < s.n → old.data[f + j]? = next.data[s.t + j]?

/-- no two adds are side by side. -/
def apartA : List Sp → Prop
  | [] => True
  | [_] => True
  | a :: b :: r => ¬ (a.src = none ∧ b.src = none) ∧ apartA (b :: r)

theorem apartA_snoc : ∀ (l : List Sp) (s : Sp), apartA l → (∀ x, l.getLast? = some x → ¬ (x.src = none ∧ s.src = none)) → apartA (l ++ [s])
  | [], _, _, _ => trivial
  | [a], s, _, h => ⟨h a rfl, trivial⟩
  | a :: b :: r, s, h, k => ⟨h.1, apartA_snoc (b :: r) s h.2 (fun x hx => k x (by rw [List.getLast?_cons_cons]; exact hx))⟩

/-- a bound on how many bytes a step has in a patch. -/
def cost (s : Sp) : Nat := if s.src = none then 5 + s.n else 7
def costs (l : List Sp) : Nat := (l.map cost).sum

theorem costs_le (old next : ByteArray) : ∀ (l : List Sp), apartA l → (∀ s ∈ l, fits old next s) → costs l ≤ sizes l + 5 ∧ ((∀ x, l.head? = some x → x.src ≠ none) → costs l ≤ sizes l)
  | [], _, _ => by simp [costs, sizes]
  | a :: r, h, k => by
    have hr : apartA r := by
      cases r with
      | nil => trivial
      | cons b r => exact h.2
    have ih := costs_le old next r hr (fun s hs => k s (by simp [hs]))
    simp only [costs, sizes, List.map_cons, List.sum_cons] at ih ⊢
    by_cases ha : a.src = none
    · have : ∀ x, r.head? = some x → x.src ≠ none := by
        intro x hx hn
        cases r with
        | nil => simp at hx
        | cons b r => simp only [List.head?_cons, Option.some.injEq] at hx; subst hx; exact h.1 ⟨ha, hn⟩
      have := ih.2 this
      have hc : cost a = 5 + a.n := by simp [cost, ha]
      refine ⟨by omega, fun hh => absurd ha (hh a rfl)⟩
    · obtain ⟨f, hf⟩ := Option.ne_none_iff_exists'.1 ha
      have := (k a (by simp) f hf).1
      have hc : cost a = 7 := by simp [cost, ha]
      exact ⟨by omega, fun _ => by omega⟩

/-- is a place made by an Add? -/
def inAdd (l : List Sp) (i : Nat) : Prop := ∃ s ∈ l, s.src = none ∧ s.t ≤ i ∧ i < s.t + s.n

/-- the steps of a made patch, listed by the places to which they go. -/
structure Good (old next : ByteArray) (l : List Sp) : Prop where
  tile : tiles 0 l next.size
  fit : ∀ s ∈ l, fits old next s
  apart : apartA l
  first : ∀ i, i < old.size → i < next.size → (∀ j, j < i → old.data[j]? = next.data[j]?) → old.data[i]? ≠ next.data[i]? → inAdd l i

/-- how many copies there are. -/
def copies (l : List Sp) : Nat := l.countP fun s => s.src.isSome

/-- one step more for 'joined'. -/
def jstep (l : List Sp) (s : Sp) : List Sp :=
  if h : l = [] then [s] else if (l.getLast h).src = none ∧ s.src = none then l.dropLast ++ [⟨(l.getLast h).t, (l.getLast h).n + s.n, none⟩] else l ++ [s]

theorem jstep_tiles {l : List Sp} {s : Sp} {a b c : Nat} (h : tiles a l b) (k : tiles b [s] c) : tiles a (jstep l s) c := by
  unfold jstep
  split
  · next hl => subst hl; have h : a = b := h; subst h; exact k
  · next hl =>
    split
    · next hn =>
      have e := List.dropLast_concat_getLast hl
      rw [← e] at h
      obtain ⟨m, h1, h2⟩ := tiles_split _ _ _ _ h
      refine tiles_append _ _ _ _ _ h1 ?_
      have := h2.1; have := h2.2.1; have h3 : _ = _ := h2.2.2
      have := k.1; have := k.2.1; have k3 : _ = _ := k.2.2
      refine ⟨by assumption, by simp only; omega, ?_⟩
      show _ = _
      simp only; omega
    · exact tiles_append _ _ _ _ _ h k

theorem jstep_fit {old next : ByteArray} {l : List Sp} {s : Sp} (h : ∀ x ∈ l, fits old next x) (k : fits old next s) : ∀ x ∈ jstep l s, fits old next x := by
  unfold jstep
  split
  · intro x hx; simp only [List.mem_singleton] at hx; subst hx; exact k
  · split
    · intro x hx
      rcases List.mem_append.1 hx with hx | hx
      · exact h x (List.dropLast_subset _ hx)
      · simp only [List.mem_singleton] at hx; subst hx; intro f hf; simp at hf
    · intro x hx
      rcases List.mem_append.1 hx with hx | hx
      · exact h x hx
      · simp only [List.mem_singleton] at hx; subst hx; exact k

theorem apartA_init : ∀ (l : List Sp) (s : Sp), apartA (l ++ [s]) → apartA l ∧ ∀ x, l.getLast? = some x → ¬ (x.src = none ∧ s.src = none)
  | [], _, _ => ⟨trivial, fun x hx => by simp at hx⟩
  | [a], s, h => ⟨trivial, fun x hx => by simp at hx; subst hx; exact h.1⟩
  | a :: b :: r, s, h => by
    obtain ⟨h1, h2⟩ := apartA_init (b :: r) s h.2
    exact ⟨⟨h.1, h1⟩, fun x hx => h2 x (by rw [List.getLast?_cons_cons] at hx; exact hx)⟩

theorem jstep_apart {l : List Sp} {s : Sp} (h : apartA l) : apartA (jstep l s) := by
  unfold jstep
  split
  · trivial
  · next hl =>
    split
    · next hn =>
      have e := List.dropLast_concat_getLast hl
      rw [← e] at h
      obtain ⟨h1, h2⟩ := apartA_init _ _ h
      exact apartA_snoc _ _ h1 (fun x hx hh => h2 x hx ⟨hh.1, hn.1⟩)
    · next hn =>
      refine apartA_snoc _ _ h (fun x hx hh => hn ?_)
      rw [List.getLast?_eq_some_getLast hl] at hx
      simp only [Option.some.injEq] at hx
      rw [hx]; exact hh

theorem jstep_inAdd {l : List Sp} {s : Sp} {a b c i : Nat} (ht : tiles a l b) (hs : tiles b [s] c) (h : inAdd (l ++ [s]) i) : inAdd (jstep l s) i := by
  unfold jstep
  split
  · next hl => subst hl; exact h
  · next hl =>
    split
    · next hn =>
      have e := List.dropLast_concat_getLast hl
      rw [← e] at ht
      obtain ⟨m, h1, h2⟩ := tiles_split _ _ _ _ ht
      have := h2.1; have := h2.2.1; have h3 : _ = _ := h2.2.2
      have := hs.1
      obtain ⟨x, hx, hx1, hx2, hx3⟩ := h
      rcases List.mem_append.1 hx with hx | hx
      · rw [← e] at hx
        rcases List.mem_append.1 hx with hx | hx
        · exact ⟨x, by simp [hx], hx1, hx2, hx3⟩
        · simp only [List.mem_singleton] at hx
          subst hx
          refine ⟨⟨(l.getLast hl).t, (l.getLast hl).n + s.n, none⟩, by simp, rfl, hx2, ?_⟩
          show i < (l.getLast hl).t + ((l.getLast hl).n + s.n); omega
      · simp only [List.mem_singleton] at hx
        subst hx
        refine ⟨⟨(l.getLast hl).t, (l.getLast hl).n + x.n, none⟩, by simp, rfl, ?_, ?_⟩
        · show (l.getLast hl).t ≤ i; omega
        · show i < (l.getLast hl).t + ((l.getLast hl).n + x.n); omega
    · exact h

theorem jstep_length (l : List Sp) (s : Sp) : (jstep l s).length ≤ l.length + 1 := by
  unfold jstep
  split
  · simp
  · split
    · simp
    · simp

theorem jstep_copies (l : List Sp) (s : Sp) : copies (jstep l s) = copies l + copies [s] := by
  unfold jstep
  split
  · next hl => subst hl; simp [copies]
  · next hl =>
    split
    · next hn =>
      have e := List.dropLast_concat_getLast hl
      have e2 : copies l = copies (l.dropLast ++ [l.getLast hl]) := by rw [e]
      rw [e2]
      simp [copies, List.countP_append, hn.1, hn.2]
    · simp [copies, List.countP_append]

def joined (l : List Sp) : List Sp := l.foldl jstep []

theorem joined_snoc (l : List Sp) (s : Sp) : joined (l ++ [s]) = jstep (joined l) s := by simp [joined]

theorem snoc_ind {P : List Sp → Prop} (h0 : P []) (h1 : ∀ l s, P l → P (l ++ [s])) (l : List Sp) : P l := by
  have : ∀ r : List Sp, P r.reverse := by
    intro r
    induction r with
    | nil => exact h0
    | cons a r ih => rw [List.reverse_cons]; exact h1 _ _ ih
  rw [← List.reverse_reverse l]; exact this _

theorem joined_length (l : List Sp) : (joined l).length ≤ l.length := by
  refine snoc_ind (P := fun l => (joined l).length ≤ l.length) (Nat.le_refl _) ?_ l
  intro l s ih
  rw [joined_snoc, List.length_append]
  have := jstep_length (joined l) s
  simp only [List.length_cons, List.length_nil]
  omega

theorem joined_tiles (l r : List Sp) (c : Nat) (ht : tiles 0 (l ++ r) c) : ∃ b, tiles 0 (joined l) b ∧ tiles b r c := by
  revert r
  refine snoc_ind (P := fun l => ∀ r, tiles 0 (l ++ r) c → ∃ b, tiles 0 (joined l) b ∧ tiles b r c) ?_ ?_ l
  · intro r ht
    exact ⟨0, rfl, by simpa using ht⟩
  · intro l s ih r ht
    rw [List.append_assoc] at ht
    obtain ⟨b, h1, h2⟩ := ih ([s] ++ r) ht
    obtain ⟨m, h8, h9⟩ := tiles_split [s] r b c h2
    rw [joined_snoc]
    exact ⟨m, jstep_tiles h1 h8, h9⟩

theorem tiles_last {l : List Sp} {a b : Nat} {x : Sp} (h : tiles a l b) (hx : l[l.length - 1]? = some x) : x.t + x.n = b := by
  have hl : l ≠ [] := by intro e; subst e; simp at hx
  have e := List.dropLast_concat_getLast hl
  have hg : l.getLast hl = x := by
    rw [List.getLast_eq_getElem]
    exact (List.getElem?_eq_some_iff.1 hx).2
  rw [← e] at h
  obtain ⟨m, _, h2⟩ := tiles_split _ _ _ _ h
  rw [hg] at h2
  have h3 : m + x.n = b := h2.2.2
  have h4 := h2.1
  omega

/-- what holds of the first steps that are joined. -/
theorem joined_spec (old next : ByteArray) (l r : List Sp) (c : Nat) (ht : tiles 0 (l ++ r) c) (hf : ∀ s ∈ l, fits old next s) :
    (∃ b, tiles 0 (joined l) b ∧ tiles b r c ∧ tiles 0 l b) ∧ (∀ s ∈ joined l, fits old next s) ∧ apartA (joined l) ∧ (∀ i, inAdd l i → inAdd (joined l) i) ∧ (joined l).length ≤ l.length ∧ copies (joined l) = copies l := by
  revert r
  refine snoc_ind (P := fun l => (∀ s ∈ l, fits old next s) → ∀ r, tiles 0 (l ++ r) c → (∃ b, tiles 0 (joined l) b ∧ tiles b r c ∧ tiles 0 l b) ∧ (∀ s ∈ joined l, fits old next s) ∧ apartA (joined l) ∧ (∀ i, inAdd l i → inAdd (joined l) i) ∧ (joined l).length ≤ l.length ∧ copies (joined l) = copies l) ?_ ?_ l hf
  · intro _ r ht
    exact ⟨⟨0, rfl, by simpa using ht, rfl⟩, by simp [joined], trivial, fun i h => h, Nat.le_refl _, rfl⟩
  · intro l s ih hf r ht
    rw [List.append_assoc] at ht
    obtain ⟨⟨b, h1, h2, h2'⟩, h3, h4, h5, h6, h7⟩ := ih (fun x hx => hf x (by simp [hx])) ([s] ++ r) ht
    obtain ⟨m, h8, h9⟩ := tiles_split [s] r b c h2
    rw [joined_snoc]
    refine ⟨⟨m, jstep_tiles h1 h8, h9, tiles_append _ _ _ _ _ h2' h8⟩, jstep_fit h3 (hf s (by simp)), jstep_apart h4, fun i hi => jstep_inAdd h1 h8 ?_, ?_, ?_⟩
    · obtain ⟨x, hx, hx1⟩ := hi
      rcases List.mem_append.1 hx with hx | hx
      · obtain ⟨y, hy, hy1⟩ := h5 i ⟨x, hx, hx1⟩
        exact ⟨y, by simp [hy], hy1⟩
      · exact ⟨x, by simp only [List.mem_append]; exact .inr hx, hx1⟩
    · have := jstep_length (joined l) s; simp; omega
    · rw [jstep_copies, h7]; simp [copies, List.countP_append]

end Pl
