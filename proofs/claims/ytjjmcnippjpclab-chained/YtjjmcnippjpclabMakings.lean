/-
  Made patches without the model: steps that lie side by side, and what they make.
  Which steps wait for which, and in what order they are done: without the model.
  Rings of steps that wait for each other, and what a sorted list is: without the model.
-/
import Derived.Test.YtjjmcnippjpclabPlan
namespace Pl

/-- a step of a made patch: where its bytes go, how many; of a Copy where they come from. -/
structure Sp where
  t : Nat
  n : Nat
  src : Option Nat

def Sp.st (next : ByteArray) (s : Sp) : St := match s.src with
  | some f => ((3 : Int), (s.t : Int), (s.n : Int), ⟨#[]⟩, (f : Int))
  | none => ((1 : Int), (s.t : Int), (s.n : Int), next.extract s.t (s.t + s.n), (0 : Int))

/-- steps one behind the other, from a place up to another. -/
def tiles : Nat → List Sp → Nat → Prop
  | a, [], b => a = b
  | a, s :: r, b => s.t = a ∧ 1 ≤ s.n ∧ tiles (a + s.n) r b

theorem tiles_append : ∀ (l r : List Sp) (a b c : Nat), tiles a l b → tiles b r c → tiles a (l ++ r) c
  | [], _, _, _, _, h, k => by have h : _ = _ := h; subst h; exact k
  | s :: l, r, a, b, c, h, k => ⟨h.1, h.2.1, tiles_append l r _ b c h.2.2 k⟩

theorem tiles_snoc {l : List Sp} {a b : Nat} {s : Sp} (h : tiles a l b) (ht : s.t = b) (hn : 1 ≤ s.n) : tiles a (l ++ [s]) (b + s.n) :=
  tiles_append l [s] a b _ h ⟨ht, hn, rfl⟩

theorem tiles_split : ∀ (l r : List Sp) (a c : Nat), tiles a (l ++ r) c → ∃ b, tiles a l b ∧ tiles b r c
  | [], _, a, _, h => ⟨a, rfl, h⟩
  | s :: l, r, a, c, h => by
    obtain ⟨b, h1, h2⟩ := tiles_split l r _ c h.2.2
    exact ⟨b, ⟨h.1, h.2.1, h1⟩, h2⟩

theorem tiles_le : ∀ (l : List Sp) (a b : Nat), tiles a l b → a ≤ b
  | [], _, _, h => Nat.le_of_eq h
  | s :: l, a, b, h => by have := tiles_le l _ b h.2.2; omega

theorem tiles_mem : ∀ (l : List Sp) (a b : Nat), tiles a l b → ∀ s ∈ l, a ≤ s.t ∧ 1 ≤ s.n ∧ s.t + s.n ≤ b
  | [], _, _, _, s, hs => by simp at hs
  | x :: l, a, b, h, s, hs => by
    rcases List.mem_cons.1 hs with rfl | hs
    · have := tiles_le l _ b h.2.2
      have := h.1; have := h.2.1
      omega
    · have := tiles_mem l _ b h.2.2 s hs; omega

/-- of two steps the first one ends ahead of the second. -/
theorem tiles_lt : ∀ (l : List Sp) (a b : Nat), tiles a l b → ∀ (i j : Nat) (x y : Sp), l[i]? = some x → l[j]? = some y → i < j → x.t + x.n ≤ y.t
  | [], _, _, _, i, _, _, _, hx, _, _ => by simp at hx
  | s :: l, a, b, h, 0, j + 1, x, y, hx, hy, _ => by
    simp only [List.getElem?_cons_zero, Option.some.injEq] at hx
    subst hx
    have := tiles_mem l _ b h.2.2 y (List.mem_of_getElem? (by simpa using hy))
    have := h.1
    omega
  | s :: l, a, b, h, i + 1, j + 1, x, y, hx, hy, hij => tiles_lt l _ b h.2.2 i j x y (by simpa using hx) (by simpa using hy) (by omega)
  | s :: l, a, b, h, i + 1, 0, x, y, hx, hy, hij => by omega
  | s :: l, a, b, h, 0, 0, x, y, hx, hy, hij => by omega

theorem tiles_cov : ∀ (l : List Sp) (a b : Nat), tiles a l b → ∀ i, a ≤ i → i < b → ∃ s ∈ l, s.t ≤ i ∧ i < s.t + s.n
  | [], a, b, h, i, h1, h2 => by have h : a = b := h; omega
  | s :: l, a, b, h, i, h1, h2 => by
    have h0 := h.1
    by_cases hi : i < a + s.n
    · exact ⟨s, by simp, by omega, by omega⟩
    · obtain ⟨x, hx, hh⟩ := tiles_cov l _ b h.2.2 i (by omega) h2
      exact ⟨x, by simp [hx], hh⟩

def sizes (l : List Sp) : Nat := (l.map Sp.n).sum

theorem tiles_sizes : ∀ (l : List Sp) (a b : Nat), tiles a l b → a + sizes l = b
  | [], a, b, h => by have h : a = b := h; simp [sizes, h]
  | s :: l, a, b, h => by have := tiles_sizes l _ b h.2.2; simp only [sizes, List.map_cons, List.sum_cons] at this ⊢; omega

/-- a Copy comes from where the old text has what the new one has there. -/
def fits (old next : ByteArray) (s : Sp) : Prop := ∀ f, s.src = some f → 12 ≤ s.n ∧ f + s.n ≤ old.size ∧ ∀ j, j < s.n → old.data[f + j]? = next.data[s.t + j]?

/-- no two adds are side by side. -/
def apartA : List Sp → Prop
  | [] => True
  | [_] => True
  | a :: b :: r => ¬ (a.src = none ∧ b.src = none) ∧ apartA (b :: r)

theorem apartA_snoc : ∀ (l : List Sp) (s : Sp), apartA l → (∀ x, l.getLast? = some x → ¬ (x.src = none ∧ s.src = none)) → apartA (l ++ [s])
  | [], _, _, _ => trivial
  | [a], s, _, h => ⟨h a rfl, trivial⟩
  | a :: b :: r, s, h, k => ⟨h.1, apartA_snoc (b :: r) s h.2 (fun x hx => k x (by rw [List.getLast?_cons_cons]; exact hx))⟩

/-- a bound on how many bytes a step has in a patch. -/
def cost (s : Sp) : Nat := if s.src = none then 5 + s.n else 7

def costs (l : List Sp) : Nat := (l.map cost).sum

theorem costs_le (old next : ByteArray) : ∀ (l : List Sp), apartA l → (∀ s ∈ l, fits old next s) → costs l ≤ sizes l + 5 ∧ ((∀ x, l.head? = some x → x.src ≠ none) → costs l ≤ sizes l)
  | [], _, _ => by simp [costs, sizes]
  | a :: r, h, k => by
    have hr : apartA r := by
      cases r with
      | nil => trivial
      | cons b r => exact h.2
    have ih := costs_le old next r hr (fun s hs => k s (by simp [hs]))
    simp only [costs, sizes, List.map_cons, List.sum_cons] at ih ⊢
    by_cases ha : a.src = none
    · have : ∀ x, r.head? = some x → x.src ≠ none := by
        intro x hx hn
        cases r with
        | nil => simp at hx
        | cons b r => simp only [List.head?_cons, Option.some.injEq] at hx; subst hx; exact h.1 ⟨ha, hn⟩
      have := ih.2 this
      have hc : cost a = 5 + a.n := by simp [cost, ha]
      refine ⟨by omega, fun hh => absurd ha (hh a rfl)⟩
    · obtain ⟨f, hf⟩ := Option.ne_none_iff_exists'.1 ha
      have := (k a (by simp) f hf).1
      have hc : cost a = 7 := by simp [cost, ha]
      exact ⟨by omega, fun _ => by omega⟩

/-- is a place made by an Add? -/
def inAdd (l : List Sp) (i : Nat) : Prop := ∃ s ∈ l, s.src = none ∧ s.t ≤ i ∧ i < s.t + s.n

/-- the steps of a made patch, listed by the places to which they go. -/
structure Good (old next : ByteArray) (l : List Sp) : Prop where
  tile : tiles 0 l next.size
  fit : ∀ s ∈ l, fits old next s
  apart : apartA l
  first : ∀ i, i < old.size → i < next.size → (∀ j, j < i → old.data[j]? = next.data[j]?) → old.data[i]? ≠ next.data[i]? → inAdd l i

/-- how many copies there are. -/
def copies (l : List Sp) : Nat := l.countP fun s => s.src.isSome

/-- one step more for 'joined'. -/
def jstep (l : List Sp) (s : Sp) : List Sp :=
  if h : l = [] then [s] else if (l.getLast h).src = none ∧ s.src = none then l.dropLast ++ [⟨(l.getLast h).t, (l.getLast h).n + s.n, none⟩] else l ++ [s]

theorem jstep_tiles {l : List Sp} {s : Sp} {a b c : Nat} (h : tiles a l b) (k : tiles b [s] c) : tiles a (jstep l s) c := by
  unfold jstep
  split
  · next hl => subst hl; have h : a = b := h; subst h; exact k
  · next hl =>
    split
    · next hn =>
      have e := List.dropLast_concat_getLast hl
      rw [← e] at h
      obtain ⟨m, h1, h2⟩ := tiles_split _ _ _ _ h
      refine tiles_append _ _ _ _ _ h1 ?_
      have := h2.1; have := h2.2.1; have h3 : _ = _ := h2.2.2
      have := k.1; have := k.2.1; have k3 : _ = _ := k.2.2
      refine ⟨by assumption, by simp only; omega, ?_⟩
      show _ = _
      simp only; omega
    · exact tiles_append _ _ _ _ _ h k

theorem jstep_fit {old next : ByteArray} {l : List Sp} {s : Sp} (h : ∀ x ∈ l, fits old next x) (k : fits old next s) : ∀ x ∈ jstep l s, fits old next x := by
  unfold jstep
  split
  · intro x hx; simp only [List.mem_singleton] at hx; subst hx; exact k
  · split
    · intro x hx
      rcases List.mem_append.1 hx with hx | hx
      · exact h x (List.dropLast_subset _ hx)
      · simp only [List.mem_singleton] at hx; subst hx; intro f hf; simp at hf
    · intro x hx
      rcases List.mem_append.1 hx with hx | hx
      · exact h x hx
      · simp only [List.mem_singleton] at hx; subst hx; exact k

theorem apartA_init : ∀ (l : List Sp) (s : Sp), apartA (l ++ [s]) → apartA l ∧ ∀ x, l.getLast? = some x → ¬ (x.src = none ∧ s.src = none)
  | [], _, _ => ⟨trivial, fun x hx => by simp at hx⟩
  | [a], s, h => ⟨trivial, fun x hx => by simp at hx; subst hx; exact h.1⟩
  | a :: b :: r, s, h => by
    obtain ⟨h1, h2⟩ := apartA_init (b :: r) s h.2
    exact ⟨⟨h.1, h1⟩, fun x hx => h2 x (by rw [List.getLast?_cons_cons] at hx; exact hx)⟩

theorem jstep_apart {l : List Sp} {s : Sp} (h : apartA l) : apartA (jstep l s) := by
  unfold jstep
  split
  · trivial
  · next hl =>
    split
    · next hn =>
      have e := List.dropLast_concat_getLast hl
      rw [← e] at h
      obtain ⟨h1, h2⟩ := apartA_init _ _ h
      exact apartA_snoc _ _ h1 (fun x hx hh => h2 x hx ⟨hh.1, hn.1⟩)
    · next hn =>
      refine apartA_snoc _ _ h (fun x hx hh => hn ?_)
      rw [List.getLast?_eq_some_getLast hl] at hx
      simp only [Option.some.injEq] at hx
      rw [hx]; exact hh

theorem jstep_inAdd {l : List Sp} {s : Sp} {a b c i : Nat} (ht : tiles a l b) (hs : tiles b [s] c) (h : inAdd (l ++ [s]) i) : inAdd (jstep l s) i := by
  unfold jstep
  split
  · next hl => subst hl; exact h
  · next hl =>
    split
    · next hn =>
      have e := List.dropLast_concat_getLast hl
      rw [← e] at ht
      obtain ⟨m, h1, h2⟩ := tiles_split _ _ _ _ ht
      have := h2.1; have := h2.2.1; have h3 : _ = _ := h2.2.2
      have := hs.1
      obtain ⟨x, hx, hx1, hx2, hx3⟩ := h
      rcases List.mem_append.1 hx with hx | hx
      · rw [← e] at hx
        rcases List.mem_append.1 hx with hx | hx
        · exact ⟨x, by simp [hx], hx1, hx2, hx3⟩
        · simp only [List.mem_singleton] at hx
          subst hx
          refine ⟨⟨(l.getLast hl).t, (l.getLast hl).n + s.n, none⟩, by simp, rfl, hx2, ?_⟩
          show i < (l.getLast hl).t + ((l.getLast hl).n + s.n); omega
      · simp only [List.mem_singleton] at hx
        subst hx
        refine ⟨⟨(l.getLast hl).t, (l.getLast hl).n + x.n, none⟩, by simp, rfl, ?_, ?_⟩
        · show (l.getLast hl).t ≤ i; omega
        · show i < (l.getLast hl).t + ((l.getLast hl).n + x.n); omega
    · exact h

theorem jstep_length (l : List Sp) (s : Sp) : (jstep l s).length ≤ l.length + 1 := by
  unfold jstep
  split
  · simp
  · split
    · simp
    · simp

theorem jstep_copies (l : List Sp) (s : Sp) : copies (jstep l s) = copies l + copies [s] := by
  unfold jstep
  split
  · next hl => subst hl; simp [copies]
  · next hl =>
    split
    · next hn =>
      have e := List.dropLast_concat_getLast hl
      have e2 : copies l = copies (l.dropLast ++ [l.getLast hl]) := by rw [e]
      rw [e2]
      simp [copies, List.countP_append, hn.1, hn.2]
    · simp [copies, List.countP_append]

def joined (l : List Sp) : List Sp := l.foldl jstep []

theorem joined_snoc (l : List Sp) (s : Sp) : joined (l ++ [s]) = jstep (joined l) s := by simp [joined]

theorem snoc_ind {P : List Sp → Prop} (h0 : P []) (h1 : ∀ l s, P l → P (l ++ [s])) (l : List Sp) : P l := by
  have : ∀ r : List Sp, P r.reverse := by
    intro r
    induction r with
    | nil => exact h0
    | cons a r ih => rw [List.reverse_cons]; exact h1 _ _ ih
  rw [← List.reverse_reverse l]; exact this _

theorem joined_length (l : List Sp) : (joined l).length ≤ l.length := by
  refine snoc_ind (P := fun l => (joined l).length ≤ l.length) (Nat.le_refl _) ?_ l
  intro l s ih
  rw [joined_snoc, List.length_append]
  have := jstep_length (joined l) s
  simp only [List.length_cons, List.length_nil]
  omega

theorem joined_tiles (l r : List Sp) (c : Nat) (ht : tiles 0 (l ++ r) c) : ∃ b, tiles 0 (joined l) b ∧ tiles b r c := by
  revert r
  refine snoc_ind (P := fun l => ∀ r, tiles 0 (l ++ r) c → ∃ b, tiles 0 (joined l) b ∧ tiles b r c) ?_ ?_ l
  · intro r ht
    exact ⟨0, rfl, by simpa using ht⟩
  · intro l s ih r ht
    rw [List.append_assoc] at ht
    obtain ⟨b, h1, h2⟩ := ih ([s] ++ r) ht
    obtain ⟨m, h8, h9⟩ := tiles_split [s] r b c h2
    rw [joined_snoc]
    exact ⟨m, jstep_tiles h1 h8, h9⟩

theorem tiles_last {l : List Sp} {a b : Nat} {x : Sp} (h : tiles a l b) (hx : l[l.length - 1]? = some x) : x.t + x.n = b := by
  have hl : l ≠ [] := by intro e; subst e; simp at hx
  have e := List.dropLast_concat_getLast hl
  have hg : l.getLast hl = x := by
    rw [List.getLast_eq_getElem]
    exact (List.getElem?_eq_some_iff.1 hx).2
  rw [← e] at h
  obtain ⟨m, _, h2⟩ := tiles_split _ _ _ _ h
  rw [hg] at h2
  have h3 : m + x.n = b := h2.2.2
  have h4 := h2.1
  omega

/-- what holds of the first steps that are joined. -/
theorem joined_spec (old next : ByteArray) (l r : List Sp) (c : Nat) (ht : tiles 0 (l ++ r) c) (hf : ∀ s ∈ l, fits old next s) :
    (∃ b, tiles 0 (joined l) b ∧ tiles b r c ∧ tiles 0 l b) ∧ (∀ s ∈ joined l, fits old next s) ∧ apartA (joined l) ∧ (∀ i, inAdd l i → inAdd (joined l) i) ∧ (joined l).length ≤ l.length ∧ copies (joined l) = copies l := by
  revert r
  refine snoc_ind (P := fun l => (∀ s ∈ l, fits old next s) → ∀ r, tiles 0 (l ++ r) c → (∃ b, tiles 0 (joined l) b ∧ tiles b r c ∧ tiles 0 l b) ∧ (∀ s ∈ joined l, fits old next s) ∧ apartA (joined l) ∧ (∀ i, inAdd l i → inAdd (joined l) i) ∧ (joined l).length ≤ l.length ∧ copies (joined l) = copies l) ?_ ?_ l hf
  · intro _ r ht
    exact ⟨⟨0, rfl, by simpa using ht, rfl⟩, by simp [joined], trivial, fun i h => h, Nat.le_refl _, rfl⟩
  · intro l s ih hf r ht
    rw [List.append_assoc] at ht
    obtain ⟨⟨b, h1, h2, h2'⟩, h3, h4, h5, h6, h7⟩ := ih (fun x hx => hf x (by simp [hx])) ([s] ++ r) ht
    obtain ⟨m, h8, h9⟩ := tiles_split [s] r b c h2
    rw [joined_snoc]
    refine ⟨⟨m, jstep_tiles h1 h8, h9, tiles_append _ _ _ _ _ h2' h8⟩, jstep_fit h3 (hf s (by simp)), jstep_apart h4, fun i hi => jstep_inAdd h1 h8 ?_, ?_, ?_⟩
    · obtain ⟨x, hx, hx1⟩ := hi
      rcases List.mem_append.1 hx with hx | hx
      · obtain ⟨y, hy, hy1⟩ := h5 i ⟨x, hx, hx1⟩
        exact ⟨y, by simp [hy], hy1⟩
      · exact ⟨x, by simp only [List.mem_append]; exact .inr hx, hx1⟩
    · have := jstep_length (joined l) s; simp; omega
    · rw [jstep_copies, h7]; simp [copies, List.countP_append]

end Pl

namespace Pl

/-- must step c be ahead of step i: comes c, a Copy, from where i goes? -/
def tied (l : List Sp) (c i : Nat) : Bool := match l[c]?, l[i]? with
  | some a, some b => match a.src with
    | some f => decide (i ≠ c ∧ b.t < f + a.n ∧ f < b.t + b.n)
    | none => false
  | _, _ => false

theorem tied_spec {l : List Sp} {c i : Nat} (h : tied l c i = true) : ∃ a b f, l[c]? = some a ∧ l[i]? = some b ∧ a.src = some f ∧ i ≠ c ∧ b.t < f + a.n ∧ f < b.t + b.n := by
  unfold tied at h
  cases ha : l[c]? with
  | none => rw [ha] at h; cases h
  | some a =>
    cases hb : l[i]? with
    | none => rw [ha, hb] at h; cases h
    | some b =>
      rw [ha, hb] at h
      cases hf : a.src with
      | none => simp only [hf] at h; cases h
      | some f =>
        simp only [hf, decide_eq_true_eq] at h
        exact ⟨a, b, f, rfl, rfl, hf, h⟩

theorem tied_iff {l : List Sp} {c i f : Nat} {a b : Sp} (ha : l[c]? = some a) (hb : l[i]? = some b) (hf : a.src = some f) : tied l c i = decide (i ≠ c ∧ b.t < f + a.n ∧ f < b.t + b.n) := by
  unfold tied; rw [ha, hb]; simp only [hf]

theorem tied_add {l : List Sp} {c i : Nat} {a : Sp} (ha : l[c]? = some a) (hf : a.src = none) : tied l c i = false := by
  unfold tied; rw [ha]
  cases l[i]? with
  | none => rfl
  | some b => simp only [hf]

theorem tied_lt {l : List Sp} {c i : Nat} (h : tied l c i = true) : c < l.length ∧ i < l.length ∧ i ≠ c := by
  obtain ⟨a, b, f, ha, hb, _, hne, _⟩ := tied_spec h
  exact ⟨(List.getElem?_eq_some_iff.1 ha).1, (List.getElem?_eq_some_iff.1 hb).1, hne⟩

/-- those that must be ahead of a step, and those that wait for one. -/
def aheadOf (l : List Sp) (i : Nat) : List Nat := (List.range l.length).filter fun c => tied l c i

def behindOf (l : List Sp) (c : Nat) : List Nat := (List.range l.length).filter fun i => tied l c i

theorem mem_ahead {l : List Sp} {i c : Nat} : c ∈ aheadOf l i ↔ tied l c i = true := by
  rw [aheadOf, List.mem_filter, List.mem_range]
  exact ⟨fun h => h.2, fun h => ⟨(tied_lt h).1, h⟩⟩

theorem mem_behind {l : List Sp} {i c : Nat} : i ∈ behindOf l c ↔ tied l c i = true := by
  rw [behindOf, List.mem_filter, List.mem_range]
  exact ⟨fun h => h.2, fun h => ⟨(tied_lt h).2.1, h⟩⟩

theorem nodup_range (n : Nat) : (List.range n).Nodup := List.nodup_range

theorem nodup_ahead (l : List Sp) (i : Nat) : (aheadOf l i).Nodup := (nodup_range _).filter _

theorem nodup_behind (l : List Sp) (c : Nat) : (behindOf l c).Nodup := (nodup_range _).filter _

/-- how many of those ahead are not done. -/
def waitsOf (l : List Sp) (D : List Nat) (i : Nat) : Nat := (aheadOf l i).countP fun c => decide (c ∉ D)

theorem waits_none (l : List Sp) (i : Nat) : waitsOf l [] i = (aheadOf l i).length := by
  rw [waitsOf, List.countP_eq_length]
  intro c _; simp

theorem waits_zero {l : List Sp} {D : List Nat} {i : Nat} : waitsOf l D i = 0 ↔ ∀ c, tied l c i = true → c ∈ D := by
  rw [waitsOf, List.countP_eq_zero]
  constructor
  · intro h c hc
    have := h c (mem_ahead.2 hc)
    simpa using this
  · intro h c hc
    simpa using h c (mem_ahead.1 hc)

theorem count_one {l : List Nat} (hn : l.Nodup) {D : List Nat} {k : Nat} (hk : k ∉ D) :
    l.countP (fun c => decide (c ∉ D)) = l.countP (fun c => decide (c ∉ D ++ [k])) + (if k ∈ l then 1 else 0) := by
  induction l with
  | nil => simp
  | cons a r ih =>
    rw [List.nodup_cons] at hn
    have ih := ih hn.2
    rw [List.countP_cons, List.countP_cons, ih]
    by_cases hak : a = k
    · subst hak
      have h1 : decide (a ∉ D) = true := by simpa using hk
      have h2 : decide (a ∉ D ++ [a]) = false := by simp
      simp [hn.1, hk]
    · have h3 : decide (a ∉ D ++ [k]) = decide (a ∉ D) := by simp [hak]
      rw [h3]
      have h4 : (k ∈ a :: r) ↔ k ∈ r := by simp [Ne.symm hak]
      simp only [h4]
      omega

/-- one more is done: who waited for it waits for one less. -/
theorem waits_done {l : List Sp} {D : List Nat} {k : Nat} (hk : k ∉ D) (i : Nat) : waitsOf l D i = waitsOf l (D ++ [k]) i + (if tied l k i = true then 1 else 0) := by
  rw [waitsOf, waitsOf, count_one (nodup_ahead l i) hk]
  simp only [mem_ahead]

/-- what holds between the rounds of the sort: some are done, some may come next. -/
structure Srt (l : List Sp) (D Q : List Nat) : Prop where
  nd : (D ++ Q).Nodup
  lt : ∀ i ∈ D ++ Q, i < l.length
  zero : ∀ i, i < l.length → (i ∈ D ++ Q ↔ waitsOf l D i = 0)
  ord : ∀ (p i : Nat), D[p]? = some i → ∀ c, tied l c i = true → c ∈ D.take p

/-- .. and while those behind the last one are gone through: the waits are those of the done ones and of the first so many behind. -/
def waitsAt (l : List Sp) (D : List Nat) (k j i : Nat) : Nat := waitsOf l D i - (if i ∈ (behindOf l k).take j then 1 else 0)

structure Srt2 (l : List Sp) (D : List Nat) (k : Nat) (Q : List Nat) (j : Nat) : Prop where
  knew : k ∉ D
  klt : k < l.length
  nd : (D ++ [k] ++ Q).Nodup
  lt : ∀ i ∈ D ++ [k] ++ Q, i < l.length
  zero : ∀ i, i < l.length → (i ∈ D ++ [k] ++ Q ↔ waitsAt l D k j i = 0)
  ord : ∀ (p i : Nat), (D ++ [k])[p]? = some i → ∀ c, tied l c i = true → c ∈ (D ++ [k]).take p

theorem srt_pop {l : List Sp} {D Q Q' : List Nat} {k : Nat} (h : Srt l D Q) (hp : (k :: Q').Perm Q) : Srt2 l D k Q' 0 := by
  have hp' : (D ++ [k] ++ Q').Perm (D ++ Q) := by
    rw [List.append_assoc]; exact hp.append_left D
  have hkq : k ∈ D ++ Q := by simp only [List.mem_append]; exact .inr (hp.subset (by simp))
  have hkD : k ∉ D := by
    intro hk
    have h1 := h.nd
    rw [List.nodup_append] at h1
    exact h1.2.2 k hk k (hp.subset (by simp)) rfl
  refine ⟨hkD, h.lt k hkq, hp'.nodup_iff.2 h.nd, fun i hi => h.lt i (hp'.subset hi), fun i hi => ?_, fun p i hpi c hc => ?_⟩
  · rw [hp'.mem_iff, h.zero i hi, waitsAt]
    simp
  · rcases Nat.lt_or_ge p D.length with hlt | hge
    · rw [List.getElem?_append_left hlt] at hpi
      rw [List.take_append_of_le_length (by omega)]
      exact h.ord p i hpi c hc
    · rw [List.getElem?_append_right hge] at hpi
      have hp0 : p - D.length = 0 := by
        rcases Nat.eq_zero_or_pos (p - D.length) with h0 | h0
        · exact h0
        · rw [List.getElem?_eq_none (by simp; omega)] at hpi; cases hpi
      rw [hp0] at hpi
      simp only [List.getElem?_cons_zero, Option.some.injEq] at hpi
      subst hpi
      have : p = D.length := by omega
      subst this
      rw [List.take_left']
      · exact waits_zero.1 ((h.zero k (h.lt k hkq)).1 hkq) c hc
      · rfl

theorem waitsAt_next {l : List Sp} {D : List Nat} {k j i : Nat} (hi : (behindOf l k)[j]? = some i) (m : Nat) :
    waitsAt l D k (j + 1) m = if m = i then waitsOf l D i - 1 else waitsAt l D k j m := by
  have ht : (behindOf l k).take (j + 1) = (behindOf l k).take j ++ [i] := by rw [List.take_add_one, hi]; rfl
  unfold waitsAt
  rw [ht]
  by_cases hm : m = i
  · subst hm; simp
  · simp [hm]

theorem behind_notyet {l : List Sp} {k j i : Nat} (hi : (behindOf l k)[j]? = some i) : i ∉ (behindOf l k).take j := by
  intro hm
  have hn := nodup_behind l k
  obtain ⟨p, hp⟩ := List.mem_iff_getElem?.1 hm
  rw [List.getElem?_take] at hp
  split at hp
  · next hlt =>
    have hj := (List.getElem?_eq_some_iff.1 hi)
    have hpp := (List.getElem?_eq_some_iff.1 hp)
    exact absurd (hpp.2.trans hj.2.symm) (List.pairwise_iff_getElem.1 hn p j hpp.1 hj.1 hlt)
  · cases hp

/-- one of those behind waits for one less; where it waits for none any more, it may come next. -/
theorem srt_step {l : List Sp} {D Q : List Nat} {k j i : Nat} (h : Srt2 l D k Q j) (hi : (behindOf l k)[j]? = some i) :
    waitsAt l D k j i = waitsOf l D i ∧ 1 ≤ waitsOf l D i ∧ i < l.length ∧ (1 < waitsOf l D i → Srt2 l D k Q (j + 1)) ∧ (waitsOf l D i = 1 → ∀ Q', Q'.Perm (Q ++ [i]) → Srt2 l D k Q' (j + 1)) := by
  have hny := behind_notyet hi
  have htd : tied l k i = true := mem_behind.1 (List.mem_of_getElem? hi)
  have hil := (tied_lt htd).2.1
  have hw1 : waitsAt l D k j i = waitsOf l D i := by unfold waitsAt; rw [if_neg hny]; omega
  have hpos : 1 ≤ waitsOf l D i := by
    have := waits_done (l := l) h.knew i
    rw [if_pos htd] at this
    omega
  refine ⟨hw1, hpos, hil, fun h2 => ⟨h.knew, h.klt, h.nd, h.lt, fun m hm => ?_, h.ord⟩, fun h1 Q' hQ' => ?_⟩
  · rw [h.zero m hm, waitsAt_next hi]
    by_cases hmi : m = i
    · subst hmi; rw [if_pos rfl, hw1]; omega
    · rw [if_neg hmi]
  · have hp : (D ++ [k] ++ Q').Perm (D ++ [k] ++ Q ++ [i]) := by
      have := hQ'.append_left (D ++ [k])
      rw [← List.append_assoc] at this; exact this
    have hin : i ∉ D ++ [k] ++ Q := fun hm => by
      have := (h.zero i hil).1 hm
      omega
    refine ⟨h.knew, h.klt, hp.nodup_iff.2 ?_, fun m hm => ?_, fun m hm => ?_, h.ord⟩
    · rw [List.nodup_append]
      exact ⟨h.nd, by simp, fun a ha b hb e => by simp only [List.mem_singleton] at hb; subst hb; subst e; exact hin ha⟩
    · have := hp.subset hm
      rcases List.mem_append.1 this with h3 | h3
      · exact h.lt m h3
      · simp only [List.mem_singleton] at h3; subst h3; exact hil
    · rw [hp.mem_iff, waitsAt_next hi]
      by_cases hmi : m = i
      · subst hmi; rw [if_pos rfl]; simp; omega
      · rw [if_neg hmi, ← h.zero m hm]
        simp [hmi]

theorem srt_end {l : List Sp} {D Q : List Nat} {k : Nat} (h : Srt2 l D k Q (behindOf l k).length) : Srt l (D ++ [k]) Q := by
  refine ⟨h.nd, h.lt, fun i hi => ?_, h.ord⟩
  rw [h.zero i hi, waitsAt, List.take_length]
  have := waits_done (l := l) h.knew i
  simp only [mem_behind]
  split
  · next ht => rw [if_pos ht] at this; omega
  · next ht => rw [if_neg ht] at this; omega

theorem waitsAt_end {l : List Sp} {D : List Nat} {k : Nat} (hk : k ∉ D) (i : Nat) : waitsAt l D k (behindOf l k).length i = waitsOf l (D ++ [k]) i := by
  rw [waitsAt, List.take_length]
  have := waits_done (l := l) hk i
  simp only [mem_behind]
  split
  · next ht => rw [if_pos ht] at this; omega
  · next ht => rw [if_neg ht] at this; omega

theorem srt_start {l : List Sp} {Q : List Nat} (hQ : Q.Perm ((List.range l.length).filter fun i => decide (waitsOf l [] i = 0))) : Srt l [] Q := by
  have hn : ((List.range l.length).filter fun i => decide (waitsOf l [] i = 0)).Nodup := (nodup_range _).filter _
  refine ⟨by rw [List.nil_append]; exact hQ.nodup_iff.2 hn, fun i hi => ?_, fun i hi => ?_, fun p i hp => by simp at hp⟩
  · rw [List.nil_append] at hi
    have := hQ.subset hi
    rw [List.mem_filter, List.mem_range] at this
    exact this.1
  · rw [List.nil_append, hQ.mem_iff, List.mem_filter, List.mem_range]
    simp [hi]

/-! ### numbers below n, each once -/

theorem nodup_le : ∀ (n : Nat) (l : List Nat), l.Nodup → (∀ x ∈ l, x < n) → l.length ≤ n
  | 0, l, _, h => by
    cases l with
    | nil => simp
    | cons a r => exact absurd (h a (by simp)) (Nat.not_lt_zero _)
  | n + 1, l, hn, h => by
    have h1 := nodup_le n (l.erase n) (hn.erase n) (fun x hx => by
      have h2 := (List.Nodup.mem_erase_iff hn).1 hx
      have := h x h2.2
      have := h2.1
      omega)
    have h3 := List.length_erase (a := n) (l := l)
    split at h3 <;> omega

theorem nodup_all {n : Nat} {l : List Nat} (hn : l.Nodup) (h : ∀ x ∈ l, x < n) (hl : l.length = n) : ∀ i, i < n → i ∈ l := by
  intro i hi
  rcases Classical.em (i ∈ l) with hm | hm
  · exact hm
  · have := nodup_le n (i :: l) (List.nodup_cons.2 ⟨hm, hn⟩) (fun x hx => by
      rcases List.mem_cons.1 hx with rfl | hx
      · exact hi
      · exact h x hx)
    simp at this
    omega

theorem nodup_perm {n : Nat} {l : List Nat} (hn : l.Nodup) (h : ∀ x ∈ l, x < n) (hl : l.length = n) : l.Perm (List.range n) := by
  rw [List.perm_iff_count]
  intro a
  have h1 := hn.count (a := a)
  have h2 := (nodup_range n).count (a := a)
  rw [h1, h2]
  have : a ∈ l ↔ a ∈ List.range n := by
    rw [List.mem_range]
    exact ⟨h a, nodup_all hn h hl a⟩
  simp only [this]

end Pl

namespace Pl

/-! ### rings -/

/-- the first of those ahead of a step that waits itself; the step, if there is none. -/
def holdOf (l : List Sp) (W : Nat → Nat) (k : Nat) : Nat := ((aheadOf l k).find? fun c => decide (0 < W c)).getD k

theorem hold_spec {l : List Sp} {D : List Nat} (h : Srt l D []) {k : Nat} (_ : k < l.length) (hw : 0 < waitsOf l D k) :
    tied l (holdOf l (waitsOf l D) k) k = true ∧ 0 < waitsOf l D (holdOf l (waitsOf l D) k) ∧ holdOf l (waitsOf l D) k < l.length := by
  have hz : waitsOf l D k ≠ 0 := by omega
  rw [Ne, waits_zero] at hz
  have : ∃ c, tied l c k = true ∧ c ∉ D := by
    rcases Classical.em (∃ c, tied l c k = true ∧ c ∉ D) with h1 | h1
    · exact h1
    · exact absurd (fun c hc => (Classical.em (c ∈ D)).resolve_right (fun hn => h1 ⟨c, hc, hn⟩)) hz
  obtain ⟨c, hc, hcD⟩ := this
  have hcl := (tied_lt hc).1
  have hcw : 0 < waitsOf l D c := by
    have h2 := h.zero c hcl
    rw [List.append_nil] at h2
    have : waitsOf l D c ≠ 0 := fun e => hcD (h2.2 e)
    omega
  have hf : ∃ d, (aheadOf l k).find? (fun c => decide (0 < waitsOf l D c)) = some d := by
    cases hd : (aheadOf l k).find? (fun c => decide (0 < waitsOf l D c)) with
    | some d => exact ⟨d, rfl⟩
    | none =>
      have := List.find?_eq_none.1 hd c (mem_ahead.2 hc)
      simp [hcw] at this
  obtain ⟨d, hd⟩ := hf
  have h1 := List.find?_some hd
  have h2 := mem_ahead.1 (List.mem_of_find?_eq_some hd)
  have e : holdOf l (waitsOf l D) k = d := by rw [holdOf, hd]; rfl
  rw [e]
  exact ⟨h2, by simpa using h1, (tied_lt h2).1⟩

def it (f : Nat → Nat) : Nat → Nat → Nat
  | 0, x => x
  | m + 1, x => f (it f m x)

theorem it_add (f : Nat → Nat) (a : Nat) : ∀ (b x : Nat), it f b (it f a x) = it f (b + a) x
  | 0, x => by simp [it]
  | b + 1, x => by rw [show b + 1 + a = (b + a) + 1 by omega, it, it, it_add f a b x]

/-- whoever goes on among n numbers has been there before. -/
theorem it_ring {f : Nat → Nat} {n x : Nat} (h : ∀ m, it f m x < n) : ∃ p, 1 ≤ p ∧ p ≤ n ∧ it f p (it f n x) = it f n x := by
  have hnot : ¬ ((List.range (n + 1)).map fun m => it f m x).Nodup := by
    intro hn
    have := nodup_le n _ hn (fun y hy => by
      obtain ⟨m, _, rfl⟩ := List.mem_map.1 hy
      exact h m)
    simp at this
    omega
  have : ∃ i j, i < j ∧ j ≤ n ∧ it f i x = it f j x := by
    rcases Classical.em (∃ i j, i < j ∧ j ≤ n ∧ it f i x = it f j x) with h1 | h1
    · exact h1
    · refine absurd ?_ hnot
      rw [List.Nodup, List.pairwise_map]
      refine List.pairwise_iff_getElem.2 (fun i j hi hj hij e => h1 ⟨i, j, hij, ?_, ?_⟩)
      · simp at hj; omega
      · simpa using e
  obtain ⟨i, j, hij, hjn, e⟩ := this
  refine ⟨j - i, by omega, by omega, ?_⟩
  have e1 : it f n x = it f (n - i) (it f i x) := by rw [it_add]; congr 1; omega
  have e2 : it f (j - i) (it f n x) = it f (n - i) (it f j x) := by rw [it_add, it_add]; congr 1; omega
  rw [e2, ← e, ← e1]

theorem hold_it {l : List Sp} {D : List Nat} (h : Srt l D []) {k : Nat} (hk : k < l.length) (hw : 0 < waitsOf l D k) :
    ∀ m, it (holdOf l (waitsOf l D)) m k < l.length ∧ 0 < waitsOf l D (it (holdOf l (waitsOf l D)) m k) ∧ (1 ≤ m → ∃ i, tied l (it (holdOf l (waitsOf l D)) m k) i = true)
  | 0 => ⟨hk, hw, fun h => by omega⟩
  | m + 1 => by
    obtain ⟨h1, h2, _⟩ := hold_it h hk hw m
    obtain ⟨h3, h4, h5⟩ := hold_spec h h1 h2
    exact ⟨h5, h4, fun _ => ⟨_, h3⟩⟩

/-! ### one Copy less -/

def broken (l : List Sp) (k : Nat) (s : Sp) : List Sp := l.set k ⟨s.t, s.n, none⟩

theorem broken_tiles : ∀ (l : List Sp) (k : Nat) (s : Sp) (a b : Nat), l[k]? = some s → tiles a l b → tiles a (broken l k s) b
  | [], _, _, _, _, h, _ => by simp at h
  | x :: r, 0, s, a, b, h, ht => by
    simp only [List.getElem?_cons_zero, Option.some.injEq] at h
    subst h
    exact ht
  | x :: r, k + 1, s, a, b, h, ht => ⟨ht.1, ht.2.1, broken_tiles r k s _ b (by simpa using h) ht.2.2⟩

theorem broken_mem {l : List Sp} {k : Nat} {s x : Sp} (h : x ∈ broken l k s) : x ∈ l ∨ x = ⟨s.t, s.n, none⟩ := by
  obtain ⟨i, hi⟩ := List.mem_iff_getElem?.1 h
  unfold broken at hi
  rw [List.getElem?_set] at hi
  split at hi
  · split at hi
    · simp only [Option.some.injEq] at hi; exact .inr hi.symm
    · cases hi
  · exact .inl (List.mem_of_getElem? hi)

theorem broken_inAdd {l : List Sp} {k : Nat} {s : Sp} {i : Nat} (hk : l[k]? = some s) (h : inAdd l i) : inAdd (broken l k s) i := by
  obtain ⟨x, hx, h1, h2⟩ := h
  obtain ⟨p, hp⟩ := List.mem_iff_getElem?.1 hx
  by_cases hpk : k = p
  · subst hpk
    rw [hk] at hp
    simp only [Option.some.injEq] at hp
    subst hp
    refine ⟨⟨s.t, s.n, none⟩, ?_, rfl, h2⟩
    refine List.mem_of_getElem? (i := k) ?_
    unfold broken
    rw [List.getElem?_set_self (List.getElem?_eq_some_iff.1 hk).1]
  · refine ⟨x, ?_, h1, h2⟩
    refine List.mem_of_getElem? (i := p) ?_
    unfold broken
    rw [List.getElem?_set_ne hpk]; exact hp

theorem broken_copies : ∀ (l : List Sp) (k : Nat) (s : Sp) (f : Nat), l[k]? = some s → s.src = some f → copies (broken l k s) + 1 = copies l
  | [], _, _, _, h, _ => by simp at h
  | x :: r, 0, s, f, h, hf => by
    simp only [List.getElem?_cons_zero, Option.some.injEq] at h
    subst h
    simp [broken, copies, hf]
  | x :: r, k + 1, s, f, h, hf => by
    have ih := broken_copies r k s f (by simpa using h) hf
    simp only [broken, copies, List.set_cons_succ, List.countP_cons] at ih ⊢
    omega

theorem good_next {old next : ByteArray} {l : List Sp} {k : Nat} {s : Sp} (h : Good old next l) (hk : l[k]? = some s) : Good old next (joined (broken l k s)) := by
  have ht := broken_tiles l k s _ _ hk h.tile
  have hf : ∀ x ∈ broken l k s, fits old next x := fun x hx => by
    rcases broken_mem hx with hx | rfl
    · exact h.fit x hx
    · intro f hf; simp at hf
  obtain ⟨⟨b, h1, h2, _⟩, h3, h4, h5, _, _⟩ := joined_spec old next (broken l k s) [] next.size (by rw [List.append_nil]; exact ht) hf
  have h2 : b = next.size := h2
  subst h2
  exact ⟨h1, h3, h4, fun i hi1 hi2 hp hne => h5 i (broken_inAdd hk (h.first i hi1 hi2 hp hne))⟩

theorem copies_next {old next : ByteArray} {l : List Sp} {k f : Nat} {s : Sp} (h : Good old next l) (hk : l[k]? = some s) (hs : s.src = some f) : copies (joined (broken l k s)) + 1 = copies l := by
  have ht := broken_tiles l k s _ _ hk h.tile
  have hf : ∀ x ∈ broken l k s, fits old next x := fun x hx => by
    rcases broken_mem hx with hx | rfl
    · exact h.fit x hx
    · intro f hf; simp at hf
  obtain ⟨_, _, _, _, _, h6⟩ := joined_spec old next (broken l k s) [] next.size (by rw [List.append_nil]; exact ht) hf
  rw [h6]
  exact broken_copies l k s f hk hs

theorem good_length {old next : ByteArray} {l : List Sp} (h : Good old next l) : l.length ≤ next.size := by
  have : ∀ (l : List Sp) (a b : Nat), tiles a l b → a + l.length ≤ b := by
    intro l
    induction l with
    | nil => intro a b h; have h : a = b := h; simp [h]
    | cons s r ih => intro a b h; have := ih _ _ h.2.2; have := h.2.1; simp; omega
  have := this l 0 next.size h.tile
  omega

/-! ### the sorted list -/

def noSp : Sp := ⟨0, 0, none⟩

def picked (l : List Sp) (D : List Nat) : List Sp := D.map fun i => l.getD i noSp

theorem picked_range (l : List Sp) : picked l (List.range l.length) = l := by
  apply List.ext_getElem
  · simp [picked]
  · intro i h1 h2
    simp [picked, h2]

/-- the steps of a made patch in the order in which they are done. -/
structure Sorted (l M : List Sp) : Prop where
  perm : M.Perm l
  apart : ∀ (p q : Nat) (a b : Sp), M[p]? = some a → M[q]? = some b → p ≠ q → a.t + a.n ≤ b.t ∨ b.t + b.n ≤ a.t
  order : ∀ (p q : Nat) (a b : Sp) (f : Nat), M[p]? = some a → M[q]? = some b → p < q → b.src = some f → f + b.n ≤ a.t ∨ a.t + a.n ≤ f

theorem sorted_of {l : List Sp} {D : List Nat} {c : Nat} (ht : tiles 0 l c) (h : Srt l D []) (hl : D.length = l.length) : Sorted l (picked l D) := by
  have hnd : D.Nodup := by have := h.nd; rwa [List.append_nil] at this
  have hlt : ∀ i ∈ D, i < l.length := fun i hi => h.lt i (by rw [List.append_nil]; exact hi)
  have hp := nodup_perm hnd hlt hl
  have hget : ∀ (p : Nat) (a : Sp), (picked l D)[p]? = some a → ∃ i, D[p]? = some i ∧ l[i]? = some a := by
    intro p a ha
    rw [picked, List.getElem?_map] at ha
    cases hi : D[p]? with
    | none => rw [hi] at ha; cases ha
    | some i =>
      rw [hi] at ha
      simp only [Option.map_some, Option.some.injEq] at ha
      have hil := hlt i (List.mem_of_getElem? hi)
      refine ⟨i, rfl, ?_⟩
      rw [← ha, List.getD_eq_getElem?_getD, List.getElem?_eq_getElem hil]; rfl
  have hinj : ∀ (p q i : Nat), D[p]? = some i → D[q]? = some i → p = q := by
    intro p q i hpi hqi
    obtain ⟨h1, e1⟩ := List.getElem?_eq_some_iff.1 hpi
    obtain ⟨h2, e2⟩ := List.getElem?_eq_some_iff.1 hqi
    rcases Nat.lt_trichotomy p q with hlt | he | hgt
    · exact absurd (e1.trans e2.symm) (List.pairwise_iff_getElem.1 hnd p q h1 h2 hlt)
    · exact he
    · exact absurd (e2.trans e1.symm) (List.pairwise_iff_getElem.1 hnd q p h2 h1 hgt)
  refine ⟨?_, fun p q a b ha hb hpq => ?_, fun p q a b f ha hb hpq hf => ?_⟩
  · have := hp.map (fun i => l.getD i noSp)
    have e := picked_range l
    unfold picked at e
    rw [e] at this
    exact this
  · obtain ⟨i, hi, hai⟩ := hget p a ha
    obtain ⟨j, hj, hbj⟩ := hget q b hb
    rcases Nat.lt_trichotomy i j with hij | hij | hij
    · exact .inl (tiles_lt l 0 c ht i j a b hai hbj hij)
    · subst hij; exact absurd (hinj p q i hi hj) hpq
    · exact .inr (tiles_lt l 0 c ht j i b a hbj hai hij)
  · obtain ⟨i, hi, hai⟩ := hget p a ha
    obtain ⟨j, hj, hbj⟩ := hget q b hb
    have hne : i ≠ j := fun e => by subst e; have := hinj p q i hi hj; omega
    rcases Classical.em (f + b.n ≤ a.t ∨ a.t + a.n ≤ f) with h1 | h1
    · exact h1
    · exfalso
      have htd : tied l j i = true := by
        rw [tied_iff hbj hai hf, decide_eq_true_eq]
        exact ⟨hne, by omega, by omega⟩
      have hm := h.ord p i hi j htd
      obtain ⟨r, hr⟩ := List.mem_iff_getElem?.1 hm
      rw [List.getElem?_take] at hr
      split at hr
      · next hrp => have := hinj r q j hr hj; omega
      · cases hr

/-! ### a plan may be -/

theorem form_of {ol nl : Int} : ∀ (r pre : List St), (∀ s ∈ r, ok ol nl s = true) → (∀ (p q : Nat) (a b : St), (pre ++ r)[p]? = some a → (pre ++ r)[q]? = some b → p ≠ q → a.t + a.n ≤ b.t ∨ b.t + b.n ≤ a.t) → total (pre ++ r) = nl → form ol nl pre r = true
  | [], pre, _, _, ht => by rw [List.append_nil] at ht; simp [form, ht]
  | s :: r, pre, hok, hap, ht => by
    have e : pre ++ s :: r = (pre ++ [s]) ++ r := by simp
    rw [form, Bool.and_eq_true, Bool.and_eq_true]
    refine ⟨⟨hok s (by simp), ?_⟩, form_of r (pre ++ [s]) (fun x hx => hok x (by simp [hx])) (by rw [← e]; exact hap) (by rw [← e]; exact ht)⟩
    rw [free, List.all_eq_true]
    intro x hx
    obtain ⟨p, hp⟩ := List.mem_iff_getElem?.1 hx
    have hpl := (List.getElem?_eq_some_iff.1 hp).1
    have := hap pre.length p s x (by simp) (by rw [List.getElem?_append_left hpl]; exact hp) (by omega)
    simpa using this

theorem ord_of : ∀ (r pre : List St), (∀ (p q : Nat) (a b : St), (pre ++ r)[p]? = some a → (pre ++ r)[q]? = some b → p < q → b.k = 3 → b.f + b.n ≤ a.t ∨ a.t + a.n ≤ b.f) → ord pre r = true
  | [], _, _ => rfl
  | s :: r, pre, h => by
    have e : pre ++ s :: r = (pre ++ [s]) ++ r := by simp
    rw [ord, Bool.and_eq_true]
    refine ⟨?_, ord_of r (pre ++ [s]) (by rw [← e]; exact h)⟩
    rw [Bool.or_eq_true, Bool.not_eq_true', decide_eq_false_iff_not]
    rcases Classical.em (s.k = 3) with hk | hk
    · right
      rw [free, List.all_eq_true]
      intro x hx
      obtain ⟨p, hp⟩ := List.mem_iff_getElem?.1 hx
      have hpl := (List.getElem?_eq_some_iff.1 hp).1
      have := h p pre.length x s (by rw [List.getElem?_append_left hpl]; exact hp) (by simp) hpl hk
      simpa using this
    · exact .inl hk

theorem st_t (n : ByteArray) (s : Sp) : (s.st n).t = s.t := by unfold Sp.st; cases s.src <;> rfl

theorem st_n (n : ByteArray) (s : Sp) : (s.st n).n = s.n := by unfold Sp.st; cases s.src <;> rfl

theorem st_copy {n : ByteArray} {s : Sp} (h : (s.st n).k = 3) : ∃ f, s.src = some f ∧ (s.st n).f = (f : Int) := by
  unfold Sp.st at h ⊢
  cases hs : s.src with
  | none => simp only [hs] at h; cases h
  | some f => exact ⟨f, rfl, rfl⟩

theorem total_st (n : ByteArray) : ∀ (l : List Sp), total (l.map (Sp.st n)) = (sizes l : Int)
  | [] => rfl
  | s :: l => by
    have ih := total_st n l
    simp only [total, List.map_cons, List.sum_cons, sizes] at ih ⊢
    rw [ih, st_n]; omega

theorem sizes_perm {a b : List Sp} (h : a.Perm b) : sizes a = sizes b := by
  unfold sizes
  exact (h.map Sp.n).sum_nat

theorem ok_st {old next : ByteArray} {l : List Sp} (h : Good old next l) {s : Sp} (hs : s ∈ l) : ok old.size next.size (s.st next) = true := by
  obtain ⟨_, h2, h3⟩ := tiles_mem l 0 next.size h.tile s hs
  have hf := h.fit s hs
  rw [ok, decide_eq_true_eq, st_n, st_t]
  refine ⟨by omega, ⟨by omega, by omega, by omega⟩, ?_⟩
  cases hsrc : s.src with
  | none =>
    left
    refine ⟨by unfold Sp.st; rw [hsrc]; rfl, ?_, by unfold Sp.st; rw [hsrc]; rfl⟩
    have : (s.st next).d = next.extract s.t (s.t + s.n) := by unfold Sp.st; rw [hsrc]; rfl
    rw [this, ByteArray.size_extract]
    omega
  | some f =>
    right
    obtain ⟨_, h5, _⟩ := hf f hsrc
    have e : (s.st next).f = (f : Int) := by unfold Sp.st; rw [hsrc]; rfl
    refine ⟨by unfold Sp.st; rw [hsrc]; rfl, by unfold Sp.st; rw [hsrc]; rfl, ?_⟩
    rw [e]
    omega

theorem full_st {old next : ByteArray} {l M : List Sp} {os ns : ByteArray} (h : Good old next l) (hM : Sorted l M) (ho : old.size ≤ 4000) (hn : next.size ≤ 4000) (hos : os.size = 4) (hns : ns.size = 4) (hlen : l.length ≤ 2000) :
    full old.size next.size os ns (M.map (Sp.st next)) = true ∧ ord [] (M.map (Sp.st next)) = true := by
  have hget : ∀ (p : Nat) (x : St), (M.map (Sp.st next))[p]? = some x → ∃ s, M[p]? = some s ∧ x = s.st next := by
    intro p x hx
    rw [List.getElem?_map] at hx
    cases hs : M[p]? with
    | none => rw [hs] at hx; cases hx
    | some s =>
      rw [hs] at hx
      simp only [Option.map_some, Option.some.injEq] at hx
      exact ⟨s, rfl, hx.symm⟩
  constructor
  · rw [full_yes (by omega) (by omega) hos hns (by rw [List.length_map, hM.perm.length_eq]; exact hlen), List.take_zero, List.drop_zero]
    refine form_of _ [] (fun x hx => ?_) (fun p q a b ha hb hpq => ?_) ?_
    · obtain ⟨s, hs, rfl⟩ := List.mem_map.1 hx
      exact ok_st h (hM.perm.subset hs)
    · rw [List.nil_append] at ha hb
      obtain ⟨s, hs, rfl⟩ := hget p a ha
      obtain ⟨r, hr, rfl⟩ := hget q b hb
      have := hM.apart p q s r hs hr hpq
      rw [st_t, st_t, st_n, st_n]
      omega
    · rw [List.nil_append, total_st, sizes_perm hM.perm]
      have := tiles_sizes l 0 next.size h.tile
      omega
  · refine ord_of _ [] (fun p q a b ha hb hpq hk => ?_)
    rw [List.nil_append] at ha hb
    obtain ⟨s, hs, rfl⟩ := hget p a ha
    obtain ⟨r, hr, rfl⟩ := hget q b hb
    obtain ⟨f, hf, e⟩ := st_copy hk
    have := hM.order p q s r f hs hr hpq hf
    rw [e, st_t, st_n, st_n]
    omega

end Pl
