/-
  Which steps wait for which, and in what order they are done: without the model.
-/
import Derived.Test.YtlijlmjgnhheaaaMakePlain
namespace Pl

/-- must step c be ahead of step i: comes c, a Copy, from where i goes? -/
def tied (l : List Sp) (c i : Nat) : Bool := match l[c]?, l[i]? with
  | some a, some b => match a.src with
    | some f => decide (i ≠ c ∧ b.t < f + a.n ∧ f < b.t + b.n)
    | none => false
  | _, _ => false

theorem tied_spec {l : List Sp} {c i : Nat} (h : tied l c i = true) : ∃ a b f, l[c]? = some a ∧ l[i]? = some b ∧ a.src = some f ∧ i ≠ c ∧ b.t < f + a.n ∧ f < b.t + b.n := by
  unfold tied at h
  cases ha : l[c]? with
  | none => rw [ha] at h; cases h
  | some a =>
    cases hb : l[i]? with
    | none => rw [ha, hb] at h; cases h
    | some b =>
      rw [ha, hb] at h
      cases hf : a.src with
      | none => simp only [hf] at h; cases h
      | some f =>
        simp only [hf, decide_eq_true_eq] at h
        exact ⟨a, b, f, rfl, rfl, hf, h⟩

theorem tied_iff {l : List Sp} {c i f : Nat} {a b : Sp} (ha : l[c]? = some a) (hb : l[i]? = some b) (hf : a.src = some f) : tied l c i = decide (i ≠ c ∧ b.t < f + a.n ∧ f < b.t + b.n) := by
  unfold tied; rw [ha, hb]; simp only [hf]

theorem tied_add {l : List Sp} {c i : Nat} {a : Sp} (ha : l[c]? = some a) (hf : a.src = none) : tied l c i = false := by
  unfold tied; rw [ha]
  cases l[i]? with
  | none => rfl
  | some b => simp only [hf]

theorem tied_lt {l : List Sp} {c i : Nat} (h : tied l c i = true) : c < l.length ∧ i < l.length ∧ i ≠ c := by
  obtain ⟨a, b, f, ha, hb, _, hne, _⟩ := tied_spec h
  exact ⟨(List.getElem?_eq_some_iff.1 ha).1, (List.getElem?_eq_some_iff.1 hb).1, hne⟩

/-- those that must be ahead of a step, and those that wait for one. -/
def aheadOf (l : List Sp) (i : Nat) : List Nat := (List.range l.length).filter fun c => tied l c i
def behindOf (l : List Sp) (c : Nat) : List Nat := (List.range l.length).filter fun i => tied l c i

theorem mem_ahead {l : List Sp} {i c : Nat} : c ∈ aheadOf l i ↔ tied l c i = true := by
  rw [aheadOf, List.mem_filter, List.mem_range]
  exact ⟨fun h => h.2, fun h => ⟨(tied_lt h).1, h⟩⟩
theorem mem_behind {l : List Sp} {i c : Nat} : i ∈ behindOf l c ↔ tied l c i = true := by
  rw [behindOf, List.mem_filter, List.mem_range]
  exact ⟨fun h => h.2, fun h => ⟨(tied_lt h).2.1, h⟩⟩
theorem nodup_range (n : Nat) : (List.range n).Nodup := List.nodup_range
theorem nodup_ahead (l : List Sp) (i : Nat) : (aheadOf l i).Nodup := (nodup_range _).filter _
theorem nodup_behind (l : List Sp) (c : Nat) : (behindOf l c).Nodup := (nodup_range _).filter _

/-- how many of those ahead are not done. -/
def waitsOf (l : List Sp) (D : List Nat) (i : Nat) : Nat := (aheadOf l i).countP fun c => decide (c ∉ D)

theorem waits_none (l : List Sp) (i : Nat) : waitsOf l [] i = (aheadOf l i).length := by
  rw [waitsOf, List.countP_eq_length]
  intro c _; simp

theorem waits_zero {l : List Sp} {D : List Nat} {i : Nat} : waitsOf l D i = 0 ↔ ∀ c, tied l c i = true → c ∈ D := by
  rw [waitsOf, List.countP_eq_zero]
  constructor
  · intro h c hc
    have := h c (mem_ahead.2 hc)
    simpa using this
  · intro h c hc
    simpa using h c (mem_ahead.1 hc)

theorem count_one {l : List Nat} (hn : l.Nodup) {D : List Nat} {k : Nat} (hk : k ∉ D) :
    l.countP (fun c => decide (c ∉ D)) = l.countP (fun c => decide (c ∉ D ++ [k])) + (if k ∈ l then 1 else 0) := by
  induction l with
  | nil => simp
  | cons a r ih =>
    rw [List.nodup_cons] at hn
    have ih := ih hn.2
    rw [List.countP_cons, List.countP_cons, ih]
    by_cases hak : a = k
    · subst hak
      have h1 : decide (a ∉ D) = true := by simpa using hk
      have h2 : decide (a ∉ D ++ [a]) = false := by simp
      simp [hn.1, hk]
    · have h3 : decide (a ∉ D ++ [k]) = decide (a ∉ D) := by simp [hak]
      rw [h3]
      have h4 : (k ∈ a :: r) ↔ k ∈ r := by simp [Ne.symm hak]
      simp only [h4]
      omega

/-- one more is done: who waited for it waits for one less. -/
theorem waits_done {l : List Sp} {D : List Nat} {k : Nat} (hk : k ∉ D) (i : Nat) : waitsOf l D i = waitsOf l (D ++ [k]) i + (if tied l k i = true then 1 else 0) := by
  rw [waitsOf, waitsOf, count_one (nodup_ahead l i) hk]
  simp only [mem_ahead]

/-- what holds between the rounds of the sort: some are done, some may come next. -/
structure Srt (l : List Sp) (D Q : List Nat) : Prop where
  nd : (D ++ Q).Nodup
  lt : ∀ i ∈ D ++ Q, i < l.length
  zero : ∀ i, i < l.length → (i ∈ D ++ Q ↔ waitsOf l D i = 0)
  ord : ∀ (p i : Nat), D[p]? = some i → ∀ c, tied l c i = true → c ∈ D.take p

/-- .. and while those behind the last one are gone through: the waits are those of the done ones and of the first so many behind. -/
def waitsAt (l : List Sp) (D : List Nat) (k j i : Nat) : Nat := waitsOf l D i - (if i ∈ (behindOf l k).take j then 1 else 0)

structure Srt2 (l : List Sp) (D : List Nat) (k : Nat) (Q : List Nat) (j : Nat) : Prop where
  knew : k ∉ D
  klt : k < l.length
  nd : (D ++ [k] ++ Q).Nodup
  lt : ∀ i ∈ D ++ [k] ++ Q, i < l.length
  zero : ∀ i, i < l.length → (i ∈ D ++ [k] ++ Q ↔ waitsAt l D k j i = 0)
  ord : ∀ (p i : Nat), (D ++ [k])[p]? = some i → ∀ c, tied l c i = true → c ∈ (D ++ [k]).take p

theorem srt_pop {l : List Sp} {D Q Q' : List Nat} {k : Nat} (h : Srt l D Q) (hp : (k :: Q').Perm Q) : Srt2 l D k Q' 0 := by
  have hp' : (D ++ [k] ++ Q').Perm (D ++ Q) := by
    rw [List.append_assoc]; exact hp.append_left D
  have hkq : k ∈ D ++ Q := by simp only [List.mem_append]; exact .inr (hp.subset (by simp))
  have hkD : k ∉ D := by
    intro hk
    have h1 := h.nd
    rw [List.nodup_append] at h1
    exact h1.2.2 k hk k (hp.subset (by simp)) rfl
  refine ⟨hkD, h.lt k hkq, hp'.nodup_iff.2 h.nd, fun i hi => h.lt i (hp'.subset hi), fun i hi => ?_, fun p i hpi c hc => ?_⟩
  · rw [hp'.mem_iff, h.zero i hi, waitsAt]
    simp
  · rcases Nat.lt_or_ge p D.length with hlt | hge
    · rw [List.getElem?_append_left hlt] at hpi
      rw [List.take_append_of_le_length (by omega)]
      exact h.ord p i hpi c hc
    · rw [List.getElem?_append_right hge] at hpi
      have hp0 : p - D.length = 0 := by
        rcases Nat.eq_zero_or_pos (p - D.length) with h0 | h0
        · exact h0
        · rw [List.getElem?_eq_none (by simp; omega)] at hpi; cases hpi
      rw [hp0] at hpi
      simp only [List.getElem?_cons_zero, Option.some.injEq] at hpi
      subst hpi
      have : p = D.length := by omega
      subst this
      rw [List.take_left']
      · exact waits_zero.1 ((h.zero k (h.lt k hkq)).1 hkq) c hc
      · rfl

theorem waitsAt_next {l : List Sp} {D : List Nat} {k j i : Nat} (hi : (behindOf l k)[j]? = some i) (m : Nat) :
    waitsAt l D k (j + 1) m = if m = i then waitsOf l D i - 1 else waitsAt l D k j m := by
  have ht : (behindOf l k).take (j + 1) = (behindOf l k).take j ++ [i] := by rw [List.take_add_one, hi]; rfl
  unfold waitsAt
  rw [ht]
  by_cases hm : m = i
  · subst hm; simp
  · simp [hm]

theorem behind_notyet {l : List Sp} {k j i : Nat} (hi : (behindOf l k)[j]? = some i) : i ∉ (behindOf l k).take j := by
  intro hm
  have hn := nodup_behind l k
  obtain ⟨p, hp⟩ := List.mem_iff_getElem?.1 hm
  rw [List.getElem?_take] at hp
  split at hp
  · next hlt =>
    have hj := (List.getElem?_eq_some_iff.1 hi)
    have hpp := (List.getElem?_eq_some_iff.1 hp)
    exact absurd (hpp.2.trans hj.2.symm) (List.pairwise_iff_getElem.1 hn p j hpp.1 hj.1 hlt)
  · cases hp

/-- one of those behind waits for one less; where it waits for none any more, it may come next. -/
theorem srt_step {l : List Sp} {D Q : List Nat} {k j i : Nat} (h : Srt2 l D k Q j) (hi : (behindOf l k)[j]? = some i) :
    waitsAt l D k j i = waitsOf l D i ∧ 1 ≤ waitsOf l D i ∧ i < l.length ∧ (1 < waitsOf l D i → Srt2 l D k Q (j + 1)) ∧ (waitsOf l D i = 1 → ∀ Q', Q'.Perm (Q ++ [i]) → Srt2 l D k Q' (j + 1)) := by
  have hny := behind_notyet hi
  have htd : tied l k i = true := mem_behind.1 (List.mem_of_getElem? hi)
  have hil := (tied_lt htd).2.1
  have hw1 : waitsAt l D k j i = waitsOf l D i := by unfold waitsAt; rw [if_neg hny]; omega
  have hpos : 1 ≤ waitsOf l D i := by
    have := waits_done (l := l) h.knew i
    rw [if_pos htd] at this
    omega
  refine ⟨hw1, hpos, hil, fun h2 => ⟨h.knew, h.klt, h.nd, h.lt, fun m hm => ?_, h.ord⟩, fun h1 Q' hQ' => ?_⟩
  · rw [h.zero m hm, waitsAt_next hi]
    by_cases hmi : m = i
    · subst hmi; rw [if_pos rfl, hw1]; omega
    · rw [if_neg hmi]
  · have hp : (D ++ [k] ++ Q').Perm (D ++ [k] ++ Q ++ [i]) := by
      have := hQ'.append_left (D ++ [k])
      rw [← List.append_assoc] at this; exact this
    have hin : i ∉ D ++ [k] ++ Q := fun hm => by
      have := (h.zero i hil).1 hm
      omega
    refine ⟨h.knew, h.klt, hp.nodup_iff.2 ?_, fun m hm => ?_, fun m hm => ?_, h.ord⟩
    · rw [List.nodup_append]
      exact ⟨h.nd, by simp, fun a ha b hb e => by simp only [List.mem_singleton] at hb; subst hb; subst e; exact hin ha⟩
    · have := hp.subset hm
      rcases List.mem_append.1 this with h3 | h3
      · exact h.lt m h3
      · simp only [List.mem_singleton] at h3; subst h3; exact hil
    · rw [hp.mem_iff, waitsAt_next hi]
      by_cases hmi : m = i
      · subst hmi; rw [if_pos rfl]; simp; omega
      · rw [if_neg hmi, ← h.zero m hm]
        simp [hmi]

theorem srt_end {l : List Sp} {D Q : List Nat} {k : Nat} (h : Srt2 l D k Q (behindOf l k).length) : Srt l (D ++ [k]) Q := by
  refine ⟨h.nd, h.lt, fun i hi => ?_, h.ord⟩
  rw [h.zero i hi, waitsAt, List.take_length]
  have := waits_done (l := l) h.knew i
  simp only [mem_behind]
  split
  · next ht => rw [if_pos ht] at this; omega
  · next ht => rw [if_neg ht] at this; omega

theorem waitsAt_end {l : List Sp} {D : List Nat} {k : Nat} (hk : k ∉ D) (i : Nat) : waitsAt l D k (behindOf l k).length i = waitsOf l (D ++ [k]) i := by
  rw [waitsAt, List.take_length]
  have := waits_done (l := l) hk i
  simp only [mem_behind]
  split
  · next ht => rw [if_pos ht] at this; omega
  · next ht => rw [if_neg ht] at this; omega

theorem srt_start {l : List Sp} {Q : List Nat} (hQ : Q.Perm ((List.range l.length).filter fun i => decide (waitsOf l [] i = 0))) : Srt l [] Q := by
  have hn : ((List.range l.length).filter fun i => decide (waitsOf l [] i = 0)).Nodup := (nodup_range _).filter _
  refine ⟨by rw [List.nil_append]; exact hQ.nodup_iff.2 hn, fun i hi => ?_, fun i hi => ?_, fun p i hp => by simp at hp⟩
  · rw [List.nil_append] at hi
    have := hQ.subset hi
    rw [List.mem_filter, List.mem_range] at this
    exact this.1
  · rw [List.nil_append, hQ.mem_iff, List.mem_filter, List.mem_range]
    simp [hi]

/-! ### numbers below n, each once -/
theorem nodup_le : ∀ (n : Nat) (l : List Nat), l.Nodup → (∀ x ∈ l, x < n) → l.length ≤ n
  | 0, l, _, h => by
    cases l with
    | nil => simp
    | cons a r => exact absurd (h a (by simp)) (Nat.not_lt_zero _)
  | n + 1, l, hn, h => by
    have h1 := nodup_le n (l.erase n) (hn.erase n) (fun x hx => by
      have h2 := (List.Nodup.mem_erase_iff hn).1 hx
      have := h x h2.2
      have := h2.1
      omega)
    have h3 := List.length_erase (a := n) (l := l)
    split at h3 <;> omega

theorem nodup_all {n : Nat} {l : List Nat} (hn : l.Nodup) (h : ∀ x ∈ l, x < n) (hl : l.length = n) : ∀ i, i < n → i ∈ l := by
  intro i hi
  rcases Classical.em (i ∈ l) with hm | hm
  · exact hm
  · have := nodup_le n (i :: l) (List.nodup_cons.2 ⟨hm, hn⟩) (fun x hx => by
      rcases List.mem_cons.1 hx with rfl | hx
      · exact hi
      · exact h x hx)
    simp at this
    omega

theorem nodup_perm {n : Nat} {l : List Nat} (hn : l.Nodup) (h : ∀ x ∈ l, x < n) (hl : l.length = n) : l.Perm (List.range n) := by
  rw [List.perm_iff_count]
  intro a
  have h1 := hn.count (a := a)
  have h2 := (nodup_range n).count (a := a)
  rw [h1, h2]
  have : a ∈ l ↔ a ∈ List.range n := by
    rw [List.mem_range]
    exact ⟨h a, nodup_all hn h hl a⟩
  simp only [this]

end Pl
