/-
  How a new text is cut into steps, without the model.
-/
import Derived.Test.YtlijlmjgnhheaaaAddOf
namespace Go.Proofs.Ytlijlmjgnhheaaa
open _root_.Pl

/-- what holds ahead of each round. -/
structure CutInv (o n : ByteArray) (K : Nat) (l : List Sp) (left here : Nat) : Prop where
  tile : tiles 0 l left
  le : left ≤ here
  lo : left ≤ n.size
  hi : here ≤ n.size + 1
  fit : ∀ s ∈ l, fits o n s
  apart : apartA l
  last : ∀ x, l.getLast? = some x → x.src ≠ none
  nocopy : K < o.size → ∀ s ∈ l, s.src ≠ none → ¬ (s.t ≤ K ∧ K < s.t + s.n)
  past : K < o.size → K < here
  same : o = n → here = n.size ∧ l.length ≤ 1 ∧ (left = n.size ∨ (l = [] ∧ n.size < 12))

theorem front_same {o n : ByteArray} {K : Nat} (h : isFront o n K) (e : o = n) : K = n.size := by
  subst e
  obtain ⟨h1, _, _, h4⟩ := h
  rcases Nat.lt_or_ge K o.size with hk | hk
  · exact absurd rfl (h4 hk hk)
  · omega

theorem cut_none {o n : ByteArray} {K here : Nat} (h : isFront o n K) (hk : K < 12) (hh : here = if K < o.size then K + 1 else K) : CutInv o n K [] 0 here where
  tile := rfl
  le := Nat.zero_le _
  lo := Nat.zero_le _
  hi := by have := h.2.1; subst hh; split <;> omega
  fit := by simp
  apart := trivial
  last := by simp
  nocopy := by simp
  past := fun hK => by rw [hh, if_pos hK]; omega
  same := fun e => by
    have := front_same h e
    have h1 : ¬ K < o.size := by rw [e]; omega
    rw [if_neg h1] at hh
    exact ⟨by omega, by simp, .inr ⟨rfl, by omega⟩⟩

theorem cut_front {o n : ByteArray} {K here : Nat} (h : isFront o n K) (hk : 12 ≤ K) (hh : here = if K < o.size then K + 1 else K) : CutInv o n K [⟨0, K, some 0⟩] K here where
  tile := ⟨rfl, by show 1 ≤ K; omega, by show 0 + K = K; omega⟩
  le := by subst hh; split <;> omega
  lo := h.2.1
  hi := by have := h.2.1; subst hh; split <;> omega
  fit := by
    intro s hs f hf
    simp only [List.mem_singleton] at hs
    subst hs
    simp only [Option.some.injEq] at hf
    subst hf
    exact ⟨hk, by have := h.1; show 0 + K ≤ _; omega, fun j hj => by rw [Nat.zero_add]; exact h.2.2.1 j hj⟩
  apart := trivial
  last := by intro x hx; simp at hx; subst hx; simp
  nocopy := by
    intro _ s hs _ hc
    simp only [List.mem_singleton] at hs
    subst hs
    have : K < 0 + K := hc.2
    omega
  past := fun hK => by rw [hh, if_pos hK]; omega
  same := fun e => by
    have := front_same h e
    have h1 : ¬ K < o.size := by rw [e]; omega
    rw [if_neg h1] at hh
    exact ⟨by omega, by simp, .inl this⟩

theorem cut_skip {o n : ByteArray} {K left here : Nat} {l : List Sp} (h : CutInv o n K l left here) (hh : here < n.size) : CutInv o n K l left (here + 1) where
  tile := h.tile
  le := by have := h.le; omega
  lo := h.lo
  hi := by omega
  fit := h.fit
  apart := h.apart
  last := h.last
  nocopy := h.nocopy
  past := fun hK => by have := h.past hK; omega
  same := fun e => by have := h.same e; omega

theorem withAdd_tiles {l : List Sp} {left here : Nat} (h : tiles 0 l left) (hl : left ≤ here) : tiles 0 (withAdd l left here) here := by
  unfold withAdd
  split
  · next e => rw [← e]; exact h
  · refine tiles_append l _ 0 left here h ⟨rfl, ?_, ?_⟩
    · show 1 ≤ here - left; omega
    · show left + (here - left) = here; omega

theorem withAdd_mem {l : List Sp} {left here : Nat} {s : Sp} (h : s ∈ withAdd l left here) : s ∈ l ∨ s = ⟨left, here - left, none⟩ := by
  unfold withAdd at h
  split at h
  · exact .inl h
  · rcases List.mem_append.1 h with h | h
    · exact .inl h
    · exact .inr (by simpa using h)

theorem withAdd_apart {l : List Sp} {left here : Nat} (h : apartA l) (hl : ∀ x, l.getLast? = some x → x.src ≠ none) : apartA (withAdd l left here) := by
  unfold withAdd
  split
  · exact h
  · exact apartA_snoc _ _ h (fun x hx hh => hl x hx hh.1)

theorem withAdd_fit {o n : ByteArray} {l : List Sp} {left here : Nat} (h : ∀ s ∈ l, fits o n s) : ∀ s ∈ withAdd l left here, fits o n s := by
  intro s hs
  rcases withAdd_mem hs with hs | rfl
  · exact h s hs
  · intro f hf; simp at hf

theorem cut_copy {o n : ByteArray} {K left here f z : Nat} {l : List Sp} (h : CutInv o n K l left here) (hh : here < n.size) (hz : 12 ≤ z) (hs : srcAt o n here f z) :
    CutInv o n K (withAdd l left here ++ [⟨here, z, some f⟩]) (here + z) (here + z) where
  tile := tiles_snoc (withAdd_tiles h.tile h.le) rfl (by show 1 ≤ z; omega)
  le := Nat.le_refl _
  lo := hs.2.1
  hi := by have := hs.2.1; omega
  fit := by
    intro s hx
    rcases List.mem_append.1 hx with hx | hx
    · exact withAdd_fit h.fit s hx
    · simp only [List.mem_singleton] at hx
      subst hx
      intro g hg
      simp only [Option.some.injEq] at hg
      subst hg
      exact ⟨hz, hs.1, hs.2.2⟩
  apart := apartA_snoc _ _ (withAdd_apart h.apart h.last) (fun x _ hh => by simp at hh)
  last := by intro x hx; simp at hx; subst hx; simp
  nocopy := by
    intro hK s hx hc
    rcases List.mem_append.1 hx with hx | hx
    · rcases withAdd_mem hx with hx | rfl
      · exact h.nocopy hK s hx hc
      · exact absurd rfl hc
    · simp only [List.mem_singleton] at hx
      subst hx
      have := h.past hK
      show ¬ (here ≤ K ∧ _)
      omega
  past := fun hK => by have := h.past hK; omega
  same := fun e => by have := h.same e; omega

theorem cut_length {o n : ByteArray} {K left here : Nat} {l : List Sp} (h : CutInv o n K l left here) : l.length ≤ n.size := by
  have : ∀ (l : List Sp) (a b : Nat), tiles a l b → a + l.length ≤ b := by
    intro l
    induction l with
    | nil => intro a b h; have h : a = b := h; simp [h]
    | cons s r ih => intro a b h; have := ih _ _ h.2.2; have := h.2.1; simp; omega
  have := this l 0 left h.tile
  have := h.lo
  omega

/-- what the cut of a new text is. -/
structure IsCut (o n : ByteArray) (l : List Sp) : Prop where
  good : _root_.Pl.Good o n l
  same : o = n → l.length ≤ 1 ∧ ∀ s ∈ l, s.src = none → s.n < 12

theorem cut_end {o n : ByteArray} {K left here : Nat} {l : List Sp} (hf : isFront o n K) (h : CutInv o n K l left here) : IsCut o n (withAdd l left n.size) where
  good := {
    tile := withAdd_tiles h.tile h.lo
    fit := withAdd_fit h.fit
    apart := withAdd_apart h.apart h.last
    first := by
      intro i hi1 hi2 hpre hne
      have hK : i = K := by
        obtain ⟨_, _, h3, h4⟩ := hf
        rcases Nat.lt_trichotomy i K with hlt | rfl | hgt
        · exact absurd (h3 i hlt) hne
        · rfl
        · exact absurd (hpre K hgt) (h4 (by omega) (by omega))
      subst hK
      obtain ⟨s, hs, hs1, hs2⟩ := tiles_cov _ 0 n.size (withAdd_tiles h.tile h.lo) i (Nat.zero_le _) hi2
      refine ⟨s, hs, ?_, hs1, hs2⟩
      rcases withAdd_mem hs with hm | rfl
      · cases hsrc : s.src with
        | none => rfl
        | some f => exact absurd ⟨hs1, hs2⟩ (h.nocopy hi1 s hm (by simp [hsrc]))
      · rfl }
  same := fun e => by
    obtain ⟨_, h2, h3⟩ := h.same e
    rcases h3 with h3 | ⟨h3, h4⟩
    · have : withAdd l left n.size = l := by unfold withAdd; rw [if_pos h3]
      rw [this]
      refine ⟨h2, fun s hs hn => ?_⟩
      have hl : l = [s] := by
        match l, h2, hs with
        | [x], _, hs => simp only [List.mem_singleton] at hs; rw [hs]
      exact absurd hn (h.last s (by rw [hl]; rfl))
    · subst h3
      have ht : 0 = left := h.tile
      subst ht
      unfold withAdd
      split
      · simp
      · refine ⟨by simp, fun s hs _ => ?_⟩
        simp only [List.nil_append, List.mem_singleton] at hs
        subst hs
        show n.size - 0 < 12
        omega

end Go.Proofs.Ytlijlmjgnhheaaa
