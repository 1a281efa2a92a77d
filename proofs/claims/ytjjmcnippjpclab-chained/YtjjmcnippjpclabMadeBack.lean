/-
  What Make makes is read back, and makes the new text.
-/
import Derived.Test.YtjjmcnippjpclabMakeW
import Derived.Test.YtjjmcnippjpclabDonePlain
import Derived.Test.YtjjmcnippjpclabReadP
namespace Go.Proofs.Ytjjmcnippjpclab

open Go.RowKit

theorem snoc_ind' {α : Type} {P : List α → Prop} (h0 : P []) (h1 : ∀ l s, P l → P (l ++ [s])) (l : List α) : P l := by
  have : ∀ r : List α, P r.reverse := by
    intro r
    induction r with
    | nil => exact h0
    | cons a r ih => rw [List.reverse_cons]; exact h1 _ _ ih
  rw [← List.reverse_reverse l]; exact this _

theorem doneAt_const (text : ByteArray) (j : Nat) (v : UInt8) (st : List Pl.St) : (∀ x ∈ st, x.t ≤ (j : Int) ∧ (j : Int) < x.t + x.n → stByte x text (j - x.t.toNat) = v) → (∃ x ∈ st, x.t ≤ (j : Int) ∧ (j : Int) < x.t + x.n) → doneAt text j st = v := by
  refine snoc_ind' (P := fun st => (∀ x ∈ st, x.t ≤ (j : Int) ∧ (j : Int) < x.t + x.n → stByte x text (j - x.t.toNat) = v) → (∃ x ∈ st, x.t ≤ (j : Int) ∧ (j : Int) < x.t + x.n) → doneAt text j st = v) ?_ ?_ st
  · rintro _ ⟨x, hx, _⟩; simp at hx
  · intro l s ih h hex
    rw [doneAt_snoc]
    by_cases hs : s.t ≤ (j : Int) ∧ (j : Int) < s.t + s.n
    · rw [if_pos hs]; exact h s (by simp) hs
    · rw [if_neg hs]
      refine ih (fun x hx => h x (by simp [hx])) ?_
      obtain ⟨x, hx, hc⟩ := hex
      rcases List.mem_append.1 hx with hx | hx
      · exact ⟨x, hx, hc⟩
      · simp only [List.mem_singleton] at hx; subst hx; exact absurd hc hs

theorem made_done {o n : ByteArray} {l M : List _root_.Pl.Sp} (hG : _root_.Pl.Good o n l) (hM : M.Perm l) : doneB (M.map (_root_.Pl.Sp.st n)) o n.size = n.data.toList := by
  apply List.ext_getElem
  · unfold doneB; rw [List.length_map, List.length_range, data_len]
  · intro j h1 h2
    have hj : j < n.size := by rw [data_len] at h2; exact h2
    have e : (doneB (M.map (_root_.Pl.Sp.st n)) o n.size)[j] = doneAt o j (M.map (_root_.Pl.Sp.st n)) := by simp only [doneB, List.getElem_map, List.getElem_range]
    rw [e]
    refine doneAt_const o j _ _ (fun x hx hc => ?_) ?_
    · obtain ⟨s, hs, rfl⟩ := List.mem_map.1 hx
      have hsl := hM.subset hs
      rw [_root_.Pl.st_t, _root_.Pl.st_n] at hc
      rw [_root_.Pl.st_t, Int.toNat_natCast]
      have hc1 : s.t ≤ j := by omega
      have hc2 : j < s.t + s.n := by omega
      obtain ⟨_, _, hb⟩ := _root_.Pl.tiles_mem l 0 n.size hG.tile s hsl
      have hnj : n.data.toList[j] = n.data[j] := by rw [Array.getElem_toList]
      rw [hnj]
      unfold stByte
      cases hsrc : s.src with
      | none =>
        have e1 : (s.st n).k = 1 := by unfold _root_.Pl.Sp.st; rw [hsrc]; rfl
        have e2 : (s.st n).d = n.extract s.t (s.t + s.n) := by unfold _root_.Pl.Sp.st; rw [hsrc]; rfl
        rw [e1, e2, if_neg (by decide), Array.getD_eq_getD_getElem?, extract_at n s.t (s.t + s.n) (j - s.t) (by omega) hb, Nat.add_sub_cancel' hc1, Array.getElem?_eq_getElem hj]
        rfl
      | some f =>
        have e1 : (s.st n).k = 3 := by unfold _root_.Pl.Sp.st; rw [hsrc]; rfl
        have e2 : (s.st n).f = (f : Int) := by unfold _root_.Pl.Sp.st; rw [hsrc]; rfl
        obtain ⟨_, _, hf⟩ := hG.fit s hsl f hsrc
        rw [e1, e2, if_pos rfl, Int.toNat_natCast, Array.getD_eq_getD_getElem?, hf (j - s.t) (by omega), Nat.add_sub_cancel' hc1, Array.getElem?_eq_getElem hj]
        rfl
    · obtain ⟨s, hs, h3, h4⟩ := _root_.Pl.tiles_cov l 0 n.size hG.tile j (Nat.zero_le _) hj
      refine ⟨s.st n, List.mem_map.2 ⟨s, hM.symm.subset hs, rfl⟩, ?_⟩
      rw [_root_.Pl.st_t, _root_.Pl.st_n]
      omega

theorem made_size {o n T : ByteArray} {l M : List _root_.Pl.Sp} (h : MadeOf o n l M T) (ho : o.size ≤ 4000) (hn : n.size ≤ 4000) : T.size ≤ 60 + 2 * n.size ∧ (o = n → T.size ≤ 60) := by
  obtain ⟨h1, h2⟩ := made_len h.good h.sorted.perm ho hn (sumB_size o) (sumB_size n)
  have e : T.size = (madeB o n (sumB o) (sumB n) M).length := by rw [h.text]; exact List.size_toArray
  refine ⟨by omega, fun he => ?_⟩
  obtain ⟨h3, h4⟩ := h.same he
  have := same_costs h3 h4
  omega

theorem made_read {o n T : ByteArray} {l M : List _root_.Pl.Sp} (h : MadeOf o n l M T) (ho : o.size ≤ 4000) (hn : n.size ≤ 4000) :
    pErr T = 0 ∧ hOL T = o.size ∧ hNL T = n.size ∧ hOS T = sumB o ∧ hNS T = sumB n ∧ pSt T = M.map (_root_.Pl.Sp.st n) ∧ hN T = (M.map (_root_.Pl.Sp.st n)).length := by
  obtain ⟨h1, h2⟩ := _root_.Pl.full_st (os := sumB o) (ns := sumB n) h.good h.sorted ho hn (sumB_size o) (sumB_size n) (good_few h.good hn)
  exact read_back h1 h2 T h.text

theorem bytes_ne {a b : ByteArray} (h : a ≠ b) : ¬ a.toList = b.toList := fun e => h (by
  apply ByteArray.ext
  apply Array.ext'
  rw [← toList_data, ← toList_data]; exact e)

end Go.Proofs.Ytjjmcnippjpclab
