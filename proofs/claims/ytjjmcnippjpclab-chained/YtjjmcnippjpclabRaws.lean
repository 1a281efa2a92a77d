/-
  A list of numbers that came in, as edited reads it.
-/
import Derived.Test.YtjjmcnippjpclabEdited
import Derived.Test.YtjjmcnippjpclabOpen
import Derived.ChangeSlices
import Derived.OpenShut
namespace Go.Proofs.Ytjjmcnippjpclab

open Go.RowKit Go.ChangeShapes

theorem cellsInt : Try.prog.cellsOf 3 = 1 := by kernel_rfl

theorem cell_block {w : World} {b o : Nat} {v : Value} (h : w.cell? ⟨b, o, none⟩ = some v) : b < w.heap.size := by
  refine Nat.lt_of_not_le fun hn => ?_
  have e : w.heap[b]? = none := Array.getElem?_eq_none hn
  simp [World.cell?, e] at h

/-- a list of numbers that came in: empty, or its cells lie in a block. -/
def rawOld (w : World) (rv : Value) (zs : List Int) : Prop :=
  (zs = [] ∧ ∃ ao c, rv = .slice ao 0 c) ∨ ∃ b o c, rv = .slice (some ⟨b, o, none⟩) zs.length c ∧ rawAt b o zs.length (fun i => zs.getD i 0) w

theorem open_raw {H : Type} {enc : TypeId × Value → H} {w : World} {base : Nat} {sp : Nat → Bool} {hd : Bool} {fuel : Nat} {rv : Value} {x : DataW H × List MemPlace}
    (h : DataW.trod enc Try.prog w base sp hd fuel 22 [rv] = some x) : ∃ zs : List Int, rawOld w rv zs ∧ zs.length ≤ maxLen ∧ ∀ i, -9223372036854775808 ≤ zs.getD i 0 ∧ zs.getD i 0 ≤ 9223372036854775807 := by
  rcases open_ints Try.underlying22 Try.underlying3 cellsInt h with ⟨hcs, _⟩ | ⟨a, len, cap, zs, hcs, _, hl, hm, hz, _, hcell, hwz⟩
  · have e : rv = .slice none 0 0 := by simpa using hcs
    exact ⟨[], Or.inl ⟨rfl, _, _, e⟩, Nat.zero_le _, fun i => by simp⟩
  · have e : rv = .slice (some a) len cap := by simpa using hcs
    have hlz : len ≤ zs.length := by rw [hz]; split <;> omega
    by_cases h0 : len = 0
    · exact ⟨[], Or.inl ⟨rfl, _, _, by rw [e, h0]⟩, Nat.zero_le _, fun i => by simp⟩
    · have c0 := hcell 0 (by omega)
      have ha : a = ⟨a.block, a.off, none⟩ := by
        have := addr_plain c0
        obtain ⟨b, o, s⟩ := a
        cases s with
        | none => rfl
        | some k => simp [Addr.add] at this
      generalize a.block = b at ha
      generalize a.off = o at ha
      subst ha
      have hlen : (zs.take len).length = len := by rw [List.length_take]; omega
      have hget : ∀ i, i < len → (zs.take len).getD i 0 = zs.getD i 0 := fun i hi => by
        rw [List.getD_eq_getElem?_getD, List.getD_eq_getElem?_getD, List.getElem?_take, if_pos hi]
      refine ⟨zs.take len, Or.inr ⟨b, o, cap, by rw [hlen]; exact e, ?_, ?_⟩, by rw [hlen]; omega, ?_⟩
      · rw [add_plain] at c0
        exact cell_block c0
      · intro i hi
        rw [hlen] at hi
        have := hcell i (by omega)
        rw [add_plain] at this
        rw [this]
        show _ = some (Value.int .i64 ((zs.take len).getD i 0))
        rw [hget i hi]
      · intro i
        by_cases hi : i < len
        · rw [hget i hi]
          have hm : zs.getD i 0 ∈ zs := by
            rw [List.getD_eq_getElem?_getD, List.getElem?_eq_getElem (by omega)]
            exact List.getElem_mem _
          have := bounds_i64 (hwz _ hm)
          omega
        · rw [List.getD_eq_getElem?_getD, List.getElem?_eq_none (by omega)]
          simp

theorem raw_edits {w : World} {rv : Value} {zs : List Int} (h : rawOld w rv zs) (hm : zs.length ≤ maxLen) (hz : ∀ i, -9223372036854775808 ≤ zs.getD i 0 ∧ zs.getD i 0 ≤ 9223372036854775807) (o : ByteArray) (v : World) (ho : o.size ≤ 3000) (hb : Below w.heap.size w v) :
    Calls Try.prog 7 #[.string o, rv] v fun e w' => ∃ t : ByteArray, e = .returned (.string t) ∧ t.size ≤ 3000 ∧ Below v.heap.size v w' := by
  rcases h with ⟨_, ao, c, rfl⟩ | ⟨b, p, c, rfl, hr⟩
  · refine (edited_nil o ao c v).mono ?_
    rintro e w' ⟨t, rfl, h1, h2⟩
    exact ⟨t, rfl, by omega, h2⟩
  · exact edited_any o b p zs.length c _ v 3000 (by omega) ho (Nat.le_refl _) (by unfold maxLen at hm; omega) (rawAt_below hr hb) hz

end Go.Proofs.Ytjjmcnippjpclab
