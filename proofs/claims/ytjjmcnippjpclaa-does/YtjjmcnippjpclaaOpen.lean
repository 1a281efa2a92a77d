/-
  A plan that came in, opened: its two lengths, its two sums, and its steps, cell by cell.
-/
import Derived.Test.YtjjmcnippjpclaaMays
import Derived.Deep.Slices
import Derived.ProofKit
import Derived.ChangeSame
import Derived.DataReads
namespace Go.Proofs.Ytjjmcnippjpclaa

open Go.RowKit Go.Deep

theorem cells31 : Try.prog.cellsOf 31 = 5 := by kernel_rfl

theorem cells40 : Try.prog.cellsOf 40 = 5 := by kernel_rfl

theorem cells3 : Try.prog.cellsOf 3 = 1 := by kernel_rfl

theorem cells9 : Try.prog.cellsOf 9 = 1 := by kernel_rfl

theorem cells29 : Try.prog.cellsOf 29 = 1 := by kernel_rfl

section

variable {H : Type} {enc : TypeId × Value → H} {P : Program} {w : World} {base : Nat} {sp : Nat → Bool} {hd : Bool}

theorem cell_int {t : TypeId} (ht : P.underlying t = some (.int .i64)) {n : Nat} {v : Value} {y : DataW H × List MemPlace} (h : DataW.trod enc P w base sp hd n t [v] = some y) :
    ∃ k, v = .int .i64 k ∧ y = (.lit (.int .i64 k), []) := by
  cases n with
  | zero => simp [DataW.trod] at h
  | succ n =>
    unfold DataW.trod at h
    rw [ht] at h
    cases v <;> simp at h
    obtain ⟨⟨rfl, _⟩, rfl⟩ := h
    exact ⟨_, rfl, rfl⟩

theorem cell_str {t : TypeId} (ht : P.underlying t = some .string) {n : Nat} {v : Value} {y : DataW H × List MemPlace} (h : DataW.trod enc P w base sp hd n t [v] = some y) :
    ∃ s, v = .string s ∧ y = (.lit (.string s.data.toList), []) := by
  cases n with
  | zero => simp [DataW.trod] at h
  | succ n =>
    unfold DataW.trod at h
    rw [ht] at h
    cases v <;> simp at h
    obtain ⟨_, rfl⟩ := h
    exact ⟨_, rfl, rfl⟩

theorem struct5 {t : TypeId} {f0 f1 f2 f3 f4 : Field} {fuel : Nat} {cs : List Value} {x : DataW H × List MemPlace} (ht : P.underlying t = some (.struct #[f0, f1, f2, f3, f4])) (hc : P.cellsOf t = 5)
    (o0 : f0.offset = 0) (o1 : f1.offset = 1) (o2 : f2.offset = 2) (o3 : f3.offset = 3) (o4 : f4.offset = 4) (c0 : P.cellsOf f0.type = 1) (c1 : P.cellsOf f1.type = 1) (c2 : P.cellsOf f2.type = 1) (c3 : P.cellsOf f3.type = 1) (c4 : P.cellsOf f4.type = 1)
    (h : DataW.trod enc P w base sp hd fuel t cs = some x) :
    ∃ v0 v1 v2 v3 v4 y0 y1 y2 y3 y4 n, cs = [v0, v1, v2, v3, v4] ∧ x.1 = .agg [y0.1, y1.1, y2.1, y3.1, y4.1] ∧ DataW.trod enc P w base sp hd n f0.type [v0] = some y0 ∧ DataW.trod enc P w base sp hd n f1.type [v1] = some y1 ∧ DataW.trod enc P w base sp hd n f2.type [v2] = some y2 ∧ DataW.trod enc P w base sp hd n f3.type [v3] = some y3 ∧ DataW.trod enc P w base sp hd n f4.type [v4] = some y4 := by
  obtain ⟨xs, n, _, rfl, hl, hxl, hf⟩ := DataW.trod_struct ht h
  rw [hc] at hl
  match xs, hxl, cs, hl with
  | [y0, y1, y2, y3, y4], _, [v0, v1, v2, v3, v4], _ =>
    have g0 := hf 0 f0 rfl
    have g1 := hf 1 f1 rfl
    have g2 := hf 2 f2 rfl
    have g3 := hf 3 f3 rfl
    have g4 := hf 4 f4 rfl
    simp [o0, o1, o2, o3, o4, c0, c1, c2, c3, c4] at g0 g1 g2 g3 g4
    exact ⟨v0, v1, v2, v3, v4, y0, y1, y2, y3, y4, n, rfl, rfl, g0, g1, g2, g3, g4⟩

end

/-- the steps of a list that came in. -/
def stepsOld (w : World) (a : Option Addr) (st : List Pl.St) : Prop :=
  st = [] ∨ ∃ b o, a = some ⟨b, o, none⟩ ∧ b < w.heap.size ∧ ∀ i s, st[i]? = some s → stAt w b (o + i * 5) s

theorem addr_plain {w : World} {a : Addr} {v : Value} (h : w.cell? a = some v) : a = ⟨a.block, a.off, none⟩ := by
  obtain ⟨b, o, s⟩ := a
  cases s with
  | none => rfl
  | some k =>
    simp only [World.cell?] at h
    split at h
    · simp at h
    · simp at h

theorem add_plain (b o i : Nat) : (⟨b, o, none⟩ : Addr).add i = ⟨b, o + i, none⟩ := by
  unfold Addr.add
  split
  · simp
  · simp

theorem open_step {H : Type} {enc : TypeId × Value → H} {w : World} {base : Nat} {sp : Nat → Bool} {hd : Bool} {n b o : Nat} {cs : List Value} {y : DataW H × List MemPlace}
    (hc : w.cells? base ⟨b, o, none⟩ 5 = some cs) (h : DataW.trod enc Try.prog w base sp hd n 40 cs = some y) : ∃ s, stAt w b o s := by
  obtain ⟨_, hlen, hcell⟩ := World.cells?_some hc
  obtain ⟨v0, v1, v2, v3, v4, y0, y1, y2, y3, y4, m, rfl, _, g0, g1, g2, g3, g4⟩ := struct5 Try.underlying40 cells40 rfl rfl rfl rfl rfl cells3 cells3 cells3 cells9 cells3 h
  obtain ⟨k, rfl, _⟩ := cell_int Try.underlying3 g0
  obtain ⟨t, rfl, _⟩ := cell_int Try.underlying3 g1
  obtain ⟨q, rfl, _⟩ := cell_int Try.underlying3 g2
  obtain ⟨d, rfl, _⟩ := cell_str Try.underlying9 g3
  obtain ⟨f, rfl, _⟩ := cell_int Try.underlying3 g4
  have e0 := hcell 0 (by omega)
  have e1 := hcell 1 (by omega)
  have e2 := hcell 2 (by omega)
  have e3 := hcell 3 (by omega)
  have e4 := hcell 4 (by omega)
  rw [add_plain] at e0 e1 e2 e3 e4
  exact ⟨(k, t, q, d, f), e0, e1, e2, e3, e4⟩

theorem open_steps {H : Type} {enc : TypeId × Value → H} {w : World} {sp : Nat → Bool} {hd : Bool} {n : Nat} {v : Value} {x : DataW H × List MemPlace} (h : DataW.trod enc Try.prog w 0 sp hd n 29 [v] = some x) :
    ∃ a c st, v = .slice a st.length c ∧ stepsOld w a st ∧ (a = none → c = 0 ∧ st = []) ∧ ((x.1 = .nil ∧ st = []) ∨ ∃ elems spare, x.1 = .slice elems spare ∧ elems.length = st.length) := by
  rcases open_slice Try.underlying29 h with ⟨h0, rfl⟩ | ⟨a, len, cap, m, k, D, PP, h0, hb, hl, hm, hmm, rfl, hx⟩
  · simp only [List.cons.injEq, and_true] at h0
    subst h0
    exact ⟨none, 0, [], rfl, .inl rfl, fun _ => ⟨rfl, rfl⟩, .inl ⟨rfl, rfl⟩⟩
  · simp only [List.cons.injEq, and_true] at h0
    subst h0
    have hle : len ≤ m := by rw [hmm]; split <;> omega
    rw [cells40] at hx
    by_cases hl0 : len = 0
    · subst hl0
      exact ⟨some a, cap, [], rfl, .inl rfl, (fun h => by cases h), .inr ⟨_, _, rfl, by simp⟩⟩
    · obtain ⟨cs0, hc0, _⟩ := hx 0 (by omega)
      obtain ⟨_, hlen0, hcell0⟩ := World.cells?_some hc0
      have e00 := hcell0 0 (by omega)
      have ha : a = ⟨a.block, a.off, none⟩ := by
        have h5 : cs0[0]? = some cs0[0] := List.getElem?_eq_getElem (by omega)
        rw [h5] at e00
        have := addr_plain e00
        simpa [Addr.add] using this
      generalize a.block = b at ha
      generalize a.off = o at ha
      subst ha
      have each : ∀ i, ∃ s : Pl.St, i < len → stAt w b (o + i * 5) s := by
        intro i
        by_cases hi : i < len
        · obtain ⟨cs', h1, h2⟩ := hx i (by omega)
          rw [add_plain] at h1
          obtain ⟨s, hs⟩ := open_step h1 h2
          exact ⟨s, fun _ => hs⟩
        · exact ⟨(0, 0, 0, ⟨#[]⟩, 0), fun h => absurd h hi⟩
      obtain ⟨S, hS⟩ := Classical.axiomOfChoice each
      refine ⟨some ⟨b, o, none⟩, cap, (List.range len).map S, by simp, .inr ⟨b, o, rfl, ?_, fun i s hs => ?_⟩, (fun h => by cases h), .inr ⟨_, _, rfl, by simp⟩⟩
      · have := (hS 0 (by omega)).1
        exact World.block_lt_of_cell? _ _ this
      · rw [List.getElem?_map] at hs
        obtain ⟨j, hj, rfl⟩ := Option.map_eq_some_iff.1 hs
        obtain ⟨h1, h2⟩ := List.getElem?_eq_some_iff.1 hj
        rw [List.getElem_range] at h2
        rw [List.length_range] at h1
        subst h2
        exact hS i h1

theorem open_plan {H : Type} {enc : TypeId × Value → H} {w : World} {sp : Nat → Bool} {hd : Bool} {v : Value} {d : DataW H} {ps : List MemPlace} (h : DataW.Trod enc Try.prog w 0 sp hd 31 v d ps) :
    ∃ ol nl os ns a c st, v = .agg #[.int .i64 ol, .int .i64 nl, .string os, .string ns, .slice a (List.length st) c] ∧ stepsOld w a st ∧ (a = none → c = 0 ∧ st = []) ∧
      ∃ d4, d = .agg [.lit (.int .i64 ol), .lit (.int .i64 nl), .lit (.string os.data.toList), .lit (.string ns.data.toList), d4] ∧ ((d4 = .nil ∧ st = []) ∨ ∃ elems spare, d4 = .slice elems spare ∧ elems.length = st.length) := by
  obtain ⟨fuel, h⟩ := h
  obtain ⟨v0, v1, v2, v3, v4, y0, y1, y2, y3, y4, m, hcs, hxy, g0, g1, g2, g3, g4⟩ := struct5 Try.underlying31 cells31 rfl rfl rfl rfl rfl cells3 cells3 cells9 cells9 cells29 h
  have hv : v = .agg #[v0, v1, v2, v3, v4] := by
    cases v with
    | agg cs =>
      obtain ⟨l⟩ := cs
      simp only [Value.cells] at hcs
      rw [hcs]
    | _ => simp [Value.cells] at hcs
  subst hv
  obtain ⟨ol, rfl, rfl⟩ := cell_int Try.underlying3 g0
  obtain ⟨nl, rfl, rfl⟩ := cell_int Try.underlying3 g1
  obtain ⟨os, rfl, rfl⟩ := cell_str Try.underlying9 g2
  obtain ⟨ns, rfl, rfl⟩ := cell_str Try.underlying9 g3
  obtain ⟨a, c, st, rfl, h1, h2, h3⟩ := open_steps g4
  exact ⟨ol, nl, os, ns, a, c, st, rfl, h1, h2, y4.1, hxy, h3⟩

end Go.Proofs.Ytjjmcnippjpclaa
