/-
  A script that came in, opened: its operations, cell by cell, and each one's numbers; how much of it there is.
-/
import Derived.Test.YtjjmcnippjpclaaOpen
import Derived.Test.YtjjmcnippjpclaaDevPower
import Derived.Test.YtjjmcnippjpclaaRows
import Derived.ChangeSlices
import Derived.OpenShut
namespace Go.Proofs.Ytjjmcnippjpclaa

open Go.RowKit Go.Deep Go.ChangeShapes

theorem cellsOp : Try.prog.cellsOf 60 = 5 := by kernel_rfl

theorem cellsB : Try.prog.cellsOf 4 = 1 := by kernel_rfl

theorem cellsN : Try.prog.cellsOf 58 = 1 := by kernel_rfl

theorem cellsI : Try.prog.cellsOf 3 = 1 := by kernel_rfl

theorem block_cell {w : World} {b o : Nat} {v : Value} (h : w.cell? ⟨b, o, none⟩ = some v) : b < w.heap.size := by
  refine Nat.lt_of_not_le fun hn => ?_
  have e : w.heap[b]? = none := Array.getElem?_eq_none hn
  simp [World.cell?, e] at h

/-- one of a list weighs no more than all. -/
theorem bulk_mem {H : Type} {d : DataW H} : ∀ {l : List (DataW H)}, d ∈ l → Rows.uptoBulk d ≤ Rows.uptoBulkAll l
  | x :: r, h => by
    rw [Rows.uptoBulkAll]
    rcases List.mem_cons.1 h with rfl | h
    · omega
    · have := bulk_mem h
      omega

theorem bulk_pos {H : Type} (d : DataW H) : 1 ≤ Rows.uptoBulk d := by
  cases d with
  | lit l => cases l <;> (rw [Rows.uptoBulk]; try omega) <;> (intro b e; cases e)
  | nil => rw [Rows.uptoBulk]; omega
  | ptr d => rw [Rows.uptoBulk]; omega
  | slice elems spare => rw [Rows.uptoBulk]; omega
  | agg parts => rw [Rows.uptoBulk]; omega
  | iface t d => rw [Rows.uptoBulk]; omega
  | map entries => rw [Rows.uptoBulk]; omega
  | held h => rw [Rows.uptoBulk]; omega

theorem bulk_len {H : Type} : ∀ (l : List (DataW H)), l.length ≤ Rows.uptoBulkAll l
  | [] => Nat.zero_le _
  | x :: r => by
    have h1 := bulk_pos x
    have h2 := bulk_len r
    rw [Rows.uptoBulkAll, List.length_cons]
    omega

theorem bulk_str {H : Type} (l : List UInt8) : Rows.uptoBulk (DataW.lit (H := H) (.string l)) = l.length + 1 := by rw [Rows.uptoBulk]

section

variable {H : Type} {enc : TypeId × Value → H} {P : Program} {w : World} {base : Nat} {sp : Nat → Bool} {hd : Bool}

theorem cell_int_wf {t : TypeId} (ht : P.underlying t = some (.int .i64)) {n : Nat} {v : Value} {y : DataW H × List MemPlace} (h : DataW.trod enc P w base sp hd n t [v] = some y) :
    ∃ k, v = .int .i64 k ∧ k ≤ 9223372036854775807 := by
  obtain ⟨k, h1, _, h3⟩ := DataW.trod_int ht h
  have h4 := bounds_i64 h3
  exact ⟨k, by simpa using h1, by omega⟩

theorem cell_bool {t : TypeId} (ht : P.underlying t = some .bool) {n : Nat} {v : Value} {y : DataW H × List MemPlace} (h : DataW.trod enc P w base sp hd n t [v] = some y) :
    ∃ k, v = .bool k := by
  cases n with
  | zero => simp [DataW.trod] at h
  | succ n =>
    unfold DataW.trod at h
    rw [ht] at h
    cases v <;> simp at h
    exact ⟨_, rfl⟩

end

theorem open_nums {H : Type} {enc : TypeId × Value → H} {w : World} {base : Nat} {sp : Nat → Bool} {hd : Bool} {fuel : Nat} {rv : Value} {x : DataW H × List MemPlace}
    (h : DataW.trod enc Try.prog w base sp hd fuel 58 [rv] = some x) : ∃ zs : List Int, numsAt w rv zs ∧ numsOk zs := by
  rcases open_ints Try.underlying58 Try.underlying3 cellsI h with ⟨hcs, _⟩ | ⟨a, len, cap, zs, hcs, _, hl, hm, hz, _, hcell, hwz⟩
  · have e : rv = .slice none 0 0 := by simpa using hcs
    exact ⟨[], Or.inl ⟨rfl, _, _, e⟩, Nat.zero_le _, fun i => by simp⟩
  · have e : rv = .slice (some a) len cap := by simpa using hcs
    have hlz : len ≤ zs.length := by rw [hz]; split <;> omega
    by_cases h0 : len = 0
    · exact ⟨[], Or.inl ⟨rfl, _, _, by rw [e, h0]⟩, Nat.zero_le _, fun i => by simp⟩
    · have c0 := hcell 0 (by omega)
      have ha : a = ⟨a.block, a.off, none⟩ := by
        have := addr_plain c0
        obtain ⟨b, o, s⟩ := a
        cases s with
        | none => rfl
        | some k => simp [Addr.add] at this
      generalize a.block = b at ha
      generalize a.off = o at ha
      subst ha
      have hlen : (zs.take len).length = len := by rw [List.length_take]; omega
      have hget : ∀ i, i < len → (zs.take len).getD i 0 = zs.getD i 0 := fun i hi => by
        rw [List.getD_eq_getElem?_getD, List.getD_eq_getElem?_getD, List.getElem?_take, if_pos hi]
      refine ⟨zs.take len, Or.inr ⟨b, o, cap, by rw [hlen]; exact e, ?_, ?_⟩, by rw [hlen]; unfold maxLen at hm; omega, ?_⟩
      · rw [add_plain] at c0
        exact block_cell c0
      · intro i hi
        rw [hlen] at hi
        have := hcell i (by omega)
        rw [add_plain] at this
        rw [this, hget i hi]
      · intro i
        by_cases hi : i < len
        · rw [hget i hi]
          have hm : zs.getD i 0 ∈ zs := by
            rw [List.getD_eq_getElem?_getD, List.getElem?_eq_getElem (by omega)]
            exact List.getElem_mem _
          have := bounds_i64 (hwz _ hm)
          omega
        · rw [List.getD_eq_getElem?_getD, List.getElem?_eq_none (by omega)]
          simp

/-- an operation. -/
structure Opv where
  kd : Int
  ot : Bool
  P : ByteArray
  ca : Int
  nv : Value
  zs : List Int

/-- an operation in memory. -/
structure opAt (w : World) (b o : Nat) (q : Opv) : Prop where
  k : w.cell? ⟨b, o, none⟩ = some (.int .i64 q.kd)
  t : w.cell? ⟨b, o + 1, none⟩ = some (.bool q.ot)
  p : w.cell? ⟨b, o + 2, none⟩ = some (.string q.P)
  a : w.cell? ⟨b, o + 3, none⟩ = some (.int .i64 q.ca)
  n : w.cell? ⟨b, o + 4, none⟩ = some q.nv
  nums : numsAt w q.nv q.zs
  ok : numsOk q.zs
  ca : q.ca ≤ 9223372036854775807

def opsOld (w : World) (a : Option Addr) (ops : List Opv) : Prop :=
  ops = [] ∨ ∃ b o, a = some ⟨b, o, none⟩ ∧ b < w.heap.size ∧ ∀ i q, ops[i]? = some q → opAt w b (o + i * 5) q

theorem open_op {H : Type} {enc : TypeId × Value → H} {w : World} {base : Nat} {sp : Nat → Bool} {hd : Bool} {n b o : Nat} {cs : List Value} {y : DataW H × List MemPlace}
    (hc : w.cells? base ⟨b, o, none⟩ 5 = some cs) (h : DataW.trod enc Try.prog w base sp hd n 60 cs = some y) : ∃ q, opAt w b o q ∧ q.P.size ≤ Rows.uptoBulk y.1 ∧ ∃ d0 d1 d3 d4, y.1 = .agg [d0, d1, .lit (.string q.P.data.toList), d3, d4] := by
  obtain ⟨_, hlen, hcell⟩ := World.cells?_some hc
  obtain ⟨v0, v1, v2, v3, v4, y0, y1, y2, y3, y4, m, rfl, hy, g0, g1, g2, g3, g4⟩ := struct5 Try.underlying60 cellsOp rfl rfl rfl rfl rfl cellsI cellsB cells9 cellsI cellsN h
  obtain ⟨k, rfl, _⟩ := cell_int_wf Try.underlying3 g0
  obtain ⟨t, rfl⟩ := cell_bool Try.underlying4 g1
  obtain ⟨s, rfl, rfl⟩ := cell_str Try.underlying9 g2
  obtain ⟨a, rfl, ha⟩ := cell_int_wf Try.underlying3 g3
  obtain ⟨zs, hzs, hok⟩ := open_nums g4
  have e0 := hcell 0 (by omega)
  have e1 := hcell 1 (by omega)
  have e2 := hcell 2 (by omega)
  have e3 := hcell 3 (by omega)
  have e4 := hcell 4 (by omega)
  rw [add_plain] at e0 e1 e2 e3 e4
  refine ⟨⟨k, t, s, a, v4, zs⟩, ⟨e0, e1, e2, e3, e4, hzs, hok, ha⟩, ?_, _, _, _, _, hy⟩
  rw [hy, Rows.uptoBulk, Rows.uptoBulkAll, Rows.uptoBulkAll, Rows.uptoBulkAll, bulk_str]
  have : s.data.toList.length = s.size := by simp
  show s.size ≤ _
  omega

theorem open_ops {H : Type} {enc : TypeId × Value → H} {w : World} {sp : Nat → Bool} {hd : Bool} {fuel : Nat} {v : Value} {d : DataW H} {ps : List MemPlace} (h : DataW.trod enc Try.prog w 0 sp hd fuel 47 [v] = some (d, ps)) :
    ∃ a c ops, v = .slice a (List.length ops) c ∧ opsOld w a ops ∧ ops.length ≤ Rows.uptoBulk d ∧ (∀ q ∈ ops, q.P.size ≤ Rows.uptoBulk d) ∧ (ops = [] ∨ ∃ elems spare, d = .slice elems spare ∧ elems.length = ops.length ∧ ∀ q ∈ ops, ∃ d0 d1 d3 d4, DataW.agg [d0, d1, .lit (.string q.P.data.toList), d3, d4] ∈ elems) := by
  rcases open_slice Try.underlying47 h with ⟨hv, _⟩ | ⟨a, len, cap, m, k, D, PP, hv, hb, hl, hm, hmm, hxe, hx⟩
  · have hv' : v = .slice none 0 0 := by simpa using hv
    exact ⟨none, 0, [], hv', .inl rfl, Nat.zero_le _, (fun q hq => by cases hq), .inl rfl⟩
  · have hv' : v = .slice (some a) len cap := by simpa using hv
    have hd : d = .slice ((List.range len).map D) ((List.range (m - len)).map fun j => D (len + j)) := congrArg Prod.fst hxe
    have hle : len ≤ m := by rw [hmm]; split <;> omega
    rw [cellsOp] at hx
    have hbk : Rows.uptoBulkAll ((List.range len).map D) ≤ Rows.uptoBulk d := by rw [hd, Rows.uptoBulk]; omega
    have hlb : len ≤ Rows.uptoBulk d := by
      have := bulk_len ((List.range len).map D)
      simp only [List.length_map, List.length_range] at this
      omega
    by_cases hl0 : len = 0
    · subst hl0
      exact ⟨some a, cap, [], hv', .inl rfl, Nat.zero_le _, (fun q hq => by cases hq), .inl rfl⟩
    · obtain ⟨cs0, hc0, _⟩ := hx 0 (by omega)
      obtain ⟨_, hlen0, hcell0⟩ := World.cells?_some hc0
      have e00 := hcell0 0 (by omega)
      have ha : a = ⟨a.block, a.off, none⟩ := by
        have h5 : cs0[0]? = some cs0[0] := List.getElem?_eq_getElem (by omega)
        rw [h5] at e00
        have := addr_plain e00
        simpa [Addr.add] using this
      generalize a.block = b at ha
      generalize a.off = o at ha
      subst ha
      have each : ∀ i, ∃ q : Opv, i < len → opAt w b (o + i * 5) q ∧ q.P.size ≤ Rows.uptoBulk d ∧ ∃ d0 d1 d3 d4, D i = .agg [d0, d1, .lit (.string q.P.data.toList), d3, d4] := by
        intro i
        by_cases hi : i < len
        · obtain ⟨cs', h1, h2⟩ := hx i (by omega)
          rw [add_plain] at h1
          obtain ⟨q, hq, hq2, hq3⟩ := open_op h1 h2
          refine ⟨q, fun _ => ⟨hq, Nat.le_trans hq2 (Nat.le_trans (bulk_mem ?_) hbk), hq3⟩⟩
          exact List.mem_map.2 ⟨i, List.mem_range.2 hi, rfl⟩
        · exact ⟨⟨0, false, ⟨#[]⟩, 0, .slice none 0 0, []⟩, fun h => absurd h hi⟩
      obtain ⟨S, hS⟩ := Classical.axiomOfChoice each
      refine ⟨some ⟨b, o, none⟩, cap, (List.range len).map S, by rw [hv']; simp, .inr ⟨b, o, rfl, ?_, fun i s hs => ?_⟩, by simpa using hlb, fun q hq => ?_, .inr ⟨_, _, hd, by simp, fun q hq => ?_⟩⟩
      · have := (hS 0 (by omega)).1.k
        exact block_cell this
      · rw [List.getElem?_map] at hs
        obtain ⟨j, hj, rfl⟩ := Option.map_eq_some_iff.1 hs
        obtain ⟨h1, h2⟩ := List.getElem?_eq_some_iff.1 hj
        rw [List.getElem_range] at h2
        rw [List.length_range] at h1
        subst h2
        exact (hS i h1).1
      · obtain ⟨j, hj, rfl⟩ := List.mem_map.1 hq
        exact (hS j (List.mem_range.1 hj)).2.1
      · obtain ⟨j, hj, rfl⟩ := List.mem_map.1 hq
        obtain ⟨d0, d1, d3, d4, he⟩ := (hS j (List.mem_range.1 hj)).2.2
        exact ⟨d0, d1, d3, d4, he ▸ List.mem_map.2 ⟨j, hj, rfl⟩⟩

end Go.Proofs.Ytjjmcnippjpclaa
