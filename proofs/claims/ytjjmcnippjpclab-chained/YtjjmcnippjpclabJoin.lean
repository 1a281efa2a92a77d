/-
  The walk of joined: adds that are side by side become one.
-/
import Derived.Test.YtjjmcnippjpclabCutting
import Derived.Test.YtjjmcnippjpclabPhase
namespace Go.Proofs.Ytjjmcnippjpclab

open Go.RowKit

theorem spCells_length (n : ByteArray) (l : List _root_.Pl.Sp) : (spCells n l).length = l.length * 5 := by rw [spCells, stCells_length, List.length_map]

/-- the five cells of a step. -/
theorem spCells_at (n : ByteArray) (l : List _root_.Pl.Sp) (i : Nat) (s : _root_.Pl.Sp) (h : l[i]? = some s) :
    (spCells n l)[i * 5]? = some (.int .i64 (s.st n).k) ∧ (spCells n l)[i * 5 + 1]? = some (.int .i64 s.t) ∧ (spCells n l)[i * 5 + 2]? = some (.int .i64 s.n) ∧ (spCells n l)[i * 5 + 3]? = some (.string (s.st n).d) ∧ (spCells n l)[i * 5 + 4]? = some (.int .i64 (s.st n).f) := by
  have h' : (l.map (_root_.Pl.Sp.st n))[i]? = some (s.st n) := by rw [List.getElem?_map, h]; rfl
  have e := stCells_at (l.map (_root_.Pl.Sp.st n)) i (s.st n) h' []
  have e1 : (s.st n).t = s.t := by unfold _root_.Pl.Sp.st; cases s.src <;> rfl
  have e2 : (s.st n).n = s.n := by unfold _root_.Pl.Sp.st; cases s.src <;> rfl
  rw [e1, e2] at e
  simp only [List.append_nil] at e
  exact e

theorem stCells_set : ∀ (st : List Pl.St) (i : Nat) (s : Pl.St), i < st.length →
    (((((stCells st).set (i * 5) (.int .i64 s.k)).set (i * 5 + 1) (.int .i64 s.t)).set (i * 5 + 2) (.int .i64 s.n)).set (i * 5 + 3) (.string s.d)).set (i * 5 + 4) (.int .i64 s.f) = stCells (st.set i s)
  | [], i, s, h => by simp at h
  | x :: r, 0, s, _ => by simp [stCells]
  | x :: r, i + 1, s, h => by
    have ih := stCells_set r i s (by simpa using h)
    have e : ∀ (x : Pl.St) (r : List Pl.St), stCells (x :: r) = .int .i64 x.k :: .int .i64 x.t :: .int .i64 x.n :: .string x.d :: .int .i64 x.f :: stCells r := fun x r => by simp [stCells]
    rw [List.set_cons_succ, e, e, ← ih, show (i + 1) * 5 = i * 5 + 1 + 1 + 1 + 1 + 1 by omega]
    simp only [List.set_cons_succ]

theorem spCells_set (n : ByteArray) (l : List _root_.Pl.Sp) (i : Nat) (s : _root_.Pl.Sp) (h : i < l.length) :
    (((((spCells n l).set (i * 5) (.int .i64 (s.st n).k)).set (i * 5 + 1) (.int .i64 (s.st n).t)).set (i * 5 + 2) (.int .i64 (s.st n).n)).set (i * 5 + 3) (.string (s.st n).d)).set (i * 5 + 4) (.int .i64 (s.st n).f) = spCells n (l.set i s) := by
  rw [spCells, spCells, List.map_set]
  exact stCells_set _ i _ (by simpa using h)

/-- in a row of one's own a step is laid anew. -/
theorem row_set {w : World} {B g cap : Nat} {n : ByteArray} {l : List _root_.Pl.Sp} (i t z : Nat) (hi : i < l.length) (h : w.ownsRow B 37 5 (.slice (some ⟨g, 0, none⟩) l.length cap) l.length (spCells n l)) :
    (((((w.setCell ⟨g, i * 5, none⟩ (.int .i64 1)).setCell ⟨g, i * 5 + 1, none⟩ (.int .i64 t)).setCell ⟨g, i * 5 + 2, none⟩ (.int .i64 z)).setCell ⟨g, i * 5 + 3, none⟩ (.string (n.extract t (t + z)))).setCell ⟨g, i * 5 + 4, none⟩ (.int .i64 0)).ownsRow B 37 5 (.slice (some ⟨g, 0, none⟩) l.length cap) (l.set i ⟨t, z, none⟩).length (spCells n (l.set i ⟨t, z, none⟩)) ∧
    w.grownBy (((((w.setCell ⟨g, i * 5, none⟩ (.int .i64 1)).setCell ⟨g, i * 5 + 1, none⟩ (.int .i64 t)).setCell ⟨g, i * 5 + 2, none⟩ (.int .i64 z)).setCell ⟨g, i * 5 + 3, none⟩ (.string (n.extract t (t + z)))).setCell ⟨g, i * 5 + 4, none⟩ (.int .i64 0)) (some g) := by
  have s0 := h.stored (i * 5) (.int .i64 1)
  have s1 := s0.1.stored (i * 5 + 1) (.int .i64 t)
  have s2 := s1.1.stored (i * 5 + 2) (.int .i64 z)
  have s3 := s2.1.stored (i * 5 + 3) (.string (n.extract t (t + z)))
  have s4 := s3.1.stored (i * 5 + 4) (.int .i64 0)
  refine ⟨?_, grown_trans s0.2 (grown_trans s1.2 (grown_trans s2.2 (grown_trans s3.2 s4.2)))⟩
  rw [← spCells_set n l i ⟨t, z, none⟩ hi, List.length_set]
  exact s4.1

theorem jstep_app {l : List _root_.Pl.Sp} {s : _root_.Pl.Sp} (h : ∀ a, l[l.length - 1]? = some a → ¬ (a.src = none ∧ s.src = none)) : _root_.Pl.jstep l s = l ++ [s] := by
  unfold _root_.Pl.jstep
  split
  · next hl => subst hl; rfl
  · next hl =>
    rw [if_neg]
    exact h _ (by rw [List.getLast_eq_getElem, List.getElem?_eq_getElem (by have := List.length_pos_iff.2 hl; omega)])

theorem jstep_set {l : List _root_.Pl.Sp} {s a : _root_.Pl.Sp} (h : l[l.length - 1]? = some a) (h1 : a.src = none) (h2 : s.src = none) : _root_.Pl.jstep l s = l.set (l.length - 1) ⟨a.t, a.n + s.n, none⟩ := by
  have hl : l ≠ [] := by intro e; subst e; simp at h
  have ha : l.getLast hl = a := by
    rw [List.getLast_eq_getElem]
    exact (List.getElem?_eq_some_iff.1 h).2
  unfold _root_.Pl.jstep
  rw [dif_neg hl, if_pos ⟨by rw [ha]; exact h1, h2⟩, ha]
  have e := List.dropLast_concat_getLast hl
  have hlen : l.length - 1 = l.dropLast.length := by simp
  have e2 : l.set (l.length - 1) ⟨a.t, a.n + s.n, none⟩ = (l.dropLast ++ [l.getLast hl]).set l.dropLast.length ⟨a.t, a.n + s.n, none⟩ := by rw [e, hlen]
  rw [e2, List.set_append_right _ _ (Nat.le_refl _), Nat.sub_self]
  rfl

def kd (s : _root_.Pl.Sp) : Int := if s.src = none then 1 else 3

theorem row_step {q : World} {B : Nat} {v : Value} {n : ByteArray} {l : List _root_.Pl.Sp} {s : _root_.Pl.Sp} (h : q.ownsRow B 37 5 v (l.length + 1) (spCells n l ++ [.int .i64 (s.st n).k, .int .i64 (s.t : Nat), .int .i64 (s.n : Nat), .string (s.st n).d, .int .i64 (s.st n).f])) :
    q.ownsRow B 37 5 v (l ++ [s]).length (spCells n (l ++ [s])) := by
  have e1 : (s.st n).t = s.t := by unfold _root_.Pl.Sp.st; cases s.src <;> rfl
  have e2 : (s.st n).n = s.n := by unfold _root_.Pl.Sp.st; cases s.src <;> rfl
  rw [spCells_snoc, List.length_append, e1, e2]; exact h

set_option maxRecDepth 100000 in
set_option maxHeartbeats 4000000 in
theorem joined_any (n : ByteArray) (v : Value) (l : List _root_.Pl.Sp) (B : Nat) (w : World) (hn : n.size ≤ 4000) (hl : l.length ≤ 4000) (ht : Hid (_root_.Pl.tiles 0 l n.size)) (hw : Hid (w.ownsRow B 37 5 v l.length (spCells n l))) :
    Calls Try.prog 43 #[v, .string n] w fun e w' => ∃ v', e = .returned v' ∧ w'.ownsRow w.heap.size 37 5 v' (_root_.Pl.joined l).length (spCells n (_root_.Pl.joined l)) ∧ Below w.heap.size w w' := by
  obtain ⟨i40, hi, hzz⟩ := Option.map_eq_some_iff.1 info40
  simp only [Prod.mk.injEq] at hzz
  obtain ⟨ao, cp, rfl⟩ : ∃ ao cp, v = .slice ao l.length cp := by
    rcases hw.out.2 with ⟨hv, hz⟩ | ⟨g, cap, cur, hv, _⟩
    · exact ⟨none, 0, by rw [hv, hz]⟩
    · exact ⟨_, _, hv⟩
  go_enter Try.func43, Try.ntmps43
  go_wp2_with fail
  go_loopw [5, 11] (fun x i wr => ∃ k : Nat, k ≤ l.length ∧ i = .int .i64 k ∧ Hid (wr.ownsRow w.heap.size 37 5 x (_root_.Pl.joined (l.take k)).length (spCells n (_root_.Pl.joined (l.take k)))) ∧ Hid (Below w.heap.size w wr)) (fun _ i _ => l.length - (intOf i).toNat)
  case atStart => exact ⟨0, Nat.zero_le _, rfl, World.ownsRow_nil _ _ _ _, Below.refl _ _⟩
  case round =>
    obtain ⟨k, hk, rfl, hrow, hbel⟩ := hrel
    by_cases hlt : k < l.length
    · obtain ⟨s, hs⟩ : ∃ s, l[k]? = some s := ⟨l[k], List.getElem?_eq_getElem hlt⟩
      obtain ⟨g, hao⟩ : ∃ g, ao = some ⟨g, 0, none⟩ := by
        obtain ⟨g, cap, hv, _⟩ := hw.out.form (by omega)
        simp only [Value.slice.injEq] at hv
        exact ⟨g, hv.1⟩
      subst hao
      have hk0 : (k : Int) < (l.length : Int) := by omega
      have hgl : g < w.heap.size := (hw.out.lt g rfl).2
      obtain ⟨e0, e1, e2, e3, e4⟩ := spCells_at n l k s hs
      have hlen5 := spCells_length n l
      have c0 := (hbel.out.cell (p := ⟨g, k * 5, none⟩) hgl).trans ((hw.out.cellAt (k * 5) (by omega)).trans e0)
      have c1 := (hbel.out.cell (p := ⟨g, k * 5 + 1, none⟩) hgl).trans ((hw.out.cellAt (k * 5 + 1) (by omega)).trans e1)
      have c2 := (hbel.out.cell (p := ⟨g, k * 5 + 2, none⟩) hgl).trans ((hw.out.cellAt (k * 5 + 2) (by omega)).trans e2)
      have c3 := (hbel.out.cell (p := ⟨g, k * 5 + 3, none⟩) hgl).trans ((hw.out.cellAt (k * 5 + 3) (by omega)).trans e3)
      have c4 := (hbel.out.cell (p := ⟨g, k * 5 + 4, none⟩) hgl).trans ((hw.out.cellAt (k * 5 + 4) (by omega)).trans e4)
      clear e0 e1 e2 e3 e4
      have hjo : Hid (_root_.Pl.joined (l.take (k + 1)) = _root_.Pl.jstep (_root_.Pl.joined (l.take k)) s) := by
        show _ = _
        rw [Pl.take_at hs, _root_.Pl.joined_snoc]
      have hJl : (_root_.Pl.joined (l.take k)).length ≤ k := by
        have := (_root_.Pl.joined_length (l.take k))
        rw [List.length_take] at this
        omega
      have HT : Hid (∃ b, _root_.Pl.tiles 0 (_root_.Pl.joined (l.take k)) b ∧ _root_.Pl.tiles b (l.drop k) n.size) := _root_.Pl.joined_tiles (l.take k) (l.drop k) n.size (by rw [List.take_append_drop]; exact ht.out)
      generalize _root_.Pl.joined (l.take k) = J at *
      have hbs := hbel.out.size
      rcases Nat.eq_zero_or_pos J.length with hJ0 | hJ1
      · obtain ⟨jo, jc, rfl⟩ : ∃ jo jc, u5 = .slice jo 0 jc := by
          rcases hrow.out.2 with ⟨hv, hz⟩ | ⟨g, cap, cur, hv, _⟩
          · exact ⟨none, 0, hv⟩
          · exact ⟨_, _, by rw [hv, hJ0]⟩
        have HJ0 : Hid (J.length = 0) := hJ0
        clear hJ0
        have e1 : Hid (_root_.Pl.joined (l.take (k + 1)) = J ++ [s]) := hjo.out.trans (jstep_app (fun a ha => by rw [List.eq_nil_of_length_eq_zero HJ0.out] at ha; simp at ha))
        go_wp2_with (at_builtin; refine wpList_append_keep _ rfl _ _ 28 rfl w.heap.size 37 i40 (.agg zero5.toArray) 5 48 Try.underlying28 hi hzz.1 hzz.2.1 hzz.2.2 rfl (by decide) _ J.length (spCells n J) rfl ((hrow.out.alloc _).alloc _) ⟨wr.heap.size + 1, 0, none⟩ 1 1 [.int .i64 (s.st n).k, .int .i64 (s.t : Nat), .int .i64 (s.n : Nat), .string (s.st n).d, .int .i64 (s.st n).f] rfl rfl ?c1 ?c2 (by decide) ?c3 ?c4 ?c5 ?_)
        case c1 =>
          refine World.news_of_block (cs := #[.int .i64 (s.st n).k, .int .i64 (s.t : Nat), .int .i64 (s.n : Nat), .string (s.st n).d, .int .i64 (s.st n).f]) (t := 37) (fr := (0, 0)) ?_
          have h1 := heap_alloc_new (wr.alloc (Obj.cells #[.int .i64 (s.st n).k, .int .i64 (s.t : Nat), .int .i64 (s.n : Nat), .string (s.st n).d, .int .i64 (s.st n).f] 37)) (Obj.cells #[.int .i64 (s.st n).k, .int .i64 (s.t : Nat), .int .i64 (s.n : Nat), .string (s.st n).d, .int .i64 (s.st n).f] 37)
          rw [World.size_alloc] at h1
          exact h1
        case c2 =>
          intro u hu
          simp at hu
          rcases hu with rfl | rfl | rfl | rfl | rfl <;> rfl
        case c3 => unfold maxLen; omega
        case c4 => omega
        case c5 => simp; omega
        intro v5 q5 hw5 hg5 _
        have hrow5 : Hid (q5.ownsRow w.heap.size 37 5 v5 (_root_.Pl.joined (l.take (k + 1))).length (spCells n (_root_.Pl.joined (l.take (k + 1))))) := by
          rw [e1.out]; exact row_step hw5
        have hbel5 : Hid (Below w.heap.size w q5) := below_grown ((hrow.out.alloc _).alloc _) ((hbel.out.alloc hbel.out.size _).alloc (by have := hbel.out.size; simp; omega) _) hg5
        clear hw5 hg5
        go_wp2_with fail
        exact ⟨⟨k + 1, by omega, by go_num, hrow5, hbel5⟩, by simp [intOf]; omega⟩
      · obtain ⟨jl, hjl⟩ : ∃ jl, J.length = jl + 1 := ⟨J.length - 1, by omega⟩
        obtain ⟨a, ha⟩ : ∃ a, J[jl]? = some a := ⟨J[jl]'(by omega), List.getElem?_eq_getElem (by omega)⟩
        obtain ⟨gj, jc, rfl⟩ : ∃ gj jc, u5 = .slice (some ⟨gj, 0, none⟩) (jl + 1) jc := by
          obtain ⟨g, cap, hv, _⟩ := hrow.out.form (by omega)
          exact ⟨g, cap, by rw [hv, hjl]⟩
        have HJL : Hid (J.length = jl + 1) := hjl
        have hlast : Hid (J[J.length - 1]? = some a) := by show _ = _; rw [hjl]; exact ha
        have hgj : gj < wr.heap.size := (hrow.out.lt gj rfl).2
        have hj5 := spCells_length n J
        have HF : Hid ((spCells n J)[jl * 5]? = some (.int .i64 (a.st n).k) ∧ (spCells n J)[jl * 5 + 1]? = some (.int .i64 a.t) ∧ (spCells n J)[jl * 5 + 2]? = some (.int .i64 a.n) ∧ (spCells n J)[jl * 5 + 3]? = some (.string (a.st n).d) ∧ (spCells n J)[jl * 5 + 4]? = some (.int .i64 (a.st n).f)) := spCells_at n J jl a ha
        obtain ⟨f0, f1, f2, f3, f4⟩ := HF.out
        have hr2 : wr.ownsRow w.heap.size 37 5 (.slice (some ⟨gj, 0, none⟩) (jl + 1) jc) (jl + 1) (spCells n J) := by have h := hrow.out; rw [hjl] at h; exact h
        have HR2 : Hid (wr.ownsRow w.heap.size 37 5 (.slice (some ⟨gj, 0, none⟩) (jl + 1) jc) (jl + 1) (spCells n J)) := hr2
        have a0 := (hr2.cellAt (jl * 5) (by omega)).trans f0
        have a1 := (hr2.cellAt (jl * 5 + 1) (by omega)).trans f1
        have a2 := (hr2.cellAt (jl * 5 + 2) (by omega)).trans f2
        clear hr2
        have q : ∀ (ob : Obj) (j : Nat), (wr.alloc ob).cell? ⟨gj, j, none⟩ = wr.cell? ⟨gj, j, none⟩ := fun ob j => World.cell?_of_block (Below.heap_alloc wr ob _ hgj)
        clear f0 f1 f2 f3 f4 hjl
        have hjl5 : jl ≤ 4000 := by have := HJL.out; omega
        cases hsrc : s.src with
        | some f =>
          have d1 : ((s.st n).k == 1) = false := by simp [_root_.Pl.Sp.st, hsrc, Pl.St.k]
          have HS : Hid (s.src = some f) := hsrc
          clear hsrc
          have e1 : Hid (_root_.Pl.joined (l.take (k + 1)) = J ++ [s]) := hjo.out.trans (jstep_app (fun x _ hh => by rw [HS.out] at hh; cases hh.2))
          go_wp2_with (at_builtin; refine wpList_append_keep _ rfl _ _ 28 rfl w.heap.size 37 i40 (.agg zero5.toArray) 5 48 Try.underlying28 hi hzz.1 hzz.2.1 hzz.2.2 rfl (by decide) _ J.length (spCells n J) rfl ((hrow.out.alloc _).alloc _) ⟨wr.heap.size + 1, 0, none⟩ 1 1 [.int .i64 (s.st n).k, .int .i64 (s.t : Nat), .int .i64 (s.n : Nat), .string (s.st n).d, .int .i64 (s.st n).f] rfl rfl ?c1 ?c2 (by decide) ?c3 ?c4 ?c5 ?_)
          case c1 =>
            refine World.news_of_block (cs := #[.int .i64 (s.st n).k, .int .i64 (s.t : Nat), .int .i64 (s.n : Nat), .string (s.st n).d, .int .i64 (s.st n).f]) (t := 37) (fr := (0, 0)) ?_
            have h1 := heap_alloc_new (wr.alloc (Obj.cells #[.int .i64 (s.st n).k, .int .i64 (s.t : Nat), .int .i64 (s.n : Nat), .string (s.st n).d, .int .i64 (s.st n).f] 37)) (Obj.cells #[.int .i64 (s.st n).k, .int .i64 (s.t : Nat), .int .i64 (s.n : Nat), .string (s.st n).d, .int .i64 (s.st n).f] 37)
            rw [World.size_alloc] at h1
            exact h1
          case c2 =>
            intro u hu
            simp at hu
            rcases hu with rfl | rfl | rfl | rfl | rfl <;> rfl
          case c3 => unfold maxLen; omega
          case c4 => omega
          case c5 => simp; omega
          intro v5 q5 hw5 hg5 _
          have hrow5 : Hid (q5.ownsRow w.heap.size 37 5 v5 (_root_.Pl.joined (l.take (k + 1))).length (spCells n (_root_.Pl.joined (l.take (k + 1))))) := by
            rw [e1.out]; exact row_step hw5
          have hbel5 : Hid (Below w.heap.size w q5) := below_grown ((hrow.out.alloc _).alloc _) ((hbel.out.alloc hbel.out.size _).alloc (by have := hbel.out.size; simp; omega) _) hg5
          clear hw5 hg5
          go_wp2_with fail
          exact ⟨⟨k + 1, by omega, by go_num, hrow5, hbel5⟩, by simp [intOf]; omega⟩
        | none =>
          have d1 : ((s.st n).k == 1) = true := by simp [_root_.Pl.Sp.st, hsrc, Pl.St.k]
          have HS : Hid (s.src = none) := hsrc
          clear hsrc
          cases hasrc : a.src with
          | some f =>
            have d2 : ((a.st n).k == 1) = false := by simp [_root_.Pl.Sp.st, hasrc, Pl.St.k]
            have HA : Hid (a.src = some f) := hasrc
            clear hasrc
            have e1 : Hid (_root_.Pl.joined (l.take (k + 1)) = J ++ [s]) := hjo.out.trans (jstep_app (fun x hx hh => by rw [hlast.out] at hx; simp only [Option.some.injEq] at hx; rw [← hx, HA.out] at hh; cases hh.1))
            go_wp2_with (at_builtin; refine wpList_append_keep _ rfl _ _ 28 rfl w.heap.size 37 i40 (.agg zero5.toArray) 5 48 Try.underlying28 hi hzz.1 hzz.2.1 hzz.2.2 rfl (by decide) _ J.length (spCells n J) rfl ((hrow.out.alloc _).alloc _) ⟨wr.heap.size + 1, 0, none⟩ 1 1 [.int .i64 (s.st n).k, .int .i64 (s.t : Nat), .int .i64 (s.n : Nat), .string (s.st n).d, .int .i64 (s.st n).f] rfl rfl ?c1 ?c2 (by decide) ?c3 ?c4 ?c5 ?_)
            case c1 =>
              refine World.news_of_block (cs := #[.int .i64 (s.st n).k, .int .i64 (s.t : Nat), .int .i64 (s.n : Nat), .string (s.st n).d, .int .i64 (s.st n).f]) (t := 37) (fr := (0, 0)) ?_
              have h1 := heap_alloc_new (wr.alloc (Obj.cells #[.int .i64 (s.st n).k, .int .i64 (s.t : Nat), .int .i64 (s.n : Nat), .string (s.st n).d, .int .i64 (s.st n).f] 37)) (Obj.cells #[.int .i64 (s.st n).k, .int .i64 (s.t : Nat), .int .i64 (s.n : Nat), .string (s.st n).d, .int .i64 (s.st n).f] 37)
              rw [World.size_alloc] at h1
              exact h1
            case c2 =>
              intro u hu
              simp at hu
              rcases hu with rfl | rfl | rfl | rfl | rfl <;> rfl
            case c3 => unfold maxLen; omega
            case c4 => omega
            case c5 => simp; omega
            intro v5 q5 hw5 hg5 _
            have hrow5 : Hid (q5.ownsRow w.heap.size 37 5 v5 (_root_.Pl.joined (l.take (k + 1))).length (spCells n (_root_.Pl.joined (l.take (k + 1))))) := by
              rw [e1.out]; exact row_step hw5
            have hbel5 : Hid (Below w.heap.size w q5) := below_grown ((hrow.out.alloc _).alloc _) ((hbel.out.alloc hbel.out.size _).alloc (by have := hbel.out.size; simp; omega) _) hg5
            clear hw5 hg5
            go_wp2_with fail
            exact ⟨⟨k + 1, by omega, by go_num, hrow5, hbel5⟩, by simp [intOf]; omega⟩
          | none =>
            have d2 : ((a.st n).k == 1) = true := by simp [_root_.Pl.Sp.st, hasrc, Pl.St.k]
            have HA : Hid (a.src = none) := hasrc
            clear hasrc
            have hfit : a.t + (a.n + s.n) ≤ n.size := by
              obtain ⟨b, h1, h2⟩ := HT.out
              have h3 := _root_.Pl.tiles_last h1 hlast.out
              have h4 := _root_.Pl.tiles_mem _ _ _ h2 s (by rw [Pl.drop_at hs]; simp)
              rw [Pl.drop_at hs] at h2
              have h5 := h2.1
              omega
            have g4 : IntKind.i64.wrap ((a.n : Int) + (s.n : Int)) = (a.n : Int) + (s.n : Int) := by rw [IntKind.wrap_i64]; omega
            have hq0 : (0 : Int) ≤ (jl : Int) := by omega
            have hq1 : (jl : Int) < (jl : Int) + 1 := by omega
            go_wp2_with fail
            refine wp_region_noPanic ?_
            refine wp_region_R (S := fun w' => w'.cell? ⟨gj, jl * 5 + 1, none⟩ = some (.int .i64 a.t) ∧ w'.cell? ⟨gj, jl * 5 + 2, none⟩ = some (.int .i64 a.n) ∧ w'.cell? ⟨wr.heap.size, 2, none⟩ = some (.int .i64 s.n)) [18] (by kernel_rfl) ⟨by rw [World.cell?_drew, q, a1], by rw [World.cell?_drew, q, a2], by simp [go_sem]⟩ (fun hHeld => ?_)
            refine wpAnyR_take (i := 0) (v := ?v0) rfl (by kernel_rfl) (by kernel_rfl) (by kernel_rfl) (by kernel_rfl) (by kernel_rfl) (fun _ _ _ h => h) (Or.inl ⟨by rfl, ?hy0⟩) (by assumption) ?rest0
            case hy0 =>
              intro w hSw
              (try dsimp only at hSw)
              go_simp
              try with_reducible rfl
            simp only [Act.put, List.setIfInBounds_toArray, List.set_cons_zero, List.set_cons_succ, List.getElem_toArray, List.getElem_cons_zero]
            refine wpAnyR_take (i := 1) (v := ?v1) rfl (by kernel_rfl) (by kernel_rfl) (by kernel_rfl) (by kernel_rfl) (by kernel_rfl) (fun _ _ _ h => h) (Or.inl ⟨by rfl, ?hy1⟩) (by assumption) ?rest1
            case hy1 =>
              intro w hSw
              (try dsimp only at hSw)
              go_simp
              try with_reducible rfl
            simp only [Act.put, List.setIfInBounds_toArray, List.set_cons_zero, List.set_cons_succ, List.getElem_toArray, List.getElem_cons_zero, List.getElem_cons_succ]
            refine wpAnyR_take (i := 2) (v := ?v2) rfl (by kernel_rfl) (by kernel_rfl) (by kernel_rfl) (by kernel_rfl) (by kernel_rfl) (fun _ _ _ h => h) (Or.inl ⟨by rfl, ?hy2⟩) (by assumption) ?rest2
            case hy2 =>
              intro w hSw
              (try dsimp only at hSw)
              go_simp
              try with_reducible rfl
            simp only [Act.put, List.setIfInBounds_toArray, List.set_cons_zero, List.set_cons_succ, List.getElem_toArray, List.getElem_cons_zero, List.getElem_cons_succ]
            refine wpAnyR_take (i := 3) (v := ?v3) rfl (by kernel_rfl) (by kernel_rfl) (by kernel_rfl) (by kernel_rfl) (by kernel_rfl) (fun _ _ _ h => h) (Or.inl ⟨by rfl, ?hy3⟩) (by assumption) ?rest3
            case hy3 =>
              intro w hSw
              (try dsimp only at hSw)
              go_simp
              try with_reducible rfl
            simp only [Act.put, List.setIfInBounds_toArray, List.set_cons_zero, List.set_cons_succ, List.getElem_toArray, List.getElem_cons_zero, List.getElem_cons_succ]
            refine wpAnyR_take (i := 4) (v := ?v4) rfl (by kernel_rfl) (by kernel_rfl) (by kernel_rfl) (by kernel_rfl) (by kernel_rfl) (fun _ _ _ h => h) (Or.inl ⟨by rfl, ?hy4⟩) (by assumption) ?rest4
            case hy4 =>
              intro w hSw
              (try dsimp only at hSw)
              go_simp
              try with_reducible rfl
            simp only [Act.put, List.setIfInBounds_toArray, List.set_cons_zero, List.set_cons_succ, List.getElem_toArray, List.getElem_cons_zero, List.getElem_cons_succ]
            refine wpAnyR_take (i := 5) (v := ?v5) rfl (by kernel_rfl) (by kernel_rfl) (by kernel_rfl) (by kernel_rfl) (by kernel_rfl) (fun _ _ _ h => h) (Or.inl ⟨by rfl, ?hy5⟩) (by assumption) ?rest5
            case hy5 =>
              intro w hSw
              (try dsimp only at hSw)
              go_simp
              try with_reducible rfl
            simp only [Act.put, List.setIfInBounds_toArray, List.set_cons_zero, List.set_cons_succ, List.getElem_toArray, List.getElem_cons_zero, List.getElem_cons_succ]
            refine wpAnyR_take (i := 6) (v := ?v6) rfl (by kernel_rfl) (by kernel_rfl) (by kernel_rfl) (by kernel_rfl) (by kernel_rfl) (fun _ _ _ h => h) (Or.inl ⟨by rfl, ?hy6⟩) (by assumption) ?rest6
            case hy6 =>
              intro w hSw
              (try dsimp only at hSw)
              go_simp
              try with_reducible rfl
            simp only [Act.put, List.setIfInBounds_toArray, List.set_cons_zero, List.set_cons_succ, List.getElem_toArray, List.getElem_cons_zero, List.getElem_cons_succ]
            refine wpAnyR_take (i := 7) (v := ?v7) rfl (by kernel_rfl) (by kernel_rfl) (by kernel_rfl) (by kernel_rfl) (by kernel_rfl) (fun _ _ _ h => h) (Or.inl ⟨by rfl, ?hy7⟩) (by assumption) ?rest7
            case hy7 =>
              intro w hSw
              (try dsimp only at hSw)
              go_simp
              try with_reducible rfl
            simp only [Act.put, List.setIfInBounds_toArray, List.set_cons_zero, List.set_cons_succ, List.getElem_toArray, List.getElem_cons_zero, List.getElem_cons_succ]
            refine wpAnyR_take (i := 8) (v := ?v8) rfl (by kernel_rfl) (by kernel_rfl) (by kernel_rfl) (by kernel_rfl) (by kernel_rfl) (fun _ _ _ h => h) (Or.inl ⟨by rfl, ?hy8⟩) (by assumption) ?rest8
            case hy8 =>
              intro w hSw
              (try dsimp only at hSw)
              go_simp
              try with_reducible rfl
            simp only [Act.put, List.setIfInBounds_toArray, List.set_cons_zero, List.set_cons_succ, List.getElem_toArray, List.getElem_cons_zero, List.getElem_cons_succ]
            refine wpAnyR_take (i := 9) (v := ?v9) rfl (by kernel_rfl) (by kernel_rfl) (by kernel_rfl) (by kernel_rfl) (by kernel_rfl) (fun _ _ _ h => h) (Or.inl ⟨by rfl, ?hy9⟩) (by assumption) ?rest9
            case hy9 =>
              intro w hSw
              (try dsimp only at hSw)
              go_simp
              try with_reducible rfl
            simp only [Act.put, List.setIfInBounds_toArray, List.set_cons_zero, List.set_cons_succ, List.getElem_toArray, List.getElem_cons_zero, List.getElem_cons_succ]
            refine wpAnyR_take (i := 10) (v := ?v10) rfl (by kernel_rfl) (by kernel_rfl) (by kernel_rfl) (by kernel_rfl) (by kernel_rfl) (fun _ _ _ h => h) (Or.inl ⟨by rfl, ?hy10⟩) (by assumption) ?rest10
            case hy10 =>
              intro w hSw
              (try dsimp only at hSw)
              go_simp
              try with_reducible rfl
            simp only [Act.put, List.setIfInBounds_toArray, List.set_cons_zero, List.set_cons_succ, List.getElem_toArray, List.getElem_cons_zero, List.getElem_cons_succ]
            refine wpAnyR_take (i := 11) (v := ?v11) rfl (by kernel_rfl) (by kernel_rfl) (by kernel_rfl) (by kernel_rfl) (by kernel_rfl) (fun _ _ _ h => h) (Or.inl ⟨by rfl, ?hy11⟩) (by assumption) ?rest11
            case hy11 =>
              intro w hSw
              (try dsimp only at hSw)
              go_simp
              try with_reducible rfl
            simp only [Act.put, List.setIfInBounds_toArray, List.set_cons_zero, List.set_cons_succ, List.getElem_toArray, List.getElem_cons_zero, List.getElem_cons_succ]
            refine wpAnyR_take (i := 12) (v := ?v12) rfl (by kernel_rfl) (by kernel_rfl) (by kernel_rfl) (by kernel_rfl) (by kernel_rfl) (fun _ _ _ h => h) (Or.inl ⟨by rfl, ?hy12⟩) (by assumption) ?rest12
            case hy12 =>
              intro w hSw
              (try dsimp only at hSw)
              go_simp
              try with_reducible rfl
            simp only [Act.put, List.setIfInBounds_toArray, List.set_cons_zero, List.set_cons_succ, List.getElem_toArray, List.getElem_cons_zero, List.getElem_cons_succ]
            refine wpAnyR_take (i := 13) (v := ?v13) rfl (by kernel_rfl) (by kernel_rfl) (by kernel_rfl) (by kernel_rfl) (by kernel_rfl) (fun _ _ _ h => h) (Or.inl ⟨by rfl, ?hy13⟩) (by assumption) ?rest13
            case hy13 =>
              intro w hSw
              (try dsimp only at hSw)
              go_simp
              try with_reducible rfl
            simp only [Act.put, List.setIfInBounds_toArray, List.set_cons_zero, List.set_cons_succ, List.getElem_toArray, List.getElem_cons_zero, List.getElem_cons_succ]
            refine wpAnyR_take (i := 14) (v := ?v14) rfl (by kernel_rfl) (by kernel_rfl) (by kernel_rfl) (by kernel_rfl) (by kernel_rfl) (fun _ _ _ h => h) (Or.inl ⟨by rfl, ?hy14⟩) (by assumption) ?rest14
            case hy14 =>
              intro w hSw
              (try dsimp only at hSw)
              go_simp
              try with_reducible rfl
            simp only [Act.put, List.setIfInBounds_toArray, List.set_cons_zero, List.set_cons_succ, List.getElem_toArray, List.getElem_cons_zero, List.getElem_cons_succ]
            refine wpAnyR_take (i := 15) (v := ?v15) rfl (by kernel_rfl) (by kernel_rfl) (by kernel_rfl) (by kernel_rfl) (by kernel_rfl) (fun _ _ _ h => h) (Or.inl ⟨by rfl, ?hy15⟩) (by assumption) ?rest15
            case hy15 =>
              intro w hSw
              (try dsimp only at hSw)
              go_simp
              try with_reducible rfl
            simp only [Act.put, List.setIfInBounds_toArray, List.set_cons_zero, List.set_cons_succ, List.getElem_toArray, List.getElem_cons_zero, List.getElem_cons_succ]
            refine wpAnyR_ready (rs := [16]) (by kernel_rfl) (by simp) ?_
            refine AllReadyR.cons rfl (fun K hK => ?_) AllReadyR.nil
            go_simp
            rw [show (a.n : Int) + (s.n : Int) = ((a.n + s.n : Nat) : Int) by omega]
            refine (addOf_any n a.t (a.n + s.n) _ hn hfit).mono ?_
            rintro e x1 ⟨rfl, b1⟩
            have hr1 : Hid (x1.ownsRow w.heap.size 37 5 (.slice (some ⟨gj, 0, none⟩) (jl + 1) jc) (jl + 1) (spCells n J)) := by
              have h2 := b1
              exact own_kept (u := (wr.alloc _).drew) (HR2.out.alloc _) b1
            have hb1 : Hid (Below w.heap.size w x1) := (hbel.out.alloc hbs _).drew.trans (b1.mono (by simp; omega))
            have hx1 : x1.cell? ⟨gj, jl * 5 + 1, none⟩ = some (.int .i64 a.t) ∧ x1.cell? ⟨gj, jl * 5 + 2, none⟩ = some (.int .i64 a.n) ∧ x1.cell? ⟨wr.heap.size, 2, none⟩ = some (.int .i64 s.n) := by
              have hz := b1.size
              simp only [World.size_drew, World.size_alloc] at hz
              exact ⟨by rw [b1.cell (by simp; omega)]; exact hHeld.1, by rw [b1.cell (by simp; omega)]; exact hHeld.2.1, by rw [b1.cell (by simp)]; exact hHeld.2.2⟩
            (try go_wp2_with fail)
            refine hK.out _ _ ?_ (fun hHeld => ?_)
            · exact hx1
            clear hK
            (try simp only [Act.put, List.setIfInBounds_toArray, List.set_cons_zero, List.set_cons_succ, List.getElem_toArray, List.getElem_cons_zero, List.getElem_cons_succ])
            refine wpAnyR_take (i := 17) (v := ?v17) rfl (by kernel_rfl) (by kernel_rfl) (by kernel_rfl) (by kernel_rfl) (by kernel_rfl) (fun _ _ _ h => h) (Or.inl ⟨by rfl, ?hy17⟩) (by assumption) ?rest17
            case hy17 =>
              intro w hSw
              (try dsimp only at hSw)
              go_simp
              try with_reducible rfl
            simp only [Act.put, List.setIfInBounds_toArray, List.set_cons_zero, List.set_cons_succ, List.getElem_toArray, List.getElem_cons_zero, List.getElem_cons_succ]
            obtain ⟨f0, f1, f2, f3, f4⟩ := HF.out
            have hjj := HJL.out
            have y0 := (hr1.out.cellAt (jl * 5) (by omega)).trans f0
            have y1 := (hr1.out.cellAt (jl * 5 + 1) (by omega)).trans f1
            have y2 := (hr1.out.cellAt (jl * 5 + 2) (by omega)).trans f2
            have y3 := (hr1.out.cellAt (jl * 5 + 3) (by omega)).trans f3
            have y4 := (hr1.out.cellAt (jl * 5 + 4) (by omega)).trans f4
            have z0 := hr1.out.frozenAt (jl * 5)
            have z1 := hr1.out.frozenAt (jl * 5 + 1)
            have z2 := hr1.out.frozenAt (jl * 5 + 2)
            have z3 := hr1.out.frozenAt (jl * 5 + 3)
            have z4 := hr1.out.frozenAt (jl * 5 + 4)
            clear f0 f1 f2 f3 f4 hjj
            refine wpAnyR_ready (rs := [18]) (by kernel_rfl) (by simp) ?_
            refine AllReadyR.free rfl (by kernel_rfl) (fun K hK => ?_) AllReadyR.nil
            go_simp
            refine hK.out _ _ ?_
            clear hK
            (try simp only [Act.put, List.setIfInBounds_toArray, List.set_cons_zero, List.set_cons_succ, List.getElem_toArray, List.getElem_cons_zero, List.getElem_cons_succ])
            refine wpAnyR_done (by kernel_rfl) ?_ _
            refine NoPanic.normal ?_
            have hset : Hid (_root_.Pl.joined (l.take (k + 1)) = J.set jl ⟨a.t, a.n + s.n, none⟩) := by
              show _ = _
              rw [hjo.out, jstep_set hlast.out HA.out HS.out, HJL.out]; rfl
            have hfin := row_set (w := x1) (B := w.heap.size) (g := gj) (cap := jc) (n := n) (l := J) jl a.t (a.n + s.n) (by rw [HJL.out]; omega) (by rw [HJL.out]; exact hr1.out)
            have HFIN : Hid ((((((x1.setCell ⟨gj, jl * 5, none⟩ (.int .i64 1)).setCell ⟨gj, jl * 5 + 1, none⟩ (.int .i64 a.t)).setCell ⟨gj, jl * 5 + 2, none⟩ (.int .i64 ((a.n : Int) + (s.n : Int)))).setCell ⟨gj, jl * 5 + 3, none⟩ (.string (n.extract a.t (a.t + (a.n + s.n))))).setCell ⟨gj, jl * 5 + 4, none⟩ (.int .i64 0)).ownsRow w.heap.size 37 5 (.slice (some ⟨gj, 0, none⟩) (jl + 1) jc) (_root_.Pl.joined (l.take (k + 1))).length (spCells n (_root_.Pl.joined (l.take (k + 1))))) := by
              have h := hfin.1
              rw [HJL.out] at h
              rw [hset.out]
              exact h
            have HBFIN : Hid (Below w.heap.size w ((((((x1.setCell ⟨gj, jl * 5, none⟩ (.int .i64 1)).setCell ⟨gj, jl * 5 + 1, none⟩ (.int .i64 a.t)).setCell ⟨gj, jl * 5 + 2, none⟩ (.int .i64 ((a.n : Int) + (s.n : Int)))).setCell ⟨gj, jl * 5 + 3, none⟩ (.string (n.extract a.t (a.t + (a.n + s.n))))).setCell ⟨gj, jl * 5 + 4, none⟩ (.int .i64 0)))) := below_grown hr1.out hb1.out hfin.2
            clear hfin
            go_wp2_with fail
            exact ⟨⟨k + 1, by omega, by go_num, HFIN, HBFIN⟩, by simp [intOf]; omega⟩
    · have hke : k = l.length := by omega
      subst hke
      rw [List.take_length] at hrow
      go_wp2_with fail
      go_ret
      exact ⟨_, rfl, hrow.out, hbel.out⟩

end Go.Proofs.Ytjjmcnippjpclab
