/-
  The walks of addOf and appendAdd.
-/
import Derived.Test.YtlijlmjgnhheaaaKeep
import Derived.Test.YtlijlmjgnhheaaaOwnSteps
import Derived.Test.YtlijlmjgnhheaaaSource
import Derived.Test.YtlijlmjgnhheaaaMakePlain
namespace Go.Proofs.Ytlijlmjgnhheaaa
open Go.RowKit

set_option maxRecDepth 100000 in
set_option maxHeartbeats 1000000 in
theorem addOf_any (n : ByteArray) (t z : Nat) (w : World) (hn : n.size ≤ 4000) (h : t + z ≤ n.size) :
    Calls Try.prog 75 #[.string n, .int .i64 t, .int .i64 z] w fun e w' => e = .returned (.agg #[.int .i64 1, .int .i64 t, .int .i64 z, .string (n.extract t (t + z)), .int .i64 0]) ∧ Below w.heap.size w w' := by
  have g4 : IntKind.i64.wrap ((t : Int) + (z : Int)) = (t : Int) + (z : Int) := by rw [IntKind.wrap_i64]; omega
  have g1 : (t : Int) + (z : Int) ≤ (n.size : Int) := by omega
  have g2 : (t : Int) ≤ (t : Int) + (z : Int) := by omega
  have g3 : ((t : Int) + (z : Int)).toNat = t + z := by omega
  go_enter Try.func75, Try.ntmps75
  go_wp2_with fail
  refine bodyPost_ret (v := .agg #[.int .i64 1, .int .i64 t, .int .i64 z, .string (n.extract t (t + z)), .int .i64 0]) (by simp [results, Try.results75, go_sem]) rfl ⟨rfl, ?_⟩
  exact (Below.refl _ _).alloc (Nat.le_refl _) _

theorem own_kept {u u' : World} {B n k : Nat} {t : TypeId} {v : Value} {xs : List Value} (h : u.ownsRow B t n v k xs) (b : Below u.heap.size u u') : u'.ownsRow B t n v k xs :=
  h.kept (row := none) ⟨b.os, b.tape, b.output, b.size, fun i hi _ => b.block i hi⟩ (by cases hv : v.ownBlock <;> simp)
theorem grown_of_below {u u' : World} (b : Below u.heap.size u u') (r : Option Nat) : u.grownBy u' r := ⟨b.os, b.tape, b.output, b.size, fun i hi _ => b.block i hi⟩
theorem grown_alloc {u u' : World} {r : Option Nat} (h : u.grownBy u' r) (o : Obj) : u.grownBy (u'.alloc o) r :=
  ⟨h.os, h.tape, h.output, by have := h.size; simp; omega, fun i hi hr => by rw [Below.heap_alloc _ _ _ (Nat.lt_of_lt_of_le hi h.size)]; exact h.block i hi hr⟩

/-- the cells of the steps of a made patch. -/
def spCells (n : ByteArray) (l : List Pl.Sp) : List Value := stCells (l.map (Pl.Sp.st n))

theorem spCells_snoc (n : ByteArray) (l : List Pl.Sp) (s : Pl.Sp) : spCells n (l ++ [s]) = spCells n l ++ [.int .i64 (s.st n).k, .int .i64 (s.st n).t, .int .i64 (s.st n).n, .string (s.st n).d, .int .i64 (s.st n).f] := by
  rw [spCells, List.map_append, List.map_cons, List.map_nil, stCells_snoc]; rfl
theorem spCells_add (n : ByteArray) (l : List Pl.Sp) (t z : Nat) : spCells n (l ++ [⟨t, z, none⟩]) = spCells n l ++ [.int .i64 1, .int .i64 t, .int .i64 z, .string (n.extract t (t + z)), .int .i64 0] := spCells_snoc n l _
theorem spCells_copy (n : ByteArray) (l : List Pl.Sp) (t z f : Nat) : spCells n (l ++ [⟨t, z, some f⟩]) = spCells n l ++ [.int .i64 3, .int .i64 t, .int .i64 z, .string ⟨#[]⟩, .int .i64 f] := spCells_snoc n l _

/-- what appendAdd makes of a list. -/
def withAdd (l : List Pl.Sp) (t e : Nat) : List Pl.Sp := if t = e then l else l ++ [⟨t, e - t, none⟩]

set_option maxRecDepth 100000 in
set_option maxHeartbeats 2000000 in
theorem appendAdd_any (n : ByteArray) (v : Value) (l : List Pl.Sp) (t e : Nat) (B : Nat) (w : World) (hn : n.size ≤ 4000) (h : t ≤ e) (he : e ≤ n.size) (hl : l.length ≤ 100000) (hB : B ≤ w.heap.size) (hw : Hid (w.ownsRow B 40 5 v l.length (spCells n l))) :
    Calls Try.prog 79 #[v, .string n, .int .i64 t, .int .i64 e] w fun r w' => ∃ v', r = .returned v' ∧ w'.ownsRow B 40 5 v' (withAdd l t e).length (spCells n (withAdd l t e)) ∧ w.grownBy w' v.ownBlock := by
  obtain ⟨ao, cn, cp, rfl⟩ : ∃ ao cn cp, v = .slice ao cn cp := by
    rcases hw.out.2 with ⟨hv, hz⟩ | ⟨g, cap, cur, hv, _⟩
    · exact ⟨none, 0, 0, hv⟩
    · exact ⟨_, _, _, hv⟩
  by_cases hte : t = e
  · have d : ((t : Int) == (e : Int)) = true := beq_iff_eq.2 (by omega)
    have e1 : Hid (withAdd l t e = l) := by simp [Hid, withAdd, hte]
    go_enter Try.func79, Try.ntmps79
    go_wp2_with fail
    go_ret
    exact ⟨_, rfl, by rw [e1.out]; exact hw.out, grown_refl _ _⟩
  · have d : ((t : Int) == (e : Int)) = false := beq_eq_false_iff_ne.2 (by omega)
    have e1 : Hid (withAdd l t e = l ++ [⟨t, e - t, none⟩]) := by simp [Hid, withAdd, hte]
    obtain ⟨i40, hi, hzz⟩ := Option.map_eq_some_iff.1 info40
    simp only [Prod.mk.injEq] at hzz
    have g1 : (e : Int) - (t : Int) = ((e - t : Nat) : Int) := by omega
    go_enter Try.func79, Try.ntmps79
    go_wp2_with fail
    refine (addOf_any n t (e - t) _ hn (by omega)).mono ?_
    rintro r v1 ⟨rfl, b1⟩
    have hw1 : Hid (v1.ownsRow B 40 5 (.slice ao cn cp) l.length (spCells n l)) := own_kept hw.out b1
    have hs1 := b1.size
    go_wp2_with (at_builtin; refine wpList_append_keep _ rfl _ _ 29 rfl B 40 i40 (.agg zero5.toArray) 5 48 Try.underlying29 hi hzz.1 hzz.2.1 hzz.2.2 rfl (by decide) _ l.length (spCells n l) rfl (hw1.out.alloc _) ⟨v1.heap.size, 0, none⟩ 1 1 [.int .i64 1, .int .i64 t, .int .i64 (e - t : Nat), .string (n.extract t e), .int .i64 0] rfl rfl ?c1 ?c2 (by decide) ?c3 ?c4 ?c5 ?_)
    case c1 => exact World.news_of_block (cs := #[.int .i64 1, .int .i64 t, .int .i64 (e - t : Nat), .string (n.extract t e), .int .i64 0]) (heap_alloc_new v1 _)
    case c2 =>
      intro u hu
      simp at hu
      rcases hu with rfl | rfl | rfl | rfl | rfl <;> rfl
    case c3 => unfold maxLen; omega
    case c4 => omega
    case c5 => simp; omega
    intro v2 q2 hw2 hg2 _
    go_wp2_with fail
    go_ret
    refine ⟨_, rfl, ?_, grown_trans (grown_alloc (grown_of_below b1 _) _) hg2⟩
    rw [e1.out, spCells_add, List.length_append, Nat.add_sub_cancel' h]
    exact hw2
end Go.Proofs.Ytlijlmjgnhheaaa
