/-
  The walks of what a step alone may be, and of lists of bools that are asked and set.
-/
import Derived.Test.YtlijlmjgnhheaaaRows
import Derived.Test.YtlijlmjgnhheaaaPlan
import Derived.WalkKit
import Derived.WalkSpells
import Derived.WalkLawsBesides
import Derived.Handy
import Derived.Deep.OwnRows
namespace Go.Proofs.Ytlijlmjgnhheaaa
open Go.RowKit

theorem within_any (a n l : Int) (w : World) (hl : 0 ≤ l ∧ l ≤ 4000) (hn : 1 ≤ n) :
    Calls Try.prog 94 #[.int .i64 a, .int .i64 n, .int .i64 l] w fun e w' => e = .returned (.bool (decide (0 ≤ a ∧ n ≤ l ∧ a ≤ l - n))) ∧ w' = w := by
  by_cases h1 : 0 ≤ a
  · by_cases h2 : n ≤ l
    · go_enter Try.func94, Try.ntmps94
      go_wp2
      go_ret
      simp [h1, h2]
    · go_enter Try.func94, Try.ntmps94
      go_wp2
      go_ret
      simp; omega
  · go_enter Try.func94, Try.ntmps94
    go_wp2
    go_ret
    simp; omega

theorem isLength_any (n : Int) (w : World) :
    Calls Try.prog 64 #[.int .i64 n] w fun e w' => e = .returned (.bool (decide (0 ≤ n ∧ n ≤ 4000))) ∧ w' = w := by
  go_enter Try.func64, Try.ntmps64
  go_wp2
  · go_ret
    simp [*]
  · go_ret
    simp; omega

theorem toList_size (d : ByteArray) : d.toList.length = d.size := by rw [ByteArray.toList_eq]; simp

theorem ok_yes {ol nl : Int} {s : Pl.St} (h : 1 ≤ s.n ∧ (0 ≤ s.t ∧ s.n ≤ nl ∧ s.t ≤ nl - s.n) ∧ ((s.k = 1 ∧ (s.d.size : Int) = s.n ∧ s.f = 0) ∨ (s.k = 3 ∧ s.d.size = 0 ∧ (0 ≤ s.f ∧ s.n ≤ ol ∧ s.f ≤ ol - s.n)))) : Pl.ok ol nl s = true := by
  simp only [Pl.ok, decide_eq_true_eq]; exact h

theorem ok_no {ol nl : Int} {s : Pl.St} (h : ¬ (1 ≤ s.n ∧ (0 ≤ s.t ∧ s.n ≤ nl ∧ s.t ≤ nl - s.n) ∧ ((s.k = 1 ∧ (s.d.size : Int) = s.n ∧ s.f = 0) ∨ (s.k = 3 ∧ s.d.size = 0 ∧ (0 ≤ s.f ∧ s.n ≤ ol ∧ s.f ≤ ol - s.n))))) : Pl.ok ol nl s = false := by
  simp only [Pl.ok, decide_eq_false_iff_not]; exact h

set_option maxHeartbeats 1000000 in
theorem stepMayBe_any (k t n f : Int) (d : ByteArray) (ol nl : Int) (os ns : ByteArray) (sl : Value) (w : World) (hol : 0 ≤ ol ∧ ol ≤ 4000) (hnl : 0 ≤ nl ∧ nl ≤ 4000) :
    Calls Try.prog 65 #[.agg #[.int .i64 k, .int .i64 t, .int .i64 n, .string d, .int .i64 f], .agg #[.int .i64 ol, .int .i64 nl, .string os, .string ns, sl]] w fun e w' => e = .returned (.bool (Pl.ok ol nl (k, t, n, d, f))) ∧ Below w.heap.size w w' := by
  have H0 : Hid (1 ≤ n → (0 ≤ t ∧ n ≤ nl ∧ t ≤ nl - n) → ((k = 1 ∧ (d.size : Int) = n ∧ f = 0) ∨ (k = 3 ∧ d.size = 0 ∧ (0 ≤ f ∧ n ≤ ol ∧ f ≤ ol - n))) → Pl.ok ol nl (k, t, n, d, f) = true) := fun a b c => ok_yes ⟨a, b, c⟩
  have H1 : Hid (¬ (1 ≤ n ∧ (0 ≤ t ∧ n ≤ nl ∧ t ≤ nl - n) ∧ ((k = 1 ∧ (d.size : Int) = n ∧ f = 0) ∨ (k = 3 ∧ d.size = 0 ∧ (0 ≤ f ∧ n ≤ ol ∧ f ≤ ol - n)))) → Pl.ok ol nl (k, t, n, d, f) = false) := fun a => ok_no a
  generalize Pl.ok ol nl (k, t, n, d, f) = r at *
  by_cases h1 : 1 ≤ n
  · go_enter Try.func65, Try.ntmps65
    go_wp2_with fail
    refine (within_any t n nl _ hnl h1).mono ?_
    rintro e v ⟨rfl, rfl⟩
    by_cases h2 : 0 ≤ t ∧ n ≤ nl ∧ t ≤ nl - n
    · rw [decide_eq_true h2]
      by_cases hk : k = 1
      · subst hk
        go_wp2_with fail
        · go_ret
          refine ⟨?_, by go_grown⟩
          by_cases hf : f = 0
          · rw [H0.out h1 h2 (.inl ⟨by trivial, by omega, hf⟩)]; simp [hf]
          · rw [H1.out (by omega)]; simp [hf]
        · go_ret
          refine ⟨?_, by go_grown⟩
          rw [H1.out (by omega)]; rfl
      · by_cases hk3 : k = 3
        · subst hk3
          go_wp2_with fail
          · refine (within_any f n ol _ hol h1).mono ?_
            rintro e v ⟨rfl, rfl⟩
            have hd : d.size = 0 := by
              have h : d.toList = [] := by assumption
              rw [← toList_size, h]; rfl
            go_wp2_with fail
            go_ret
            refine ⟨?_, by go_grown⟩
            by_cases hf : 0 ≤ f ∧ n ≤ ol ∧ f ≤ ol - n
            · show Ending.returned (Value.bool (decide (0 ≤ f) && (decide (n ≤ ol) && decide (f ≤ ol - n)))) = _
              rw [H0.out h1 h2 (.inr ⟨by trivial, hd, hf⟩), ← Bool.decide_and, ← Bool.decide_and, decide_eq_true hf]
            · show Ending.returned (Value.bool (decide (0 ≤ f) && (decide (n ≤ ol) && decide (f ≤ ol - n)))) = _
              rw [H1.out (by omega), ← Bool.decide_and, ← Bool.decide_and, decide_eq_false hf]
          · have hd : ¬ d.size = 0 := by
              intro h0
              have h : ¬ d.toList = [] := by assumption
              exact h (List.eq_nil_of_length_eq_zero (by rw [toList_size, h0]))
            go_ret
            refine ⟨?_, by go_grown⟩
            rw [H1.out (by omega)]; rfl
        · go_wp2_with fail
          go_ret
          refine ⟨?_, by go_grown⟩
          rw [H1.out (by omega)]; rfl
    · rw [decide_eq_false h2]
      go_wp2_with fail
      go_ret
      refine ⟨?_, by go_grown⟩
      rw [H1.out (fun h => h2 h.2.1)]; rfl
  · go_enter Try.func65, Try.ntmps65
    go_wp2_with fail
    go_ret
    refine ⟨?_, by go_grown⟩
    rw [H1.out (by omega)]; rfl

set_option maxHeartbeats 1000000 in
theorem anyOf_any (b o n c : Nat) (g : Nat → Bool) (w : World) (hn : n ≤ 4000)
    (hc : Hid (∀ i, i < n → w.cell? ⟨b, o + i, none⟩ = some (.bool (g (o + i))))) :
    Calls Try.prog 66 #[.slice (some ⟨b, o, none⟩) n c] w fun e w' => e = .returned (.bool ((List.range n).any fun i => g (o + i))) ∧ w' = w := by
  go_enter Try.func66, Try.ntmps66
  go_wp2
  go_loop [7] (fun i => ∃ k : Nat, k ≤ n ∧ i = .int .i64 k ∧ Hid (∀ i, i < k → g (o + i) = false)) (fun i => n - (intOf i).toNat)
  case atStart => exact ⟨0, Nat.zero_le _, rfl, fun i hi => absurd hi (Nat.not_lt_zero _)⟩
  case round =>
    obtain ⟨k, hk, rfl, hf⟩ := hrel
    by_cases hlt : k < n
    · have h1 := hc.out k hlt
      go_wp2
      · go_ret
        have hg : g (o + k) = true := by assumption
        have : ((List.range n).any fun i => g (o + i)) = true := List.any_eq_true.mpr ⟨k, List.mem_range.mpr hlt, hg⟩
        rw [this]; exact ⟨rfl, rfl⟩
      · have hg : g (o + k) = false := by assumption
        refine ⟨⟨k + 1, by omega, by go_num, fun i hi => ?_⟩, by simp [intOf]; omega⟩
        by_cases hik : i = k
        · subst hik; exact hg
        · exact hf.out i (by omega)
    · have hke : k = n := by omega
      subst hke
      go_wp2
      go_ret
      have : ((List.range k).any fun i => g (o + i)) = false := by
        rw [List.any_eq_false]
        intro i hi
        rw [hf.out i (List.mem_range.mp hi)]; simp
      rw [this]; exact ⟨rfl, rfl⟩

set_option maxHeartbeats 1000000 in
theorem setAll_any (b o n c m : Nat) (t : TypeId) (f : Nat → Value) (w : World) (hn : n ≤ 4000) (hm : o + n ≤ m) (hr : Hid (w.rowIs b t m f)) :
    Calls Try.prog 67 #[.slice (some ⟨b, o, none⟩) n c] w fun e w' => e = .returned (.tuple #[]) ∧ Below b w w' ∧ w'.heap.size = w.heap.size ∧ (∀ k, k ≠ b → w'.heap[k]? = w.heap[k]?) ∧ w'.rowIs b t m (fun i => if o ≤ i ∧ i < o + n then .bool true else f i) := by
  go_enter Try.func67, Try.ntmps67
  go_wp2
  go_loopw [5] (fun i wr => ∃ k : Nat, k ≤ n ∧ i = .int .i64 k ∧ Hid (Below b w wr ∧ wr.heap.size = w.heap.size ∧ (∀ k, k ≠ b → wr.heap[k]? = w.heap[k]?)) ∧ Hid (wr.rowIs b t m (fun i => if o ≤ i ∧ i < o + k then .bool true else f i))) (fun i _ => n - (intOf i).toNat)
  case atStart => exact ⟨0, Nat.zero_le _, rfl, ⟨Below.refl _ _, rfl, fun _ _ => rfl⟩, hr.out.congr fun i _ => by rw [if_neg (by omega)]⟩
  case round =>
    obtain ⟨k, hk, rfl, hh, hw⟩ := hrel
    by_cases hlt : k < n
    · have h1 := hw.out.cell (i := o + k) (by omega)
      have h2 := hw.out.frozen (o + k)
      go_wp2
      obtain ⟨hb, hs, ha⟩ := hh.out
      refine ⟨⟨k + 1, by omega, by go_num, ⟨hb.setCell (Nat.le_refl _) _, by rw [World.size_setCell, hs], fun j hne => ?_⟩, (hw.out.set (o + k) _).congr fun i _ => ?_⟩, by simp [intOf]; omega⟩
      · rw [Below.heap_setCell _ _ _ _ hne, ha j hne]
      · by_cases hik : i = o + k
        · rw [if_pos hik, if_pos (by omega)]
        · rw [if_neg hik]
          by_cases hin : o ≤ i ∧ i < o + k
          · rw [if_pos hin, if_pos (by omega)]
          · rw [if_neg hin, if_neg (by omega)]
    · have hke : k = n := by omega
      subst hke
      go_wp2
      go_returns
      obtain ⟨hb, hs, ha⟩ := hh.out
      exact ⟨rfl, hb, hs, ha, hw.out⟩

theorem info4 : (Try.prog.info? 4).map (fun i => (i.zero, i.size, i.bytes)) = some (some (.bool false), 1, 1) := by kernel_rfl

theorem make_bools (n : Nat) (hn : n ≤ 4000) (w : World) :
    (Instr.makeSlice 104 (.int .i64 (n : Int)) (.int .i64 (n : Int))).run Try.prog w = .ok (.slice (some ⟨w.heap.size, 0, none⟩) n n) (w.alloc (.cells (madeCells #[.bool false] n) 4)) :=
  run_make_row' 104 4 (.bool false) 1 Try.underlying104 info4 rfl .i64 .i64 n (by omega) (by omega) w

/-- a step's five cells. -/
def stAt (w : World) (b o : Nat) (s : Pl.St) : Prop :=
  w.cell? ⟨b, o, none⟩ = some (.int .i64 s.k) ∧ w.cell? ⟨b, o + 1, none⟩ = some (.int .i64 s.t) ∧ w.cell? ⟨b, o + 2, none⟩ = some (.int .i64 s.n) ∧ w.cell? ⟨b, o + 3, none⟩ = some (.string s.d) ∧ w.cell? ⟨b, o + 4, none⟩ = some (.int .i64 s.f)

/-- a list of steps, one behind the other. -/
def stepsAt (w : World) (a : Option Addr) (b o : Nat) (st : List Pl.St) : Prop :=
  (st = [] ∨ a = some ⟨b, o, none⟩) ∧ b < w.heap.size ∧ ∀ i s, st[i]? = some s → stAt w b (o + i * 5) s

theorem stAt_below {w w' : World} {B b o : Nat} {s : Pl.St} (h : stAt w b o s) (hb : Below B w w') (hB : b < B) : stAt w' b o s := by
  obtain ⟨h0, h1, h2, h3, h4⟩ := h
  exact ⟨by rw [hb.cell hB, h0], by rw [hb.cell hB, h1], by rw [hb.cell hB, h2], by rw [hb.cell hB, h3], by rw [hb.cell hB, h4]⟩

theorem stepsAt_below {w w' : World} {B b o : Nat} {a : Option Addr} {st : List Pl.St} (h : stepsAt w a b o st) (hb : Below B w w') (hB : b < B) : stepsAt w' a b o st :=
  ⟨h.1, Nat.lt_of_lt_of_le h.2.1 hb.size, fun i s hs => stAt_below (h.2.2 i s hs) hb hB⟩

end Go.Proofs.Ytlijlmjgnhheaaa
