/-
  The walks of what a step alone may be, and of lists of bools that are asked and set.
  The walk of mayBe: it tells whether there is a patch in place that says this.
  The walk of inOrder: it tells whether no Copy comes from where a step ahead of it goes.
-/
import Derived.Test.YtjjmcnippjpclaaRows
import Derived.Test.YtjjmcnippjpclaaPlan
import Derived.WalkKit
import Derived.WalkSpells
import Derived.WalkLawsBesides
import Derived.Handy
import Derived.Deep.OwnRows
namespace Go.Proofs.Ytjjmcnippjpclaa

open Go.RowKit

theorem within_any (a n l : Int) (w : World) (hl : 0 ≤ l ∧ l ≤ 4000) (hn : 1 ≤ n) :
    Calls Try.prog 98 #[.int .i64 a, .int .i64 n, .int .i64 l] w fun e w' => e = .returned (.bool (decide (0 ≤ a ∧ n ≤ l ∧ a ≤ l - n))) ∧ w' = w := by
  by_cases h1 : 0 ≤ a
  · by_cases h2 : n ≤ l
    · go_enter Try.func98, Try.ntmps98
      go_wp2
      go_ret
      simp [h1, h2]
    · go_enter Try.func98, Try.ntmps98
      go_wp2
      go_ret
      simp; omega
  · go_enter Try.func98, Try.ntmps98
    go_wp2
    go_ret
    simp; omega

theorem isLength_any (n : Int) (w : World) :
    Calls Try.prog 66 #[.int .i64 n] w fun e w' => e = .returned (.bool (decide (0 ≤ n ∧ n ≤ 4000))) ∧ w' = w := by
  go_enter Try.func66, Try.ntmps66
  go_wp2
  · go_ret
    simp [*]
  · go_ret
    simp; omega

theorem toList_size (d : ByteArray) : d.toList.length = d.size := by rw [ByteArray.toList_eq]; simp

theorem ok_yes {ol nl : Int} {s : Pl.St} (h : 1 ≤ s.n ∧ (0 ≤ s.t ∧ s.n ≤ nl ∧ s.t ≤ nl - s.n) ∧ ((s.k = 1 ∧ (s.d.size : Int) = s.n ∧ s.f = 0) ∨ (s.k = 3 ∧ s.d.size = 0 ∧ (0 ≤ s.f ∧ s.n ≤ ol ∧ s.f ≤ ol - s.n)))) : Pl.ok ol nl s = true := by
  simp only [Pl.ok, decide_eq_true_eq]; exact h

theorem ok_no {ol nl : Int} {s : Pl.St} (h : ¬ (1 ≤ s.n ∧ (0 ≤ s.t ∧ s.n ≤ nl ∧ s.t ≤ nl - s.n) ∧ ((s.k = 1 ∧ (s.d.size : Int) = s.n ∧ s.f = 0) ∨ (s.k = 3 ∧ s.d.size = 0 ∧ (0 ≤ s.f ∧ s.n ≤ ol ∧ s.f ≤ ol - s.n))))) : Pl.ok ol nl s = false := by
  simp only [Pl.ok, decide_eq_false_iff_not]; exact h

set_option maxHeartbeats 1000000 in
theorem stepMayBe_any (k t n f : Int) (d : ByteArray) (ol nl : Int) (os ns : ByteArray) (sl : Value) (w : World) (hol : 0 ≤ ol ∧ ol ≤ 4000) (hnl : 0 ≤ nl ∧ nl ≤ 4000) :
    Calls Try.prog 67 #[.agg #[.int .i64 k, .int .i64 t, .int .i64 n, .string d, .int .i64 f], .agg #[.int .i64 ol, .int .i64 nl, .string os, .string ns, sl]] w fun e w' => e = .returned (.bool (Pl.ok ol nl (k, t, n, d, f))) ∧ Below w.heap.size w w' := by
  have H0 : Hid (1 ≤ n → (0 ≤ t ∧ n ≤ nl ∧ t ≤ nl - n) → ((k = 1 ∧ (d.size : Int) = n ∧ f = 0) ∨ (k = 3 ∧ d.size = 0 ∧ (0 ≤ f ∧ n ≤ ol ∧ f ≤ ol - n))) → Pl.ok ol nl (k, t, n, d, f) = true) := fun a b c => ok_yes ⟨a, b, c⟩
  have H1 : Hid (¬ (1 ≤ n ∧ (0 ≤ t ∧ n ≤ nl ∧ t ≤ nl - n) ∧ ((k = 1 ∧ (d.size : Int) = n ∧ f = 0) ∨ (k = 3 ∧ d.size = 0 ∧ (0 ≤ f ∧ n ≤ ol ∧ f ≤ ol - n)))) → Pl.ok ol nl (k, t, n, d, f) = false) := fun a => ok_no a
  generalize Pl.ok ol nl (k, t, n, d, f) = r at *
  by_cases h1 : 1 ≤ n
  · go_enter Try.func67, Try.ntmps67
    go_wp2_with fail
    refine (within_any t n nl _ hnl h1).mono ?_
    rintro e v ⟨rfl, rfl⟩
    by_cases h2 : 0 ≤ t ∧ n ≤ nl ∧ t ≤ nl - n
    · rw [decide_eq_true h2]
      by_cases hk : k = 1
      · subst hk
        go_wp2_with fail
        · go_ret
          refine ⟨?_, by go_grown⟩
          by_cases hf : f = 0
          · rw [H0.out h1 h2 (.inl ⟨by trivial, by omega, hf⟩)]; simp [hf]
          · rw [H1.out (by omega)]; simp [hf]
        · go_ret
          refine ⟨?_, by go_grown⟩
          rw [H1.out (by omega)]; rfl
      · by_cases hk3 : k = 3
        · subst hk3
          go_wp2_with fail
          · refine (within_any f n ol _ hol h1).mono ?_
            rintro e v ⟨rfl, rfl⟩
            have hd : d.size = 0 := by
              have h : d.toList = [] := by assumption
              rw [← toList_size, h]; rfl
            go_wp2_with fail
            go_ret
            refine ⟨?_, by go_grown⟩
            by_cases hf : 0 ≤ f ∧ n ≤ ol ∧ f ≤ ol - n
            · show Ending.returned (Value.bool (decide (0 ≤ f) && (decide (n ≤ ol) && decide (f ≤ ol - n)))) = _
              rw [H0.out h1 h2 (.inr ⟨by trivial, hd, hf⟩), ← Bool.decide_and, ← Bool.decide_and, decide_eq_true hf]
            · show Ending.returned (Value.bool (decide (0 ≤ f) && (decide (n ≤ ol) && decide (f ≤ ol - n)))) = _
              rw [H1.out (by omega), ← Bool.decide_and, ← Bool.decide_and, decide_eq_false hf]
          · have hd : ¬ d.size = 0 := by
              intro h0
              have h : ¬ d.toList = [] := by assumption
              exact h (List.eq_nil_of_length_eq_zero (by rw [toList_size, h0]))
            go_ret
            refine ⟨?_, by go_grown⟩
            rw [H1.out (by omega)]; rfl
        · go_wp2_with fail
          go_ret
          refine ⟨?_, by go_grown⟩
          rw [H1.out (by omega)]; rfl
    · rw [decide_eq_false h2]
      go_wp2_with fail
      go_ret
      refine ⟨?_, by go_grown⟩
      rw [H1.out (fun h => h2 h.2.1)]; rfl
  · go_enter Try.func67, Try.ntmps67
    go_wp2_with fail
    go_ret
    refine ⟨?_, by go_grown⟩
    rw [H1.out (by omega)]; rfl

set_option maxHeartbeats 1000000 in
theorem anyOf_any (b o n c : Nat) (g : Nat → Bool) (w : World) (hn : n ≤ 4000)
    (hc : Hid (∀ i, i < n → w.cell? ⟨b, o + i, none⟩ = some (.bool (g (o + i))))) :
    Calls Try.prog 68 #[.slice (some ⟨b, o, none⟩) n c] w fun e w' => e = .returned (.bool ((List.range n).any fun i => g (o + i))) ∧ w' = w := by
  go_enter Try.func68, Try.ntmps68
  go_wp2
  go_loop [7] (fun i => ∃ k : Nat, k ≤ n ∧ i = .int .i64 k ∧ Hid (∀ i, i < k → g (o + i) = false)) (fun i => n - (intOf i).toNat)
  case atStart => exact ⟨0, Nat.zero_le _, rfl, fun i hi => absurd hi (Nat.not_lt_zero _)⟩
  case round =>
    obtain ⟨k, hk, rfl, hf⟩ := hrel
    by_cases hlt : k < n
    · have h1 := hc.out k hlt
      go_wp2
      · go_ret
        have hg : g (o + k) = true := by assumption
        have : ((List.range n).any fun i => g (o + i)) = true := List.any_eq_true.mpr ⟨k, List.mem_range.mpr hlt, hg⟩
        rw [this]; exact ⟨rfl, rfl⟩
      · have hg : g (o + k) = false := by assumption
        refine ⟨⟨k + 1, by omega, by go_num, fun i hi => ?_⟩, by simp [intOf]; omega⟩
        by_cases hik : i = k
        · subst hik; exact hg
        · exact hf.out i (by omega)
    · have hke : k = n := by omega
      subst hke
      go_wp2
      go_ret
      have : ((List.range k).any fun i => g (o + i)) = false := by
        rw [List.any_eq_false]
        intro i hi
        rw [hf.out i (List.mem_range.mp hi)]; simp
      rw [this]; exact ⟨rfl, rfl⟩

set_option maxHeartbeats 1000000 in
theorem setAll_any (b o n c m : Nat) (t : TypeId) (f : Nat → Value) (w : World) (hn : n ≤ 4000) (hm : o + n ≤ m) (hr : Hid (w.rowIs b t m f)) :
    Calls Try.prog 69 #[.slice (some ⟨b, o, none⟩) n c] w fun e w' => e = .returned (.tuple #[]) ∧ Below b w w' ∧ w'.heap.size = w.heap.size ∧ (∀ k, k ≠ b → w'.heap[k]? = w.heap[k]?) ∧ w'.rowIs b t m (fun i => if o ≤ i ∧ i < o + n then .bool true else f i) := by
  go_enter Try.func69, Try.ntmps69
  go_wp2
  go_loopw [5] (fun i wr => ∃ k : Nat, k ≤ n ∧ i = .int .i64 k ∧ Hid (Below b w wr ∧ wr.heap.size = w.heap.size ∧ (∀ k, k ≠ b → wr.heap[k]? = w.heap[k]?)) ∧ Hid (wr.rowIs b t m (fun i => if o ≤ i ∧ i < o + k then .bool true else f i))) (fun i _ => n - (intOf i).toNat)
  case atStart => exact ⟨0, Nat.zero_le _, rfl, ⟨Below.refl _ _, rfl, fun _ _ => rfl⟩, hr.out.congr fun i _ => by rw [if_neg (by omega)]⟩
  case round =>
    obtain ⟨k, hk, rfl, hh, hw⟩ := hrel
    by_cases hlt : k < n
    · have h1 := hw.out.cell (i := o + k) (by omega)
      have h2 := hw.out.frozen (o + k)
      go_wp2
      obtain ⟨hb, hs, ha⟩ := hh.out
      refine ⟨⟨k + 1, by omega, by go_num, ⟨hb.setCell (Nat.le_refl _) _, by rw [World.size_setCell, hs], fun j hne => ?_⟩, (hw.out.set (o + k) _).congr fun i _ => ?_⟩, by simp [intOf]; omega⟩
      · rw [Below.heap_setCell _ _ _ _ hne, ha j hne]
      · by_cases hik : i = o + k
        · rw [if_pos hik, if_pos (by omega)]
        · rw [if_neg hik]
          by_cases hin : o ≤ i ∧ i < o + k
          · rw [if_pos hin, if_pos (by omega)]
          · rw [if_neg hin, if_neg (by omega)]
    · have hke : k = n := by omega
      subst hke
      go_wp2
      go_returns
      obtain ⟨hb, hs, ha⟩ := hh.out
      exact ⟨rfl, hb, hs, ha, hw.out⟩

theorem info4 : (Try.prog.info? 4).map (fun i => (i.zero, i.size, i.bytes)) = some (some (.bool false), 1, 1) := by kernel_rfl

theorem make_bools (n : Nat) (hn : n ≤ 4000) (w : World) :
    (Instr.makeSlice 105 (.int .i64 (n : Int)) (.int .i64 (n : Int))).run Try.prog w = .ok (.slice (some ⟨w.heap.size, 0, none⟩) n n) (w.alloc (.cells (madeCells #[.bool false] n) 4)) :=
  run_make_row' 105 4 (.bool false) 1 Try.underlying105 info4 rfl .i64 .i64 n (by omega) (by omega) w

/-- a step's five cells. -/
def stAt (w : World) (b o : Nat) (s : Pl.St) : Prop :=
  w.cell? ⟨b, o, none⟩ = some (.int .i64 s.k) ∧ w.cell? ⟨b, o + 1, none⟩ = some (.int .i64 s.t) ∧ w.cell? ⟨b, o + 2, none⟩ = some (.int .i64 s.n) ∧ w.cell? ⟨b, o + 3, none⟩ = some (.string s.d) ∧ w.cell? ⟨b, o + 4, none⟩ = some (.int .i64 s.f)

/-- a list of steps, one behind the other. -/
def stepsAt (w : World) (a : Option Addr) (b o : Nat) (st : List Pl.St) : Prop :=
  (st = [] ∨ a = some ⟨b, o, none⟩) ∧ b < w.heap.size ∧ ∀ i s, st[i]? = some s → stAt w b (o + i * 5) s

theorem stAt_below {w w' : World} {B b o : Nat} {s : Pl.St} (h : stAt w b o s) (hb : Below B w w') (hB : b < B) : stAt w' b o s := by
  obtain ⟨h0, h1, h2, h3, h4⟩ := h
  exact ⟨by rw [hb.cell hB, h0], by rw [hb.cell hB, h1], by rw [hb.cell hB, h2], by rw [hb.cell hB, h3], by rw [hb.cell hB, h4]⟩

theorem stepsAt_below {w w' : World} {B b o : Nat} {a : Option Addr} {st : List Pl.St} (h : stepsAt w a b o st) (hb : Below B w w') (hB : b < B) : stepsAt w' a b o st :=
  ⟨h.1, Nat.lt_of_lt_of_le h.2.1 hb.size, fun i s hs => stAt_below (h.2.2 i s hs) hb hB⟩

end Go.Proofs.Ytjjmcnippjpclaa

namespace Go.Proofs.Ytjjmcnippjpclaa

open Go.RowKit

set_option maxRecDepth 100000 in
set_option maxHeartbeats 2000000 in
theorem mayBe_any (ol nl : Int) (os ns : ByteArray) (a : Option Addr) (b o c : Nat) (st : List Pl.St) (w : World) (hm : st.length ≤ 4611686018427387904) (hst : Hid (stepsAt w a b o st)) :
    Calls Try.prog 38 #[.agg #[.int .i64 ol, .int .i64 nl, .string os, .string ns, .slice a st.length c]] w fun e w' => e = .returned (.bool (Pl.full ol nl os ns st)) ∧ Below w.heap.size w w' := by
  have H0 : Hid (¬ ((0 ≤ ol ∧ ol ≤ 4000) ∧ (0 ≤ nl ∧ nl ≤ 4000) ∧ os.size = 4 ∧ ns.size = 4 ∧ st.length ≤ 2000) → Pl.full ol nl os ns st = false) := Pl.full_no
  have H1 : Hid ((0 ≤ ol ∧ ol ≤ 4000) → (0 ≤ nl ∧ nl ≤ 4000) → os.size = 4 → ns.size = 4 → st.length ≤ 2000 → Pl.full ol nl os ns st = Pl.form ol nl (st.take 0) (st.drop 0)) := Pl.full_yes
  generalize Pl.full ol nl os ns st = R at *
  go_enter Try.func38, Try.ntmps38
  go_wp2_with fail
  refine (isLength_any _ _).mono ?_
  rintro e v ⟨rfl, rfl⟩
  by_cases h1 : 0 ≤ ol ∧ ol ≤ 4000
  · rw [decide_eq_true h1]
    go_wp2_with fail
    refine (isLength_any _ _).mono ?_
    rintro e v ⟨rfl, rfl⟩
    by_cases h2 : 0 ≤ nl ∧ nl ≤ 4000
    · rw [decide_eq_true h2]
      by_cases h3 : os.size = 4
      · by_cases h4 : ns.size = 4
        · by_cases h5 : st.length ≤ 2000
          · obtain ⟨N, rfl⟩ := Int.eq_ofNat_of_zero_le h2.1
            have hmk := make_bools N (by omega)
            have hfull : Hid (R = Pl.form ol N (st.take 0) (st.drop 0)) := H1.out h1 h2 h3 h4 h5
            clear H0 H1
            go_wp2_with fail
            go_loopw [4, 41] (fun u i wr => ∃ k A : Nat, k ≤ st.length ∧ i = .int .i64 k ∧ u = .int .i64 A ∧ A ≤ 4000 * k ∧ Hid (Pl.total (st.take k) = A) ∧ Hid (∀ s ∈ st.take k, Pl.ok ol N s = true) ∧ Hid (R = Pl.form ol N (st.take k) (st.drop k)) ∧ Hid (wr.rowIs (w.heap.size + 1) 4 N (fun i => .bool (Pl.cov (st.take k) i))) ∧ Hid (Below (w.heap.size + 1) (w.alloc (Obj.cells #[.int .i64 ol, .int .i64 N, .string os, .string ns, .slice a st.length c] 31)) wr)) (fun _ i _ => st.length - (intOf i).toNat)
            case atStart =>
              refine ⟨0, 0, Nat.zero_le _, rfl, rfl, Nat.zero_le _, by simp [Hid, Pl.total], by simp [Hid], hfull, ?_, ?_⟩
              · have := World.rowIs_made (w.alloc (Obj.cells #[.int .i64 ol, .int .i64 N, .string os, .string ns, .slice a st.length c] 31)) (.bool false) N 4
                rw [World.size_alloc] at this
                exact this.congr fun i _ => by rw [List.take_zero, Pl.cov_nil]
              · show Below _ _ _
                exact (Below.refl _ _).alloc (by simp) _
            case round =>
              obtain ⟨k, A, hk, rfl, rfl, hA4, hA, hall, hfo, hrow, hbel⟩ := hrel
              by_cases hlt : k < st.length
              · obtain ⟨s, hs⟩ : ∃ s, st[k]? = some s := ⟨st[k], List.getElem?_eq_getElem hlt⟩
                have ha : a = some ⟨b, o, none⟩ := by
                  rcases hst.out.1 with h | h
                  · rw [h] at hlt; exact absurd hlt (Nat.not_lt_zero _)
                  · exact h
                subst ha
                obtain ⟨c0, c1, c2, c3, c4⟩ := stAt_below (stAt_below (hst.out.2.2 k s hs) ((Below.refl w.heap.size w).alloc (Nat.le_refl _) (Obj.cells #[.int .i64 ol, .int .i64 N, .string os, .string ns, .slice (some ⟨b, o, none⟩) st.length c] 31)) hst.out.2.1) hbel.out (Nat.lt_succ_of_lt hst.out.2.1)
                have p0 : wr.cell? ⟨w.heap.size, 0, none⟩ = some (.int .i64 ol) := by rw [hbel.out.cell (Nat.lt_succ_self _)]; simp [go_sem]
                have p1 : wr.cell? ⟨w.heap.size, 1, none⟩ = some (.int .i64 N) := by rw [hbel.out.cell (Nat.lt_succ_self _)]; simp [go_sem]
                have p2 : wr.cell? ⟨w.heap.size, 2, none⟩ = some (.string os) := by rw [hbel.out.cell (Nat.lt_succ_self _)]; simp [go_sem]
                have p3 : wr.cell? ⟨w.heap.size, 3, none⟩ = some (.string ns) := by rw [hbel.out.cell (Nat.lt_succ_self _)]; simp [go_sem]
                have p4 : wr.cell? ⟨w.heap.size, 4, none⟩ = some (.slice (some ⟨b, o, none⟩) st.length c) := by rw [hbel.out.cell (Nat.lt_succ_self _)]; simp [go_sem]
                have hsz : w.heap.size + 1 < wr.heap.size := hrow.out.lt
                have q : ∀ (ob : Obj) (j : Nat), (wr.alloc ob).cell? ⟨w.heap.size, j, none⟩ = wr.cell? ⟨w.heap.size, j, none⟩ := fun ob j => World.cell?_of_block (Below.heap_alloc wr ob _ (by simp; omega))
                go_wp2_with fail
                refine (stepMayBe_any s.k s.t s.n s.f s.d ol N os ns _ _ h1 h2).mono ?_
                rintro e v1 ⟨rfl, bv⟩
                have e1 : v1.cell? ⟨wr.heap.size, 1, none⟩ = some (.int .i64 s.t) := by rw [bv.cell (by simp)]; simp [go_sem]
                have e2 : v1.cell? ⟨wr.heap.size, 2, none⟩ = some (.int .i64 s.n) := by rw [bv.cell (by simp)]; simp [go_sem]
                have hrow1 : Hid (v1.rowIs (w.heap.size + 1) 4 N fun i => Value.bool (Pl.cov (List.take k st) ↑i)) := (hrow.out.alloc _).of_block (bv.block _ (by simp; omega))
                have hbel1 : Hid (Below (w.heap.size + 1) (w.alloc (Obj.cells #[.int .i64 ol, .int .i64 N, .string os, .string ns, .slice (some ⟨b, o, none⟩) st.length c] 31)) v1) := (hbel.out.alloc (by omega) _).trans (bv.mono (by simp; omega))
                have hsz1 : wr.heap.size < v1.heap.size := by have := bv.size; simp at this; omega
                have hok : Hid (Pl.ok ol N (s.k, s.t, s.n, s.d, s.f) = Pl.ok ol N s) := rfl
                have hform : Hid (R = (Pl.ok ol N s && Pl.free s.t s.n (st.take k) && Pl.form ol N (st.take (k + 1)) (st.drop (k + 1)))) := hfo.out.trans (Pl.form_at hs)
                cases hokv : Pl.ok ol N (s.k, s.t, s.n, s.d, s.f)
                · have hR : R = false := by rw [hform.out, ← hok.out, hokv]; rfl
                  clear hokv hok p0 p1 p2 p3 p4 q c0 c1 c2 c3 c4
                  go_wp2_with fail
                  go_ret
                  refine ⟨by rw [hR]; rfl, ?_⟩
                  exact ((Below.refl w.heap.size w).alloc (Nat.le_refl _) _).trans (hbel1.out.mono (by omega))
                · have hpos := Pl.ok_pos (hok.out.symm.trans hokv)
                  have hoks : Hid (Pl.ok ol N s = true) := hok.out.symm.trans hokv
                  clear hokv hok p0 p1 p2 p3 p4 q c0 c1 c2 c3 c4
                  obtain ⟨T, hT⟩ := Int.eq_ofNat_of_zero_le hpos.2.1
                  obtain ⟨M, hM⟩ := Int.eq_ofNat_of_zero_le (show 0 ≤ s.n by omega)
                  have hall1 : Hid (∀ s ∈ st.take (k + 1), Pl.ok ol N s = true) := Pl.mem_take_succ hs hall.out hoks.out
                  have hfr : Hid (((List.range M).any fun i => Pl.cov (st.take k) ((T + i : Nat) : Int)) = !Pl.free s.t s.n (st.take k)) := by
                    show _ = _
                    rw [hT, hM]
                    exact Pl.any_cov T M _ (by omega) fun x hx => (Pl.ok_pos (hall.out x hx)).1
                  have hcov : Hid (∀ i : Nat, Pl.cov (st.take (k + 1)) i = (Pl.cov (st.take k) i || decide (T ≤ i ∧ i < T + M))) := by
                    intro i
                    rw [Pl.take_at hs, Pl.cov_snoc, hT, hM]
                    congr 1
                    exact decide_eq_decide.mpr (by omega)
                  have hA1 : Hid (Pl.total (st.take (k + 1)) = ((A + M : Nat) : Int)) := by
                    show _ = _
                    rw [Pl.take_at hs, Pl.total_snoc, hA.out, hM]; omega
                  have hR : Hid (R = (Pl.free s.t s.n (st.take k) && Pl.form ol N (st.take (k + 1)) (st.drop (k + 1)))) := by
                    show _ = _
                    rw [hform.out, hoks.out]; rfl
                  rw [hT] at e1
                  rw [hM] at e2
                  have hTM : T + M ≤ N := by omega
                  have hM1 : 1 ≤ M := by omega
                  have hN : N ≤ 4000 := by omega
                  clear hpos
                  go_wp2_with fail
                  refine (anyOf_any (w.heap.size + 1) T M (N - T) (fun i => Pl.cov (st.take k) i) v1 (by omega) (fun i hi => hrow1.out.cell (by omega))).mono ?_
                  rintro e v2 ⟨rfl, rfl⟩
                  rw [hfr.out]
                  cases hfree : Pl.free s.t s.n (st.take k)
                  · have hR0 : R = false := by rw [hR.out, hfree]; rfl
                    go_wp2_with fail
                    go_ret
                    refine ⟨by rw [hR0]; rfl, ?_⟩
                    exact ((Below.refl w.heap.size w).alloc (Nat.le_refl _) _).trans (hbel1.out.mono (by omega))
                  · have hR1 : Hid (R = Pl.form ol N (st.take (k + 1)) (st.drop (k + 1))) := by
                      show _ = _
                      rw [hR.out, hfree]; rfl
                    go_wp2_with fail
                    refine (setAll_any (w.heap.size + 1) T M (N - T) N 4 _ _ (by omega) hTM hrow1).mono ?_
                    rintro e v3 ⟨rfl, bb, hsz3, hoth, hrow3⟩
                    have e3 : v3.cell? ⟨wr.heap.size, 2, none⟩ = some (.int .i64 M) := by rw [World.cell?_of_block (hoth _ (by simp; omega)), e2]
                    have hrow4 : Hid (v3.rowIs (w.heap.size + 1) 4 N (fun i => .bool (Pl.cov (st.take (k + 1)) i))) := hrow3.congr fun i _ => by
                      rw [hcov.out i]
                      by_cases hin : T ≤ i ∧ i < T + M
                      · rw [if_pos hin, decide_eq_true hin, Bool.or_true]
                      · rw [if_neg hin, decide_eq_false hin, Bool.or_false]
                    have hbel3 : Hid (Below (w.heap.size + 1) (w.alloc (Obj.cells #[.int .i64 ol, .int .i64 N, .string os, .string ns, .slice (some ⟨b, o, none⟩) st.length c] 31)) v3) := hbel1.out.trans bb
                    clear hrow3 hoth bb
                    go_wp2_with fail
                    exact ⟨⟨k + 1, A + M, by omega, by go_num, by go_num, by omega, hA1, hall1, hR1, hrow4, hbel3⟩, by simp [intOf]; omega⟩
              · have hke : k = st.length := by omega
                subst hke
                have p1 : wr.cell? ⟨w.heap.size, 1, none⟩ = some (.int .i64 N) := by rw [hbel.out.cell (Nat.lt_succ_self _)]; simp [go_sem]
                have hR : Hid (R = decide ((A : Int) = N)) := by
                  show _ = _
                  have e := hA.out
                  rw [List.take_length] at e
                  rw [hfo.out, Pl.form_end, e]
                go_wp2_with fail
                go_ret
                refine ⟨by rw [hR.out]; rfl, ?_⟩
                exact ((Below.refl w.heap.size w).alloc (Nat.le_refl _) _).trans (hbel.out.mono (by omega))
          · have h0 := H0.out (fun h => h5 h.2.2.2.2)
            go_wp2_with fail
            go_ret
            exact ⟨by rw [h0]; rfl, by go_grown⟩
        · have h0 := H0.out (fun h => h4 h.2.2.2.1)
          go_wp2_with fail
          go_ret
          exact ⟨by rw [h0]; rfl, by go_grown⟩
      · have h0 := H0.out (fun h => h3 h.2.2.1)
        go_wp2_with fail
        go_ret
        exact ⟨by rw [h0]; rfl, by go_grown⟩
    · rw [decide_eq_false h2]
      have h0 := H0.out (fun h => h2 h.2.1)
      go_wp2_with fail
      go_ret
      exact ⟨by rw [h0]; rfl, by go_grown⟩
  · rw [decide_eq_false h1]
    have h0 := H0.out (fun h => h1 h.1)
    go_wp2_with fail
    go_ret
    exact ⟨by rw [h0]; rfl, by go_grown⟩

end Go.Proofs.Ytjjmcnippjpclaa

namespace Go.Proofs.Ytjjmcnippjpclaa

open Go.RowKit

set_option maxRecDepth 100000 in
set_option maxHeartbeats 4000000 in
theorem inOrder_any (OL NL : Nat) (os ns : ByteArray) (a : Option Addr) (b o c : Nat) (st : List Pl.St) (w : World) (hO : OL ≤ 4000) (hN : NL ≤ 4000) (hm : st.length ≤ 2000) (hst : Hid (stepsAt w a b o st)) (hok : Hid (∀ s ∈ st, Pl.ok OL NL s = true)) :
    Calls Try.prog 39 #[.agg #[.int .i64 OL, .int .i64 NL, .string os, .string ns, .slice a st.length c]] w fun e w' => e = .returned (.bool (Pl.ord [] st)) ∧ Below w.heap.size w w' := by
  have hfull : Hid (Pl.ord [] st = Pl.ord (st.take 0) (st.drop 0)) := rfl
  generalize Pl.ord [] st = R at *
  by_cases hmax : OL < NL
  · have hmk := make_bools NL hN
    go_enter Try.func39, Try.ntmps39
    go_wp2_with fail
    go_loopw [15] (fun i wr => ∃ k : Nat, k ≤ st.length ∧ i = .int .i64 k ∧ Hid (R = Pl.ord (st.take k) (st.drop k)) ∧ Hid (wr.rowIs (w.heap.size + 1) 4 NL (fun i => .bool (Pl.cov (st.take k) i))) ∧ Hid (Below (w.heap.size + 1) (w.alloc (Obj.cells #[.int .i64 OL, .int .i64 NL, .string os, .string ns, .slice a st.length c] 31)) wr)) (fun i _ => st.length - (intOf i).toNat)
    case atStart =>
      refine ⟨0, Nat.zero_le _, rfl, hfull, ?_, ?_⟩
      · have := World.rowIs_made (w.alloc (Obj.cells #[.int .i64 OL, .int .i64 NL, .string os, .string ns, .slice a st.length c] 31)) (.bool false) NL 4
        rw [World.size_alloc] at this
        exact this.congr fun i _ => by rw [List.take_zero, Pl.cov_nil]
      · show Below _ _ _
        exact (Below.refl _ _).alloc (by simp) _
    case round =>
      obtain ⟨k, hk, rfl, hfo, hrow, hbel⟩ := hrel
      by_cases hlt : k < st.length
      · obtain ⟨s, hs⟩ : ∃ s, st[k]? = some s := ⟨st[k], List.getElem?_eq_getElem hlt⟩
        have ha : a = some ⟨b, o, none⟩ := by
          rcases hst.out.1 with h | h
          · rw [h] at hlt; exact absurd hlt (Nat.not_lt_zero _)
          · exact h
        subst ha
        have hoks : Hid (Pl.ok OL NL s = true) := hok.out s (List.mem_of_getElem? hs)
        have hpos := Pl.ok_pos hoks.out
        obtain ⟨T, hT⟩ := Int.eq_ofNat_of_zero_le hpos.2.1
        obtain ⟨M, hM⟩ := Int.eq_ofNat_of_zero_le (show 0 ≤ s.n by omega)
        have hTM : T + M ≤ NL := by omega
        have hM1 : 1 ≤ M := by omega
        obtain ⟨c0, c1, c2, c3, c4⟩ := stAt_below (stAt_below (hst.out.2.2 k s hs) ((Below.refl w.heap.size w).alloc (Nat.le_refl _) (Obj.cells #[.int .i64 OL, .int .i64 NL, .string os, .string ns, .slice (some ⟨b, o, none⟩) st.length c] 31)) hst.out.2.1) hbel.out (Nat.lt_succ_of_lt hst.out.2.1)
        have hsz : w.heap.size + 1 < wr.heap.size := hrow.out.lt
        have hcov : Hid (∀ i : Nat, Pl.cov (st.take (k + 1)) i = (Pl.cov (st.take k) i || decide (T ≤ i ∧ i < T + M))) := by
          intro i
          rw [Pl.take_at hs, Pl.cov_snoc, hT, hM]
          congr 1
          exact decide_eq_decide.mpr (by omega)
        have hform : Hid (R = ((!decide (s.k = 3) || Pl.free s.f s.n (st.take k)) && Pl.ord (st.take (k + 1)) (st.drop (k + 1)))) := hfo.out.trans (Pl.ord_at hs)
        have hall : Hid (∀ s ∈ st.take k, Pl.ok OL NL s = true) := fun x hx => hok.out x (List.mem_of_mem_take hx)
        rw [hT] at c1
        rw [hM] at c2
        have hset : Hid (∀ v1 : World, Below (wr.heap.size + 1) (wr.alloc (Obj.cells #[.int .i64 s.k, .int .i64 T, .int .i64 M, .string s.d, .int .i64 s.f] 40)) v1 → v1.rowIs (w.heap.size + 1) 4 NL (fun i => .bool (Pl.cov (st.take k) i)) ∧ Below (w.heap.size + 1) (w.alloc (Obj.cells #[.int .i64 OL, .int .i64 NL, .string os, .string ns, .slice (some ⟨b, o, none⟩) st.length c] 31)) v1) :=
          fun v1 bv => ⟨(hrow.out.alloc _).of_block (bv.block _ (by omega)), (hbel.out.alloc (by omega) _).trans (bv.mono (by omega))⟩
        have hsa := hset.out _ (Below.refl _ _)
        have hrow1 : Hid ((wr.alloc (Obj.cells #[.int .i64 s.k, .int .i64 T, .int .i64 M, .string s.d, .int .i64 s.f] 40)).rowIs (w.heap.size + 1) 4 NL (fun i => .bool (Pl.cov (st.take k) i))) := hsa.1
        have hbel1 : Hid (Below (w.heap.size + 1) (w.alloc (Obj.cells #[.int .i64 OL, .int .i64 NL, .string os, .string ns, .slice (some ⟨b, o, none⟩) st.length c] 31)) (wr.alloc (Obj.cells #[.int .i64 s.k, .int .i64 T, .int .i64 M, .string s.d, .int .i64 s.f] 40))) := hsa.2
        clear hset hsa hrow hbel
        have hsetall : Hid (∀ e v3, (e = Ending.returned (.tuple #[]) ∧ Below (w.heap.size + 1) (wr.alloc (Obj.cells #[.int .i64 s.k, .int .i64 T, .int .i64 M, .string s.d, .int .i64 s.f] 40)) v3 ∧ v3.heap.size = (wr.alloc (Obj.cells #[.int .i64 s.k, .int .i64 T, .int .i64 M, .string s.d, .int .i64 s.f] 40)).heap.size ∧ (∀ k, k ≠ w.heap.size + 1 → v3.heap[k]? = (wr.alloc (Obj.cells #[.int .i64 s.k, .int .i64 T, .int .i64 M, .string s.d, .int .i64 s.f] 40)).heap[k]?) ∧ v3.rowIs (w.heap.size + 1) 4 NL (fun i => if T ≤ i ∧ i < T + M then .bool true else .bool (Pl.cov (st.take k) i))) → e = Ending.returned (.tuple #[]) ∧ Hid (v3.rowIs (w.heap.size + 1) 4 NL (fun i => .bool (Pl.cov (st.take (k + 1)) i))) ∧ Hid (Below (w.heap.size + 1) (w.alloc (Obj.cells #[.int .i64 OL, .int .i64 NL, .string os, .string ns, .slice (some ⟨b, o, none⟩) st.length c] 31)) v3)) := by
          rintro e v3 ⟨he, bb, _, _, hrow3⟩
          refine ⟨he, hrow3.congr fun i _ => ?_, hbel1.out.trans bb⟩
          rw [hcov.out i]
          by_cases hin : T ≤ i ∧ i < T + M
          · rw [if_pos hin, decide_eq_true hin, Bool.or_true]
          · rw [if_neg hin, decide_eq_false hin, Bool.or_false]
        by_cases hk3 : s.k = 3
        · have hfr0 := Pl.ok_from hoks.out hk3
          obtain ⟨F, hF⟩ := Int.eq_ofNat_of_zero_le hfr0.1
          have hFM : F + M ≤ OL := by omega
          have hfr : Hid (((List.range M).any fun i => Pl.cov (st.take k) ((F + i : Nat) : Int)) = !Pl.free s.f s.n (st.take k)) := by
            show _ = _
            rw [hF, hM]
            exact Pl.any_cov F M _ (by omega) fun x hx => (Pl.ok_pos (hall.out x hx)).1
          have hR : Hid (R = (Pl.free s.f s.n (st.take k) && Pl.ord (st.take (k + 1)) (st.drop (k + 1)))) := by
            show _ = _
            rw [hform.out, decide_eq_true hk3]; rfl
          rw [hF] at c4 hrow1 hbel1 hsetall
          rw [hk3] at c0 hrow1 hbel1 hsetall
          clear hpos hfr0
          go_wp2_with fail
          refine (anyOf_any (w.heap.size + 1) F M (NL - F) (fun i => Pl.cov (st.take k) i) _ (by omega) (fun i hi => hrow1.out.cell (by omega))).mono ?_
          rintro e v2 ⟨rfl, rfl⟩
          rw [hfr.out]
          cases hfree : Pl.free s.f s.n (st.take k)
          · have hR0 : R = false := by rw [hR.out, hfree]; rfl
            go_wp2_with fail
            go_ret
            refine ⟨by rw [hR0]; rfl, ?_⟩
            exact ((Below.refl w.heap.size w).alloc (Nat.le_refl _) _).trans (hbel1.out.mono (by omega))
          · have hR1 : Hid (R = Pl.ord (st.take (k + 1)) (st.drop (k + 1))) := by
              show _ = _
              rw [hR.out, hfree]; rfl
            go_wp2_with fail
            refine (setAll_any (w.heap.size + 1) T M (NL - T) NL 4 _ _ (by omega) (by omega) hrow1).mono ?_
            intro e v3 hv3
            obtain ⟨rfl, hrow4, hbel3⟩ := hsetall.out e v3 hv3
            clear hv3
            go_wp2_with fail
            exact ⟨⟨k + 1, by omega, by go_num, hR1, hrow4, hbel3⟩, by simp [intOf]; omega⟩
        · have hR1 : Hid (R = Pl.ord (st.take (k + 1)) (st.drop (k + 1))) := by
            show _ = _
            rw [hform.out, decide_eq_false hk3]; rfl
          clear hpos
          go_wp2_with fail
          refine (setAll_any (w.heap.size + 1) T M (NL - T) NL 4 _ _ (by omega) (by omega) hrow1).mono ?_
          intro e v3 hv3
          obtain ⟨rfl, hrow4, hbel3⟩ := hsetall.out e v3 hv3
          clear hv3
          go_wp2_with fail
          exact ⟨⟨k + 1, by omega, by go_num, hR1, hrow4, hbel3⟩, by simp [intOf]; omega⟩
      · have hke : k = st.length := by omega
        subst hke
        have hR : Hid (R = true) := by
          show _ = _
          rw [hfo.out, Pl.ord_end]
        go_wp2_with fail
        go_ret
        refine ⟨by rw [hR.out]; rfl, ?_⟩
        exact ((Below.refl w.heap.size w).alloc (Nat.le_refl _) _).trans (hbel.out.mono (by omega))
  · have hmk := make_bools OL hO
    go_enter Try.func39, Try.ntmps39
    go_wp2_with fail
    go_loopw [15] (fun i wr => ∃ k : Nat, k ≤ st.length ∧ i = .int .i64 k ∧ Hid (R = Pl.ord (st.take k) (st.drop k)) ∧ Hid (wr.rowIs (w.heap.size + 1) 4 OL (fun i => .bool (Pl.cov (st.take k) i))) ∧ Hid (Below (w.heap.size + 1) (w.alloc (Obj.cells #[.int .i64 OL, .int .i64 NL, .string os, .string ns, .slice a st.length c] 31)) wr)) (fun i _ => st.length - (intOf i).toNat)
    case atStart =>
      refine ⟨0, Nat.zero_le _, rfl, hfull, ?_, ?_⟩
      · have := World.rowIs_made (w.alloc (Obj.cells #[.int .i64 OL, .int .i64 NL, .string os, .string ns, .slice a st.length c] 31)) (.bool false) OL 4
        rw [World.size_alloc] at this
        exact this.congr fun i _ => by rw [List.take_zero, Pl.cov_nil]
      · show Below _ _ _
        exact (Below.refl _ _).alloc (by simp) _
    case round =>
      obtain ⟨k, hk, rfl, hfo, hrow, hbel⟩ := hrel
      by_cases hlt : k < st.length
      · obtain ⟨s, hs⟩ : ∃ s, st[k]? = some s := ⟨st[k], List.getElem?_eq_getElem hlt⟩
        have ha : a = some ⟨b, o, none⟩ := by
          rcases hst.out.1 with h | h
          · rw [h] at hlt; exact absurd hlt (Nat.not_lt_zero _)
          · exact h
        subst ha
        have hoks : Hid (Pl.ok OL NL s = true) := hok.out s (List.mem_of_getElem? hs)
        have hpos := Pl.ok_pos hoks.out
        obtain ⟨T, hT⟩ := Int.eq_ofNat_of_zero_le hpos.2.1
        obtain ⟨M, hM⟩ := Int.eq_ofNat_of_zero_le (show 0 ≤ s.n by omega)
        have hTM : T + M ≤ NL := by omega
        have hM1 : 1 ≤ M := by omega
        obtain ⟨c0, c1, c2, c3, c4⟩ := stAt_below (stAt_below (hst.out.2.2 k s hs) ((Below.refl w.heap.size w).alloc (Nat.le_refl _) (Obj.cells #[.int .i64 OL, .int .i64 NL, .string os, .string ns, .slice (some ⟨b, o, none⟩) st.length c] 31)) hst.out.2.1) hbel.out (Nat.lt_succ_of_lt hst.out.2.1)
        have hsz : w.heap.size + 1 < wr.heap.size := hrow.out.lt
        have hcov : Hid (∀ i : Nat, Pl.cov (st.take (k + 1)) i = (Pl.cov (st.take k) i || decide (T ≤ i ∧ i < T + M))) := by
          intro i
          rw [Pl.take_at hs, Pl.cov_snoc, hT, hM]
          congr 1
          exact decide_eq_decide.mpr (by omega)
        have hform : Hid (R = ((!decide (s.k = 3) || Pl.free s.f s.n (st.take k)) && Pl.ord (st.take (k + 1)) (st.drop (k + 1)))) := hfo.out.trans (Pl.ord_at hs)
        have hall : Hid (∀ s ∈ st.take k, Pl.ok OL NL s = true) := fun x hx => hok.out x (List.mem_of_mem_take hx)
        rw [hT] at c1
        rw [hM] at c2
        have hset : Hid (∀ v1 : World, Below (wr.heap.size + 1) (wr.alloc (Obj.cells #[.int .i64 s.k, .int .i64 T, .int .i64 M, .string s.d, .int .i64 s.f] 40)) v1 → v1.rowIs (w.heap.size + 1) 4 OL (fun i => .bool (Pl.cov (st.take k) i)) ∧ Below (w.heap.size + 1) (w.alloc (Obj.cells #[.int .i64 OL, .int .i64 NL, .string os, .string ns, .slice (some ⟨b, o, none⟩) st.length c] 31)) v1) :=
          fun v1 bv => ⟨(hrow.out.alloc _).of_block (bv.block _ (by omega)), (hbel.out.alloc (by omega) _).trans (bv.mono (by omega))⟩
        have hsa := hset.out _ (Below.refl _ _)
        have hrow1 : Hid ((wr.alloc (Obj.cells #[.int .i64 s.k, .int .i64 T, .int .i64 M, .string s.d, .int .i64 s.f] 40)).rowIs (w.heap.size + 1) 4 OL (fun i => .bool (Pl.cov (st.take k) i))) := hsa.1
        have hbel1 : Hid (Below (w.heap.size + 1) (w.alloc (Obj.cells #[.int .i64 OL, .int .i64 NL, .string os, .string ns, .slice (some ⟨b, o, none⟩) st.length c] 31)) (wr.alloc (Obj.cells #[.int .i64 s.k, .int .i64 T, .int .i64 M, .string s.d, .int .i64 s.f] 40))) := hsa.2
        clear hset hsa hrow hbel
        have hsetall : Hid (∀ e v3, (e = Ending.returned (.tuple #[]) ∧ Below (w.heap.size + 1) (wr.alloc (Obj.cells #[.int .i64 s.k, .int .i64 T, .int .i64 M, .string s.d, .int .i64 s.f] 40)) v3 ∧ v3.heap.size = (wr.alloc (Obj.cells #[.int .i64 s.k, .int .i64 T, .int .i64 M, .string s.d, .int .i64 s.f] 40)).heap.size ∧ (∀ k, k ≠ w.heap.size + 1 → v3.heap[k]? = (wr.alloc (Obj.cells #[.int .i64 s.k, .int .i64 T, .int .i64 M, .string s.d, .int .i64 s.f] 40)).heap[k]?) ∧ v3.rowIs (w.heap.size + 1) 4 OL (fun i => if T ≤ i ∧ i < T + M then .bool true else .bool (Pl.cov (st.take k) i))) → e = Ending.returned (.tuple #[]) ∧ Hid (v3.rowIs (w.heap.size + 1) 4 OL (fun i => .bool (Pl.cov (st.take (k + 1)) i))) ∧ Hid (Below (w.heap.size + 1) (w.alloc (Obj.cells #[.int .i64 OL, .int .i64 NL, .string os, .string ns, .slice (some ⟨b, o, none⟩) st.length c] 31)) v3)) := by
          rintro e v3 ⟨he, bb, _, _, hrow3⟩
          refine ⟨he, hrow3.congr fun i _ => ?_, hbel1.out.trans bb⟩
          rw [hcov.out i]
          by_cases hin : T ≤ i ∧ i < T + M
          · rw [if_pos hin, decide_eq_true hin, Bool.or_true]
          · rw [if_neg hin, decide_eq_false hin, Bool.or_false]
        by_cases hk3 : s.k = 3
        · have hfr0 := Pl.ok_from hoks.out hk3
          obtain ⟨F, hF⟩ := Int.eq_ofNat_of_zero_le hfr0.1
          have hFM : F + M ≤ OL := by omega
          have hfr : Hid (((List.range M).any fun i => Pl.cov (st.take k) ((F + i : Nat) : Int)) = !Pl.free s.f s.n (st.take k)) := by
            show _ = _
            rw [hF, hM]
            exact Pl.any_cov F M _ (by omega) fun x hx => (Pl.ok_pos (hall.out x hx)).1
          have hR : Hid (R = (Pl.free s.f s.n (st.take k) && Pl.ord (st.take (k + 1)) (st.drop (k + 1)))) := by
            show _ = _
            rw [hform.out, decide_eq_true hk3]; rfl
          rw [hF] at c4 hrow1 hbel1 hsetall
          rw [hk3] at c0 hrow1 hbel1 hsetall
          clear hpos hfr0
          go_wp2_with fail
          refine (anyOf_any (w.heap.size + 1) F M (OL - F) (fun i => Pl.cov (st.take k) i) _ (by omega) (fun i hi => hrow1.out.cell (by omega))).mono ?_
          rintro e v2 ⟨rfl, rfl⟩
          rw [hfr.out]
          cases hfree : Pl.free s.f s.n (st.take k)
          · have hR0 : R = false := by rw [hR.out, hfree]; rfl
            go_wp2_with fail
            go_ret
            refine ⟨by rw [hR0]; rfl, ?_⟩
            exact ((Below.refl w.heap.size w).alloc (Nat.le_refl _) _).trans (hbel1.out.mono (by omega))
          · have hR1 : Hid (R = Pl.ord (st.take (k + 1)) (st.drop (k + 1))) := by
              show _ = _
              rw [hR.out, hfree]; rfl
            go_wp2_with fail
            refine (setAll_any (w.heap.size + 1) T M (OL - T) OL 4 _ _ (by omega) (by omega) hrow1).mono ?_
            intro e v3 hv3
            obtain ⟨rfl, hrow4, hbel3⟩ := hsetall.out e v3 hv3
            clear hv3
            go_wp2_with fail
            exact ⟨⟨k + 1, by omega, by go_num, hR1, hrow4, hbel3⟩, by simp [intOf]; omega⟩
        · have hR1 : Hid (R = Pl.ord (st.take (k + 1)) (st.drop (k + 1))) := by
            show _ = _
            rw [hform.out, decide_eq_false hk3]; rfl
          clear hpos
          go_wp2_with fail
          refine (setAll_any (w.heap.size + 1) T M (OL - T) OL 4 _ _ (by omega) (by omega) hrow1).mono ?_
          intro e v3 hv3
          obtain ⟨rfl, hrow4, hbel3⟩ := hsetall.out e v3 hv3
          clear hv3
          go_wp2_with fail
          exact ⟨⟨k + 1, by omega, by go_num, hR1, hrow4, hbel3⟩, by simp [intOf]; omega⟩
      · have hke : k = st.length := by omega
        subst hke
        have hR : Hid (R = true) := by
          show _ = _
          rw [hfo.out, Pl.ord_end]
        go_wp2_with fail
        go_ret
        refine ⟨by rw [hR.out]; rfl, ?_⟩
        exact ((Below.refl w.heap.size w).alloc (Nat.le_refl _) _).trans (hbel.out.mono (by omega))

end Go.Proofs.Ytjjmcnippjpclaa
