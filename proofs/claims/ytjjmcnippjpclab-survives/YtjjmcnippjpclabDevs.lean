/-
  The walks of a device's calls that move no bytes of the text: does it work, its length, its log, how long it lives.
-/
import Derived.Test.YtjjmcnippjpclabDevPlain
import Derived.Test.YtjjmcnippjpclabReader
namespace Go.Proofs.Ytjjmcnippjpclab

open Go.RowKit

/-- a row of bytes. -/
def rowOf (w : World) (v : Value) (l : List UInt8) : Prop := w.ownsRow 0 5 1 v l.length (Lib.byteCells l)

theorem rowOf.of_block {w w' : World} {v : Value} {l : List UInt8} (h : rowOf w v l) (hk : ∀ k, v.ownBlock = some k → w'.heap[k]? = w.heap[k]?) : rowOf w' v l := by
  obtain ⟨h1, h2⟩ := h
  refine ⟨h1, ?_⟩
  rcases h2 with h2 | ⟨g, cap, cur, rfl, hb, hg, rest⟩
  · exact .inl h2
  · exact .inr ⟨g, cap, cur, rfl, hb, by rw [hk g rfl]; exact hg, rest⟩

theorem rowOf.lt {w : World} {v : Value} {l : List UInt8} (h : rowOf w v l) {k : Nat} (hk : v.ownBlock = some k) : k < w.heap.size := (World.ownsRow.lt h k hk).2

/-- what a call of a device's leaves as it was: all but the device, its text and what is sure of it. -/
structure kept3 (D : Nat) (T S : Option Nat) (w w' : World) : Prop where
  os : w'.os = w.os
  tape : w'.tape = w.tape
  output : w'.output = w.output
  size : w.heap.size ≤ w'.heap.size
  block : ∀ k, k < w.heap.size → k ≠ D → some k ≠ T → some k ≠ S → w'.heap[k]? = w.heap[k]?

theorem kept3.refl (D : Nat) (T S : Option Nat) (w : World) : kept3 D T S w w := ⟨rfl, rfl, rfl, Nat.le_refl _, fun _ _ _ _ _ => rfl⟩

theorem kept3.trans {D : Nat} {T S : Option Nat} {a b c : World} (h : kept3 D T S a b) (k : kept3 D T S b c) : kept3 D T S a c :=
  ⟨k.os.trans h.os, k.tape.trans h.tape, k.output.trans h.output, Nat.le_trans h.size k.size, fun i hi h1 h2 h3 => (k.block i (Nat.lt_of_lt_of_le hi h.size) h1 h2 h3).trans (h.block i hi h1 h2 h3)⟩

theorem kept3.of_below {D : Nat} {T S : Option Nat} {a b : World} (h : Below a.heap.size a b) : kept3 D T S a b :=
  ⟨h.os, h.tape, h.output, h.size, fun i hi _ _ _ => h.block i hi⟩

theorem kept3.below {D : Nat} {T S : Option Nat} {a b : World} (h : kept3 D T S a b) {B : Nat} (hB : B ≤ a.heap.size) (hD : B ≤ D) (hT : ∀ k, T = some k → B ≤ k) (hS : ∀ k, S = some k → B ≤ k) : Below B a b :=
  ⟨h.os, h.tape, h.output, h.size, fun i hi => h.block i (Nat.lt_of_lt_of_le hi hB) (by omega) (fun e => by have := hT i e.symm; omega) (fun e => by have := hS i e.symm; omega)⟩

theorem kept3.drewN {D : Nat} {T S : Option Nat} {a b : World} (h : kept3 D T S a b) (n : Nat) : kept3 D T S a (b.drewN n) := ⟨h.os, h.tape, h.output, h.size, h.block⟩

theorem kept3.setD {D : Nat} {T S : Option Nat} {a b : World} (h : kept3 D T S a b) (i : Nat) (v : Value) : kept3 D T S a (b.setCell ⟨D, i, none⟩ v) :=
  ⟨h.os, h.tape, h.output, by simpa [World.setCell] using h.size, fun k hk h1 h2 h3 => by rw [Below.heap_setCell _ _ _ _ h1]; exact h.block k hk h1 h2 h3⟩

/-- a device in memory. -/
structure devAt (D : Nat) (tv sv : Value) (x : Dp.Dv) (w : World) : Prop where
  blk : w.heap[D]? = some (.cells #[tv, sv, .string ⟨x.log.toArray⟩, .int .i64 x.sure, .int .i64 x.life] 60 (0, 0))
  text : rowOf w tv x.text
  safe : rowOf w sv x.safe
  tD : tv.ownBlock ≠ some D
  sD : sv.ownBlock ≠ some D
  ts : ∀ k, tv.ownBlock = some k → sv.ownBlock ≠ some k

theorem devAt.lt {D : Nat} {tv sv : Value} {x : Dp.Dv} {w : World} (h : devAt D tv sv x w) : D < w.heap.size := (Array.getElem?_eq_some_iff.1 h.blk).1

/-- a device stands where its blocks stand. -/
theorem devAt.of_blocks {D : Nat} {tv sv : Value} {x : Dp.Dv} {w v : World} (h : devAt D tv sv x w) (hb : ∀ k, k < w.heap.size → k = D ∨ some k = tv.ownBlock ∨ some k = sv.ownBlock → v.heap[k]? = w.heap[k]?) : devAt D tv sv x v :=
  ⟨by rw [hb D h.lt (.inl rfl)]; exact h.blk, h.text.of_block fun k hk => hb k (h.text.lt hk) (.inr (.inl hk.symm)), h.safe.of_block fun k hk => hb k (h.safe.lt hk) (.inr (.inr hk.symm)), h.tD, h.sD, h.ts⟩

theorem devAt.below {D : Nat} {tv sv : Value} {x : Dp.Dv} {w v : World} (h : devAt D tv sv x w) (hb : Below w.heap.size w v) : devAt D tv sv x v := h.of_blocks fun k hk _ => hb.block k hk

theorem devAt.drewN {D : Nat} {tv sv : Value} {x : Dp.Dv} {w : World} (h : devAt D tv sv x w) (n : Nat) : devAt D tv sv x (w.drewN n) := h.of_blocks fun _ _ _ => rfl

theorem dev_set {w : World} {D : Nat} {a b c d e : Value} (h : w.heap[D]? = some (.cells #[a, b, c, d, e] 60 (0, 0))) (v : Value) :
    (w.setCell ⟨D, 2, none⟩ v).heap[D]? = some (.cells #[a, b, v, d, e] 60 (0, 0)) ∧ (w.setCell ⟨D, 3, none⟩ v).heap[D]? = some (.cells #[a, b, c, v, e] 60 (0, 0)) ∧ (w.setCell ⟨D, 4, none⟩ v).heap[D]? = some (.cells #[a, b, c, d, v] 60 (0, 0)) := by
  refine ⟨?_, ?_, ?_⟩ <;> simp [World.setCell, Array.getElem?_modify, h]

theorem devAt.setLog {D : Nat} {tv sv : Value} {x : Dp.Dv} {w : World} (h : devAt D tv sv x w) (l : List UInt8) : devAt D tv sv { x with log := l } (w.setCell ⟨D, 2, none⟩ (.string ⟨l.toArray⟩)) :=
  ⟨(dev_set h.blk _).1, h.text.of_block fun k hk => Below.heap_setCell _ _ _ _ (fun e => h.tD (by rw [hk]; exact congrArg some e)), h.safe.of_block fun k hk => Below.heap_setCell _ _ _ _ (fun e => h.sD (by rw [hk]; exact congrArg some e)), h.tD, h.sD, h.ts⟩

theorem devAt.setSure {D : Nat} {tv sv : Value} {x : Dp.Dv} {w : World} (h : devAt D tv sv x w) (n : Nat) : devAt D tv sv { x with sure := n } (w.setCell ⟨D, 3, none⟩ (.int .i64 n)) :=
  ⟨(dev_set h.blk _).2.1, h.text.of_block fun k hk => Below.heap_setCell _ _ _ _ (fun e => h.tD (by rw [hk]; exact congrArg some e)), h.safe.of_block fun k hk => Below.heap_setCell _ _ _ _ (fun e => h.sD (by rw [hk]; exact congrArg some e)), h.tD, h.sD, h.ts⟩

theorem devAt.setLife {D : Nat} {tv sv : Value} {x : Dp.Dv} {w : World} (h : devAt D tv sv x w) (n : Int) : devAt D tv sv { x with life := n } (w.setCell ⟨D, 4, none⟩ (.int .i64 n)) :=
  ⟨(dev_set h.blk _).2.2, h.text.of_block fun k hk => Below.heap_setCell _ _ _ _ (fun e => h.tD (by rw [hk]; exact congrArg some e)), h.safe.of_block fun k hk => Below.heap_setCell _ _ _ _ (fun e => h.sD (by rw [hk]; exact congrArg some e)), h.tD, h.sD, h.ts⟩

/-- the cells of a device. -/
theorem devAt.cells {D : Nat} {tv sv : Value} {x : Dp.Dv} {w : World} (h : devAt D tv sv x w) :
    w.cell? ⟨D, 0, none⟩ = some tv ∧ w.cell? ⟨D, 1, none⟩ = some sv ∧ w.cell? ⟨D, 2, none⟩ = some (.string ⟨x.log.toArray⟩) ∧ w.cell? ⟨D, 3, none⟩ = some (.int .i64 x.sure) ∧ w.cell? ⟨D, 4, none⟩ = some (.int .i64 x.life) ∧ ∀ i, w.frozen? ⟨D, i, none⟩ = false := by
  have hb := h.blk
  refine ⟨?_, ?_, ?_, ?_, ?_, fun i => Lib.frozen_of_heap hb _⟩ <;> (rw [Lib.cell_of_heap hb]; rfl)

theorem works_any (D : Nat) (tv sv : Value) (x : Dp.Dv) (w : World) (h : Hid (devAt D tv sv x w)) (hl : -9223372036854775808 ≤ x.life ∧ x.life ≤ 9223372036854775807) :
    Calls Try.prog 66 #[.pointer (some ⟨D, 0, none⟩)] w fun e w' => e = .returned (.bool (decide (x.life ≠ 0))) ∧ devAt D tv sv x.on w' ∧ kept3 D tv.ownBlock sv.ownBlock w w' := by
  obtain ⟨-, -, -, -, c4, fz⟩ := h.out.cells
  have f4 := fz 4
  clear fz
  have hon : Hid (x.life ≤ 0 → x.on = x) := fun h => by unfold Dp.Dv.on Dp.tick; rw [if_neg (by omega)]
  have hon2 : Hid (0 < x.life → x.on = { x with life := x.life - 1 }) := fun h => by unfold Dp.Dv.on Dp.tick; rw [if_pos h]
  generalize hL : x.life = L at *
  rcases Int.lt_trichotomy L 0 with h0 | h0 | h0
  · have d0 : (L == 0) = false := by simp; omega
    have d1 : decide (0 < L) = false := decide_eq_false (by omega)
    have d2 : decide (L ≠ 0) = true := decide_eq_true (by omega)
    rw [d2]
    go_enter Try.func66, Try.ntmps66
    go_wp2_with fail
    go_ret
    exact ⟨rfl, by rw [hon.out (by omega)]; exact h.out, kept3.refl _ _ _ _⟩
  · subst h0
    go_enter Try.func66, Try.ntmps66
    go_wp2_with fail
    go_ret
    exact ⟨rfl, by rw [hon.out (by omega)]; exact h.out, kept3.refl _ _ _ _⟩
  · have d0 : (L == 0) = false := by simp; omega
    have d1 : decide (0 < L) = true := decide_eq_true (by omega)
    have d2 : decide (L ≠ 0) = true := decide_eq_true (by omega)
    have e1 : wrap64 (L - 1) = L - 1 := by unfold wrap64; omega
    rw [d2]
    go_enter Try.func66, Try.ntmps66
    go_wp2_with fail
    go_ret
    exact ⟨rfl, by rw [hon2.out (by omega)]; exact h.out.setLife _, (kept3.refl _ _ _ _).setD _ _⟩

/-- the form of a row. -/
theorem rowOf.form {w : World} {v : Value} {l : List UInt8} (h : rowOf w v l) : (v = .slice none 0 0 ∧ l = []) ∨ ∃ g cap cur, v = .slice (some ⟨g, 0, none⟩) l.length cap ∧ w.heap[g]? = some (.cells cur 5 (0, 0)) ∧ l.length ≤ cap ∧ cap ≤ maxLen ∧ cur.size = cap ∧ cur.toList.take l.length = Lib.byteCells l := by
  rcases h.2 with ⟨h1, h2⟩ | ⟨g, cap, cur, h1, -, h2, h3, h4, h5, h6⟩
  · exact .inl ⟨h1, List.eq_nil_of_length_eq_zero h2⟩
  · exact .inr ⟨g, cap, cur, h1, h2, h3, h4, by omega, by rwa [Nat.mul_one] at h6⟩

theorem len_any (D : Nat) (tv sv : Value) (x : Dp.Dv) (w : World) (h : Hid (devAt D tv sv x w)) :
    Calls Try.prog 33 #[.pointer (some ⟨D, 0, none⟩)] w fun e w' => e = .returned (.int .i64 x.text.length) ∧ w' = w := by
  obtain ⟨c0, -, -, -, -, -⟩ := h.out.cells
  rcases h.out.text.form with ⟨rfl, h2⟩ | ⟨g, cap, cur, rfl, -, -, -, -, -⟩
  · rw [h2]
    go_enter Try.func33, Try.ntmps33
    go_wp2_with fail
    go_ret
    exact ⟨rfl, rfl⟩
  · generalize x.text.length = n at *
    go_enter Try.func33, Try.ntmps33
    go_wp2_with fail
    go_ret
    exact ⟨rfl, rfl⟩

theorem dead_any (D : Nat) (tv sv : Value) (x : Dp.Dv) (w : World) (h : Hid (devAt D tv sv x w)) :
    Calls Try.prog 16 #[.pointer (some ⟨D, 0, none⟩)] w fun e w' => e = .returned (.bool (decide (x.life = 0))) ∧ w' = w := by
  obtain ⟨-, -, -, -, c4, -⟩ := h.out.cells
  have d0 : (x.life == 0) = decide (x.life = 0) := rfl
  generalize x.life = L at *
  go_enter Try.func16, Try.ntmps16
  go_wp2_with fail
  go_ret
  exact ⟨rfl, rfl⟩

theorem die_any (D : Nat) (tv sv : Value) (x : Dp.Dv) (n : Int) (w : World) (h : Hid (devAt D tv sv x w)) :
    Calls Try.prog 13 #[.pointer (some ⟨D, 0, none⟩), .int .i64 n] w fun e w' => e = .returned (.tuple #[]) ∧ devAt D tv sv { x with life := max n 0 } w' ∧ kept3 D tv.ownBlock sv.ownBlock w w' := by
  obtain ⟨-, -, -, -, c4, fz⟩ := h.out.cells
  have f4 := fz 4
  clear fz
  have HS : Hid (∀ m, devAt D tv sv { x with life := m } (w.setCell ⟨D, 4, none⟩ (.int .i64 m))) := fun m => h.out.setLife m
  rcases Int.lt_or_le n 0 with h0 | h0
  rotate_left
  · have hm : max n 0 = n := by omega
    rw [hm]
    go_enter Try.func13, Try.ntmps13
    go_wp2_with fail
    go_returns
    exact ⟨rfl, HS.out _, (kept3.refl _ _ _ _).setD _ _⟩
  · have hm : max n 0 = 0 := by omega
    rw [hm]
    go_enter Try.func13, Try.ntmps13
    go_wp2_with fail
    go_returns
    exact ⟨rfl, HS.out _, (kept3.refl _ _ _ _).setD _ _⟩

theorem readLog_any (D : Nat) (tv sv : Value) (x : Dp.Dv) (w : World) (h : Hid (devAt D tv sv x w)) :
    Calls Try.prog 29 #[.pointer (some ⟨D, 0, none⟩)] w fun e w' => e = .returned (.tuple #[.string ⟨x.log.toArray⟩, .bool (decide (x.life ≠ 0))]) ∧ ∃ q, w' = w.drewN q := by
  obtain ⟨-, -, c2, -, c4, -⟩ := h.out.cells
  have d0 : (x.life != 0) = !decide (x.life = 0) := by by_cases h : x.life = 0 <;> simp [h]
  generalize x.life = L at *
  generalize (⟨x.log.toArray⟩ : ByteArray) = G at *
  go_enter Try.func29, Try.ntmps29
  go_wp2_with fail
  go_quiet (fail)
  go_wp2_with fail
  go_ret2
  exact ⟨by simp, _, rfl⟩

theorem str_add (l : List UInt8) (s : ByteArray) : (⟨l.toArray⟩ : ByteArray) ++ s = ⟨(l ++ s.data.toList).toArray⟩ := by
  apply ByteArray.ext
  rw [ByteArray.data_append]
  simp

theorem str_take (l : List UInt8) (n : Nat) : (⟨l.toArray⟩ : ByteArray).extract 0 n = ⟨(l.take n).toArray⟩ := by
  apply ByteArray.ext
  simp [ByteArray.data_extract]

theorem strSize (l : List UInt8) : (⟨l.toArray⟩ : ByteArray).size = l.length := by simp [ByteArray.size]

theorem life_on {x : Dp.Dv} (h : -9223372036854775808 ≤ x.life ∧ x.life ≤ 9223372036854775807) : -9223372036854775808 ≤ x.on.life ∧ x.on.life ≤ 9223372036854775807 := by
  show -9223372036854775808 ≤ Dp.tick x.life ∧ Dp.tick x.life ≤ 9223372036854775807
  unfold Dp.tick; split <;> omega

theorem on_dead {x : Dp.Dv} (h : x.life = 0) : x.on = x := by unfold Dp.Dv.on Dp.tick; rw [if_neg (by omega)]

def lifeOk (x : Dp.Dv) : Prop := -9223372036854775808 ≤ x.life ∧ x.life ≤ 9223372036854775807

theorem log_any (D : Nat) (tv sv : Value) (x : Dp.Dv) (S : ByteArray) (w : World) (hsz : x.log.length + S.size ≤ 140737488355328) (h : Hid (devAt D tv sv x w)) (hl : Hid (lifeOk x)) :
    Calls Try.prog 95 #[.pointer (some ⟨D, 0, none⟩), .string S] w fun e w' => e = .returned (.bool (Dp.pLog x S.data.toList).1) ∧ devAt D tv sv (Dp.pLog x S.data.toList).2 w' ∧ kept3 D tv.ownBlock sv.ownBlock w w' := by
  have HW := works_any D tv sv x w h hl.out
  by_cases h0 : x.life = 0
  · have HP : Hid (Dp.pLog x S.data.toList = (false, x)) := by show _ = _; unfold Dp.pLog; rw [if_pos h0]
    rw [decide_eq_false (by simpa using h0), on_dead h0] at HW
    clear h0
    go_enter Try.func95, Try.ntmps95
    go_wp2_with fail
    refine HW.mono ?_
    rintro e v1 ⟨rfl, h1, k1⟩
    go_wp2_with fail
    go_ret
    rw [HP.out]
    exact ⟨rfl, h1, k1⟩
  · have HP : Hid (Dp.pLog x S.data.toList = (true, { x.on with log := x.log ++ S.data.toList })) := by show _ = _; unfold Dp.pLog; rw [if_neg h0]
    rw [decide_eq_true (by simpa using h0)] at HW
    clear h0
    go_enter Try.func95, Try.ntmps95
    go_wp2_with fail
    refine HW.mono ?_
    rintro e v1 ⟨rfl, h1, k1⟩
    have HS : Hid (devAt D tv sv { x.on with log := x.log ++ S.data.toList } (v1.setCell ⟨D, 2, none⟩ (.string (⟨x.log.toArray⟩ ++ S)))) := by
      show devAt _ _ _ _ _
      rw [str_add]; exact h1.setLog _
    obtain ⟨-, -, c2, -, -, fz⟩ := h1.cells
    rw [show x.on.log = x.log from rfl] at c2
    have f2 := fz 2
    clear fz h1
    rw [← strSize] at hsz
    generalize (⟨x.log.toArray⟩ : ByteArray) = G at *
    have d3 : G.size + S.size ≤ maxLen := by unfold maxLen; omega
    have d4 : (G ++ S).size ≤ maxLen := by rw [ByteArray.size_append]; exact d3
    go_wp2_with fail
    go_ret
    rw [HP.out]
    exact ⟨rfl, HS.out, k1.setD _ _⟩

theorem syncLog_any (D : Nat) (tv sv : Value) (x : Dp.Dv) (w : World) (h : Hid (devAt D tv sv x w)) (hl : Hid (lifeOk x)) :
    Calls Try.prog 96 #[.pointer (some ⟨D, 0, none⟩)] w fun e w' => e = .returned (.bool (Dp.pSyncLog x).1) ∧ devAt D tv sv (Dp.pSyncLog x).2 w' ∧ kept3 D tv.ownBlock sv.ownBlock w w' := by
  have HW := works_any D tv sv x w h hl.out
  by_cases h0 : x.life = 0
  · have HP : Hid (Dp.pSyncLog x = (false, x)) := by show _ = _; unfold Dp.pSyncLog; rw [if_pos h0]
    rw [decide_eq_false (by simpa using h0), on_dead h0] at HW
    clear h0
    go_enter Try.func96, Try.ntmps96
    go_wp2_with fail
    refine HW.mono ?_
    rintro e v1 ⟨rfl, h1, k1⟩
    go_wp2_with fail
    go_ret
    rw [HP.out]
    exact ⟨rfl, h1, k1⟩
  · have HP : Hid (Dp.pSyncLog x = (true, { x.on with sure := x.log.length })) := by show _ = _; unfold Dp.pSyncLog; rw [if_neg h0]
    rw [decide_eq_true (by simpa using h0)] at HW
    clear h0
    go_enter Try.func96, Try.ntmps96
    go_wp2_with fail
    refine HW.mono ?_
    rintro e v1 ⟨rfl, h1, k1⟩
    have HS : Hid (devAt D tv sv { x.on with sure := x.log.length } (v1.setCell ⟨D, 3, none⟩ (.int .i64 ((⟨x.log.toArray⟩ : ByteArray).size : Nat)))) := by
      show devAt _ _ _ _ _
      rw [strSize]; exact h1.setSure _
    obtain ⟨-, -, c2, c3, -, fz⟩ := h1.cells
    rw [show x.on.log = x.log from rfl] at c2
    have f3 := fz 3
    clear fz h1
    generalize (⟨x.log.toArray⟩ : ByteArray) = G at *
    go_wp2_with fail
    go_ret
    rw [HP.out]
    exact ⟨rfl, HS.out, k1.setD _ _⟩

theorem devCut_any (D : Nat) (tv sv : Value) (x : Dp.Dv) (n : Nat) (w : World) (hn : n ≤ x.log.length) (h : Hid (devAt D tv sv x w)) (hl : Hid (lifeOk x)) :
    Calls Try.prog 65 #[.pointer (some ⟨D, 0, none⟩), .int .i64 n] w fun e w' => e = .returned (.bool (Dp.pCut x n).1) ∧ devAt D tv sv (Dp.pCut x n).2 w' ∧ kept3 D tv.ownBlock sv.ownBlock w w' := by
  have HW := works_any D tv sv x w h hl.out
  by_cases h0 : x.life = 0
  · have HP : Hid (Dp.pCut x n = (false, x)) := by show _ = _; unfold Dp.pCut; rw [if_pos h0]
    rw [decide_eq_false (by simpa using h0), on_dead h0] at HW
    clear h0
    go_enter Try.func65, Try.ntmps65
    go_wp2_with fail
    refine HW.mono ?_
    rintro e v1 ⟨rfl, h1, k1⟩
    go_wp2_with fail
    go_ret
    rw [HP.out]
    exact ⟨rfl, h1, k1⟩
  · have HP : Hid (Dp.pCut x n = (true, { x.on with log := x.log.take n, sure := n })) := by show _ = _; unfold Dp.pCut; rw [if_neg h0, if_pos hn]
    rw [decide_eq_true (by simpa using h0)] at HW
    clear h0
    go_enter Try.func65, Try.ntmps65
    go_wp2_with fail
    refine HW.mono ?_
    rintro e v1 ⟨rfl, h1, k1⟩
    have HS : Hid (devAt D tv sv { x.on with log := x.log.take n, sure := n } ((v1.setCell ⟨D, 2, none⟩ (.string ((⟨x.log.toArray⟩ : ByteArray).extract 0 n))).setCell ⟨D, 3, none⟩ (.int .i64 n))) := by
      show devAt _ _ _ _ _
      rw [str_take]; exact (h1.setLog (x.log.take n)).setSure n
    obtain ⟨-, -, c2, c3, -, fz⟩ := h1.cells
    rw [show x.on.log = x.log from rfl] at c2
    have f2 := fz 2
    have f3 := fz 3
    clear fz h1
    rw [← strSize] at hn
    generalize (⟨x.log.toArray⟩ : ByteArray) = G at *
    have d1 : decide ((n : Int) < 0) = false := decide_eq_false (by omega)
    have d2 : decide ((G.size : Int) < (n : Int)) = false := decide_eq_false (by omega)
    go_wp2_with fail
    go_ret
    rw [HP.out]
    exact ⟨rfl, HS.out, (k1.setD _ _).setD _ _⟩

end Go.Proofs.Ytjjmcnippjpclab
