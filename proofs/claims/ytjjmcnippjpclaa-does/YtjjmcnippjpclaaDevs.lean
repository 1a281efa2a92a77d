/-
  The walks of a device's calls that move no bytes of the text: does it work, its length, its log, how long it lives.
-/
import Derived.Test.YtjjmcnippjpclaaDevPlain
import Derived.Test.YtjjmcnippjpclaaReader
import Derived.Test.YtjjmcnippjpclaaDonePlain
import Derived.Lib.SlBytesRow
import Derived.Lib.BufferWrite
namespace Go.Proofs.Ytjjmcnippjpclaa

open Go.RowKit

/-- a row of bytes. -/
def rowOf (w : World) (v : Value) (l : List UInt8) : Prop := w.ownsRow 0 5 1 v l.length (Lib.byteCells l)

theorem rowOf.of_block {w w' : World} {v : Value} {l : List UInt8} (h : rowOf w v l) (hk : ∀ k, v.ownBlock = some k → w'.heap[k]? = w.heap[k]?) : rowOf w' v l := by
  obtain ⟨h1, h2⟩ := h
  refine ⟨h1, ?_⟩
  rcases h2 with h2 | ⟨g, cap, cur, rfl, hb, hg, rest⟩
  · exact .inl h2
  · exact .inr ⟨g, cap, cur, rfl, hb, by rw [hk g rfl]; exact hg, rest⟩

theorem rowOf.lt {w : World} {v : Value} {l : List UInt8} (h : rowOf w v l) {k : Nat} (hk : v.ownBlock = some k) : k < w.heap.size := (World.ownsRow.lt h k hk).2

/-- what a call of a device's leaves as it was: all but the device, its text and what is sure of it. -/
structure kept3 (D : Nat) (T S : Option Nat) (w w' : World) : Prop where
  os : w'.os = w.os
  tape : w'.tape = w.tape
  output : w'.output = w.output
  size : w.heap.size ≤ w'.heap.size
  block : ∀ k, k < w.heap.size → k ≠ D → some k ≠ T → some k ≠ S → w'.heap[k]? = w.heap[k]?

theorem kept3.refl (D : Nat) (T S : Option Nat) (w : World) : kept3 D T S w w := ⟨rfl, rfl, rfl, Nat.le_refl _, fun _ _ _ _ _ => rfl⟩

theorem kept3.trans {D : Nat} {T S : Option Nat} {a b c : World} (h : kept3 D T S a b) (k : kept3 D T S b c) : kept3 D T S a c :=
  ⟨k.os.trans h.os, k.tape.trans h.tape, k.output.trans h.output, Nat.le_trans h.size k.size, fun i hi h1 h2 h3 => (k.block i (Nat.lt_of_lt_of_le hi h.size) h1 h2 h3).trans (h.block i hi h1 h2 h3)⟩

theorem kept3.of_below {D : Nat} {T S : Option Nat} {a b : World} (h : Below a.heap.size a b) : kept3 D T S a b :=
  ⟨h.os, h.tape, h.output, h.size, fun i hi _ _ _ => h.block i hi⟩

theorem kept3.below {D : Nat} {T S : Option Nat} {a b : World} (h : kept3 D T S a b) {B : Nat} (hB : B ≤ a.heap.size) (hD : B ≤ D) (hT : ∀ k, T = some k → B ≤ k) (hS : ∀ k, S = some k → B ≤ k) : Below B a b :=
  ⟨h.os, h.tape, h.output, h.size, fun i hi => h.block i (Nat.lt_of_lt_of_le hi hB) (by omega) (fun e => by have := hT i e.symm; omega) (fun e => by have := hS i e.symm; omega)⟩

theorem kept3.drewN {D : Nat} {T S : Option Nat} {a b : World} (h : kept3 D T S a b) (n : Nat) : kept3 D T S a (b.drewN n) := ⟨h.os, h.tape, h.output, h.size, h.block⟩

theorem kept3.setD {D : Nat} {T S : Option Nat} {a b : World} (h : kept3 D T S a b) (i : Nat) (v : Value) : kept3 D T S a (b.setCell ⟨D, i, none⟩ v) :=
  ⟨h.os, h.tape, h.output, by simpa [World.setCell] using h.size, fun k hk h1 h2 h3 => by rw [Below.heap_setCell _ _ _ _ h1]; exact h.block k hk h1 h2 h3⟩

/-- a device in memory. -/
structure devAt (D : Nat) (tv sv : Value) (x : Dp.Dv) (w : World) : Prop where
  blk : w.heap[D]? = some (.cells #[tv, sv, .string ⟨x.log.toArray⟩, .int .i64 x.sure, .int .i64 x.life] 95 (0, 0))
  text : rowOf w tv x.text
  safe : rowOf w sv x.safe
  tD : tv.ownBlock ≠ some D
  sD : sv.ownBlock ≠ some D
  ts : ∀ k, tv.ownBlock = some k → sv.ownBlock ≠ some k

theorem devAt.lt {D : Nat} {tv sv : Value} {x : Dp.Dv} {w : World} (h : devAt D tv sv x w) : D < w.heap.size := (Array.getElem?_eq_some_iff.1 h.blk).1

/-- a device stands where its blocks stand. -/
theorem devAt.of_blocks {D : Nat} {tv sv : Value} {x : Dp.Dv} {w v : World} (h : devAt D tv sv x w) (hb : ∀ k, k < w.heap.size → k = D ∨ some k = tv.ownBlock ∨ some k = sv.ownBlock → v.heap[k]? = w.heap[k]?) : devAt D tv sv x v :=
  ⟨by rw [hb D h.lt (.inl rfl)]; exact h.blk, h.text.of_block fun k hk => hb k (h.text.lt hk) (.inr (.inl hk.symm)), h.safe.of_block fun k hk => hb k (h.safe.lt hk) (.inr (.inr hk.symm)), h.tD, h.sD, h.ts⟩

theorem devAt.below {D : Nat} {tv sv : Value} {x : Dp.Dv} {w v : World} (h : devAt D tv sv x w) (hb : Below w.heap.size w v) : devAt D tv sv x v := h.of_blocks fun k hk _ => hb.block k hk

theorem devAt.drewN {D : Nat} {tv sv : Value} {x : Dp.Dv} {w : World} (h : devAt D tv sv x w) (n : Nat) : devAt D tv sv x (w.drewN n) := h.of_blocks fun _ _ _ => rfl

theorem dev_set {w : World} {D : Nat} {a b c d e : Value} (h : w.heap[D]? = some (.cells #[a, b, c, d, e] 95 (0, 0))) (v : Value) :
    (w.setCell ⟨D, 2, none⟩ v).heap[D]? = some (.cells #[a, b, v, d, e] 95 (0, 0)) ∧ (w.setCell ⟨D, 3, none⟩ v).heap[D]? = some (.cells #[a, b, c, v, e] 95 (0, 0)) ∧ (w.setCell ⟨D, 4, none⟩ v).heap[D]? = some (.cells #[a, b, c, d, v] 95 (0, 0)) := by
  refine ⟨?_, ?_, ?_⟩ <;> simp [World.setCell, Array.getElem?_modify, h]

theorem devAt.setLog {D : Nat} {tv sv : Value} {x : Dp.Dv} {w : World} (h : devAt D tv sv x w) (l : List UInt8) : devAt D tv sv { x with log := l } (w.setCell ⟨D, 2, none⟩ (.string ⟨l.toArray⟩)) :=
  ⟨(dev_set h.blk _).1, h.text.of_block fun k hk => Below.heap_setCell _ _ _ _ (fun e => h.tD (by rw [hk]; exact congrArg some e)), h.safe.of_block fun k hk => Below.heap_setCell _ _ _ _ (fun e => h.sD (by rw [hk]; exact congrArg some e)), h.tD, h.sD, h.ts⟩

theorem devAt.setSure {D : Nat} {tv sv : Value} {x : Dp.Dv} {w : World} (h : devAt D tv sv x w) (n : Nat) : devAt D tv sv { x with sure := n } (w.setCell ⟨D, 3, none⟩ (.int .i64 n)) :=
  ⟨(dev_set h.blk _).2.1, h.text.of_block fun k hk => Below.heap_setCell _ _ _ _ (fun e => h.tD (by rw [hk]; exact congrArg some e)), h.safe.of_block fun k hk => Below.heap_setCell _ _ _ _ (fun e => h.sD (by rw [hk]; exact congrArg some e)), h.tD, h.sD, h.ts⟩

theorem devAt.setLife {D : Nat} {tv sv : Value} {x : Dp.Dv} {w : World} (h : devAt D tv sv x w) (n : Int) : devAt D tv sv { x with life := n } (w.setCell ⟨D, 4, none⟩ (.int .i64 n)) :=
  ⟨(dev_set h.blk _).2.2, h.text.of_block fun k hk => Below.heap_setCell _ _ _ _ (fun e => h.tD (by rw [hk]; exact congrArg some e)), h.safe.of_block fun k hk => Below.heap_setCell _ _ _ _ (fun e => h.sD (by rw [hk]; exact congrArg some e)), h.tD, h.sD, h.ts⟩

/-- the cells of a device. -/
theorem devAt.cells {D : Nat} {tv sv : Value} {x : Dp.Dv} {w : World} (h : devAt D tv sv x w) :
    w.cell? ⟨D, 0, none⟩ = some tv ∧ w.cell? ⟨D, 1, none⟩ = some sv ∧ w.cell? ⟨D, 2, none⟩ = some (.string ⟨x.log.toArray⟩) ∧ w.cell? ⟨D, 3, none⟩ = some (.int .i64 x.sure) ∧ w.cell? ⟨D, 4, none⟩ = some (.int .i64 x.life) ∧ ∀ i, w.frozen? ⟨D, i, none⟩ = false := by
  have hb := h.blk
  refine ⟨?_, ?_, ?_, ?_, ?_, fun i => Lib.frozen_of_heap hb _⟩ <;> (rw [Lib.cell_of_heap hb]; rfl)

theorem works_any (D : Nat) (tv sv : Value) (x : Dp.Dv) (w : World) (h : Hid (devAt D tv sv x w)) (hl : -9223372036854775808 ≤ x.life ∧ x.life ≤ 9223372036854775807) :
    Calls Try.prog 87 #[.pointer (some ⟨D, 0, none⟩)] w fun e w' => e = .returned (.bool (decide (x.life ≠ 0))) ∧ devAt D tv sv x.on w' ∧ kept3 D tv.ownBlock sv.ownBlock w w' := by
  obtain ⟨-, -, -, -, c4, fz⟩ := h.out.cells
  have f4 := fz 4
  clear fz
  have hon : Hid (x.life ≤ 0 → x.on = x) := fun h => by unfold Dp.Dv.on Dp.tick; rw [if_neg (by omega)]
  have hon2 : Hid (0 < x.life → x.on = { x with life := x.life - 1 }) := fun h => by unfold Dp.Dv.on Dp.tick; rw [if_pos h]
  generalize hL : x.life = L at *
  rcases Int.lt_trichotomy L 0 with h0 | h0 | h0
  · have d0 : (L == 0) = false := by simp; omega
    have d1 : decide (0 < L) = false := decide_eq_false (by omega)
    have d2 : decide (L ≠ 0) = true := decide_eq_true (by omega)
    rw [d2]
    go_enter Try.func87, Try.ntmps87
    go_wp2_with fail
    go_ret
    exact ⟨rfl, by rw [hon.out (by omega)]; exact h.out, kept3.refl _ _ _ _⟩
  · subst h0
    go_enter Try.func87, Try.ntmps87
    go_wp2_with fail
    go_ret
    exact ⟨rfl, by rw [hon.out (by omega)]; exact h.out, kept3.refl _ _ _ _⟩
  · have d0 : (L == 0) = false := by simp; omega
    have d1 : decide (0 < L) = true := decide_eq_true (by omega)
    have d2 : decide (L ≠ 0) = true := decide_eq_true (by omega)
    have e1 : wrap64 (L - 1) = L - 1 := by unfold wrap64; omega
    rw [d2]
    go_enter Try.func87, Try.ntmps87
    go_wp2_with fail
    go_ret
    exact ⟨rfl, by rw [hon2.out (by omega)]; exact h.out.setLife _, (kept3.refl _ _ _ _).setD _ _⟩

/-- the form of a row. -/
theorem rowOf.form {w : World} {v : Value} {l : List UInt8} (h : rowOf w v l) : (v = .slice none 0 0 ∧ l = []) ∨ ∃ g cap cur, v = .slice (some ⟨g, 0, none⟩) l.length cap ∧ w.heap[g]? = some (.cells cur 5 (0, 0)) ∧ l.length ≤ cap ∧ cap ≤ maxLen ∧ cur.size = cap ∧ cur.toList.take l.length = Lib.byteCells l := by
  rcases h.2 with ⟨h1, h2⟩ | ⟨g, cap, cur, h1, -, h2, h3, h4, h5, h6⟩
  · exact .inl ⟨h1, List.eq_nil_of_length_eq_zero h2⟩
  · exact .inr ⟨g, cap, cur, h1, h2, h3, h4, by omega, by rwa [Nat.mul_one] at h6⟩

theorem len_any (D : Nat) (tv sv : Value) (x : Dp.Dv) (w : World) (h : Hid (devAt D tv sv x w)) :
    Calls Try.prog 49 #[.pointer (some ⟨D, 0, none⟩)] w fun e w' => e = .returned (.int .i64 x.text.length) ∧ w' = w := by
  obtain ⟨c0, -, -, -, -, -⟩ := h.out.cells
  rcases h.out.text.form with ⟨rfl, h2⟩ | ⟨g, cap, cur, rfl, -, -, -, -, -⟩
  · rw [h2]
    go_enter Try.func49, Try.ntmps49
    go_wp2_with fail
    go_ret
    exact ⟨rfl, rfl⟩
  · generalize x.text.length = n at *
    go_enter Try.func49, Try.ntmps49
    go_wp2_with fail
    go_ret
    exact ⟨rfl, rfl⟩

theorem dead_any (D : Nat) (tv sv : Value) (x : Dp.Dv) (w : World) (h : Hid (devAt D tv sv x w)) :
    Calls Try.prog 125 #[.pointer (some ⟨D, 0, none⟩)] w fun e w' => e = .returned (.bool (decide (x.life = 0))) ∧ w' = w := by
  obtain ⟨-, -, -, -, c4, -⟩ := h.out.cells
  have d0 : (x.life == 0) = decide (x.life = 0) := rfl
  generalize x.life = L at *
  go_enter Try.func125, Try.ntmps125
  go_wp2_with fail
  go_ret
  exact ⟨rfl, rfl⟩

theorem die_any (D : Nat) (tv sv : Value) (x : Dp.Dv) (n : Int) (w : World) (h : Hid (devAt D tv sv x w)) :
    Calls Try.prog 54 #[.pointer (some ⟨D, 0, none⟩), .int .i64 n] w fun e w' => e = .returned (.tuple #[]) ∧ devAt D tv sv { x with life := max n 0 } w' ∧ kept3 D tv.ownBlock sv.ownBlock w w' := by
  obtain ⟨-, -, -, -, c4, fz⟩ := h.out.cells
  have f4 := fz 4
  clear fz
  have HS : Hid (∀ m, devAt D tv sv { x with life := m } (w.setCell ⟨D, 4, none⟩ (.int .i64 m))) := fun m => h.out.setLife m
  rcases Int.lt_or_le n 0 with h0 | h0
  rotate_left
  · have hm : max n 0 = n := by omega
    rw [hm]
    go_enter Try.func54, Try.ntmps54
    go_wp2_with fail
    go_returns
    exact ⟨rfl, HS.out _, (kept3.refl _ _ _ _).setD _ _⟩
  · have hm : max n 0 = 0 := by omega
    rw [hm]
    go_enter Try.func54, Try.ntmps54
    go_wp2_with fail
    go_returns
    exact ⟨rfl, HS.out _, (kept3.refl _ _ _ _).setD _ _⟩

theorem readLog_any (D : Nat) (tv sv : Value) (x : Dp.Dv) (w : World) (h : Hid (devAt D tv sv x w)) :
    Calls Try.prog 45 #[.pointer (some ⟨D, 0, none⟩)] w fun e w' => e = .returned (.tuple #[.string ⟨x.log.toArray⟩, .bool (decide (x.life ≠ 0))]) ∧ ∃ q, w' = w.drewN q := by
  obtain ⟨-, -, c2, -, c4, -⟩ := h.out.cells
  have d0 : (x.life != 0) = !decide (x.life = 0) := by by_cases h : x.life = 0 <;> simp [h]
  generalize x.life = L at *
  generalize (⟨x.log.toArray⟩ : ByteArray) = G at *
  go_enter Try.func45, Try.ntmps45
  go_wp2_with fail
  go_quiet (fail)
  go_wp2_with fail
  go_ret2
  exact ⟨by simp, _, rfl⟩

theorem str_add (l : List UInt8) (s : ByteArray) : (⟨l.toArray⟩ : ByteArray) ++ s = ⟨(l ++ s.data.toList).toArray⟩ := by
  apply ByteArray.ext
  rw [ByteArray.data_append]
  simp

theorem str_take (l : List UInt8) (n : Nat) : (⟨l.toArray⟩ : ByteArray).extract 0 n = ⟨(l.take n).toArray⟩ := by
  apply ByteArray.ext
  simp [ByteArray.data_extract]

theorem strSize (l : List UInt8) : (⟨l.toArray⟩ : ByteArray).size = l.length := by simp [ByteArray.size]

theorem life_on {x : Dp.Dv} (h : -9223372036854775808 ≤ x.life ∧ x.life ≤ 9223372036854775807) : -9223372036854775808 ≤ x.on.life ∧ x.on.life ≤ 9223372036854775807 := by
  show -9223372036854775808 ≤ Dp.tick x.life ∧ Dp.tick x.life ≤ 9223372036854775807
  unfold Dp.tick; split <;> omega

theorem on_dead {x : Dp.Dv} (h : x.life = 0) : x.on = x := by unfold Dp.Dv.on Dp.tick; rw [if_neg (by omega)]

def lifeOk (x : Dp.Dv) : Prop := -9223372036854775808 ≤ x.life ∧ x.life ≤ 9223372036854775807

theorem log_any (D : Nat) (tv sv : Value) (x : Dp.Dv) (S : ByteArray) (w : World) (hsz : x.log.length + S.size ≤ 4611686018427387904) (h : Hid (devAt D tv sv x w)) (hl : Hid (lifeOk x)) :
    Calls Try.prog 122 #[.pointer (some ⟨D, 0, none⟩), .string S] w fun e w' => e = .returned (.bool (Dp.pLog x S.data.toList).1) ∧ devAt D tv sv (Dp.pLog x S.data.toList).2 w' ∧ kept3 D tv.ownBlock sv.ownBlock w w' := by
  have HW := works_any D tv sv x w h hl.out
  by_cases h0 : x.life = 0
  · have HP : Hid (Dp.pLog x S.data.toList = (false, x)) := by show _ = _; unfold Dp.pLog; rw [if_pos h0]
    rw [decide_eq_false (by simpa using h0), on_dead h0] at HW
    clear h0
    go_enter Try.func122, Try.ntmps122
    go_wp2_with fail
    refine HW.mono ?_
    rintro e v1 ⟨rfl, h1, k1⟩
    go_wp2_with fail
    go_ret
    rw [HP.out]
    exact ⟨rfl, h1, k1⟩
  · have HP : Hid (Dp.pLog x S.data.toList = (true, { x.on with log := x.log ++ S.data.toList })) := by show _ = _; unfold Dp.pLog; rw [if_neg h0]
    rw [decide_eq_true (by simpa using h0)] at HW
    clear h0
    go_enter Try.func122, Try.ntmps122
    go_wp2_with fail
    refine HW.mono ?_
    rintro e v1 ⟨rfl, h1, k1⟩
    have HS : Hid (devAt D tv sv { x.on with log := x.log ++ S.data.toList } (v1.setCell ⟨D, 2, none⟩ (.string (⟨x.log.toArray⟩ ++ S)))) := by
      show devAt _ _ _ _ _
      rw [str_add]; exact h1.setLog _
    obtain ⟨-, -, c2, -, -, fz⟩ := h1.cells
    rw [show x.on.log = x.log from rfl] at c2
    have f2 := fz 2
    clear fz h1
    rw [← strSize] at hsz
    generalize (⟨x.log.toArray⟩ : ByteArray) = G at *
    have d3 : G.size + S.size ≤ maxLen := by unfold maxLen; omega
    have d4 : (G ++ S).size ≤ maxLen := by rw [ByteArray.size_append]; exact d3
    go_wp2_with fail
    go_ret
    rw [HP.out]
    exact ⟨rfl, HS.out, k1.setD _ _⟩

theorem syncLog_any (D : Nat) (tv sv : Value) (x : Dp.Dv) (w : World) (h : Hid (devAt D tv sv x w)) (hl : Hid (lifeOk x)) :
    Calls Try.prog 123 #[.pointer (some ⟨D, 0, none⟩)] w fun e w' => e = .returned (.bool (Dp.pSyncLog x).1) ∧ devAt D tv sv (Dp.pSyncLog x).2 w' ∧ kept3 D tv.ownBlock sv.ownBlock w w' := by
  have HW := works_any D tv sv x w h hl.out
  by_cases h0 : x.life = 0
  · have HP : Hid (Dp.pSyncLog x = (false, x)) := by show _ = _; unfold Dp.pSyncLog; rw [if_pos h0]
    rw [decide_eq_false (by simpa using h0), on_dead h0] at HW
    clear h0
    go_enter Try.func123, Try.ntmps123
    go_wp2_with fail
    refine HW.mono ?_
    rintro e v1 ⟨rfl, h1, k1⟩
    go_wp2_with fail
    go_ret
    rw [HP.out]
    exact ⟨rfl, h1, k1⟩
  · have HP : Hid (Dp.pSyncLog x = (true, { x.on with sure := x.log.length })) := by show _ = _; unfold Dp.pSyncLog; rw [if_neg h0]
    rw [decide_eq_true (by simpa using h0)] at HW
    clear h0
    go_enter Try.func123, Try.ntmps123
    go_wp2_with fail
    refine HW.mono ?_
    rintro e v1 ⟨rfl, h1, k1⟩
    have HS : Hid (devAt D tv sv { x.on with sure := x.log.length } (v1.setCell ⟨D, 3, none⟩ (.int .i64 ((⟨x.log.toArray⟩ : ByteArray).size : Nat)))) := by
      show devAt _ _ _ _ _
      rw [strSize]; exact h1.setSure _
    obtain ⟨-, -, c2, c3, -, fz⟩ := h1.cells
    rw [show x.on.log = x.log from rfl] at c2
    have f3 := fz 3
    clear fz h1
    generalize (⟨x.log.toArray⟩ : ByteArray) = G at *
    go_wp2_with fail
    go_ret
    rw [HP.out]
    exact ⟨rfl, HS.out, k1.setD _ _⟩

theorem devCut_any (D : Nat) (tv sv : Value) (x : Dp.Dv) (n : Nat) (w : World) (hn : n ≤ x.log.length) (h : Hid (devAt D tv sv x w)) (hl : Hid (lifeOk x)) :
    Calls Try.prog 86 #[.pointer (some ⟨D, 0, none⟩), .int .i64 n] w fun e w' => e = .returned (.bool (Dp.pCut x n).1) ∧ devAt D tv sv (Dp.pCut x n).2 w' ∧ kept3 D tv.ownBlock sv.ownBlock w w' := by
  have HW := works_any D tv sv x w h hl.out
  by_cases h0 : x.life = 0
  · have HP : Hid (Dp.pCut x n = (false, x)) := by show _ = _; unfold Dp.pCut; rw [if_pos h0]
    rw [decide_eq_false (by simpa using h0), on_dead h0] at HW
    clear h0
    go_enter Try.func86, Try.ntmps86
    go_wp2_with fail
    refine HW.mono ?_
    rintro e v1 ⟨rfl, h1, k1⟩
    go_wp2_with fail
    go_ret
    rw [HP.out]
    exact ⟨rfl, h1, k1⟩
  · have HP : Hid (Dp.pCut x n = (true, { x.on with log := x.log.take n, sure := n })) := by show _ = _; unfold Dp.pCut; rw [if_neg h0, if_pos hn]
    rw [decide_eq_true (by simpa using h0)] at HW
    clear h0
    go_enter Try.func86, Try.ntmps86
    go_wp2_with fail
    refine HW.mono ?_
    rintro e v1 ⟨rfl, h1, k1⟩
    have HS : Hid (devAt D tv sv { x.on with log := x.log.take n, sure := n } ((v1.setCell ⟨D, 2, none⟩ (.string ((⟨x.log.toArray⟩ : ByteArray).extract 0 n))).setCell ⟨D, 3, none⟩ (.int .i64 n))) := by
      show devAt _ _ _ _ _
      rw [str_take]; exact (h1.setLog (x.log.take n)).setSure n
    obtain ⟨-, -, c2, c3, -, fz⟩ := h1.cells
    rw [show x.on.log = x.log from rfl] at c2
    have f2 := fz 2
    have f3 := fz 3
    clear fz h1
    rw [← strSize] at hn
    generalize (⟨x.log.toArray⟩ : ByteArray) = G at *
    have d1 : decide ((n : Int) < 0) = false := decide_eq_false (by omega)
    have d2 : decide ((G.size : Int) < (n : Int)) = false := decide_eq_false (by omega)
    go_wp2_with fail
    go_ret
    rw [HP.out]
    exact ⟨rfl, HS.out, (k1.setD _ _).setD _ _⟩

end Go.Proofs.Ytjjmcnippjpclaa

namespace Go.Proofs.Ytjjmcnippjpclaa

open Go.RowKit

theorem row_cell {w : World} {g : Nat} {cur : Array Value} {l : List UInt8} (hb : w.heap[g]? = some (.cells cur 5 (0, 0))) (ht : cur.toList.take l.length = Lib.byteCells l) (j : Nat) (hj : j < l.length) : w.cell? ⟨g, j, none⟩ = some (.int .u8 ((l[j]).toNat : Nat)) := by
  rw [Lib.cell_of_heap hb]
  have h1 : (cur.toList.take l.length)[j]? = some (.int .u8 ((l[j]).toNat : Nat)) := by rw [ht]; simp [Lib.byteCells, List.getElem?_eq_getElem hj]
  rw [List.getElem?_take_of_lt hj] at h1
  simpa using h1

/-- 'string(b[:n])'. -/
theorem conv_front {w : World} {g : Nat} {cur : Array Value} {l : List UInt8} (hb : w.heap[g]? = some (.cells cur 5 (0, 0))) (ht : cur.toList.take l.length = Lib.byteCells l) (n c : Nat) (hn : n ≤ l.length) :
    (convert 65 9 (.slice (some ⟨g, 0, none⟩) n c)).run Try.prog w = .ok (.string ⟨(l.take n).toArray⟩) w := by
  have e := run_convert_bytes_back (P := Try.prog) w 65 9 5 ⟨g, 0, none⟩ c (l.take n) Try.underlying65 Try.underlying5 Try.underlying9 (fun j hj => by
    have hj' : j < n := by simp at hj; omega
    have hadd : (⟨g, 0, none⟩ : Addr).add j = ⟨g, j, none⟩ := by unfold Addr.add; split <;> simp_all
    rw [hadd, row_cell hb ht j (by omega)]
    simp)
  rw [List.length_take, Nat.min_eq_left hn] at e
  exact e

theorem conv_nil (w : World) : (convert 65 9 (.slice none 0 0)).run Try.prog w = .ok (.string ⟨#[]⟩) w := by
  rw [run_convert_bytes_string w 65 9 5 none 0 0 Try.underlying65 Try.underlying5 Try.underlying9]
  rfl

set_option maxRecDepth 100000 in
/-- a reading of the text from its beginning on. -/
theorem readText_any (D : Nat) (tv sv : Value) (x : Dp.Dv) (n : Nat) (w : World) (hn : n ≤ 140737488355328) (hx : x.text.length ≤ maxLen) (h : Hid (devAt D tv sv x w)) :
    Calls Try.prog 82 #[.pointer (some ⟨D, 0, none⟩), .int .i64 0, .int .i64 n] w fun e w' =>
      e = .returned (match Dp.pRead x n with
        | none => .tuple #[.string ⟨#[]⟩, .bool false]
        | some t => .tuple #[.string ⟨t.toArray⟩, .bool true]) ∧ w' = w := by
  unfold maxLen at hx
  obtain ⟨c0, -, -, -, c4, -⟩ := h.out.cells
  by_cases h0 : x.life = 0
  · have HP : Hid (Dp.pRead x n = none) := by show _ = _; unfold Dp.pRead; rw [if_pos (.inl h0)]
    rw [h0] at c4
    rw [HP.out]
    clear c0 h0
    go_enter Try.func82, Try.ntmps82
    go_wp2_with fail
    go_ret2
    exact ⟨rfl, rfl⟩
  · have d0 : (x.life == 0) = false := by simpa using h0
    have d1 : decide ((n : Int) < 0) = false := decide_eq_false (by omega)
    by_cases hf : x.text.length < n
    · have HP : Hid (Dp.pRead x n = none) := by show _ = _; unfold Dp.pRead; rw [if_pos (.inr hf)]
      rw [HP.out]
      generalize x.life = L at *
      rcases h.out.text.form with ⟨rfl, h2⟩ | ⟨g, cap, cur, rfl, -, -, -, -, -⟩
      · rw [h2] at hf
        have d2 : decide ((0 : Int) < (n : Int)) = true := decide_eq_true (by simp at hf; omega)
        go_enter Try.func82, Try.ntmps82
        go_wp2_with fail
        go_ret2
        exact ⟨rfl, rfl⟩
      · generalize x.text.length = m at *
        have d2 : decide ((m : Int) < (0 : Int)) = false := decide_eq_false (by omega)
        have d3 : decide ((m : Int) < (n : Int)) = true := decide_eq_true (by omega)
        go_enter Try.func82, Try.ntmps82
        go_wp2_with fail
        go_ret2
        exact ⟨rfl, rfl⟩
    · have HP : Hid (Dp.pRead x n = some (x.text.take n)) := by show _ = _; unfold Dp.pRead; rw [if_neg (by omega)]
      rw [HP.out]
      generalize x.life = L at *
      rcases h.out.text.form with ⟨rfl, h2⟩ | ⟨g, cap, cur, rfl, hb, hc1, hc2, hc3, hc4⟩
      · rw [h2] at hf ⊢
        obtain rfl : n = 0 := by simp at hf; omega
        have hcv := conv_nil w
        go_enter Try.func82, Try.ntmps82
        go_wp2_with fail
        go_ret2
        exact ⟨rfl, rfl⟩
      · have hcv := fun c => conv_front hb hc4 n c (by omega)
        generalize x.text.length = m at *
        generalize x.text.take n = t at *
        unfold maxLen at hc2
        have d2 : decide ((m : Int) < (0 : Int)) = false := decide_eq_false (by omega)
        have d3 : decide ((m : Int) < (n : Int)) = false := decide_eq_false (by omega)
        have d4 : (n : Int) ≤ (cap : Int) := by omega
        go_enter Try.func82, Try.ntmps82
        go_wp2_with fail
        go_ret2
        exact ⟨rfl, rfl⟩

theorem byteCells_one (l : List UInt8) : ∀ v ∈ Lib.byteCells l, v.oneCell' = true := by
  intro v hv
  simp only [Lib.byteCells, List.mem_map] at hv
  obtain ⟨x, _, rfl⟩ := hv
  rfl

theorem sizeU8' : (Try.prog.info? 5).map (·.size) = some 1 := by kernel_rfl

theorem setRow_at (w : World) (g : Nat) (c : Array Value) {cur : Array Value} {t : TypeId} {fz : Nat × Nat} (h : w.heap[g]? = some (.cells cur t fz)) : (w.setRow g c).heap[g]? = some (.cells c t fz) := setRow_heap w g cur c t fz h

/-- a row in the place of another of the same length. -/
theorem row_new {w : World} {v : Value} {l : List UInt8} (h : rowOf w v l) (m : List UInt8) (hm : m.length = l.length) {w' : World} (hb : ∀ g cap cur, v = .slice (some ⟨g, 0, none⟩) l.length cap → w.heap[g]? = some (.cells cur 5 (0, 0)) → cur.size = cap → w'.heap[g]? = some (.cells (Lib.byteCells m ++ cur.toList.drop l.length).toArray 5 (0, 0))) : rowOf w' v m := by
  refine ⟨by rw [Lib.byteCells_length, Nat.mul_one], ?_⟩
  rcases h.2 with ⟨h1, h2⟩ | ⟨g, cap, cur, h1, h0, h2, h3, h4, h5, h6⟩
  · exact .inl ⟨h1, by omega⟩
  · refine .inr ⟨g, cap, _, by rw [hm]; exact h1, h0, hb g cap cur h1 h2 (by omega), by omega, h4, ?_, ?_⟩
    · simp [Lib.byteCells_length]; omega
    · rw [Nat.mul_one]
      simp only []
      rw [List.take_left' (Lib.byteCells_length m)]

/-- 'copy(a, b)' of two rows of the same length. -/
theorem copy_rows {w : World} {tv sv : Value} {t s : List UInt8} (ht : rowOf w tv t) (hs : rowOf w sv s) (hl : t.length = s.length) :
    ∃ w', (Builtin.copy_ #[65, 65] 3 #[sv, tv]).run Try.prog w = .ok (goInt t.length) w' ∧ rowOf w' sv t ∧ w.grownBy w' sv.ownBlock := by
  by_cases h0 : t.length = 0
  · have hr : rowOf w sv t := by
      have e : t = s := by rw [List.eq_nil_of_length_eq_zero h0, List.eq_nil_of_length_eq_zero (l := s) (by omega)]
      rw [e]; exact hs
    obtain ⟨a, c, rfl⟩ : ∃ a c, tv = .slice a t.length c := by
      rcases ht.form with ⟨h1, h2⟩ | ⟨g, cap, cur, h1, _⟩
      · exact ⟨none, 0, by rw [h1, h0]⟩
      · exact ⟨_, _, h1⟩
    obtain ⟨a', c', rfl⟩ : ∃ a c, sv = .slice a s.length c := by
      rcases hs.form with ⟨h1, h2⟩ | ⟨g, cap, cur, h1, _⟩
      · exact ⟨none, 0, by rw [h1, ← hl, h0]⟩
      · exact ⟨_, _, h1⟩
    refine ⟨w, ?_, hr, ⟨rfl, rfl, rfl, Nat.le_refl _, fun _ _ _ => rfl⟩⟩
    have := run_copy_none (P := Try.prog) w 65 65 3 5 a' a s.length c' t.length c Try.underlying65 sizeU8' (by rw [h0]; exact Nat.zero_min _)
    rw [this, h0]; rfl
  · rcases ht.form with ⟨h1, h2⟩ | ⟨g, cap, cur, rfl, k1, k2, k3, k4, k5⟩
    · rw [h2] at h0; exact absurd rfl h0
    rcases hs.form with ⟨h1, h2⟩ | ⟨g', cap', cur', hsv, m1, m2, m3, m4, m5⟩
    · rw [h2] at hl; exact absurd hl h0
    have hr := run_copy_row (P := Try.prog) w 65 65 3 5 g' 0 s.length cap' ⟨g, 0, none⟩ t.length cap cur' 5 (Lib.byteCells t) Try.underlying65 sizeU8' m1
      (by rw [Lib.byteCells_length, hl]; exact (Nat.min_self _).symm)
      (fun j v hj => by
        have hj' : j < t.length := by have := (List.getElem?_eq_some_iff.1 hj).1; rwa [Lib.byteCells_length] at this
        have hadd : (⟨g, 0, none⟩ : Addr).add j = ⟨g, j, none⟩ := by unfold Addr.add; split <;> simp_all
        rw [hadd, row_cell k1 k5 j hj', ← hj]
        simp [Lib.byteCells, List.getElem?_eq_getElem hj'])
      (by rw [Lib.byteCells_length]; omega) (byteCells_one t)
    rw [Lib.byteCells_length] at hr
    refine ⟨_, by rw [hsv]; exact hr, row_new hs t hl ?_, ?_⟩
    · intro G C c0 e1 e2 e3
      rw [hsv] at e1
      obtain ⟨rfl, rfl⟩ : g' = G ∧ cap' = C := by simpa using e1
      rw [m1] at e2
      obtain rfl : cur' = c0 := by simpa using e2
      rw [setRow_at w g' _ m1]
      simp [hl]
    · rw [hsv]
      refine ⟨rfl, rfl, rfl, by simp [World.setRow], fun k _ hk => ?_⟩
      show (w.setRow g' _).heap[k]? = _
      have : k ≠ g' := fun e => hk (by rw [e]; rfl)
      simp [World.setRow, Array.getElem?_modify, this.symm]

theorem kept3.grown {D : Nat} {T S : Option Nat} {a b c : World} (h : kept3 D T S a b) (g : b.grownBy c S) : kept3 D T S a c :=
  ⟨g.os.trans h.os, g.tape.trans h.tape, g.output.trans h.output, Nat.le_trans h.size g.size, fun k hk h1 h2 h3 => (g.block k (Nat.lt_of_lt_of_le hk h.size) h3).trans (h.block k hk h1 h2 h3)⟩

theorem kept3.grownT {D : Nat} {T S : Option Nat} {a b c : World} (h : kept3 D T S a b) (g : b.grownBy c T) : kept3 D T S a c :=
  ⟨g.os.trans h.os, g.tape.trans h.tape, g.output.trans h.output, Nat.le_trans h.size g.size, fun k hk h1 h2 h3 => (g.block k (Nat.lt_of_lt_of_le hk h.size) h2).trans (h.block k hk h1 h2 h3)⟩

theorem devAt.newSafe {D : Nat} {tv sv : Value} {x : Dp.Dv} {w v : World} (h : devAt D tv sv x w) (g : w.grownBy v sv.ownBlock) {l : List UInt8} (hr : rowOf v sv l) : devAt D tv sv { x with safe := l } v :=
  ⟨by rw [g.block D h.lt (fun e => h.sD e.symm)]; exact h.blk, h.text.of_block fun k hk => g.block k (h.text.lt hk) (fun e => h.ts k hk e.symm), hr, h.tD, h.sD, h.ts⟩

theorem devAt.newText {D : Nat} {tv sv : Value} {x : Dp.Dv} {w v : World} (h : devAt D tv sv x w) (g : w.grownBy v tv.ownBlock) {l : List UInt8} (hr : rowOf v tv l) : devAt D tv sv { x with text := l } v :=
  ⟨by rw [g.block D h.lt (fun e => h.tD e.symm)]; exact h.blk, hr, h.safe.of_block fun k hk => g.block k (h.safe.lt hk) (fun e => h.ts k e.symm hk), h.tD, h.sD, h.ts⟩

set_option maxRecDepth 100000 in
theorem syncText_any (D : Nat) (tv sv : Value) (x : Dp.Dv) (w : World) (hts : x.text.length = x.safe.length) (h : Hid (devAt D tv sv x w)) (hl : Hid (lifeOk x)) :
    Calls Try.prog 50 #[.pointer (some ⟨D, 0, none⟩)] w fun e w' => e = .returned (.bool (Dp.pSyncText x).1) ∧ devAt D tv sv (Dp.pSyncText x).2 w' ∧ kept3 D tv.ownBlock sv.ownBlock w w' := by
  have HW := works_any D tv sv x w h hl.out
  by_cases h0 : x.life = 0
  · have HP : Hid (Dp.pSyncText x = (false, x)) := by show _ = _; unfold Dp.pSyncText; rw [if_pos h0]
    rw [decide_eq_false (by simpa using h0), on_dead h0] at HW
    clear h0
    go_enter Try.func50, Try.ntmps50
    go_wp2_with fail
    refine HW.mono ?_
    rintro e v1 ⟨rfl, h1, k1⟩
    go_wp2_with fail
    go_ret
    rw [HP.out]
    exact ⟨rfl, h1, k1⟩
  · have HP : Hid (Dp.pSyncText x = (true, { x.on with safe := x.text })) := by show _ = _; unfold Dp.pSyncText; rw [if_neg h0]
    rw [decide_eq_true (by simpa using h0)] at HW
    clear h0
    go_enter Try.func50, Try.ntmps50
    go_wp2_with fail
    refine HW.mono ?_
    rintro e v1 ⟨rfl, h1, k1⟩
    obtain ⟨v2, hcp, hrow, hg⟩ := copy_rows (h1.drewN 1).text (h1.drewN 1).safe hts
    rw [show v1.drewN 1 = v1.drew from rfl] at hcp hg
    have HS : Hid (devAt D tv sv { x.on with safe := x.text } v2) := (h1.drewN 1).newSafe hg hrow
    have HK : Hid (kept3 D tv.ownBlock sv.ownBlock w v2) := (k1.drewN 1).grown hg
    obtain ⟨c0, c1, -, -, -, -⟩ := h1.cells
    clear h1 k1 hrow hg
    go_wp2_with fail
    go_region
    go_wp2_with fail
    go_ret
    rw [HP.out]
    exact ⟨rfl, HS.out, HK.out⟩

end Go.Proofs.Ytjjmcnippjpclaa

namespace Go.Proofs.Ytjjmcnippjpclaa

open Go.RowKit

/-- 'copy(b[a:], s)'. -/
theorem copy_in {w : World} {g cap a : Nat} {cur : Array Value} {l : List UInt8} {tv : Value} (S : ByteArray) (ht : rowOf w tv l) (htv : tv = .slice (some ⟨g, 0, none⟩) l.length cap) (hb : w.heap[g]? = some (.cells cur 5 (0, 0))) (hcs : cur.size = cap) (hlc : l.length ≤ cap) (hcl : cur.toList.take l.length = Lib.byteCells l) (hfit : a + S.size ≤ l.length) :
    ∃ w', (Builtin.copy_ #[65, 9] 3 #[.slice (some ⟨g, a, none⟩) (l.length - a) (cap - a), .string S]).run Try.prog w = .ok (goInt S.size) w' ∧ rowOf w' tv (l.take a ++ S.data.toList ++ l.drop (a + S.size)) ∧ w.grownBy w' tv.ownBlock := by
  have hS : S.data.toList.length = S.size := by simp
  have hr := Lib.run_copy_row_string (P := Try.prog) w 65 9 3 5 g a (l.length - a) (cap - a) S cur 5 Try.underlying65 sizeU8' hb (by omega) (by omega)
  refine ⟨_, hr, row_new ht _ (by simp; omega) ?_, ?_⟩
  · intro G C c0 e1 e2 e3
    rw [htv] at e1
    obtain ⟨rfl, rfl⟩ : g = G ∧ cap = C := by simpa using e1
    rw [hb] at e2
    obtain rfl : cur = c0 := by simpa using e2
    rw [setRow_at w g _ hb]
    have e4 : cur.toList = Lib.byteCells l ++ cur.toList.drop l.length := by rw [← hcl, List.take_append_drop]
    have e5 : (Lib.byteCells l).length = l.length := Lib.byteCells_length l
    refine congrArg (fun z => some (Obj.cells z 5 (0, 0))) (congrArg List.toArray ?_)
    generalize cur.toList.drop l.length = R at *
    rw [e4]
    rw [List.take_append_of_le_length (by omega), List.drop_append_of_le_length (by omega)]
    simp [Lib.byteCells, List.map_take, List.map_drop]
  · rw [htv]
    refine ⟨rfl, rfl, rfl, by simp [World.setRow], fun k _ hk => ?_⟩
    show (w.setRow g _).heap[k]? = _
    have : k ≠ g := fun e => hk (by rw [e]; rfl)
    simp [World.setRow, Array.getElem?_modify, this.symm]

set_option maxRecDepth 100000 in
theorem writeText_any (D : Nat) (tv sv : Value) (x : Dp.Dv) (a : Nat) (S : ByteArray) (w : World) (hfit : a + S.size ≤ x.text.length) (hS : 0 < S.size) (h : Hid (devAt D tv sv x w)) (hl : Hid (lifeOk x)) :
    Calls Try.prog 124 #[.pointer (some ⟨D, 0, none⟩), .int .i64 a, .string S] w fun e w' => e = .returned (.bool (Dp.pWrite x a S.data.toList).1) ∧ devAt D tv sv (Dp.pWrite x a S.data.toList).2 w' ∧ kept3 D tv.ownBlock sv.ownBlock w w' := by
  have HW := works_any D tv sv x w h hl.out
  by_cases h0 : x.life = 0
  · have HP : Hid (Dp.pWrite x a S.data.toList = (false, x)) := by show _ = _; unfold Dp.pWrite; rw [if_pos h0]
    rw [decide_eq_false (by simpa using h0), on_dead h0] at HW
    clear h0
    go_enter Try.func124, Try.ntmps124
    go_wp2_with fail
    refine HW.mono ?_
    rintro e v1 ⟨rfl, h1, k1⟩
    go_wp2_with fail
    go_ret
    rw [HP.out]
    exact ⟨rfl, h1, k1⟩
  · have HP : Hid (Dp.pWrite x a S.data.toList = (true, { x.on with text := x.text.take a ++ S.data.toList ++ x.text.drop (a + S.size) })) := by
      show _ = _; unfold Dp.pWrite; rw [if_neg h0, if_pos (by simpa using hfit)]; simp
    rw [decide_eq_true (by simpa using h0)] at HW
    clear h0
    go_enter Try.func124, Try.ntmps124
    go_wp2_with fail
    refine HW.mono ?_
    rintro e v1 ⟨rfl, h1, k1⟩
    rcases h1.text.form with ⟨_, h2⟩ | ⟨g, cap, cur, htv, hb, hc1, hc2, hc3, hc4⟩
    · rw [show x.on.text = x.text from rfl] at h2
      rw [h2] at hfit
      exact absurd hfit (by rw [List.length_nil]; omega)
    obtain ⟨v2, hcp, hrow, hg⟩ := copy_in (a := a) S h1.text htv hb hc3 hc1 hc4 hfit
    have HS : Hid (devAt D tv sv { x.on with text := x.text.take a ++ S.data.toList ++ x.text.drop (a + S.size) } v2) := h1.newText hg hrow
    have HK : Hid (kept3 D tv.ownBlock sv.ownBlock w v2) := k1.grownT hg
    obtain ⟨c0, -, -, -, -, -⟩ := h1.cells
    rw [show x.on.text = x.text from rfl] at *
    clear h1 k1 hrow hg hc4 hb
    rw [htv] at c0
    generalize x.text.length = m at *
    unfold maxLen at hc2
    obtain ⟨k, rfl⟩ : ∃ k, m = a + k := ⟨m - a, by omega⟩
    obtain ⟨c, rfl⟩ : ∃ c, cap = a + c := ⟨cap - a, by omega⟩
    rw [Nat.add_sub_cancel_left, Nat.add_sub_cancel_left] at hcp
    have d1 : decide ((a : Int) < 0) = false := decide_eq_false (by omega)
    have d2 : decide (((a + k : Nat) : Int) < (a : Int)) = false := decide_eq_false (by omega)
    have d3 : decide ((k : Int) < (S.size : Int)) = false := decide_eq_false (by omega)
    have d4 : wrap64 (((a + k : Nat) : Int) - (a : Int)) = (k : Int) := by unfold wrap64; omega
    go_wp2_with fail
    go_ret
    rw [HP.out]
    exact ⟨rfl, HS.out, HK.out⟩

end Go.Proofs.Ytjjmcnippjpclaa
