/-
  The walk of Make: a patch in place out of two texts.
-/
import Derived.Test.YtjjmcnippjpclabOrderW
import Derived.Test.YtjjmcnippjpclabMadePlain
import Derived.Test.YtjjmcnippjpclabWrite
namespace Go.Proofs.Ytjjmcnippjpclab

open Go.RowKit

def sumB (s : ByteArray) : ByteArray := Pl.sumOf (Pl.ad s.data.toList).1 (Pl.ad s.data.toList).2

theorem sumB_size (s : ByteArray) : (sumB s).size = 4 := by unfold sumB Pl.sumOf; rw [Pl.strOfNums_size]; rfl

/-- what Make makes. -/
structure MadeOf (o n : ByteArray) (l M : List _root_.Pl.Sp) (T : ByteArray) : Prop where
  good : _root_.Pl.Good o n l
  sorted : _root_.Pl.Sorted l M
  text : T = ⟨(madeB o n (sumB o) (sumB n) M).toArray⟩
  same : o = n → l.length ≤ 1 ∧ ∀ s ∈ l, s.src = none → s.n < 12

theorem made_write {o n : ByteArray} {l M : List _root_.Pl.Sp} (hG : _root_.Pl.Good o n l) (hM : _root_.Pl.Sorted l M) (ho : o.size ≤ 4000) (hn : n.size ≤ 4000) :
    wText o.size n.size (sumB o) (sumB n) (M.map (_root_.Pl.Sp.st n)) = ⟨(madeB o n (sumB o) (sumB n) M).toArray⟩ ∧ wErr o.size n.size (sumB o) (sumB n) (M.map (_root_.Pl.Sp.st n)) = 0 := by
  obtain ⟨h1, h2⟩ := _root_.Pl.full_st (os := sumB o) (ns := sumB n) hG hM ho hn (sumB_size o) (sumB_size n) (good_few hG hn)
  unfold wText wErr
  rw [h1, h2]
  exact ⟨rfl, rfl⟩

set_option maxRecDepth 100000 in
set_option maxHeartbeats 4000000 in
theorem make_any (o n : ByteArray) (w : World) (ho : o.size ≤ 4000) (hn : n.size ≤ 4000) :
    Calls Try.prog 8 #[.string o, .string n] w fun e w' => (∃ l M T, e = .returned (.tuple #[.string T, .int .i64 0]) ∧ MadeOf o n l M T) ∧ Below w.heap.size w w' := by
  have HS1 : Hid (∀ w, Calls Try.prog 20 #[.string o] w fun e w' => e = .returned (.string (sumB o)) ∧ Below w.heap.size w w') := fun w => sum_any o w (by unfold maxLen; omega)
  have HS2 : Hid (∀ w, Calls Try.prog 20 #[.string n] w fun e w' => e = .returned (.string (sumB n)) ∧ Below w.heap.size w w') := fun w => sum_any n w (by unfold maxLen; omega)
  go_enter Try.func8, Try.ntmps8
  go_wp2_with fail
  refine (HS1.out _).mono ?_
  rintro e v1 ⟨rfl, b1⟩
  have z1 := b1.size
  go_wp2_with fail
  refine (HS2.out _).mono ?_
  rintro e v2 ⟨rfl, b2⟩
  have z2 := b2.size
  go_wp2_with fail
  refine (cutM_any o n v2 ho hn).mono ?_
  rintro e v3 ⟨x3, l0, rfl, hcut, hw3, b3⟩
  have z3 := b3.size
  have HC : Hid (IsCut o n l0) := hcut
  clear hcut
  go_wp2_with fail
  refine (order_any o n x3 l0 v2.heap.size v3 ho hn z3 HC.out.good hw3).mono ?_
  rintro e v4 ⟨x4, l, M, rfl, hG, hM, hone, hw4, b4, h0⟩
  have z4 := b4.size
  have HB : Hid (Below w.heap.size w v4) := ((b1.trans (b2.mono z1)).trans (b3.mono (by omega))).trans (b4.mono (by omega))
  have HMO : Hid (MadeOf o n l M ⟨(madeB o n (sumB o) (sumB n) M).toArray⟩) := ⟨hG, hM, rfl, fun e => by
    have hs := HC.out.same e
    have h1 := hone hs.1
    rw [h1.1]
    exact hs⟩
  obtain ⟨hT, hE⟩ := made_write hG hM ho hn
  have HTE : Hid (wText o.size n.size (sumB o) (sumB n) (M.map (_root_.Pl.Sp.st n)) = ⟨(madeB o n (sumB o) (sumB n) M).toArray⟩ ∧ wErr o.size n.size (sumB o) (sumB n) (M.map (_root_.Pl.Sp.st n)) = 0) := ⟨hT, hE⟩
  have hlen : M.length = (M.map (_root_.Pl.Sp.st n)).length := by rw [List.length_map]
  obtain ⟨sa, sb, so, sc, rfl, hst, _⟩ := own_slice (st := M.map (_root_.Pl.Sp.st n)) (n := M.length) hw4 hlen.symm h0
  have hfew : (M.map (_root_.Pl.Sp.st n)).length ≤ 2000 := by rw [List.length_map, hM.perm.length_eq]; exact good_few hG hn
  have HST : Hid (stepsAt v4 sa sb so (M.map (_root_.Pl.Sp.st n))) := hst
  have HWR : Hid (∀ w, stepsAt w sa sb so (M.map (_root_.Pl.Sp.st n)) → Calls Try.prog 11 #[.agg #[.int .i64 o.size, .int .i64 n.size, .string (sumB o), .string (sumB n), .slice sa (M.map (_root_.Pl.Sp.st n)).length sc]] w fun e w' => e = .returned (.tuple #[.string ⟨(madeB o n (sumB o) (sumB n) M).toArray⟩, .int .i64 0]) ∧ Below w.heap.size w w') := fun w h => by
    have := write_any o.size n.size (sumB o) (sumB n) sa sb so sc (M.map (_root_.Pl.Sp.st n)) w (by omega) h
    rw [HTE.out.1, HTE.out.2] at this
    exact this
  clear hG hM hone hw4 hT hE hst hlen HTE
  generalize M.map (_root_.Pl.Sp.st n) = ST at *
  generalize hTT : (⟨(madeB o n (sumB o) (sumB n) M).toArray⟩ : ByteArray) = T at *
  clear hTT
  go_wp2_with fail
  refine (HWR.out v4 HST.out).mono ?_
  rintro e v5 ⟨rfl, b5⟩
  have HB5 : Hid (Below w.heap.size w v5) := HB.out.trans (b5.mono HB.out.size)
  clear b5
  go_wp2_with fail
  go_ret2
  exact ⟨⟨l, M, T, rfl, HMO.out⟩, HB5.out⟩

set_option maxRecDepth 100000 in
theorem make_long (o n : ByteArray) (w : World) (_ : o.size ≤ 140737488355328) (_ : n.size ≤ 140737488355328) (h : 4000 < o.size ∨ 4000 < n.size) :
    Calls Try.prog 8 #[.string o, .string n] w fun e w' => e = .returned (.tuple #[.string ⟨#[]⟩, .int .i64 2]) ∧ w' = w := by
  by_cases h1 : 4000 < o.size
  · have d1 : decide ((4000 : Int) < (o.size : Int)) = true := decide_eq_true (by omega)
    go_enter Try.func8, Try.ntmps8
    go_wp2_with fail
    go_ret2
    exact ⟨rfl, rfl⟩
  · have d1 : decide ((4000 : Int) < (o.size : Int)) = false := decide_eq_false (by omega)
    have d2 : decide ((4000 : Int) < (n.size : Int)) = true := decide_eq_true (by omega)
    go_enter Try.func8, Try.ntmps8
    go_wp2_with fail
    go_ret2
    exact ⟨rfl, rfl⟩

end Go.Proofs.Ytjjmcnippjpclab
