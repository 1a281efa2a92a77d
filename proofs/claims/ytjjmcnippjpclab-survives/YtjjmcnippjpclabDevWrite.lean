/-
  The walk of WriteText.
-/
import Derived.Test.YtjjmcnippjpclabDevText
import Derived.Lib.BufferWrite
namespace Go.Proofs.Ytjjmcnippjpclab

open Go.RowKit

/-- 'copy(b[a:], s)'. -/
theorem copy_in {w : World} {g cap a : Nat} {cur : Array Value} {l : List UInt8} {tv : Value} (S : ByteArray) (ht : rowOf w tv l) (htv : tv = .slice (some ⟨g, 0, none⟩) l.length cap) (hb : w.heap[g]? = some (.cells cur 5 (0, 0))) (hcs : cur.size = cap) (hlc : l.length ≤ cap) (hcl : cur.toList.take l.length = Lib.byteCells l) (hfit : a + S.size ≤ l.length) :
    ∃ w', (Builtin.copy_ #[34, 9] 3 #[.slice (some ⟨g, a, none⟩) (l.length - a) (cap - a), .string S]).run Try.prog w = .ok (goInt S.size) w' ∧ rowOf w' tv (l.take a ++ S.data.toList ++ l.drop (a + S.size)) ∧ w.grownBy w' tv.ownBlock := by
  have hS : S.data.toList.length = S.size := by simp
  have hr := Lib.run_copy_row_string (P := Try.prog) w 34 9 3 5 g a (l.length - a) (cap - a) S cur 5 Try.underlying34 sizeU8' hb (by omega) (by omega)
  refine ⟨_, hr, row_new ht _ (by simp; omega) ?_, ?_⟩
  · intro G C c0 e1 e2 e3
    rw [htv] at e1
    obtain ⟨rfl, rfl⟩ : g = G ∧ cap = C := by simpa using e1
    rw [hb] at e2
    obtain rfl : cur = c0 := by simpa using e2
    rw [setRow_at w g _ hb]
    have e4 : cur.toList = Lib.byteCells l ++ cur.toList.drop l.length := by rw [← hcl, List.take_append_drop]
    have e5 : (Lib.byteCells l).length = l.length := Lib.byteCells_length l
    refine congrArg (fun z => some (Obj.cells z 5 (0, 0))) (congrArg List.toArray ?_)
    generalize cur.toList.drop l.length = R at *
    rw [e4]
    rw [List.take_append_of_le_length (by omega), List.drop_append_of_le_length (by omega)]
    simp [Lib.byteCells, List.map_take, List.map_drop]
  · rw [htv]
    refine ⟨rfl, rfl, rfl, by simp [World.setRow], fun k _ hk => ?_⟩
    show (w.setRow g _).heap[k]? = _
    have : k ≠ g := fun e => hk (by rw [e]; rfl)
    simp [World.setRow, Array.getElem?_modify, this.symm]

set_option maxRecDepth 100000 in
theorem writeText_any (D : Nat) (tv sv : Value) (x : Dp.Dv) (a : Nat) (S : ByteArray) (w : World) (hfit : a + S.size ≤ x.text.length) (hS : 0 < S.size) (h : Hid (devAt D tv sv x w)) (hl : Hid (lifeOk x)) :
    Calls Try.prog 97 #[.pointer (some ⟨D, 0, none⟩), .int .i64 a, .string S] w fun e w' => e = .returned (.bool (Dp.pWrite x a S.data.toList).1) ∧ devAt D tv sv (Dp.pWrite x a S.data.toList).2 w' ∧ kept3 D tv.ownBlock sv.ownBlock w w' := by
  have HW := works_any D tv sv x w h hl.out
  by_cases h0 : x.life = 0
  · have HP : Hid (Dp.pWrite x a S.data.toList = (false, x)) := by show _ = _; unfold Dp.pWrite; rw [if_pos h0]
    rw [decide_eq_false (by simpa using h0), on_dead h0] at HW
    clear h0
    go_enter Try.func97, Try.ntmps97
    go_wp2_with fail
    refine HW.mono ?_
    rintro e v1 ⟨rfl, h1, k1⟩
    go_wp2_with fail
    go_ret
    rw [HP.out]
    exact ⟨rfl, h1, k1⟩
  · have HP : Hid (Dp.pWrite x a S.data.toList = (true, { x.on with text := x.text.take a ++ S.data.toList ++ x.text.drop (a + S.size) })) := by
      show _ = _; unfold Dp.pWrite; rw [if_neg h0, if_pos (by simpa using hfit)]; simp
    rw [decide_eq_true (by simpa using h0)] at HW
    clear h0
    go_enter Try.func97, Try.ntmps97
    go_wp2_with fail
    refine HW.mono ?_
    rintro e v1 ⟨rfl, h1, k1⟩
    rcases h1.text.form with ⟨_, h2⟩ | ⟨g, cap, cur, htv, hb, hc1, hc2, hc3, hc4⟩
    · rw [show x.on.text = x.text from rfl] at h2
      rw [h2] at hfit
      exact absurd hfit (by rw [List.length_nil]; omega)
    obtain ⟨v2, hcp, hrow, hg⟩ := copy_in (a := a) S h1.text htv hb hc3 hc1 hc4 hfit
    have HS : Hid (devAt D tv sv { x.on with text := x.text.take a ++ S.data.toList ++ x.text.drop (a + S.size) } v2) := h1.newText hg hrow
    have HK : Hid (kept3 D tv.ownBlock sv.ownBlock w v2) := k1.grownT hg
    obtain ⟨c0, -, -, -, -, -⟩ := h1.cells
    rw [show x.on.text = x.text from rfl] at *
    clear h1 k1 hrow hg hc4 hb
    rw [htv] at c0
    generalize x.text.length = m at *
    unfold maxLen at hc2
    obtain ⟨k, rfl⟩ : ∃ k, m = a + k := ⟨m - a, by omega⟩
    obtain ⟨c, rfl⟩ : ∃ c, cap = a + c := ⟨cap - a, by omega⟩
    rw [Nat.add_sub_cancel_left, Nat.add_sub_cancel_left] at hcp
    have d1 : decide ((a : Int) < 0) = false := decide_eq_false (by omega)
    have d2 : decide (((a + k : Nat) : Int) < (a : Int)) = false := decide_eq_false (by omega)
    have d3 : decide ((k : Int) < (S.size : Int)) = false := decide_eq_false (by omega)
    have d4 : wrap64 (((a + k : Nat) : Int) - (a : Int)) = (k : Int) := by unfold wrap64; omega
    go_wp2_with fail
    go_ret
    rw [HP.out]
    exact ⟨rfl, HS.out, HK.out⟩

end Go.Proofs.Ytjjmcnippjpclab
