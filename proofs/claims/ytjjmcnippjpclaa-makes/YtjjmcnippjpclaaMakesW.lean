/-
  The walk of the law Makes.
-/
import Derived.Test.YtjjmcnippjpclaaMadeBack
import Derived.Test.YtjjmcnippjpclaaDone
import Derived.Test.YtjjmcnippjpclaaRefPlan
import Derived.Test.YtjjmcnippjpclaaSums
import Derived.Test.YtjjmcnippjpclaaRefs
namespace Go.Proofs.Ytjjmcnippjpclaa

open Go.RowKit

set_option maxRecDepth 100000 in
set_option maxHeartbeats 8000000 in
theorem makes_walk (o n : ByteArray) (w : World) (ho : o.size ≤ 140737488355328) (hn : n.size ≤ 140737488355328) :
    Calls Try.prog 6 #[.string o, .string n] w fun e w' => e = .returned (.bool true) ∧ Below w.heap.size w w' := by
  by_cases hlong : 4000 < o.size ∨ 4000 < n.size
  · have HL : Hid (Calls Try.prog 24 #[.string o, .string n] w fun e w' => e = .returned (.tuple #[.string ⟨#[]⟩, .int .i64 2]) ∧ w' = w) := make_long o n w ho hn hlong
    by_cases h1 : 4000 < o.size
    · have d1 : decide ((4000 : Int) < (o.size : Int)) = true := decide_eq_true (by omega)
      clear hlong
      go_enter Try.func6, Try.ntmps6
      go_wp2_with fail
      refine HL.out.mono ?_
      rintro e v ⟨rfl, h0⟩
      rw [h0]
      clear h0 v
      go_wp2_with fail
      go_ret
      exact ⟨rfl, Below.refl _ _⟩
    · have d1 : decide ((4000 : Int) < (o.size : Int)) = false := decide_eq_false (by omega)
      have d2 : decide ((4000 : Int) < (n.size : Int)) = true := decide_eq_true (by omega)
      clear hlong
      go_enter Try.func6, Try.ntmps6
      go_wp2_with fail
      refine HL.out.mono ?_
      rintro e v ⟨rfl, h0⟩
      rw [h0]
      clear h0 v
      go_wp2_with fail
      go_ret
      exact ⟨rfl, Below.refl _ _⟩
  · have ho4 : o.size ≤ 4000 := by omega
    have hn4 : n.size ≤ 4000 := by omega
    clear hlong
    have d1 : decide ((4000 : Int) < (o.size : Int)) = false := decide_eq_false (by omega)
    have d2 : decide ((4000 : Int) < (n.size : Int)) = false := decide_eq_false (by omega)
    go_enter Try.func6, Try.ntmps6
    go_wp2_with fail
    refine (make_any o n w ho4 hn4).mono ?_
    rintro e v1 ⟨⟨l, M, T, rfl, hmade⟩, b1⟩
    have HMD : Hid (MadeOf o n l M T) := hmade
    obtain ⟨hs1, hs2⟩ := made_size hmade ho4 hn4
    have HS2 : Hid (o = n → T.size ≤ 60) := hs2
    obtain ⟨r0, r1, r2, r3, r4, r5, r6⟩ := made_read hmade ho4 hn4
    have HRP : Hid (∀ v, Calls Try.prog 16 #[.string T] v fun e w' => Below v.heap.size v w' ∧ ∃ x, e = .returned (.tuple #[.agg #[.int .i64 o.size, .int .i64 n.size, .string (sumB o), .string (sumB n), x], .int .i64 0]) ∧ w'.ownsRow v.heap.size 40 5 x (M.map (_root_.Pl.Sp.st n)).length (stCells (M.map (_root_.Pl.Sp.st n)))) := fun v => by
      refine (refPlan_any T v (by omega)).mono ?_
      rintro e w' ⟨hb, ⟨hne, _⟩ | ⟨_, x, he, hw⟩⟩
      · exact absurd r0 hne
      · rw [r1, r2, r3, r4] at he
        rw [r5, r6] at hw
        exact ⟨hb, x, he, hw⟩
    have HD : Hid (doneB (M.map (_root_.Pl.Sp.st n)) o n.size = n.data.toList) := made_done hmade.good hmade.sorted.perm
    have hok : ∀ x ∈ M.map (_root_.Pl.Sp.st n), Pl.ok o.size n.size x = true := fun x hx => by
      obtain ⟨s, hs, rfl⟩ := List.mem_map.1 hx
      exact _root_.Pl.ok_st hmade.good (hmade.sorted.perm.subset hs)
    have HOK : Hid (∀ x ∈ M.map (_root_.Pl.Sp.st n), Pl.ok o.size n.size x = true) := hok
    have hml : (M.map (_root_.Pl.Sp.st n)).length ≤ 2000 := by rw [List.length_map, hmade.sorted.perm.length_eq]; exact good_few hmade.good hn4
    clear hmade r0 r1 r2 r3 r4 r5 r6 hok hs2
    generalize M.map (_root_.Pl.Sp.st n) = ST at *
    have HB1 : Hid (Below w.heap.size w v1) := b1
    have z1 := b1.size
    clear b1
    go_wp2_with fail
    refine (HRP.out v1).mono ?_
    rintro e v2 ⟨b2, x2, rfl, hw2⟩
    have HB2 : Hid (Below w.heap.size w v2) := HB1.out.trans (b2.mono z1)
    have z2 := HB2.out.size
    have HW2 : Hid (v2.ownsRow v1.heap.size 40 5 x2 ST.length (stCells ST)) := hw2
    clear b2 hw2 HRP
    obtain ⟨sa, sc, rfl⟩ : ∃ sa sc, x2 = .slice sa ST.length sc := by
      rcases HW2.out.2 with ⟨hv, hz⟩ | ⟨g, cap, cur, hv, _⟩
      · exact ⟨none, 0, by rw [hv, hz]⟩
      · exact ⟨_, _, hv⟩
    have HS1 : Hid (∀ w, Calls Try.prog 15 #[.string o] w fun e w' => e = .returned (.string (sumB o)) ∧ Below w.heap.size w w') := fun w => refsum_any o w (by unfold maxLen; omega)
    have HS3 : Hid (∀ w, Calls Try.prog 15 #[.string n] w fun e w' => e = .returned (.string (sumB n)) ∧ Below w.heap.size w w') := fun w => refsum_any n w (by unfold maxLen; omega)
    generalize hSO : sumB o = SO at *
    generalize hSN : sumB n = SN at *
    clear hSO hSN
    have n1 : ((o.size : Int) != (o.size : Int)) = false := by simp
    have n2 : ((n.size : Int) != (n.size : Int)) = false := by simp
    go_wp2_with fail
    refine (HS1.out _).mono ?_
    rintro e v3 ⟨rfl, b3⟩
    have HX3 : Hid (v3.heap[v2.heap.size]? = some (.cells #[.int .i64 o.size, .int .i64 n.size, .string SO, .string SN, .slice sa ST.length sc] 31 (0, 0))) := by
      show _ = _
      rw [b3.block _ (by simp)]; exact heap_alloc_new v2 _
    have HW3 : Hid (v3.ownsRow v1.heap.size 40 5 (.slice sa ST.length sc) ST.length (stCells ST)) := own_kept (HW2.out.alloc _) b3
    have HB3 : Hid (Below w.heap.size w v3) := (HB2.out.alloc z2 _).trans (b3.mono (by simp; omega))
    have z3 : v2.heap.size < v3.heap.size := by have := b3.size; simp at this; omega
    clear b3 HW2 HB2 HS1
    go_wp2_with fail
    refine (HS3.out _).mono ?_
    rintro e v4 ⟨rfl, b4⟩
    have HX4 : Hid (v4.heap[v2.heap.size]? = some (.cells #[.int .i64 o.size, .int .i64 n.size, .string SO, .string SN, .slice sa ST.length sc] 31 (0, 0))) := by
      show _ = _
      rw [b4.block _ z3]; exact HX3.out
    have HW4 : Hid (v4.ownsRow v1.heap.size 40 5 (.slice sa ST.length sc) ST.length (stCells ST)) := own_kept HW3.out b4
    have HB4 : Hid (Below w.heap.size w v4) := HB3.out.trans (b4.mono (by omega))
    have z4 : v2.heap.size < v4.heap.size := by have := b4.size; omega
    clear b4 HW3 HB3 HS3 HX3
    obtain ⟨p0, p1, p2, p3, p4, _⟩ := box31 HX4.out
    have HDN : Hid (Calls Try.prog 25 #[.agg #[.int .i64 o.size, .int .i64 n.size, .string SO, .string SN, .slice sa ST.length sc], .string o] v4 fun e w' => e = .returned (.string n) ∧ Below v4.heap.size v4 w') := by
      obtain ⟨a1, b1, o1, c1, e1, h1, _⟩ := own_slice HW4.out rfl (by omega)
      cases e1
      have h := done_any o.size n.size SO SN sa b1 o1 sc ST o v4 ho4 hn4 (Nat.le_refl _) hml h1 HOK
      rw [HD.out] at h
      refine h.mono ?_
      rintro e w' ⟨he, hb⟩
      exact ⟨he.trans (by rw [show (⟨n.data.toList.toArray⟩ : ByteArray) = n from ByteArray.ext Array.toArray_toList]), hb⟩
    go_wp2_with fail
    refine HDN.out.mono ?_
    rintro e v5 ⟨rfl, b5⟩
    have HX5 : Hid (v5.heap[v2.heap.size]? = some (.cells #[.int .i64 o.size, .int .i64 n.size, .string SO, .string SN, .slice sa ST.length sc] 31 (0, 0))) := by
      show _ = _
      rw [b5.block _ z4]; exact HX4.out
    have HB5 : Hid (Below w.heap.size w v5) := HB4.out.trans (b5.mono HB4.out.size)
    clear p0 p1 p2 p3 p4 b5 HX4 HB4 HDN HW4
    obtain ⟨p0, p1, p2, p3, p4, _⟩ := box31 HX5.out
    by_cases hon : o = n
    · have hT := HS2.out hon
      subst hon
      have d5 : decide ((T.size : Int) ≤ 60) = true := decide_eq_true (by omega)
      go_wp2_with fail
      go_ret
      exact ⟨rfl, HB5.out⟩
    · have hne := bytes_ne hon
      have d5 : decide ((T.size : Int) ≤ 60 + 2 * (n.size : Int)) = true := decide_eq_true (by omega)
      have hneb : (o.toList != n.toList) = true := by simpa using hne
      go_wp2_with fail
      · go_ret
        exact ⟨rfl, HB5.out⟩
      · exfalso
        rename_i hcon
        exact hne (by simpa using hcon)

end Go.Proofs.Ytjjmcnippjpclaa
