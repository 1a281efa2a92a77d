/-
  Proved here: for every number, every text and every place, Number, Read and Sum of package code answer what the document's own Number, Read and Sum answer, and the arguments are left as they were. No condition beyond the form's own reach.
-/
import Derived.Test.YtjjmcnippjpclaaSums
import Derived.ProofKit
import Derived.OpenShut
import Derived.ShutString
import Derived.ChangeOld
import Derived.Test.YtjjmcnippjpclaaRefs
namespace Go.Proofs.Ytjjmcnippjpclaa.numbers

open Go.ChangeShapes Go.WideShapes Go.ChangeAt Go.RowKit

open Go.ChangeMaps (open_string shut_string)

theorem own : ownKnob Try.prog.godebug = none := by kernel_rfl

theorem laidOut : laidOutB Try.prog = true := by kernel_rfl

theorem number_same (n : Int) : ∃ (s : ByteArray) (x : Int),
    (∀ w, Calls Try.prog 10 #[.int .i64 n] w fun e w' => e = .returned (.tuple #[.string s, .int .i64 x]) ∧ Below w.heap.size w w') ∧
    (∀ w, Calls Try.prog 11 #[.int .i64 n] w fun e w' => e = .returned (.tuple #[.string s, .int .i64 x]) ∧ Below w.heap.size w w') := by
  by_cases h : n < 0 ∨ 2147483647 < n
  · refine ⟨⟨#[]⟩, 1, fun w => (number_no n w h).mono ?_, fun w => (refnumber_no n w h).mono ?_⟩
    · rintro e w' ⟨rfl, rfl⟩; exact ⟨rfl, Below.refl _ _⟩
    · rintro e w' ⟨rfl, rfl⟩; exact ⟨rfl, Below.refl _ _⟩
  · obtain ⟨k, rfl⟩ := Int.eq_ofNat_of_zero_le (show 0 ≤ n by omega)
    exact ⟨_, _, fun w => number_yes k w (by omega), fun w => refnumber_yes k w (by omega)⟩

theorem read_same (s : ByteArray) (a : Int) (hs : s.size ≤ 281474976710656) : ∃ (x i g : Int),
    (∀ w, Calls Try.prog 12 #[.string s, .int .i64 a] w fun e w' => e = .returned (.tuple #[.int .i64 x, .int .i64 i, .int .i64 g]) ∧ Below w.heap.size w w') ∧
    (∀ w, Calls Try.prog 13 #[.string s, .int .i64 a] w fun e w' => e = .returned (.tuple #[.int .i64 x, .int .i64 i, .int .i64 g]) ∧ Below w.heap.size w w') := by
  have hm : s.size ≤ maxLen := by unfold maxLen; omega
  by_cases h : a < 0 ∨ (s.size : Int) < a
  · refine ⟨0, 0, 1, fun w => (read_no s a w hm h).mono ?_, fun w => (refread_no s a w hs h).mono ?_⟩
    · rintro e w' ⟨rfl, rfl⟩; exact ⟨rfl, Below.refl _ _⟩
    · rintro e w' ⟨rfl, rfl⟩; exact ⟨rfl, Below.refl _ _⟩
  · obtain ⟨k, rfl⟩ := Int.eq_ofNat_of_zero_le (show 0 ≤ a by omega)
    have h1 := fun w => read_any s k w hm (by omega)
    have h2 := fun w => refread_any s k w hs (by omega)
    cases hr : Pl.rd (s.data.toList.drop k) with
    | none =>
      rw [hr] at h1 h2
      exact ⟨0, 0, 3, fun w => (h1 w).mono (by rintro e w' ⟨rfl, rfl⟩; exact ⟨rfl, Below.refl _ _⟩), h2⟩
    | some p =>
      rw [hr] at h1 h2
      exact ⟨_, _, 0, fun w => (h1 w).mono (by rintro e w' ⟨rfl, rfl⟩; exact ⟨rfl, Below.refl _ _⟩), h2⟩

set_option maxHeartbeats 1000000 in
theorem walk (a0 : Int) (a1 : ByteArray) (a2 : Int) (w1 : a1.size ≤ 281474976710656) (w : World) :
    Calls Try.prog 3 #[.int .i64 a0, .string a1, .int .i64 a2] w fun e w' => e = .returned (.bool true) ∧ Below w.heap.size w w' := by
  obtain ⟨s, x, h6, h7⟩ := number_same a0
  obtain ⟨y, i, g, h8, h9⟩ := read_same a1 a2 w1
  have hm : a1.size ≤ maxLen := by unfold maxLen; omega
  have h10 := fun w => sum_any a1 w hm
  have h11 := fun w => refsum_any a1 w hm
  generalize Pl.sumOf (Pl.ad a1.data.toList).1 (Pl.ad a1.data.toList).2 = t at h10 h11
  have H6 : Hid (∀ w, Calls Try.prog 10 #[.int .i64 a0] w fun e w' => e = .returned (.tuple #[.string s, .int .i64 x]) ∧ Below w.heap.size w w') := h6
  have H7 : Hid (∀ w, Calls Try.prog 11 #[.int .i64 a0] w fun e w' => e = .returned (.tuple #[.string s, .int .i64 x]) ∧ Below w.heap.size w w') := h7
  have H8 : Hid (∀ w, Calls Try.prog 12 #[.string a1, .int .i64 a2] w fun e w' => e = .returned (.tuple #[.int .i64 y, .int .i64 i, .int .i64 g]) ∧ Below w.heap.size w w') := h8
  have H9 : Hid (∀ w, Calls Try.prog 13 #[.string a1, .int .i64 a2] w fun e w' => e = .returned (.tuple #[.int .i64 y, .int .i64 i, .int .i64 g]) ∧ Below w.heap.size w w') := h9
  have H10 : Hid (∀ w, Calls Try.prog 14 #[.string a1] w fun e w' => e = .returned (.string t) ∧ Below w.heap.size w w') := h10
  have H11 : Hid (∀ w, Calls Try.prog 15 #[.string a1] w fun e w' => e = .returned (.string t) ∧ Below w.heap.size w w') := h11
  clear h6 h7 h8 h9 h10 h11 hm
  go_enter Try.func3, Try.ntmps3
  go_wp2_with fail
  refine (H6.out _).mono ?_
  rintro e v1 ⟨rfl, b1⟩
  go_wp2_with fail
  refine (H7.out _).mono ?_
  rintro e v2 ⟨rfl, b2⟩
  go_wp2_with fail
  refine (H8.out _).mono ?_
  rintro e v3 ⟨rfl, b3⟩
  go_wp2_with fail
  refine (H9.out _).mono ?_
  rintro e v4 ⟨rfl, b4⟩
  go_wp2_with fail
  refine (H10.out _).mono ?_
  rintro e v5 ⟨rfl, b5⟩
  go_wp2_with fail
  refine (H11.out _).mono ?_
  rintro e v6 ⟨rfl, b6⟩
  go_wp2
  go_ret
  have c2 := b1.trans (b2.mono b1.size)
  have c3 := c2.trans (b3.mono c2.size)
  have c4 := c3.trans (b4.mono c3.size)
  have c5 := c4.trans (b5.mono c4.size)
  have c6 := c5.trans (b6.mono c5.size)
  exact ⟨by simp, c6⟩

set_option maxRecDepth 100000 in
theorem lifted (os : Os) (started : os.Started) (H : Type) (enc : TypeId × Value → H) :
    ReturnsInHanded {} Try.checked os 3 .any (Rows.numbersSpec.pre6 enc Try.prog Try.f3 Rows.numbersRow.domain false) (Rows.numbersSpec.post enc Try.prog Try.f3 false true false false) := by
  refine returnsInHanded_of_change_sized (C := Try.checked) own started (by kernel_rfl) Try.func3
    (ChangeSpec.witness6 (enc := enc) (C := Try.checked) false ⟨#[], #[.int .i64 0, .string ByteArray.empty, .int .i64 0], []⟩ 8 (by kernel_rfl) (by kernel_rfl) (by kernel_rfl) (by kernel_rfl)) ?_
  intro W base args ds gs before hval0 hW hcnd hsz _
  have hval : ∀ (j : Nat) t v, Try.f3.params[j]? = some t → args[j]? = some v → Value.okWide Try.prog W .any base t v := hval0
  have hW' := hW
  obtain ⟨p, q, hA0, hV, rfl, hfz, hnd⟩ := hW
  have hA : DataW.TrodAll enc Try.prog W 0 (fun _ => true) true Try.f3.params.toList args.toList ds p := hA0
  rw [Try.params3] at hA hval
  obtain ⟨v0, vs0, d0, ds0, p0, q0, hargs, rfl, rfl, h0, r0⟩ := trodAll_cons hA
  obtain ⟨v1, vs1, d1, ds1, p1, q1, rfl, rfl, rfl, h1, r1⟩ := trodAll_cons r0
  obtain ⟨v2, vs2, d2, ds2, p2, q2, rfl, rfl, rfl, h2, r2⟩ := trodAll_cons r1
  obtain ⟨rfl, rfl, rfl⟩ := trodAll_nil r2
  obtain rfl : args = #[v0, v1, v2] := by cases args; simp_all
  obtain ⟨rfl, rfl⟩ := trodVars_none hV
  obtain ⟨a0, rfl, rfl, rfl, w0⟩ := open_int Try.underlying3 (hval 0 3 v0 rfl rfl) h0
  obtain ⟨a1, rfl, rfl, rfl, w1⟩ := open_string Try.underlying9 (hval 1 9 v1 rfl rfl) h1
  obtain ⟨a2, rfl, rfl, rfl, w2⟩ := open_int Try.underlying3 (hval 2 3 v2 rfl rfl) h2
  have hb : a1.size ≤ 281474976710656 := by
    have := sized_string (P := Try.prog) (ts := Try.f3.params.toList ++ Rows.numbersSpec.plain.varTypes Try.prog) hsz (j := 1) (t := 9) (bytes := a1.data.toList) rfl rfl
    have h47 := reachBytes_lt
    have e : a1.data.toList.length = a1.size := by simp
    omega
  clear hA0 hval0
  simp only [List.append_nil] at hW'
  refine (walk a0 a1 a2 hb W).mono fun e W' ⟨he, bel⟩ => ?_
  subst he
  exact ⟨_, rfl, _, _, _, [], [], [], hW', trodAll_mk1 (shut_bool Try.underlying4 _), (trodAll_cons_mk (shut_int Try.underlying3 w0) (trodAll_cons_mk (shut_string Try.underlying9 w1) (trodAll_cons_mk (shut_int Try.underlying3 w2) trodAll_mk0))), rfl, bel.frame _, fun h => by cases h⟩

theorem over : Rows.numbersRow.holds Try.pinned (OpenSpec.ofChange Rows.numbersSpec) :=
  OpenClaim.holds_of_wide 3 Try.f3 rfl rfl rfl rfl rfl rfl rfl ⟨rfl, rfl, rfl, rfl, rfl⟩ rfl rfl rfl rfl rfl (by kernel_rfl) Try.func3 (by kernel_rfl)
    (of_decide_eq_true (by kernel_rfl)) (by unfold Func.isWrapper; first | (rw [if_pos (by decide +kernel)]; kernel_rfl) | (rw [if_neg (by decide +kernel)]; exact ⟨rfl, rfl⟩))
    (fun os started H enc _ => lifted os started H enc)

end Go.Proofs.Ytjjmcnippjpclaa.numbers

namespace Go.Proofs.Ytjjmcnippjpclaa

theorem numbers_holds : Rows.NumbersSaid := numbers.over

#print axioms numbers_holds

end Go.Proofs.Ytjjmcnippjpclaa
