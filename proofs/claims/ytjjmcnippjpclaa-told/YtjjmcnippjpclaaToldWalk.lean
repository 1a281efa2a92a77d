/-
  The walk of Told.
-/
import Derived.Test.YtjjmcnippjpclaaLives
import Derived.Test.YtjjmcnippjpclaaSums
import Derived.Test.YtjjmcnippjpclaaPlainT
import Derived.Lib.Strings
namespace Go.Proofs.Ytjjmcnippjpclaa

open Go.RowKit

set_option maxRecDepth 100000 in
set_option maxHeartbeats 1000000 in
theorem told_core (n m : Int) (p q S T : ByteArray) (A B : Nat) (w : World) (hp : p.size ≤ 140737488355328) (hq : q.size ≤ 140737488355328)
    (hA : A ≤ 2147483647) (hS1 : 1 ≤ S.size) (hS5 : S.size ≤ 5)
    (p1 : Hid (∀ w, Calls Try.prog 30 #[.int .i64 n, .int .i64 2147483648] w fun e w' => e = .returned (.int .i64 (A : Int)) ∧ w' = w))
    (p2 : Hid (∀ w, Calls Try.prog 30 #[.int .i64 m, .int .i64 2147483648] w fun e w' => e = .returned (.int .i64 (B : Int)) ∧ w' = w))
    (n1 : Hid (∀ w, Calls Try.prog 10 #[.int .i64 (A : Int)] w fun e w' => e = .returned (.tuple #[.string S, .int .i64 0]) ∧ Below w.heap.size w w'))
    (n2 : Hid (∀ w, Calls Try.prog 10 #[.int .i64 (B : Int)] w fun e w' => e = .returned (.tuple #[.string T, .int .i64 0]) ∧ Below w.heap.size w w'))
    (n3 : Hid (∀ w, Calls Try.prog 10 #[.int .i64 (-1 - (A : Int))] w fun e w' => e = .returned (.tuple #[.string ⟨#[]⟩, .int .i64 1]) ∧ w' = w))
    (r1 : Hid (∀ w, Calls Try.prog 12 #[.string (p ++ S ++ q), .int .i64 (p.size : Int)] w fun e w' => e = .returned (.tuple #[.int .i64 (A : Int), .int .i64 ((p.size : Int) + (S.size : Int)), .int .i64 0]) ∧ w' = w))
    (r2 : Hid (∀ w, Calls Try.prog 12 #[.string (p ++ S.extract 0 (S.size - 1)), .int .i64 (p.size : Int)] w fun e w' => e = .returned (.tuple #[.int .i64 0, .int .i64 0, .int .i64 3]) ∧ w' = w))
    (e : Bool) (e1 : ((A : Int) == (B : Int)) = e) (e2 : (S.toList == T.toList) = e)
    (g2 : B ≤ A ∨ S.size ≤ T.size) :
    Calls Try.prog 8 #[.int .i64 n, .int .i64 m, .string p, .string q] w fun e w' => e = .returned (.bool true) ∧ Below w.heap.size w w' := by
  go_enter Try.func8, Try.ntmps8
  go_wp2_with fail
  refine (p1.out _).mono ?_
  rintro e v1 ⟨rfl, rfl⟩
  go_wp2_with fail
  refine (p2.out _).mono ?_
  rintro e v1 ⟨rfl, rfl⟩
  go_wp2_with fail
  refine (n1.out _).mono ?_
  rintro e v2 ⟨rfl, b2⟩
  go_wp2_with fail
  refine (n2.out _).mono ?_
  rintro e v3 ⟨rfl, b3⟩
  go_wp2_with fail
  refine (r1.out _).mono ?_
  rintro e v4 ⟨rfl, rfl⟩
  go_wp2_with fail
  refine (r2.out _).mono ?_
  rintro e v5 ⟨rfl, rfl⟩
  go_wp2_with fail
  refine (n3.out _).mono ?_
  rintro e v6 ⟨rfl, rfl⟩
  go_wp2_with fail
  refine (lives_any _).mono ?_
  rintro e v7 ⟨rfl, b7⟩
  have c3 := b2.trans (b3.mono b2.size)
  have c7 := c3.trans (b7.mono c3.size)
  clear p1 p2 n1 n2 n3 r1 r2 b2 b3 b7 c3
  rcases g2 with g2 | g2
  · have g3 : ¬ A < B := by omega
    go_wp2
    go_ret
    exact ⟨rfl, c7⟩
  · have g3 : decide (S.size ≤ T.size) = true := by simpa using g2
    go_wp2
    all_goals
      go_ret
      first | exact ⟨rfl, c7⟩ | exact ⟨by simp [g2], c7⟩

theorem app_data (a b : ByteArray) : (a ++ b).data.toList = a.data.toList ++ b.data.toList := by simp

theorem len_data (a : ByteArray) : a.data.toList.length = a.size := by simp

theorem str_data (l : List Int) : (strOfNums l).data.toList = Pl.bytes l := rfl

theorem str_size (l : List Int) : (strOfNums l).size = (Pl.bytes l).length := by rw [← str_data, len_data]

theorem drop_app (p s : ByteArray) : (p ++ s).data.toList.drop p.size = s.data.toList := by
  rw [app_data, ← len_data p, List.drop_left]

theorem app_size (a b : ByteArray) : (a ++ b).size = a.size + b.size := by
  rw [← len_data, app_data, List.length_append, len_data, len_data]

theorem told_any (n m : Int) (p q : ByteArray) (w : World) (hp : p.size ≤ 140737488355328) (hq : q.size ≤ 140737488355328)
    (h1 : -9223372036854775808 ≤ n) (h2 : n ≤ 9223372036854775807) (h3 : -9223372036854775808 ≤ m) (h4 : m ≤ 9223372036854775807) :
    Calls Try.prog 8 #[.int .i64 n, .int .i64 m, .string p, .string q] w fun e w' => e = .returned (.bool true) ∧ Below w.heap.size w w' := by
  obtain ⟨A, hA1, hA2⟩ : ∃ A : Nat, pickN n 2147483648 = (A : Int) ∧ (A : Int) < 2147483648 :=
    ⟨(pickN n 2147483648).toNat, by unfold pickN; omega, by unfold pickN; omega⟩
  obtain ⟨B, hB1, hB2⟩ : ∃ B : Nat, pickN m 2147483648 = (B : Int) ∧ (B : Int) < 2147483648 :=
    ⟨(pickN m 2147483648).toNat, by unfold pickN; omega, by unfold pickN; omega⟩
  have p1 := fun w => pick_any n 2147483648 w h1 h2 (by omega) (by omega)
  have p2 := fun w => pick_any m 2147483648 w h3 h4 (by omega) (by omega)
  rw [hA1] at p1
  rw [hB1] at p2
  have hl1 := str_size (Pl.num A)
  have hl2 := Pl.num_len A
  have hl3 := Pl.num_len5 A (by omega)
  have hl4 := str_size (Pl.num B)
  have r1 : ∀ w, Calls Try.prog 12 #[.string (p ++ strOfNums (Pl.num A) ++ q), .int .i64 (p.size : Int)] w fun e w' => e = .returned (.tuple #[.int .i64 (A : Int), .int .i64 ((p.size : Int) + ((strOfNums (Pl.num A)).size : Int)), .int .i64 0]) ∧ w' = w := by
    intro w
    have hz : (p ++ strOfNums (Pl.num A) ++ q).size = p.size + (strOfNums (Pl.num A)).size + q.size := by rw [app_size, app_size]
    have c := read_any (p ++ strOfNums (Pl.num A) ++ q) p.size w (by unfold maxLen; omega) (by omega)
    rw [ByteArray.append_assoc, drop_app, app_data, str_data, Pl.rd_num A (by omega)] at c
    rw [ByteArray.append_assoc]
    refine c.mono ?_
    rintro e w' ⟨rfl, rfl⟩
    refine ⟨ret3 rfl ?_, rfl⟩
    show ((p.size + (Pl.bytes (Pl.num A)).length : Nat) : Int) = _
    omega
  have r2 : ∀ w, Calls Try.prog 12 #[.string (p ++ (strOfNums (Pl.num A)).extract 0 ((strOfNums (Pl.num A)).size - 1)), .int .i64 (p.size : Int)] w fun e w' => e = .returned (.tuple #[.int .i64 0, .int .i64 0, .int .i64 3]) ∧ w' = w := by
    intro w
    have e : ((strOfNums (Pl.num A)).extract 0 ((strOfNums (Pl.num A)).size - 1)).data.toList = Pl.bytes (Pl.hi (A / 128)) := by
      rw [Lib.extract_data, str_data, hl1, hl2, Pl.num_bytes]
      have : (Pl.bytes (Pl.hi (A / 128))).length = (Pl.hi (A / 128)).length := by simp [Pl.bytes]
      simp [← this]
    have hz : (p ++ (strOfNums (Pl.num A)).extract 0 ((strOfNums (Pl.num A)).size - 1)).size ≤ p.size + 5 := by
      rw [app_size, ← len_data ((strOfNums (Pl.num A)).extract 0 _), e]
      have : (Pl.bytes (Pl.hi (A / 128))).length = (Pl.hi (A / 128)).length := by simp [Pl.bytes]
      omega
    have c := read_any (p ++ (strOfNums (Pl.num A)).extract 0 ((strOfNums (Pl.num A)).size - 1)) p.size w (by unfold maxLen; omega) (by rw [app_size]; omega)
    rw [drop_app, e, Pl.rd_cut] at c
    exact c
  have n3 : ∀ w, Calls Try.prog 10 #[.int .i64 (-1 - (A : Int))] w fun e w' => e = .returned (.tuple #[.string ⟨#[]⟩, .int .i64 1]) ∧ w' = w :=
    fun w => number_no (-1 - (A : Int)) w (.inl (by omega))
  refine told_core n m p q (strOfNums (Pl.num A)) (strOfNums (Pl.num B)) A B w hp hq (by omega) (by omega) (by omega) p1 p2
    (fun w => number_yes A w (by omega)) (fun w => number_yes B w (by omega)) n3 r1 r2 (decide (A = B)) ?_ ?_ ?_
  · rw [Bool.eq_iff_iff]; simp only [beq_iff_eq, decide_eq_true_eq]; omega
  · rw [Bool.eq_iff_iff, ByteArray.toList_eq, ByteArray.toList_eq, str_data, str_data]
    simp only [beq_iff_eq, decide_eq_true_eq]
    exact ⟨Pl.num_inj A B, fun h => by rw [h]⟩
  · by_cases h : B ≤ A
    · exact .inl h
    · refine .inr ?_
      rw [hl1, hl4]
      exact Pl.num_mono A B (by omega)

end Go.Proofs.Ytjjmcnippjpclaa
