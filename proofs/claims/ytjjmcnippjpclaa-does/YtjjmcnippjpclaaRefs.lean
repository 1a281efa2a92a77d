/-
  The walks of the document's own numbers, sum and reading.
-/
import Derived.Test.YtjjmcnippjpclaaSums
namespace Go.Proofs.Ytjjmcnippjpclaa

open Go.RowKit

set_option maxHeartbeats 1000000 in
theorem refnum_any (n : Nat) (w : World) (h : n ≤ 2147483647) :
    Calls Try.prog 32 #[.int .i64 n] w fun e w' => e = .returned (.string (strOfNums (Pl.num n))) ∧ Below w.heap.size w w' := by
  have k1 := conv1
  go_enter Try.func32, Try.ntmps32
  go_wp2
  go_rounds 5
  all_goals go_ret
  · exact ⟨ret_s (rn5 n ‹_› ‹_› ‹_› ‹_› ‹_›), by go_grown⟩
  · exact ⟨ret_s (rn4 n ‹_› ‹_› ‹_› ‹_›), by go_grown⟩
  · exact ⟨ret_s (rn3 n ‹_› ‹_› ‹_›), by go_grown⟩
  · exact ⟨ret_s (rn2 n ‹_› ‹_›), by go_grown⟩
  · exact ⟨ret_s (rn1 n ‹_›), by go_grown⟩

set_option maxHeartbeats 400000 in
theorem refsum_any (s : ByteArray) (w : World) (hs : s.size ≤ maxLen) :
    Calls Try.prog 15 #[.string s] w fun e w' => e = .returned (.string (Pl.sumOf (Pl.ad s.data.toList).1 (Pl.ad s.data.toList).2)) ∧ Below w.heap.size w w' := by
  unfold maxLen at hs
  have h4 := conv4
  go_enter Try.func15, Try.ntmps15
  go_wp2
  go_loop [3, 4, 5] (fun a b i => ∃ k : Nat, k ≤ s.size ∧ i = .int .i64 k ∧ a = .int .i64 (Pl.ad (s.data.toList.take k)).1 ∧ b = .int .i64 (Pl.ad (s.data.toList.take k)).2) (fun _ _ i => s.size - (intOf i).toNat)
  case atStart => exact ⟨0, Nat.zero_le _, rfl, rfl, rfl⟩
  case round =>
    obtain ⟨k, hk, rfl, rfl, rfl⟩ := hrel
    have hd := Pl.ad_bd (s.data.toList.take k)
    by_cases hlt : k < s.size
    · have HS : Hid (Pl.ad (s.data.toList.take (k + 1)) = Pl.step (Pl.ad (s.data.toList.take k)) s[k]) := by
        show _ = _; rw [Pl.take_snoc s k hlt]; exact Pl.ad_snoc _ _
      obtain ⟨h1, h2, h3, h4⟩ := hd
      have hb := UInt8.toNat_lt s[k]
      go_wp2
      go_round
      case rel =>
        exact ⟨k + 1, by omega, by go_num, val_int (by rw [HS.out]; show _ = (_ + _) % 65521; omega), val_int (by rw [HS.out]; show _ = (_ + (_ + _) % 65521) % 65521; omega)⟩
      case measure => simp [intOf]; omega
    · obtain ⟨h1, h2, h3, h4⟩ := hd
      go_wp2
      go_ret
      have ht : s.data.toList.take k = s.data.toList := List.take_of_length_le (by simp; omega)
      rw [ht]
      exact ⟨rfl, (Below.refl _ _).alloc (Nat.le_refl _) _⟩

end Go.Proofs.Ytjjmcnippjpclaa

namespace Go.Proofs.Ytjjmcnippjpclaa

open Go.RowKit

theorem refnum_int (x : Int) (w : World) (h0 : 0 ≤ x) (h : x ≤ 2147483647) :
    Calls Try.prog 32 #[.int .i64 x] w fun e w' => e = .returned (.string (strOfNums (Pl.num x.toNat))) ∧ Below w.heap.size w w' := by
  obtain ⟨n, rfl⟩ := Int.eq_ofNat_of_zero_le h0
  exact refnum_any n w (by omega)

set_option maxRecDepth 100000 in
set_option maxHeartbeats 1000000 in
theorem rread_any (s : ByteArray) (a : Nat) (w : World) (hs : s.size ≤ 281474976710656) (h : a ≤ s.size) :
    Calls Try.prog 33 #[.string s, .int .i64 a] w fun e w' => e = rrRes a (Pl.rd (s.data.toList.drop a)) ∧ Below w.heap.size w w' := by
  go_enter Try.func33, Try.ntmps33
  go_wp2
  go_loop [6, 7] (fun nv iv => ∃ j : Nat, j ≤ 5 ∧ a + j ≤ s.size ∧ nv = .int .i64 (Pl.valF 0 ((s.data.toList.drop a).take j) : Int) ∧ iv = .int .i64 ((a + j : Nat) : Int) ∧ Hid (Pl.more ((s.data.toList.drop a).take j) = true)) (fun _ i => s.size - (intOf i).toNat)
  case atStart => exact ⟨0, by omega, by omega, rfl, rfl, rfl⟩
  case round =>
    obtain ⟨j, hj5, hj, rfl, rfl, HM⟩ := hrel
    by_cases hlt : a + j < s.size
    · by_cases h5 : j < 5
      · have hv := Pl.val_lt4 ((s.data.toList.drop a).take j) (by rw [List.length_take]; omega)
        generalize hV : Pl.valF 0 ((s.data.toList.drop a).take j) = v at *
        have HV : Hid (Pl.valF 0 ((s.data.toList.drop a).take j) = v) := hV
        clear hV
        have hc := UInt8.toNat_lt s[a + j]
        have hl5 : (a : Int) + (j : Int) < (a : Int) + 5 := by omega
        by_cases hb : s[a + j].toNat < 128
        · by_cases hbig : 128 * v + s[a + j].toNat % 128 ≤ 2147483647
          · have hg : decide ((2147483647 : Int) < 128 * (v : Int) + (s[a + j].toNat : Int) % 128) = false := by simp; omega
            go_wp2_with fail
            generalize hC : s[a + j].toNat = c at *
            have HC : Hid (s[a + j].toNat = c) := hC
            clear hC
            generalize hX : 128 * (v : Int) + (c : Int) % 128 = x at *
            have hx0 : 0 ≤ x := by omega
            have hx1 : x ≤ 2147483647 := by omega
            have HX : Hid (128 * (v : Int) + (c : Int) % 128 = x) := hX
            clear hX hbig hc hb
            have HN := fun w1 => refnum_int x w1 hx0 hx1
            have HN2 : Hid (∀ w1, Calls Try.prog 32 #[.int .i64 x] w1 fun e w' => e = .returned (.string (strOfNums (Pl.num x.toNat))) ∧ Below w1.heap.size w1 w') := HN
            clear HN
            have hI1 : (a : Int) + (j : Int) + 1 ≤ (s.size : Int) := by omega
            have hI2 : (0 : Int) ≤ (a : Int) + (j : Int) + 1 := by omega
            have hI3 : (a : Int) ≤ (a : Int) + (j : Int) + 1 := by omega
            have hI5 : IntKind.i64.wrap ((a : Int) + (j : Int) + 1) = (a : Int) + (j : Int) + 1 := by rw [IntKind.wrap_i64]; omega
            have hI4 : ((a : Int) + (j : Int) + 1).toNat = a + j + 1 := by omega
            go_region_held3 (fun _ => True) (trivial) ((go_at_call 32; refine (HN2.out _).mono ?_; rintro e w1 ⟨rfl, hb1⟩))
            go_wp2
            · go_ret2
              rw [rd_unfit s a j v c x hlt HM.out HV.out HC.out ‹_› HX.out (.inr ‹_›)]
              exact ⟨rfl, ((Below.refl _ w).drew).trans hb1⟩
            · go_ret2
              rw [rd_fit s a j v c x hlt HM.out HV.out HC.out ‹_› HX.out hx1 ‹_›]
              refine ⟨?_, ((Below.refl _ w).drew).trans hb1⟩
              exact ret2 (by show x = ((x.toNat : Nat) : Int); omega) (by show _ = ((a + (j + 1) : Nat) : Int); omega)
          · have hg : decide ((2147483647 : Int) < 128 * (v : Int) + (s[a + j].toNat : Int) % 128) = true := by simp; omega
            go_wp2_with fail
            generalize hC : s[a + j].toNat = c at *
            have HC : Hid (s[a + j].toNat = c) := hC
            clear hC
            go_quiet (fail)
            go_wp2
            go_ret2
            rw [rd_unfit s a j v c _ hlt HM.out HV.out HC.out (by omega) rfl (.inl (by omega))]
            exact ⟨rfl, below_drewN (Below.refl _ _) _⟩
        · go_wp2
          go_round
          case rel =>
            refine ⟨j + 1, by omega, by omega, val_int ?_, by go_num, ?_⟩
            · rw [take_more s a j hlt, Pl.valF_snoc, HV.out]; omega
            · show _ = true
              rw [take_more s a j hlt, Pl.more_snoc]; exact ⟨HM.out, by omega⟩
          case measure => simp [intOf]; omega
      · go_wp2
        go_ret2
        have e := take_len s a j hj
        rw [← List.take_append_drop j (s.data.toList.drop a), Pl.rd_long _ _ HM.out (.inl (by omega))]
        exact ⟨rfl, Below.refl _ _⟩
    · go_wp2
      go_ret2
      have e : (s.data.toList.drop a).drop j = [] := List.drop_eq_nil_of_le (by simp; omega)
      rw [← List.take_append_drop j (s.data.toList.drop a), Pl.rd_long _ _ HM.out (.inr e)]
      exact ⟨rfl, Below.refl _ _⟩

/-- what the document's Read answers. -/
theorem refread_any (s : ByteArray) (a : Nat) (w : World) (hs : s.size ≤ 281474976710656) (h : a ≤ s.size) :
    Calls Try.prog 13 #[.string s, .int .i64 a] w fun e w' => e = rdRes a (Pl.rd (s.data.toList.drop a)) ∧ Below w.heap.size w w' := by
  have hb2 : decide (s.size < a) = false := by simp; omega
  have hbd := Pl.rd_bd (s.data.toList.drop a)
  have hl : s.data.toList.length = s.size := by simp
  cases hr : Pl.rd (s.data.toList.drop a) with
  | none =>
    have hc := fun w1 => rread_any s a w1 hs h
    rw [hr] at hc
    have HC : Hid (∀ w1, Calls Try.prog 33 #[.string s, .int .i64 a] w1 fun e w' => e = .returned (.tuple #[.int .i64 0, .int .i64 (-1)]) ∧ Below w1.heap.size w1 w') := hc
    clear hc hr hbd
    go_enter Try.func13, Try.ntmps13
    go_wp2_with (go_at_call 33; refine (HC.out _).mono ?_; rintro e w1 ⟨rfl, hb1⟩)
    go_ret3
    exact ⟨rfl, hb1⟩
  | some p =>
    have hbp := hbd p hr
    have hc := fun w1 => rread_any s a w1 hs h
    rw [hr] at hc
    have HC : Hid (∀ w1, Calls Try.prog 33 #[.string s, .int .i64 a] w1 fun e w' => e = .returned (.tuple #[.int .i64 (p.1 : Int), .int .i64 ((a + p.2 : Nat) : Int)]) ∧ Below w1.heap.size w1 w') := hc
    clear hc hr hbd
    obtain ⟨n, m⟩ := p
    go_enter Try.func13, Try.ntmps13
    go_wp2_with (go_at_call 33; refine (HC.out _).mono ?_; rintro e w1 ⟨rfl, hb1⟩)
    go_ret3
    exact ⟨rfl, hb1⟩

set_option maxHeartbeats 400000 in
theorem refread_no (s : ByteArray) (a : Int) (w : World) (hs : s.size ≤ 281474976710656) (h : a < 0 ∨ (s.size : Int) < a) :
    Calls Try.prog 13 #[.string s, .int .i64 a] w fun e w' => e = .returned (.tuple #[.int .i64 0, .int .i64 0, .int .i64 1]) ∧ w' = w := by
  rcases h with h | h
  · go_enter Try.func13, Try.ntmps13
    go_wp2
    go_ret3
    exact ⟨rfl, rfl⟩
  · have h' : ¬ a < 0 := by omega
    go_enter Try.func13, Try.ntmps13
    go_wp2
    go_ret3
    exact ⟨rfl, rfl⟩

set_option maxHeartbeats 400000 in
theorem refnumber_no (n : Int) (w : World) (h : n < 0 ∨ 2147483647 < n) :
    Calls Try.prog 11 #[.int .i64 n] w fun e w' => e = .returned (.tuple #[.string ⟨#[]⟩, .int .i64 1]) ∧ w' = w := by
  rcases h with h | h
  · go_enter Try.func11, Try.ntmps11
    go_wp2
    go_ret2
    exact ⟨rfl, rfl⟩
  · have h' : ¬ n < 0 := by omega
    go_enter Try.func11, Try.ntmps11
    go_wp2
    go_ret2
    exact ⟨rfl, rfl⟩

set_option maxHeartbeats 400000 in
theorem refnumber_yes (n : Nat) (w : World) (h : n ≤ 2147483647) :
    Calls Try.prog 11 #[.int .i64 n] w fun e w' => e = .returned (.tuple #[.string (strOfNums (Pl.num n)), .int .i64 0]) ∧ Below w.heap.size w w' := by
  go_enter Try.func11, Try.ntmps11
  go_wp2_with (go_at_call 32; refine (refnum_any n _ h).mono ?_; rintro e w1 ⟨rfl, hb1⟩)
  go_ret2
  exact ⟨rfl, hb1⟩

end Go.Proofs.Ytjjmcnippjpclaa
