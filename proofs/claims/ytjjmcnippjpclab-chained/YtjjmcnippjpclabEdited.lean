/-
  The walks of short and edited: a text of so many bytes at most; a text out of another one.
-/
import Derived.Test.YtjjmcnippjpclabTurned
import Derived.BigQuiet
import Derived.Deep.CutRange
namespace Go.Proofs.Ytjjmcnippjpclab

open Go.RowKit

/-- the text, or its first bytes. -/
def shortS (s : ByteArray) (n : Nat) : ByteArray := if n < s.size then s.extract 0 n else s

theorem shortS_size (s : ByteArray) (n : Nat) : (shortS s n).size ≤ n := by
  unfold shortS
  split
  · simp [ByteArray.size_extract]; omega
  · omega

theorem short_any (s : ByteArray) (n : Nat) (w : World) (hn : n ≤ 4611686018427387904) :
    Calls Try.prog 6 #[.string s, .int .i64 n] w fun e w' => e = .returned (.string (shortS s n)) ∧ w' = w := by
  by_cases h : n < s.size
  · have e : shortS s n = s.extract 0 n := if_pos h
    go_enter Try.func6, Try.ntmps6
    go_wp2
    go_ret
    exact ⟨by rw [e]; rfl, rfl⟩
  · have e : shortS s n = s := if_neg h
    go_enter Try.func6, Try.ntmps6
    go_wp2
    go_ret
    exact ⟨by rw [e]; rfl, rfl⟩

theorem tdiv7 (x : Int) : 7 * (x.tdiv 7).natAbs ≤ x.natAbs := by
  rw [Int.natAbs_tdiv]
  show 7 * (x.natAbs / 7) ≤ _
  omega

def rawAt (b o n : Nat) (r : Nat → Int) (w : World) : Prop := b < w.heap.size ∧ ∀ i, i < n → w.cell? ⟨b, o + i, none⟩ = some (.int .i64 (r i))

theorem rawAt_below {b o n : Nat} {r : Nat → Int} {w v : World} (h : rawAt b o n r w) (hb : Below w.heap.size w v) : rawAt b o n r v :=
  ⟨Nat.lt_of_lt_of_le h.1 hb.size, fun i hi => by rw [hb.cell h.1]; exact h.2 i hi⟩

theorem empty_is (s : ByteArray) (h : s.size = 0) : s.toList.isEmpty = true := by
  rw [ByteArray.toList_eq]
  have : s.data.toList.length = s.size := by simp
  rw [h] at this
  rw [List.length_eq_zero_iff.1 this]
  rfl

set_option maxRecDepth 100000 in
set_option maxHeartbeats 4000000 in
theorem edited_any (s : ByteArray) (b o n c : Nat) (r : Nat → Int) (w : World) (M : Nat) (hM : M ≤ 100000) (hs : s.size ≤ M) (h3 : 3000 ≤ M) (hn : n ≤ 9223372036854775807) (hr : Hid (rawAt b o n r w))
    (hlo : Hid (∀ i, -9223372036854775808 ≤ r i ∧ r i ≤ 9223372036854775807)) :
    Calls Try.prog 7 #[.string s, .slice (some ⟨b, o, none⟩) n c] w fun e w' => ∃ t : ByteArray, e = .returned (.string t) ∧ t.size ≤ M ∧ Below w.heap.size w w' := by
  go_enter Try.func7, Try.ntmps7
  go_wp2_with fail
  go_loopg [5, 6] 10 (fun g x y wr => ∃ (t : ByteArray) (k : Nat), x = .string t ∧ y = .int .i64 ((3 * k : Nat) : Int) ∧ k + g = 10 ∧ t.size ≤ M ∧ Hid (Below w.heap.size w wr))
  case atStart => exact ⟨s, 0, rfl, rfl, by omega, hs, Below.refl _ _⟩
  case round =>
    obtain ⟨t, k, rfl, rfl, hk, ht, hb⟩ := hrel
    by_cases h1 : 3 * k + 2 < n
    · by_cases h2 : k < 10
      · by_cases h4 : 0 < t.size
        · have he := empty_not t h4
          have R := rawAt_below hr.out hb.out
          obtain ⟨hbl, R⟩ := R
          have r0 := R (3 * k) (by omega)
          have r1 := R (3 * k + 1) (by omega)
          have r2 := R (3 * k + 2) (by omega)
          have q0 := hlo.out (3 * k)
          have q1 := hlo.out (3 * k + 1)
          have q2 := hlo.out (3 * k + 2)
          clear R
          generalize r (3 * k) = x0 at *
          generalize r (3 * k + 1) = x1 at *
          generalize r (3 * k + 2) = x2 at *
          generalize hK : 3 * k = K at *
          have hK30 : K < 30 := by omega
          have HK : Hid (3 * k = K) := hK
          clear hK
          obtain ⟨f, hf1, hf2⟩ := pickN_in x0 (t.size : Int) (by omega)
          go_wp2_with fail
          refine (pick_any x0 (t.size : Int) _ (by omega) (by omega) (by omega) (by omega)).mono ?_
          rintro e v1 ⟨rfl, rfl⟩
          rw [hf1]
          clear hf1
          go_wp2_with fail
          obtain ⟨g, hg1, hg2⟩ := pickN_in (x0.tdiv 7) ((t.size : Int) - (f : Int)) (by omega)
          have q7 := tdiv7 x0
          refine (pick_any (x0.tdiv 7) ((t.size : Int) - (f : Int)) _ (by omega) (by omega) (by omega) (by omega)).mono ?_
          rintro e v2 ⟨rfl, rfl⟩
          rw [hg1]
          clear hg1 q7
          have g1 : f + (g + 1) ≤ t.size := by omega
          have g2 : ((f : Int) + ((g : Int) + 1)).toNat = f + (g + 1) := by omega
          have g3 : IntKind.i64.wrap ((f : Int) + ((g : Int) + 1)) = (f : Int) + ((g : Int) + 1) := by rw [IntKind.wrap_i64]; omega
          have g4 : (f : Int) + ((g : Int) + 1) ≤ (t.size : Int) := by omega
          have g5 : (0 : Int) ≤ (f : Int) + ((g : Int) + 1) := by omega
          have g6 : (f : Int) ≤ (f : Int) + ((g : Int) + 1) := by omega
          have g7 : (f : Int) ≤ (t.size : Int) := by omega
          go_wp2_with fail
          go_quiet (fail)
          have hmin : min f t.size = f := by omega
          go_wp2_with fail
          clear hmin
          have hR : (t.extract 0 f ++ t.extract (f + (g + 1)) t.size).size = f + (t.size - (f + (g + 1))) := by simp [ByteArray.size_append, ByteArray.size_extract]; omega
          have hP : (t.extract f (f + (g + 1))).size = g + 1 := by simp [ByteArray.size_extract]; omega
          generalize t.extract 0 f ++ t.extract (f + (g + 1)) t.size = rest at *
          generalize t.extract f (f + (g + 1)) = part at *
          obtain ⟨p, hp1, hp2⟩ := pickN_in x1 ((f : Int) + ((t.size - (f + (g + 1)) : Nat) : Int) + 1) (by omega)
          refine (pick_any x1 ((f : Int) + ((t.size - (f + (g + 1)) : Nat) : Int) + 1) _ (by omega) (by omega) (by omega) (by omega)).mono ?_
          rintro e v3 ⟨rfl, rfl⟩
          rw [hp1]
          clear hp1
          have hpR : p ≤ rest.size := by omega
          go_wp2_with fail
          obtain ⟨m, hm1, hm2⟩ := pickN_in x2 4 (by omega)
          refine (pick_any x2 4 _ (by omega) (by omega) (by omega) (by omega)).mono ?_
          rintro e v3 ⟨rfl, rfl⟩
          rw [hm1]
          clear hm1
          have B1 : Hid (Below w.heap.size w (v2.drewN nq)) := below_drewN hb.out _
          have hp7 : (p : Int) ≤ (rest.size : Int) := by omega
          rcases (by omega : m = 0 ∨ m = 1 ∨ m = 2 ∨ m = 3) with rfl | rfl | rfl | rfl
          · go_wp2_with fail
            go_quiet (fail)
            go_wp2_with fail
            go_roundg (gk - 1)
            case measure => omega
            case rel => exact ⟨_, k + 1, rfl, by have := HK.out; go_num, by omega, by simp [ByteArray.size_append, ByteArray.size_extract]; omega, below_drewN hb.out _⟩
          · have HC : Hid (∀ w, Calls Try.prog 6 #[.string (t.extract 0 f ++ part ++ t.extract f t.size), .int .i64 3000] w fun e w' => e = .returned (.string (shortS (t.extract 0 f ++ part ++ t.extract f t.size) 3000)) ∧ w' = w) := fun w => short_any _ 3000 w (by omega)
            have hz := shortS_size (t.extract 0 f ++ part ++ t.extract f t.size) 3000
            generalize shortS (t.extract 0 f ++ part ++ t.extract f t.size) 3000 = sh at *
            go_wp2_with fail
            go_quiet ((go_at_call 6; refine (HC.out _).mono ?_; rintro e w5 ⟨rfl, rfl⟩; exact ⟨rfl, _, rfl⟩))
            go_wp2_with fail
            go_roundg (gk - 1)
            case measure => omega
            case rel => exact ⟨_, k + 1, rfl, by have := HK.out; go_num, by omega, Nat.le_trans hz h3, below_drewN hb.out _⟩
          · go_wp2_with fail
            go_roundg (gk - 1)
            case measure => omega
            case rel => exact ⟨_, k + 1, rfl, by have := HK.out; go_num, by omega, by omega, B1⟩
          · have hconv := fun w => Lib.run_convert_string_bytes (P := Try.prog) w 9 34 5 t Try.underlying9 Try.underlying34 Try.underlying5
            go_wp2_with fail
            clear hconv
            have hB : Below v2.heap.size (v2.drewN nq) (Lib.bytesWorld (v2.drewN nq) 5 t) := bytes_below (v2.drewN nq) t
            have hC : Lib.Bytes (Lib.bytesWorld (v2.drewN nq) 5 t) v2.heap.size 0 t := bytes_cells (v2.drewN nq) t
            have hF : (Lib.bytesWorld (v2.drewN nq) 5 t).frozen? ⟨v2.heap.size, f, none⟩ = false := bytes_frozen (v2.drewN nq) t f (by omega)
            have r1' : (Lib.bytesWorld (v2.drewN nq) 5 t).cell? ⟨b, o + (K + 1), none⟩ = some (.int .i64 x1) := by rw [hB.cell hbl]; exact r1
            have B2 : Hid (Below w.heap.size w (Lib.bytesWorld (v2.drewN nq) 5 t)) := B1.out.trans (hB.mono B1.out.size)
            have hsB : w.heap.size ≤ v2.heap.size := hb.out.size
            generalize Lib.bytesWorld (v2.drewN nq) 5 t = W at *
            generalize v2.heap.size = B at *
            have hfN : f < t.size := by omega
            have hC1 : W.cell? ⟨B, f, none⟩ = some (.int .u8 (t[f].toNat : Int)) := by have := hC f hfN; rwa [Nat.zero_add] at this
            have HCB : Hid (Lib.Bytes W B 0 t) := hC
            clear hC r0 r2 r1
            have hx := UInt8.toNat_lt t[f]
            generalize hX : t[f].toNat = x at *
            clear hX
            obtain ⟨z, hz1, hz2⟩ := pickN_in x1 255 (by omega)
            have hp2 := fun w => pick_any x1 255 w (by omega) (by omega) (by omega) (by omega)
            rw [hz1] at hp2
            have HP2 : Hid (∀ w, Calls Try.prog 14 #[.int .i64 x1, .int .i64 255] w fun e w' => e = .returned (.int .i64 (z : Int)) ∧ w' = w) := hp2
            clear hp2 hz1
            have hwr : IntKind.i64.wrap (1 + (z : Int)) = 1 + (z : Int) := by rw [IntKind.wrap_i64]; omega
            have hback := conv_turned W B f x z t hfN hx (by omega) HCB.out
            have hts := turned_size t f (UInt8.ofNat (x ^^^ (1 + z)))
            generalize turned t f (UInt8.ofNat (x ^^^ (1 + z))) = s2 at hback hts
            have hf0 : (0 : Int) ≤ (f : Int) := by omega
            have hi1 : IntKind.i64.wrap ((K : Int) + 1) = (K : Int) + 1 := by rw [IntKind.wrap_i64]; omega
            have hi2 : (K : Int) + 1 < (n : Int) := by omega
            have hi3 : (0 : Int) ≤ (K : Int) + 1 := by omega
            have hi4 : ((K : Int) + 1).toNat = K + 1 := by omega
            go_region_with (go_at_call 14; refine (HP2.out _).mono ?_; rintro e w4 ⟨rfl, rfl⟩)
            all_goals
              go_wp2_with fail
              rw [hback]
              go_wp2_with fail
            all_goals
              go_roundg (gk - 1)
              case measure => omega
              case rel => exact ⟨_, k + 1, rfl, by have := HK.out; go_num, by omega, by omega, (B2.out.setCell (p := ⟨B, f, none⟩) hsB (Value.int IntKind.u8 (bits .xor .u8 (x : Int) (1 + (z : Int))))).drew⟩
        · have he : t.toList.isEmpty = true := empty_is t (by omega)
          go_wp2_with fail
          go_ret
          exact ⟨t, rfl, ht, hb.out⟩
      · have hk10 : k = 10 := by omega
        subst hk10
        go_wp2_with fail
        go_ret
        exact ⟨t, rfl, ht, hb.out⟩
    · go_wp2_with fail
      go_ret
      exact ⟨t, rfl, ht, hb.out⟩

set_option maxRecDepth 100000 in
set_option maxHeartbeats 1000000 in
theorem edited_nil (s : ByteArray) (ao : Option Addr) (c : Nat) (w : World) :
    Calls Try.prog 7 #[.string s, .slice ao 0 c] w fun e w' => ∃ t : ByteArray, e = .returned (.string t) ∧ t.size ≤ s.size ∧ Below w.heap.size w w' := by
  go_enter Try.func7, Try.ntmps7
  go_wp2_with fail
  go_loopg [5, 6] 1 (fun g x y wr => g = 1 ∧ x = .string s ∧ y = .int .i64 0 ∧ Hid (Below w.heap.size w wr))
  case atStart => exact ⟨rfl, rfl, rfl, Below.refl _ _⟩
  case round =>
    obtain ⟨rfl, rfl, rfl, hb⟩ := hrel
    go_wp2_with fail
    go_ret
    exact ⟨s, rfl, Nat.le_refl _, hb.out⟩

end Go.Proofs.Ytjjmcnippjpclab
