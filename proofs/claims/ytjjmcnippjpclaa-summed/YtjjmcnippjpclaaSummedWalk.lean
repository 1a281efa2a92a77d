/-
  The walk of Summed.
-/
import Derived.Test.YtjjmcnippjpclaaLives
import Derived.Test.YtjjmcnippjpclaaTurned
import Derived.Lib.ConvBytes
import Derived.Lib.SlBytesRow
import Derived.Deep.RegionWith
namespace Go.Proofs.Ytjjmcnippjpclaa

open Go.RowKit

theorem sumnone : Pl.sumOf (Pl.ad []).1 (Pl.ad []).2 = ⟨#[0, 0, 0, 1]⟩ := by decide +kernel

set_option maxHeartbeats 1000000 in
theorem summed_empty (a1 a2 : Int) (w : World) :
    Calls Try.prog 9 #[.string ⟨#[]⟩, .int .i64 a1, .int .i64 a2] w fun e w' => e = .returned (.bool true) ∧ Below w.heap.size w w' := by
  have h10 := fun w => sum_any ⟨#[]⟩ w (by unfold maxLen; decide)
  rw [show (ByteArray.mk #[]).data.toList = [] from rfl, sumnone] at h10
  have H10 : Hid (∀ w, Calls Try.prog 14 #[.string ⟨#[]⟩] w fun e w' => e = .returned (.string ⟨#[0, 0, 0, 1]⟩) ∧ Below w.heap.size w w') := h10
  clear h10
  go_enter Try.func9, Try.ntmps9
  go_wp2_with fail
  refine (lives_any _).mono ?_
  rintro e v1 ⟨rfl, b1⟩
  go_wp2_with fail
  refine (H10.out _).mono ?_
  rintro e v2 ⟨rfl, b2⟩
  go_wp2
  go_ret
  exact ⟨rfl, b1.trans (b2.mono b1.size)⟩

theorem turned_sum (s : ByteArray) (k x m : Nat) (hk : k < s.size) (hX : s[k].toNat = x) (hx : x < 256) (hm : 1 + m < 256) :
    Pl.sumOf (Pl.ad (turned s k (UInt8.ofNat (x ^^^ (1 + m)))).data.toList).1 (Pl.ad (turned s k (UInt8.ofNat (x ^^^ (1 + m)))).data.toList).2 ≠ Pl.sumOf (Pl.ad s.data.toList).1 (Pl.ad s.data.toList).2 := by
  have hl : s.data.toList.length = s.size := by simp
  refine Pl.sum_turned s.data.toList k (by omega) _ ?_
  intro e
  have h := congrArg UInt8.toNat e
  rw [UInt8.toNat_ofNat', Nat.mod_eq_of_lt (Pl.xor_lt x (1 + m) hx hm)] at h
  have h2 : s.data.toList[k].toNat = x := hX
  rw [h2] at h
  exact Pl.xor_ne x (1 + m) (by omega) h

set_option maxRecDepth 100000 in
set_option maxHeartbeats 1000000 in
theorem summed_some (s : ByteArray) (a1 a2 : Int) (w : World) (h0 : 0 < s.size) (hs : s.size ≤ 281474976710656)
    (h1 : -9223372036854775808 ≤ a1) (h2 : a1 ≤ 9223372036854775807) (h3 : -9223372036854775808 ≤ a2) (h4 : a2 ≤ 9223372036854775807) :
    Calls Try.prog 9 #[.string s, .int .i64 a1, .int .i64 a2] w fun e w' => e = .returned (.bool true) ∧ Below w.heap.size w w' := by
  have h10 := fun w => sum_any s w (by unfold maxLen; omega)
  have hz := Pl.sum_size (Pl.ad s.data.toList).1 (Pl.ad s.data.toList).2
  generalize hT : Pl.sumOf (Pl.ad s.data.toList).1 (Pl.ad s.data.toList).2 = t at h10 hz
  have HT : Hid (Pl.sumOf (Pl.ad s.data.toList).1 (Pl.ad s.data.toList).2 = t) := hT
  clear hT
  have H10 : Hid (∀ w, Calls Try.prog 14 #[.string s] w fun e w' => e = .returned (.string t) ∧ Below w.heap.size w w') := h10
  clear h10
  have he : s.toList.isEmpty = false := empty_not s h0
  have hconv := fun w => Lib.run_convert_string_bytes (P := Try.prog) w 9 65 5 s Try.underlying9 Try.underlying65 Try.underlying5
  obtain ⟨k, hk1, hk2⟩ := pickN_in a1 (s.size : Int) (by omega)
  obtain ⟨m, hm1, hm2⟩ := pickN_in a2 255 (by omega)
  have hp1 := fun w => pick_any a1 (s.size : Int) w h1 h2 (by omega) (by omega)
  have hp2 := fun w => pick_any a2 255 w h3 h4 (by omega) (by omega)
  rw [hk1] at hp1
  rw [hm1] at hp2
  have HP1 : Hid (∀ w, Calls Try.prog 30 #[.int .i64 a1, .int .i64 (s.size : Int)] w fun e w' => e = .returned (.int .i64 (k : Int)) ∧ w' = w) := hp1
  have HP2 : Hid (∀ w, Calls Try.prog 30 #[.int .i64 a2, .int .i64 255] w fun e w' => e = .returned (.int .i64 (m : Int)) ∧ w' = w) := hp2
  clear hp1 hp2 hk1 hm1
  go_enter Try.func9, Try.ntmps9
  go_wp2_with fail
  refine (lives_any _).mono ?_
  rintro e v1 ⟨rfl, b1⟩
  go_wp2_with fail
  refine (H10.out _).mono ?_
  rintro e v2 ⟨rfl, b2⟩
  go_wp2_with fail
  clear hconv
  have c2 := b1.trans (b2.mono b1.size)
  have hwB := c2.size
  have hB := bytes_below v2 s
  have hC := bytes_cells v2 s
  have hS := Lib.bytesWorld_size v2 5 s
  have hF := bytes_frozen v2 s k (by omega)
  generalize Lib.bytesWorld v2 5 s = W at *
  generalize v2.heap.size = B at *
  refine (HP1.out _).mono ?_
  rintro e v3 ⟨rfl, rfl⟩
  have hkN : k < s.size := by omega
  have hk0 : (0 : Int) ≤ (k : Int) := by omega
  have hC1 : v3.cell? ⟨B, k, none⟩ = some (.int .u8 (s[k].toNat : Int)) := by have := hC k hkN; rwa [Nat.zero_add] at this
  have HC : Hid (Lib.Bytes v3 B 0 s) := hC
  clear hC
  have hx := UInt8.toNat_lt s[k]
  generalize hX : s[k].toNat = x at *
  have HX : Hid (s[k].toNat = x) := hX
  clear hX
  go_wp2_with fail
  have hwr : IntKind.i64.wrap (1 + (m : Int)) = 1 + (m : Int) := by rw [IntKind.wrap_i64]; omega
  have hback := conv_turned v3 B k x m s hkN hx (by omega) HC.out
  have hT2 := fun w => sum_any (turned s k (UInt8.ofNat (x ^^^ (1 + m)))) w (by rw [turned_size]; unfold maxLen; omega)
  have hne := turned_sum s k x m hkN HX.out hx (by omega)
  rw [HT.out] at hne
  generalize Pl.sumOf (Pl.ad (turned s k (UInt8.ofNat (x ^^^ (1 + m)))).data.toList).1 (Pl.ad (turned s k (UInt8.ofNat (x ^^^ (1 + m)))).data.toList).2 = t2 at hT2 hne
  generalize turned s k (UInt8.ofNat (x ^^^ (1 + m))) = s2 at hback hT2
  have HT2 : Hid (∀ w, Calls Try.prog 14 #[.string s2] w fun e w' => e = .returned (.string t2) ∧ Below w.heap.size w w') := hT2
  clear hT2
  have hne2 : (t2.toList == t.toList) = false := by
    rw [ByteArray.toList_eq, ByteArray.toList_eq, beq_eq_false_iff_ne]
    intro h
    exact hne (WideShapes.bytes_inj h)
  clear hne
  go_region_with (go_at_call 30; refine (HP2.out _).mono ?_; rintro e w4 ⟨rfl, rfl⟩)
  all_goals
    go_wp2_with fail
    rw [hback]
    go_wp2_with fail
    refine (HT2.out _).mono ?_
    rintro e v6 ⟨rfl, b6⟩
    go_wp2
    go_ret
  all_goals
    have c3 := c2.trans (hB.mono hwB)
    have c4 := (c3.setCell (p := ⟨B, k, none⟩) hwB (Value.int IntKind.u8 (bits .xor .u8 (x : Int) (1 + (m : Int))))).drew
    exact ⟨rfl, c4.trans (b6.mono c4.size)⟩

end Go.Proofs.Ytjjmcnippjpclaa
