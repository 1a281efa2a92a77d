/-
  A text with one byte turned; a text as bytes and back.
-/
import Derived.Test.YtjjmcnippjpclabSums
import Derived.Lib.ConvBytes
import Derived.Lib.SlBytesRow
import Derived.Deep.RegionWith
namespace Go.Proofs.Ytjjmcnippjpclab

open Go.RowKit

theorem empty_not (s : ByteArray) (h : 0 < s.size) : s.toList.isEmpty = false := by
  rw [ByteArray.toList_eq]
  cases e : s.data.toList with
  | nil =>
    have : s.data.toList.length = s.size := by simp
    rw [e] at this
    simp at this
    omega
  | cons c r => rfl

theorem pickN_in (c n : Int) (h : 0 < n) : ∃ k : Nat, pickN c n = (k : Int) ∧ (k : Int) < n :=
  ⟨(pickN c n).toNat, by have := Int.emod_nonneg (if c < 0 then -(c + 1) else c) (show n ≠ 0 by omega); unfold pickN; omega,
    by have := Int.emod_lt_of_pos (if c < 0 then -(c + 1) else c) h; have := Int.emod_nonneg (if c < 0 then -(c + 1) else c) (show n ≠ 0 by omega); unfold pickN; omega⟩

theorem bytes_frozen (w : World) (s : ByteArray) (j : Nat) (hj : j < s.size) : (Lib.bytesWorld w 5 s).frozen? ⟨w.heap.size, j, none⟩ = false := by
  have hc : s.size ≤ (Lib.bytesCells w 5 s).size := by simp [Lib.bytesCells]
  simp [World.frozen?, Lib.bytesWorld_at_new]
  omega

theorem bytes_below (w : World) (s : ByteArray) : Below w.heap.size w (Lib.bytesWorld w 5 s) :=
  ⟨rfl, rfl, rfl, by rw [Lib.bytesWorld_size]; omega, fun k hk => Lib.bytesWorld_at_old w 5 s k hk⟩

theorem bytes_cells (w : World) (s : ByteArray) : Lib.Bytes (Lib.bytesWorld w 5 s) w.heap.size 0 s := by
  intro i h
  have := Lib.bytesWorld_cell w 5 s i h
  rw [Nat.zero_add, this]
  have hl : s.data.toList.length = s.size := by simp
  rw [List.getD_eq_getElem?_getD, List.getElem?_eq_getElem (by omega)]
  rfl

/-- a text with one byte turned. -/
def turned (s : ByteArray) (k : Nat) (c : UInt8) : ByteArray := ⟨(s.data.toList.set k c).toArray⟩

theorem turned_size (s : ByteArray) (k : Nat) (c : UInt8) : (turned s k c).size = s.size := by
  show (s.data.toList.set k c).toArray.size = s.data.size
  simp

theorem turned_at (s : ByteArray) (k : Nat) (c : UInt8) (i : Nat) (h : i < (turned s k c).size) (h' : i < s.size) : (turned s k c)[i] = if k = i then c else s[i] := by
  have hl : s.data.toList.length = s.size := by simp
  have e : (turned s k c)[i] = (s.data.toList.set k c)[i]'(by rw [List.length_set]; omega) := rfl
  rw [e, List.getElem_set]
  rfl

theorem conv_turned (v : World) (B k x m : Nat) (s : ByteArray) (hk : k < s.size) (hx : x < 256) (hm : 1 + m < 256) (hC : Lib.Bytes v B 0 s) (c : Nat) :
    (convert 34 9 (.slice (some ⟨B, 0, none⟩) s.size c)).run Try.prog (v.setCell ⟨B, k, none⟩ (.int .u8 (bits .xor .u8 (x : Int) (1 + (m : Int))))).drew = .ok (.string (turned s k (UInt8.ofNat (x ^^^ (1 + m))))) (v.setCell ⟨B, k, none⟩ (.int .u8 (bits .xor .u8 (x : Int) (1 + (m : Int))))).drew := by
  have hb : bits .xor .u8 (x : Int) (1 + (m : Int)) = ((x ^^^ (1 + m) : Nat) : Int) := by
    have := Pl.u8xor x (1 + m) hx hm
    rwa [show ((1 + m : Nat) : Int) = 1 + (m : Int) by omega] at this
  rw [hb]
  have hl := Pl.xor_lt x (1 + m) hx hm
  have hB : Lib.Bytes (v.setCell ⟨B, k, none⟩ (.int .u8 ((x ^^^ (1 + m) : Nat) : Int))).drew B 0 (turned s k (UInt8.ofNat (x ^^^ (1 + m)))) := by
    intro i h
    have hi : i < s.size := by rwa [turned_size] at h
    rw [turned_at s k _ i h hi]
    have e0 := hC i hi
    have ek := hC k hk
    rw [Nat.zero_add] at e0 ek ⊢
    by_cases e : k = i
    · subst e
      rw [if_pos rfl, UInt8.toNat_ofNat', Nat.mod_eq_of_lt hl]
      exact World.cell?_setCell_same _ _ _ ek
    · rw [if_neg e]
      refine (World.cell?_setCell_other _ _ _ _ ?_).trans e0
      intro h
      injection h with _ h2 _
      exact e h2
  have := Lib.run_convert_whole (P := Try.prog) _ 34 5 9 Try.underlying34 Try.underlying5 Try.underlying9 B 0 _ hB c
  rw [turned_size] at this
  exact this

end Go.Proofs.Ytjjmcnippjpclab
