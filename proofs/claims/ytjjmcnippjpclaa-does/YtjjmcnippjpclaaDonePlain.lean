/-
  The walk of the document's Done: what the steps of a plan make of a text.
-/
import Derived.Test.YtjjmcnippjpclaaWrite
import Derived.Test.YtjjmcnippjpclaaReadStep
import Derived.Test.YtjjmcnippjpclaaMatches
namespace Go.Proofs.Ytjjmcnippjpclaa

open Go.RowKit

/-- the byte that a step makes at a place of its own. -/
def stByte (x : Pl.St) (text : ByteArray) (k : Nat) : UInt8 := if x.k = 3 then text.data.getD (x.f.toNat + k) 0 else x.d.data.getD k 0

/-- the byte that steps make at a place. -/
def doneAt (text : ByteArray) (j : Nat) (st : List Pl.St) : UInt8 := st.foldl (fun b x => if x.t ≤ (j : Int) ∧ (j : Int) < x.t + x.n then stByte x text (j - x.t.toNat) else b) 0

def doneB (st : List Pl.St) (text : ByteArray) (nl : Nat) : List UInt8 := (List.range nl).map fun j => doneAt text j st

theorem doneAt_snoc (text : ByteArray) (j : Nat) (st : List Pl.St) (x : Pl.St) : doneAt text j (st ++ [x]) = if x.t ≤ (j : Int) ∧ (j : Int) < x.t + x.n then stByte x text (j - x.t.toNat) else doneAt text j st := by
  unfold doneAt; rw [List.foldl_append]; rfl

/-- .. and while a step is at work. -/
def doneIn (text : ByteArray) (st : List Pl.St) (x : Pl.St) (k j : Nat) : UInt8 := if x.t.toNat ≤ j ∧ j < x.t.toNat + k then stByte x text (j - x.t.toNat) else doneAt text j st

theorem doneIn_zero (text : ByteArray) (st : List Pl.St) (x : Pl.St) (j : Nat) : doneIn text st x 0 j = doneAt text j st := by unfold doneIn; rw [if_neg (by omega)]

theorem doneIn_next (text : ByteArray) (st : List Pl.St) (x : Pl.St) (k j : Nat) : doneIn text st x (k + 1) j = if j = x.t.toNat + k then stByte x text k else doneIn text st x k j := by
  unfold doneIn
  by_cases h : j = x.t.toNat + k
  · rw [if_pos h, if_pos (by omega), h, Nat.add_sub_cancel_left]
  · rw [if_neg h]
    by_cases h2 : x.t.toNat ≤ j ∧ j < x.t.toNat + k
    · rw [if_pos h2, if_pos (by omega)]
    · rw [if_neg h2, if_neg (by omega)]

theorem doneIn_all (text : ByteArray) (st : List Pl.St) (x : Pl.St) (j : Nat) (h : 0 ≤ x.t) (h2 : 0 ≤ x.n) : doneIn text st x x.n.toNat j = doneAt text j (st ++ [x]) := by
  rw [doneAt_snoc]
  unfold doneIn
  by_cases h3 : x.t ≤ (j : Int) ∧ (j : Int) < x.t + x.n
  · rw [if_pos h3, if_pos (by omega)]
  · rw [if_neg h3, if_neg (by omega)]

theorem make_bytes (n : Nat) (hn : n ≤ 4000) (w : World) :
    (Instr.makeSlice 65 (.int .i64 (n : Int)) (.int .i64 (n : Int))).run Try.prog w = .ok (.slice (some ⟨w.heap.size, 0, none⟩) n n) (w.alloc (.cells (madeCells #[.int .u8 0] n) 5)) :=
  run_make_row' 65 5 (.int .u8 0) 1 Try.underlying65 infoU8 rfl .i64 .i64 n (by omega) (by omega) w

theorem conv_row {w : World} {b n : Nat} {f : Nat → UInt8} (h : w.rowIs b 5 n (fun j => .int .u8 ((f j).toNat : Nat))) (c : Nat) : (convert 65 9 (.slice (some ⟨b, 0, none⟩) n c)).run Try.prog w = .ok (.string ⟨((List.range n).map f).toArray⟩) w := by
  have e := run_convert_bytes_back (P := Try.prog) w 65 9 5 ⟨b, 0, none⟩ c ((List.range n).map f) Try.underlying65 Try.underlying5 Try.underlying9 (fun j hj => by
    have hj' : j < n := by simpa using hj
    have hadd : (⟨b, 0, none⟩ : Addr).add j = ⟨b, j, none⟩ := by unfold Addr.add; split <;> simp_all
    rw [hadd, h.cell hj']
    simp)
  rw [List.length_map, List.length_range] at e
  exact e

end Go.Proofs.Ytjjmcnippjpclaa
