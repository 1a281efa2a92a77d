/-
  The walks of Do where it answers at once: no device, or no patch.
-/
import Derived.Test.YtjjmcnippjpclaaDoW
namespace Go.Proofs.Ytjjmcnippjpclaa

open Go.RowKit

theorem do_nil (w : World) : Calls Try.prog 27 #[.pointer none, .string ⟨#[]⟩] w fun e w' => e = .returned (.int .i64 1) ∧ w' = w := by
  go_enter Try.func27, Try.ntmps27
  go_wp2_with fail
  go_ret
  exact ⟨rfl, rfl⟩

set_option maxRecDepth 100000 in
theorem do_err (D : Nat) (s : ByteArray) (w : World) (hs : s.size ≤ 140737488355328) (hE : pErr s ≠ 0) :
    Calls Try.prog 27 #[.pointer (some ⟨D, 0, none⟩), .string s] w fun e w' => e = .returned (.int .i64 (pErr s)) ∧ Below w.heap.size w w' := by
  have HRP := readP_any s w (by omega)
  have d0 : (pErr s == 0) = false := by simpa using hE
  have d1 : (pErr s != 0) = true := by simpa using hE
  generalize pErr s = E at *
  go_enter Try.func27, Try.ntmps27
  go_wp2_with fail
  refine HRP.mono ?_
  rintro e v1 ⟨b1, ⟨_, rfl⟩ | ⟨h, _⟩⟩
  · have B2 : Hid (Below w.heap.size w (v1.alloc (Obj.cells #[.int .i64 0, .int .i64 0, .string ⟨#[]⟩, .string ⟨#[]⟩, .slice none 0 0] 31))) := b1.alloc b1.size _
    go_wp2_with fail
    go_ret
    exact ⟨rfl, B2.out⟩
  · exact absurd h hE

theorem pErr_nil : pErr ⟨#[]⟩ = 3 := by decide +kernel

end Go.Proofs.Ytjjmcnippjpclaa
