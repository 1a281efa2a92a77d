/-
  Proved here: of any two texts Make of package place answers as the document's P10 asks: ErrLong and no text where one has more than 4000 bytes; else a patch in place that the document's own ReadPlan reads, with their lengths and sums, whose steps make the new text out of the old one, and no longer than it may be. The arguments are left as they were. No condition beyond the form's own reach.
-/
import Derived.Test.YtjjmcnippjpclaaMakesW
import Derived.ProofKit
import Derived.OpenShut
import Derived.ShutString
import Derived.ChangeOld
namespace Go.Proofs.Ytjjmcnippjpclaa.makes

open Go.ChangeShapes Go.WideShapes Go.ChangeAt Go.RowKit

open Go.ChangeMaps (open_string shut_string)

theorem own : ownKnob Try.prog.godebug = none := by kernel_rfl

set_option maxRecDepth 100000 in
theorem lifted (os : Os) (started : os.Started) (H : Type) (enc : TypeId × Value → H) :
    ReturnsInHanded {} Try.checked os 6 .any (Rows.makesSpec.pre6 enc Try.prog Try.f6 Rows.makesRow.domain false) (Rows.makesSpec.post enc Try.prog Try.f6 false true false false) := by
  refine returnsInHanded_of_change_sized (C := Try.checked) own started (by kernel_rfl) Try.func6
    (ChangeSpec.witness6 (enc := enc) (C := Try.checked) false ⟨#[], #[.string ByteArray.empty, .string ByteArray.empty], []⟩ 8 (by kernel_rfl) (by kernel_rfl) (by kernel_rfl) (by kernel_rfl)) ?_
  intro W base args ds gs before hval0 hW hcnd hsz _
  have hval : ∀ (j : Nat) t v, Try.f6.params[j]? = some t → args[j]? = some v → Value.okWide Try.prog W .any base t v := hval0
  have hW' := hW
  obtain ⟨p, q, hA0, hV, rfl, hfz, hnd⟩ := hW
  have hA : DataW.TrodAll enc Try.prog W 0 (fun _ => true) true Try.f6.params.toList args.toList ds p := hA0
  rw [Try.params6] at hA hval
  obtain ⟨v0, vs0, d0, ds0, p0, q0, hargs, rfl, rfl, h0, r0⟩ := trodAll_cons hA
  obtain ⟨v1, vs1, d1, ds1, p1, q1, rfl, rfl, rfl, h1, r1⟩ := trodAll_cons r0
  obtain ⟨rfl, rfl, rfl⟩ := trodAll_nil r1
  obtain rfl : args = #[v0, v1] := by cases args; simp_all
  obtain ⟨rfl, rfl⟩ := trodVars_none hV
  obtain ⟨a0, rfl, rfl, rfl, w0⟩ := open_string Try.underlying9 (hval 0 9 v0 rfl rfl) h0
  obtain ⟨a1, rfl, rfl, rfl, w1⟩ := open_string Try.underlying9 (hval 1 9 v1 rfl rfl) h1
  have h47 := reachBytes_lt
  have hb : a0.size ≤ 140737488355328 := by
    have := sized_string (P := Try.prog) (ts := Try.f6.params.toList ++ Rows.makesSpec.plain.varTypes Try.prog) hsz (j := 0) (t := 9) (bytes := a0.data.toList) rfl rfl
    have e : a0.data.toList.length = a0.size := by simp
    omega
  have hc : a1.size ≤ 140737488355328 := by
    have := sized_string (P := Try.prog) (ts := Try.f6.params.toList ++ Rows.makesSpec.plain.varTypes Try.prog) hsz (j := 1) (t := 9) (bytes := a1.data.toList) rfl rfl
    have e : a1.data.toList.length = a1.size := by simp
    omega
  clear hA0 hval0
  simp only [List.append_nil] at hW'
  refine (makes_walk a0 a1 W hb hc).mono fun e W' ⟨he, bel⟩ => ?_
  subst he
  exact ⟨_, rfl, _, _, _, [], [], [], hW', trodAll_mk1 (shut_bool Try.underlying4 _), (trodAll_cons_mk (shut_string Try.underlying9 w0) (trodAll_cons_mk (shut_string Try.underlying9 w1) trodAll_mk0)), rfl, bel.frame _, fun h => by cases h⟩

theorem over : Rows.makesRow.holds Try.pinned (OpenSpec.ofChange Rows.makesSpec) :=
  OpenClaim.holds_of_wide 6 Try.f6 rfl rfl rfl rfl rfl rfl rfl ⟨rfl, rfl, rfl, rfl, rfl⟩ rfl rfl rfl rfl rfl (by kernel_rfl) Try.func6 (by kernel_rfl)
    (of_decide_eq_true (by kernel_rfl)) (by unfold Func.isWrapper; first | (rw [if_pos (by decide +kernel)]; kernel_rfl) | (rw [if_neg (by decide +kernel)]; exact ⟨rfl, rfl⟩))
    (fun os started H enc _ => lifted os started H enc)

end Go.Proofs.Ytjjmcnippjpclaa.makes

namespace Go.Proofs.Ytjjmcnippjpclaa

theorem makes_holds : Rows.MakesSaid := makes.over

#print axioms makes_holds

end Go.Proofs.Ytjjmcnippjpclaa
