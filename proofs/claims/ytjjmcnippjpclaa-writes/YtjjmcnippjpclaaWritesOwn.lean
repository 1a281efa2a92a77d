/-
  Proved here: for every plan that Write is given, Write of package place answers what the document's own Write answers, text and error, and the list that is handed in, its spare room and the argument are left as they were. No condition beyond the form's own reach.
-/
import Derived.Test.YtjjmcnippjpclaaWritesWalk
import Derived.ProofKit
import Derived.OpenShut
import Derived.ShutString
import Derived.ChangeOld
import Derived.Carry
import Derived.SizedLaws
namespace Go.Proofs.Ytjjmcnippjpclaa.writes

open Go.ChangeShapes Go.WideShapes Go.ChangeAt Go.RowKit

open Go.ChangeMaps (open_string shut_string)

theorem own : ownKnob Try.prog.godebug = none := by kernel_rfl

theorem laidOut : laidOutB Try.prog = true := by kernel_rfl

theorem bytes40 : Try.prog.bytesOf 40 = 48 := by kernel_rfl

theorem sized_steps {H : Type} {ts : List TypeId} {ds : List (DataW H)} (h : (DataW.weightsEach Try.prog ts ds).all (· ≤ reachBytes) = true) {x0 x1 x2 x3 : DataW H} {elems spare : List (DataW H)}
    (ht : ts[0]? = some 31) (hd : ds[0]? = some (.agg [x0, x1, x2, x3, .slice elems spare])) : elems.length ≤ 2932031007402 := by
  have hu := Try.underlying31
  have hv := Try.underlying29
  have h1 := List.all_eq_true.1 h _ (DataW.weights_mem_each ht hd ((elems.length + spare.length) * Try.prog.bytesOf 40) (by
    rw [DataW.weights, hu]
    refine DataW.weights_mem_each (j := 4) (t := 29) (d := .slice elems spare) rfl rfl _ ?_
    rw [DataW.weights, hv]
    exact List.mem_cons_self))
  have h2 : (elems.length + spare.length) * Try.prog.bytesOf 40 ≤ reachBytes := by simpa using h1
  rw [bytes40] at h2
  have h47 := reachBytes_lt
  omega

set_option maxRecDepth 100000 in
theorem lifted (os : Os) (started : os.Started) (H : Type) (enc : TypeId × Value → H) :
    ReturnsInHanded {} Try.checked os 5 .any (Rows.writesSpec.pre6 enc Try.prog Try.f5 Rows.writesRow.domain false) (Rows.writesSpec.post enc Try.prog Try.f5 false true false false) := by
  refine returnsInHanded_of_change_sized (C := Try.checked) own started (by kernel_rfl) Try.func5
    (ChangeSpec.witness6 (enc := enc) (C := Try.checked) false ⟨#[], #[.agg #[.int .i64 0, .int .i64 0, .string ByteArray.empty, .string ByteArray.empty, .slice none 0 0]], []⟩ 8 (by kernel_rfl) (by kernel_rfl) (by kernel_rfl) (by kernel_rfl)) ?_
  intro W base args ds gs before hval0 hW hcnd hsz _
  have hW' := hW
  obtain ⟨p, q, hA0, hV, rfl, hfz, hnd⟩ := hW
  have hA : DataW.TrodAll enc Try.prog W 0 (fun _ => true) true Try.f5.params.toList args.toList ds p := hA0
  rw [Try.params5] at hA
  obtain ⟨v0, vs0, d0, ds0, p0, q0, hargs, rfl, rfl, h0, r0⟩ := trodAll_cons hA
  obtain ⟨rfl, rfl, rfl⟩ := trodAll_nil r0
  obtain rfl : args = #[v0] := by cases args; simp_all
  obtain ⟨rfl, rfl⟩ := trodVars_none hV
  obtain ⟨ol, nl, os1, ns, a, c, st, rfl, hst, hnil, d4, rfl, hd4⟩ := open_plan h0
  have hm : st.length ≤ 2932031007402 := by
    rcases hd4 with ⟨_, rfl⟩ | ⟨elems, spare, rfl, he⟩
    · simp
    · rw [← he]
      exact sized_steps (ts := Try.f5.params.toList ++ Rows.writesSpec.plain.varTypes Try.prog) hsz rfl rfl
  have hlt := hW'.lt
  clear hA0 hval0
  simp only [List.append_nil] at hW' hlt
  refine (writes_walk ol nl os1 ns a c st W hm hst hnil).mono fun e W' ⟨he, bel⟩ => ?_
  subst he
  exact ⟨_, rfl, _, _, _, [], _, [], hW', trodAll_mk1 (shut_bool Try.underlying4 _), (trodAll_cons_mk (bel.trod laidOut (by kernel_rfl) (of_decide_eq_true (by kernel_rfl)) h0 hlt) trodAll_mk0), rfl, bel.frame _, fun h => by cases h⟩

theorem over : Rows.writesRow.holds Try.pinned (OpenSpec.ofChange Rows.writesSpec) :=
  OpenClaim.holds_of_wide 5 Try.f5 rfl rfl rfl rfl rfl rfl rfl ⟨rfl, rfl, rfl, rfl, rfl⟩ rfl rfl rfl rfl rfl (by kernel_rfl) Try.func5 (by kernel_rfl)
    (of_decide_eq_true (by kernel_rfl)) (by unfold Func.isWrapper; first | (rw [if_pos (by decide +kernel)]; kernel_rfl) | (rw [if_neg (by decide +kernel)]; exact ⟨rfl, rfl⟩))
    (fun os started H enc _ => lifted os started H enc)

end Go.Proofs.Ytjjmcnippjpclaa.writes

namespace Go.Proofs.Ytjjmcnippjpclaa

theorem writes_holds : Rows.WritesSaid := writes.over

#print axioms writes_holds

end Go.Proofs.Ytjjmcnippjpclaa
