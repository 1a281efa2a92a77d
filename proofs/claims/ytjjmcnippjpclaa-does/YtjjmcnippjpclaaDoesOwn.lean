/-
  Proved here: for every size, every two texts and every script of operations on two devices (patches in place, done in turns, the power going at any call, and whatever stays of what was not sure), Does answers true, and its arguments are left as they were. No condition beyond the form's own reach.
-/
import Derived.Test.YtjjmcnippjpclaaDoesAll
import Derived.ProofKit
import Derived.OpenShut
import Derived.ShutString
import Derived.ChangeOld
import Derived.Carry
import Derived.SizedLaws
namespace Go.Proofs.Ytjjmcnippjpclaa.doesAll

open Go.ChangeShapes Go.WideShapes Go.ChangeAt Go.RowKit

open Go.ChangeMaps (open_string shut_string)

theorem own : ownKnob Try.prog.godebug = none := by kernel_rfl

theorem laidOut : laidOutB Try.prog = true := by kernel_rfl

theorem bytesOp : Try.prog.bytesOf 60 = 64 := by kernel_rfl

theorem weights_all {H : Type} {P : Program} {e : TypeId} {d : DataW H} {n : Nat} (hn : n ∈ d.weights P e) : ∀ {l : List (DataW H)}, d ∈ l → n ∈ DataW.weightsAll P e l
  | x :: r, h => by
    rw [DataW.weightsAll, List.mem_append]
    rcases List.mem_cons.1 h with rfl | h
    · exact .inl hn
    · exact .inr (weights_all hn h)

theorem sized_patch {H : Type} {ts : List TypeId} {ds : List (DataW H)} (h : (DataW.weightsEach Try.prog ts ds).all (· ≤ reachBytes) = true) {j : Nat} {elems spare : List (DataW H)} (ht : ts[j]? = some 47) (hd : ds[j]? = some (.slice elems spare))
    {d0 d1 d3 d4 : DataW H} {bytes : List UInt8} (he : DataW.agg [d0, d1, .lit (.string bytes), d3, d4] ∈ elems) : bytes.length ≤ reachBytes := by
  have hu := Try.underlying60
  have hv := Try.underlying47
  have h1 := List.all_eq_true.1 h _ (DataW.weights_mem_each ht hd bytes.length (by
    rw [DataW.weights, hv]
    refine List.mem_cons_of_mem _ (List.mem_append.2 (.inl (weights_all ?_ he)))
    rw [DataW.weights, hu]
    refine DataW.weights_mem_each (j := 2) (t := 9) (d := .lit (.string bytes)) rfl rfl _ ?_
    rw [DataW.weights]
    exact List.mem_cons_self))
  simpa using h1

set_option maxRecDepth 100000 in
theorem lifted (os : Os) (started : os.Started) (H : Type) (enc : TypeId × Value → H) :
    ReturnsInHanded {} Try.checked os 7 .any (Rows.doesSpec.pre6 enc Try.prog Try.f7 Rows.doesRow.domain false) (Rows.doesSpec.post enc Try.prog Try.f7 false true false false) := by
  refine returnsInHanded_of_change_sized (C := Try.checked) own started (by kernel_rfl) Try.func7
    (ChangeSpec.witness6 (enc := enc) (C := Try.checked) false ⟨#[], #[.int .i64 0, .string ByteArray.empty, .string ByteArray.empty, .slice none 0 0], []⟩ 8 (by kernel_rfl) (by kernel_rfl) (by kernel_rfl) (by kernel_rfl)) ?_
  intro W base args ds gs before hval0 hW hcnd hsz _
  have hval : ∀ (j : Nat) t v, Try.f7.params[j]? = some t → args[j]? = some v → Value.okWide Try.prog W .any base t v := hval0
  have hW' := hW
  obtain ⟨p, q, hA0, hV, rfl, hfz, hnd⟩ := hW
  have hA : DataW.TrodAll enc Try.prog W 0 (fun _ => true) true Try.f7.params.toList args.toList ds p := hA0
  rw [Try.params7] at hA hval
  obtain ⟨v0, vs0, d0, ds0, p0, q0, hargs, rfl, rfl, h0, r0⟩ := trodAll_cons hA
  obtain ⟨v1, vs1, d1, ds1, p1, q1, rfl, rfl, rfl, h1, r1⟩ := trodAll_cons r0
  obtain ⟨v2, vs2, d2, ds2, p2, q2, rfl, rfl, rfl, h2, r2⟩ := trodAll_cons r1
  obtain ⟨v3, vs3, d3, ds3, p3, q3, rfl, rfl, rfl, h3, r3⟩ := trodAll_cons r2
  obtain ⟨rfl, rfl, rfl⟩ := trodAll_nil r3
  obtain rfl : args = #[v0, v1, v2, v3] := by cases args; simp_all
  obtain ⟨rfl, rfl⟩ := trodVars_none hV
  obtain ⟨a0, rfl, rfl, rfl, w0⟩ := open_int Try.underlying3 (hval 0 3 v0 rfl rfl) h0
  obtain ⟨a1, rfl, rfl, rfl, w1⟩ := open_string Try.underlying9 (hval 1 9 v1 rfl rfl) h1
  obtain ⟨a2, rfl, rfl, rfl, w2⟩ := open_string Try.underlying9 (hval 2 9 v2 rfl rfl) h2
  obtain ⟨ao, len, cap, rfl⟩ := okWide_slice Try.underlying47 (hval 3 47 v3 rfl rfl)
  obtain ⟨fuel3, hf3⟩ := h3
  obtain ⟨a, c, ops, hsl, hops, -, -, hel⟩ := open_ops (v := .slice ao len cap) hf3
  have h47 := reachBytes_lt
  have s1 : a1.data.toList.length ≤ reachBytes := sized_string (ts := Try.f7.params.toList ++ Rows.doesSpec.plain.varTypes Try.prog) hsz (j := 1) rfl rfl
  have s2 : a2.data.toList.length ≤ reachBytes := sized_string (ts := Try.f7.params.toList ++ Rows.doesSpec.plain.varTypes Try.prog) hsz (j := 2) rfl rfl
  rw [data_len] at s1 s2
  have s3 : ops.length ≤ 2199023255552 ∧ ∀ q ∈ ops, q.P.size ≤ 140737488355328 := by
    rcases hel with rfl | ⟨elems, spare, rfl, hle, hall⟩
    · exact ⟨Nat.zero_le _, fun q hq => by cases hq⟩
    · have h4 : (elems.length + spare.length) * Try.prog.bytesOf 60 ≤ reachBytes := sized_slice (ts := Try.f7.params.toList ++ Rows.doesSpec.plain.varTypes Try.prog) hsz (j := 3) (t := 47) (elems := elems) (spare := spare) rfl rfl Try.underlying47
      rw [bytesOp] at h4
      refine ⟨by omega, fun q hq => ?_⟩
      obtain ⟨e0, e1, e3, e4, he⟩ := hall q hq
      have h5 := sized_patch (ts := Try.f7.params.toList ++ Rows.doesSpec.plain.varTypes Try.prog) hsz (j := 3) (elems := elems) (spare := spare) rfl rfl he
      rw [data_len] at h5
      omega
  have hlt := hW'.lt
  clear hA0 hval0
  simp only [List.append_nil] at hW' hlt
  rw [hsl]
  refine (doesAll_walk a0 a1 a2 a c ops W (by omega) (by omega) s3.1 s3.2 hops).mono fun e W' ⟨he, bel⟩ => ?_
  subst he
  rw [← hsl]
  exact ⟨_, rfl, _, _, _, [], _, [], hW', trodAll_mk1 (shut_bool Try.underlying4 _), (trodAll_cons_mk (shut_int Try.underlying3 w0) (trodAll_cons_mk (shut_string Try.underlying9 w1) (trodAll_cons_mk (shut_string Try.underlying9 w2) (trodAll_cons_mk (bel.trod laidOut (by kernel_rfl) (of_decide_eq_true (by kernel_rfl)) ⟨fuel3, hf3⟩ (fun x hx => hlt x (by simp [hx]))) trodAll_mk0)))), rfl, bel.frame _, fun h => by cases h⟩

theorem over : Rows.doesRow.holds Try.pinned (OpenSpec.ofChange Rows.doesSpec) :=
  OpenClaim.holds_of_wide 7 Try.f7 rfl rfl rfl rfl rfl rfl rfl ⟨rfl, rfl, rfl, rfl, rfl⟩ rfl rfl rfl rfl rfl (by kernel_rfl) Try.func7 (by kernel_rfl)
    (of_decide_eq_true (by kernel_rfl)) (by unfold Func.isWrapper; first | (rw [if_pos (by decide +kernel)]; kernel_rfl) | (rw [if_neg (by decide +kernel)]; exact ⟨rfl, rfl⟩))
    (fun os started H enc _ => lifted os started H enc)

end Go.Proofs.Ytjjmcnippjpclaa.doesAll

namespace Go.Proofs.Ytjjmcnippjpclaa

theorem does_holds : Rows.DoesSaid := doesAll.over

#print axioms does_holds

end Go.Proofs.Ytjjmcnippjpclaa
