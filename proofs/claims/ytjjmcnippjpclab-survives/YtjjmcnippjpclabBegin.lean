/-
  The walk of begin: the old text is looked at, and the patch is surely begun.
-/
import Derived.Test.YtjjmcnippjpclabGoOn
namespace Go.Proofs.Ytjjmcnippjpclab

open Go.RowKit

/-- what begin answers, and what it leaves. -/
def pBegin (x : Dp.Dv) (patch : List UInt8) (OL : Nat) (OS : ByteArray) (st : List Pl.St) (NL : Nat) : Int × Dp.Dv := match Dp.pRead x OL with
  | none => (7, x)
  | some old => if Dp.sumL old = OS then (match Dp.pLay x (Dp.enc (some (patch, doneB st ⟨old.toArray⟩ NL))) with
      | (true, y) => (0, y)
      | (false, y) => (7, y)) else (4, x)

set_option maxRecDepth 100000 in
set_option maxHeartbeats 2000000 in
theorem begin_any (D : Nat) (tv sv : Value) (x : Dp.Dv) (J : Nat) (p n : ByteArray) (d : Bool) (wh : Nat) (P : ByteArray) (OL NL : Nat) (OS NS : ByteArray) (a : Option Addr) (b o c : Nat) (st : List Pl.St) (w : World) (hO : OL ≤ 4000) (hN : NL ≤ 4000) (hst : st.length ≤ 2000) (hP : P.size ≤ 40000000) (hm : x.text.length ≤ 140737488355328) (hsz : x.log.length ≤ 140737300000000)
    (hstp : Hid (stepsAt w a b o st)) (hok : Hid (∀ s ∈ st, Pl.ok OL NL s = true)) (h : Hid (devAt D tv sv x w)) (hl : Hid (lifeOk x)) (hj : Hid (jrnAt J p n d wh w)) (ha : Hid (apart J D tv sv)) :
    Calls Try.prog 35 #[.pointer (some ⟨D, 0, none⟩), .pointer (some ⟨J, 0, none⟩), .string P, .agg #[.int .i64 OL, .int .i64 NL, .string OS, .string NS, .slice a st.length c]] w fun e w' => e = .returned (.int .i64 (pBegin x P.data.toList OL OS st NL).1) ∧ devAt D tv sv (pBegin x P.data.toList OL OS st NL).2 w' ∧ ((pBegin x P.data.toList OL OS st NL).1 = 0 → jrnAt J P ⟨(doneB st ⟨(x.text.take OL).toArray⟩ NL).toArray⟩ false wh w') ∧ kept4 J D tv.ownBlock sv.ownBlock w w' := by
  have hJ := hj.out.lt
  have hD := h.out.lt
  have b0 := (Below.refl w.heap.size w).alloc (Nat.le_refl _) (Obj.cells #[.int .i64 OL, .int .i64 NL, .string OS, .string NS, .slice a st.length c] 30)
  have q0 := heap_alloc_new w (Obj.cells #[.int .i64 OL, .int .i64 NL, .string OS, .string NS, .slice a st.length c] 30)
  have H0 : Hid (devAt D tv sv x (w.alloc (Obj.cells #[.int .i64 OL, .int .i64 NL, .string OS, .string NS, .slice a st.length c] 30))) := h.out.below b0
  have J0 : Hid (jrnAt J p n d wh (w.alloc (Obj.cells #[.int .i64 OL, .int .i64 NL, .string OS, .string NS, .slice a st.length c] 30))) := hj.out.below b0
  have S0 : Hid (stepsAt (w.alloc (Obj.cells #[.int .i64 OL, .int .i64 NL, .string OS, .string NS, .slice a st.length c] 30)) a b o st) := stepsAt_below hstp.out b0 hstp.out.2.1
  have HRd := readText_any D tv sv x OL (w.alloc (Obj.cells #[.int .i64 OL, .int .i64 NL, .string OS, .string NS, .slice a st.length c] 30)) (by omega) (by unfold maxLen; omega) H0
  generalize hv0 : w.alloc (Obj.cells #[.int .i64 OL, .int .i64 NL, .string OS, .string NS, .slice a st.length c] 30) = v0 at *
  have hs0 : w.heap.size < v0.heap.size := (Array.getElem?_eq_some_iff.1 q0).1
  obtain ⟨p0, p1, p2, p3, p4, _⟩ := box31 q0
  have B0 : Hid (Below w.heap.size w v0) := b0
  have Q0 : Hid _ := q0
  clear b0 q0
  cases hrd : Dp.pRead x OL with
  | none =>
    rw [hrd] at HRd
    dsimp only at HRd
    have HF : Hid (pBegin x P.data.toList OL OS st NL = (7, x)) := by show _ = _; unfold pBegin; rw [hrd]
    clear hrd
    generalize pBegin x P.data.toList OL OS st NL = R at *
    go_enter Try.func35, Try.ntmps35
    go_wp2_with fail
    refine HRd.mono ?_
    rintro e v2 ⟨rfl, h0⟩
    rw [h0]
    clear h0 v2
    go_wp2_with fail
    go_ret
    rw [HF.out]
    exact ⟨rfl, H0.out, (fun h => by cases h), .of_below B0.out⟩
  | some t =>
    rw [hrd] at HRd
    dsimp only at HRd
    have ht : t = x.text.take OL ∧ t.length = OL := by
      unfold Dp.pRead at hrd
      split at hrd
      · cases hrd
      · cases hrd; rw [List.length_take]; exact ⟨rfl, by omega⟩
    rw [← ht.1]
    have htl : t.length = OL := ht.2
    have HF1 : Hid (Dp.sumL t ≠ OS → pBegin x P.data.toList OL OS st NL = (4, x)) := fun hs => by unfold pBegin; rw [hrd]; simp only [if_neg hs]
    have HF2 : Hid (Dp.sumL t = OS → pBegin x P.data.toList OL OS st NL = match Dp.pLay x (Dp.enc (some (P.data.toList, doneB st ⟨t.toArray⟩ NL))) with
      | (true, y) => (0, y)
      | (false, y) => (7, y)) := fun hs => by unfold pBegin; rw [hrd]; simp only [if_pos hs]
    clear ht hrd
    have HB5 : Hid (∀ v, Below v0.drew.heap.size v0.drew v → v.cell? ⟨w.heap.size, 2, none⟩ = some (.string OS)) := fun v hb => by rw [hb.cell (show w.heap.size < v0.drew.heap.size from hs0)]; exact p2
    have HB0 : Hid (v0.drew.cell? ⟨w.heap.size, 2, none⟩ = some (.string OS)) := p2
    have HSm := fun v => sumL_any t v (by omega)
    generalize pBegin x P.data.toList OL OS st NL = R at *
    by_cases hsum : Dp.sumL t = OS
    · have hmd := fun v hv => made_any OL NL OS NS a b o c st ⟨t.toArray⟩ v hO hN (by rw [strSize]; omega) hst hv hok
      have hZ : (⟨(doneB st ⟨t.toArray⟩ NL).toArray⟩ : ByteArray).size ≤ 4000 := by rw [strSize]; simp [doneB]; exact hN
      have hjb := fun v hd hjj => jbegin_any D tv sv x J p n d wh P ⟨(doneB st ⟨t.toArray⟩ NL).toArray⟩ v hP (by omega) hsz hd hl hjj ha
      have HF : Hid (R = match Dp.pLay x (Dp.enc (some (P.data.toList, doneB st ⟨t.toArray⟩ NL))) with
        | (true, y) => (0, y)
        | (false, y) => (7, y)) := HF2.out hsum
      have HMd : Hid _ := hmd
      rw [show (ByteArray.mk (doneB st ⟨t.toArray⟩ NL).toArray).data.toList = doneB st ⟨t.toArray⟩ NL by simp] at hjb
      have HJb : Hid _ := hjb
      clear hmd hjb HF1 HF2
      rw [hsum] at HSm
      clear hsum
      generalize Dp.pLay x (Dp.enc (some (P.data.toList, doneB st ⟨t.toArray⟩ NL))) = r at *
      generalize (⟨(doneB st ⟨t.toArray⟩ NL).toArray⟩ : ByteArray) = NX at *
      obtain ⟨bb, y⟩ := r
      go_enter Try.func35, Try.ntmps35
      go_wp2_with fail
      refine HRd.mono ?_
      rintro e v2 ⟨rfl, h0⟩
      rw [h0]
      clear h0 v2 HRd
      go_wp2_with fail
      go_region_held3 (fun v => v.cell? ⟨w.heap.size, 2, none⟩ = some (.string OS)) (first | exact HB0.out | exact HB5.out _ b5) ((go_at_call 20; refine (HSm _).mono ?_; rintro e v5 ⟨rfl, b5⟩))
      have B5 : Below v0.heap.size v0 v5 := (Below.refl _ _).drew.trans b5
      clear b5 p0 p1 p2 p3 p4
      have Q5 : v5.heap[w.heap.size]? = some (.cells #[.int .i64 OL, .int .i64 NL, .string OS, .string NS, .slice a st.length c] 30 (0, 0)) := by rw [B5.block _ hs0]; exact Q0.out
      obtain ⟨p0, p1, p2, p3, p4, _⟩ := box31 Q5
      clear Q5
      have S5 : Hid (stepsAt v5 a b o st) := stepsAt_below S0.out B5 S0.out.2.1
      have B5' : Hid (Below v0.heap.size v0 v5) := B5
      clear B5
      go_wp2_with fail
      refine (HMd.out v5 S5).mono ?_
      rintro e v6 ⟨rfl, b6⟩
      have B6 : Hid (Below v0.heap.size v0 v6) := B5'.out.trans (b6.mono B5'.out.size)
      clear b6 B5' S5 p0 p1 p2 p3 p4
      cases bb with
      | false =>
        go_wp2_with fail
        refine (HJb.out v6 (H0.out.below B6.out) (J0.out.below B6.out)).mono ?_
        rintro e v7 ⟨rfl, h7, _, k7⟩
        go_wp2_with fail
        go_ret
        rw [HF.out]
        exact ⟨rfl, h7, (fun h => by cases h), ((kept4.of_below B0.out).setBelow B6.out).trans k7⟩
      | true =>
        go_wp2_with fail
        refine (HJb.out v6 (H0.out.below B6.out) (J0.out.below B6.out)).mono ?_
        rintro e v7 ⟨rfl, h7, j7, k7⟩
        go_wp2_with fail
        go_ret
        rw [HF.out]
        exact ⟨rfl, h7, (fun _ => j7 trivial), ((kept4.of_below B0.out).setBelow B6.out).trans k7⟩
    · have hbn := bne_of hsum
      have HF := HF1.out hsum
      subst HF
      clear HF1 HF2 hsum
      generalize Dp.sumL t = SM at *
      go_enter Try.func35, Try.ntmps35
      go_wp2_with fail
      refine HRd.mono ?_
      rintro e v2 ⟨rfl, h0⟩
      rw [h0]
      clear h0 v2 HRd
      go_wp2_with fail
      go_region_held3 (fun v => v.cell? ⟨w.heap.size, 2, none⟩ = some (.string OS)) (first | exact HB0.out | exact HB5.out _ b5) ((go_at_call 20; refine (HSm _).mono ?_; rintro e v5 ⟨rfl, b5⟩))
      have B5 : Below v0.heap.size v0 v5 := (Below.refl _ _).drew.trans b5
      clear b5
      go_wp2_with fail
      go_ret
      exact ⟨rfl, H0.out.below B5, (fun h => by cases h), (kept4.of_below B0.out).setBelow B5⟩

end Go.Proofs.Ytjjmcnippjpclab
