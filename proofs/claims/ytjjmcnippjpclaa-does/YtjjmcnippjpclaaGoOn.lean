/-
  The walks of goOn and of begin.
-/
import Derived.Test.YtjjmcnippjpclaaSettle
import Derived.Test.YtjjmcnippjpclaaLay
import Derived.Test.YtjjmcnippjpclaaMade
namespace Go.Proofs.Ytjjmcnippjpclaa

open Go.RowKit

/-- what a piece leaves as it was. -/
theorem put_keep {x : Dp.Dv} {a : Nat} {A B : List UInt8} : (Dp.pPut x a A B).2.log = x.log ∧ (Dp.pPut x a A B).2.sure = x.sure := by
  unfold Dp.pPut
  split
  · exact ⟨rfl, rfl⟩
  · unfold Dp.pWrite
    split
    · exact ⟨rfl, rfl⟩
    · split
      · simp only [Dp.andB, Dp.pSyncText]
        split <;> exact ⟨rfl, rfl⟩
      · exact ⟨rfl, rfl⟩

structure sameDev (x y : Dp.Dv) : Prop where
  text : y.text.length = x.text.length
  safe : y.safe.length = x.text.length
  log : y.log = x.log
  sure : y.sure = x.sure
  life : lifeOk y

theorem settle_keep {x : Dp.Dv} {next : List UInt8} {e : Nat} (hts : x.text.length = x.safe.length) (hl : lifeOk x) (he : e ≤ next.length) : sameDev x (Dp.pSettle x next e).2 := by
  unfold Dp.pSettle
  cases hr : Dp.pRead x next.length with
  | none => exact ⟨rfl, hts.symm, rfl, rfl, hl⟩
  | some th =>
    have hth : th.length = next.length ∧ next.length ≤ x.text.length := by
      unfold Dp.pRead at hr
      split at hr
      · cases hr
      · cases hr; rw [List.length_take]; omega
    dsimp only
    have h1 := put_len (x := x) (a := 0) (A := th.take e) (B := next.take e) (by rw [List.length_take]; omega) hts
    have h2 := put_keep (x := x) (a := 0) (A := th.take e) (B := next.take e)
    have h3 := lifeOk_put hl 0 (th.take e) (next.take e)
    generalize Dp.pPut x 0 (th.take e) (next.take e) = r at *
    obtain ⟨b, y⟩ := r
    dsimp only at h1 h2 h3
    cases b with
    | false => exact ⟨h1.1, h1.2, h2.1, h2.2, h3⟩
    | true =>
      show sameDev x (Dp.pPut y e (th.drop e) (next.drop e)).2
      have g1 := put_len (x := y) (a := e) (A := th.drop e) (B := next.drop e) (by rw [List.length_drop]; omega) (by omega)
      have g2 := put_keep (x := y) (a := e) (A := th.drop e) (B := next.drop e)
      exact ⟨by omega, by omega, by rw [g2.1, h2.1], by rw [g2.2, h2.2], lifeOk_put h3 _ _ _⟩

theorem kept4.setBelow {J D : Nat} {T S : Option Nat} {a b c : World} (h : kept4 J D T S a b) (hb : Below b.heap.size b c) : kept4 J D T S a c := h.trans (.of_below hb)

theorem sumL_any (t : List UInt8) (w : World) (ht : t.length ≤ 1000000) : Calls Try.prog 14 #[.string ⟨t.toArray⟩] w fun e w' => e = .returned (.string (Dp.sumL t)) ∧ Below w.heap.size w w' := sum_any ⟨t.toArray⟩ w (by rw [strSize]; unfold maxLen; omega)

theorem bne_of {a b : ByteArray} (h : a ≠ b) : (a.toList == b.toList) = false := by simpa using bytes_ne' h

set_option maxRecDepth 100000 in
set_option maxHeartbeats 2000000 in
theorem goOn_any (D : Nat) (tv sv : Value) (x : Dp.Dv) (J : Nat) (p n : ByteArray) (d : Bool) (wh : Nat) (OL NL : Int) (OS NS : ByteArray) (slv : Value) (L : Nat) (w : World) (hNL : NL = (L : Int)) (hL : L ≤ 4000) (hn : n.size ≤ 1000000) (hts : x.text.length = x.safe.length) (hm : x.text.length ≤ 140737488355328) (hsz : x.log.length ≤ 4611686018000000000)
    (h : Hid (devAt D tv sv x w)) (hl : Hid (lifeOk x)) (hj : Hid (jrnAt J p n d wh w)) (ha : Hid (apart J D tv sv)) :
    Calls Try.prog 52 #[.pointer (some ⟨D, 0, none⟩), .pointer (some ⟨J, 0, none⟩), .agg #[.int .i64 OL, .int .i64 NL, .string OS, .string NS, slv]] w fun e w' => ∃ E, isE x n E ∧ e = .returned (.int .i64 (Dp.pGoOn x n.data.toList L NS E).1) ∧ devAt D tv sv (Dp.pGoOn x n.data.toList L NS E).2 w' ∧ kept4 J D tv.ownBlock sv.ownBlock w w' := by
  subst hNL
  have hJ := hj.out.lt
  have hD := h.out.lt
  have hT := fun k hk => h.out.text.lt (k := k) hk
  have hS := fun k hk => h.out.safe.lt (k := k) hk
  have b0 := (Below.refl w.heap.size w).alloc (Nat.le_refl _) (Obj.cells #[.int .i64 OL, .int .i64 (L : Int), .string OS, .string NS, slv] 31)
  have q0 := heap_alloc_new w (Obj.cells #[.int .i64 OL, .int .i64 (L : Int), .string OS, .string NS, slv] 31)
  have H0 : Hid (devAt D tv sv x (w.alloc (Obj.cells #[.int .i64 OL, .int .i64 (L : Int), .string OS, .string NS, slv] 31))) := h.out.below b0
  have J0 := hj.out.below b0
  obtain ⟨-, k1, -, -, -⟩ := J0.cells
  have HSt := settle_any D tv sv x n (w.alloc (Obj.cells #[.int .i64 OL, .int .i64 (L : Int), .string OS, .string NS, slv] 31)) hn hm hts H0 hl
  generalize hv0 : w.alloc (Obj.cells #[.int .i64 OL, .int .i64 (L : Int), .string OS, .string NS, slv] 31) = v0 at *
  have hnl : n.data.toList.length = n.size := data_len n
  have HEN : Hid (∀ E, isE x n E → E ≤ n.size) := fun E h => h.1
  have hIE : (fun E => isE x n E) = (fun E => isE x n E) := rfl
  obtain ⟨IE, hIEe⟩ : ∃ IE : Nat → Prop, IE = isE x n := ⟨_, rfl⟩
  rw [← hIEe] at HEN HSt ⊢
  clear hIE hIEe
  generalize hnn : n.data.toList = nl at *
  have HPo : Hid (∀ E, Dp.pGoOn x nl L NS E = match Dp.pSettle x nl E with
    | (false, y) => (7, y)
    | (true, y) => match Dp.pRead y L with
      | none => (7, y)
      | some t => if Dp.sumL t = NS then (match Dp.pLay y [100] with
        | (true, z) => (0, z)
        | (false, z) => (7, z)) else (5, y)) := fun E => rfl
  go_enter Try.func52, Try.ntmps52
  go_wp2_with fail
  refine HSt.mono ?_
  rintro e v1 ⟨E, hE, rfl, h1, k1'⟩
  have HPE : Hid _ := HPo.out E
  have hEn := HEN.out E hE
  have hsk := settle_keep (x := x) (next := nl) (e := E) hts hl.out (by omega)
  have K1 : Hid (kept4 J D tv.ownBlock sv.ownBlock w v1) := (kept4.of_below b0).trans (.of3 k1')
  have q1 : v1.heap[w.heap.size]? = some (.cells #[.int .i64 OL, .int .i64 (L : Int), .string OS, .string NS, slv] 31 (0, 0)) := by
    rw [k1'.block _ (Array.getElem?_eq_some_iff.1 q0).1 (by omega) (fun e => by have := hT _ e.symm; omega) (fun e => by have := hS _ e.symm; omega)]; exact q0
  have J1 : Hid (jrnAt J p n d wh v1) := J0.kept ha.out k1'
  have hs1 : w.heap.size < v1.heap.size := (Array.getElem?_eq_some_iff.1 q1).1
  clear HPo k1' k1 q0 b0 J0
  generalize hr : Dp.pSettle x nl E = r at *
  obtain ⟨b, y⟩ := r
  cases b with
  | false =>
    go_wp2_with fail
    go_ret
    exact ⟨E, hE, by rw [HPE.out]; rfl, by rw [HPE.out]; exact h1, K1.out⟩
  | true =>
    have c1 : v1.cell? ⟨w.heap.size, 1, none⟩ = some (.int .i64 (L : Int)) := by rw [Lib.cell_of_heap q1]; rfl
    have HRd := readText_any D tv sv y L v1 (by omega) (by have := hsk.text; unfold maxLen; dsimp only at this; omega) h1
    cases hrd : Dp.pRead y L with
    | none =>
      rw [hrd] at HRd
      dsimp only at HRd
      go_wp2_with fail
      refine HRd.mono ?_
      rintro e v2 ⟨rfl, h0⟩
      rw [h0]
      clear h0 v2
      go_wp2_with fail
      go_ret
      refine ⟨E, hE, ?_, ?_, K1.out⟩
      · rw [HPE.out]; (try dsimp only); rw [hrd]; rfl
      · rw [HPE.out]; (try dsimp only); rw [hrd]; exact h1
    | some t =>
      rw [hrd] at HRd
      dsimp only at HRd
      have htl : t.length ≤ 4000 := by
        unfold Dp.pRead at hrd
        split at hrd
        · cases hrd
        · cases hrd; rw [List.length_take]; omega
      have H1 : Hid (devAt D tv sv y v1) := h1
      have c3 : v1.cell? ⟨w.heap.size, 3, none⟩ = some (.string NS) := by rw [Lib.cell_of_heap q1]; rfl
      have HB5 : Hid (∀ v, Below v1.drew.heap.size v1.drew v → v.cell? ⟨w.heap.size, 3, none⟩ = some (.string NS)) := fun v hb => by rw [hb.cell (show w.heap.size < v1.drew.heap.size from hs1)]; exact c3
      have HB0 : Hid (v1.drew.cell? ⟨w.heap.size, 3, none⟩ = some (.string NS)) := c3
      have HSm := fun v => sumL_any t v (by omega)
      by_cases hsum : Dp.sumL t = NS
      · have HF : Hid (Dp.pGoOn x nl L NS E = match Dp.pLay y [100] with
          | (true, z) => (0, z)
          | (false, z) => (7, z)) := by
          show _ = _
          rw [HPE.out]; (try dsimp only); rw [hrd]; simp only [if_pos hsum]
        have hlay := fun v hd hjj => jend_any D tv sv y J p n d wh v (by have := hsk.log; dsimp only at this; rw [this]; omega) hd hsk.life hjj ha
        clear HPE
        rw [hsum] at HSm
        generalize Dp.pLay y [100] = r at *
        obtain ⟨b, z⟩ := r
        have HLay : Hid _ := hlay
        clear hlay
        clear hr hrd hsum
        cases b with
        | false =>
          go_wp2_with fail
          refine HRd.mono ?_
          rintro e v2 ⟨rfl, h0⟩
          rw [h0]
          clear h0 v2 HRd
          go_wp2_with fail
          go_region_held3 (fun v => v.cell? ⟨w.heap.size, 3, none⟩ = some (.string NS)) (first | exact HB0.out | exact HB5.out _ b5) ((go_at_call 14; refine (HSm _).mono ?_; rintro e v5 ⟨rfl, b5⟩))
          have B5 : Below v1.heap.size v1 v5 := (Below.refl _ _).drew.trans b5
          clear b5
          go_wp2_with fail
          refine (HLay.out v5 (H1.out.below B5) (J1.out.below B5)).mono ?_
          rintro e v6 ⟨rfl, h6, k6⟩
          go_wp2_with fail
          go_ret
          refine ⟨E, hE, ?_, ?_, (K1.out.setBelow B5).trans k6⟩
          · rw [HF.out]; rfl
          · rw [HF.out]; exact h6
        | true =>
          go_wp2_with fail
          refine HRd.mono ?_
          rintro e v2 ⟨rfl, h0⟩
          rw [h0]
          clear h0 v2 HRd
          go_wp2_with fail
          go_region_held3 (fun v => v.cell? ⟨w.heap.size, 3, none⟩ = some (.string NS)) (first | exact HB0.out | exact HB5.out _ b5) ((go_at_call 14; refine (HSm _).mono ?_; rintro e v5 ⟨rfl, b5⟩))
          have B5 : Below v1.heap.size v1 v5 := (Below.refl _ _).drew.trans b5
          clear b5
          go_wp2_with fail
          refine (HLay.out v5 (H1.out.below B5) (J1.out.below B5)).mono ?_
          rintro e v6 ⟨rfl, h6, k6⟩
          go_wp2_with fail
          go_ret
          refine ⟨E, hE, ?_, ?_, (K1.out.setBelow B5).trans k6⟩
          · rw [HF.out]; rfl
          · rw [HF.out]; exact h6
      · have hbn := bne_of hsum
        have HF : Hid (Dp.pGoOn x nl L NS E = (5, y)) := by
          show _ = _
          rw [HPE.out]; (try dsimp only); rw [hrd]; simp only [if_neg hsum]
        clear HPE hr hrd hsum
        generalize Dp.sumL t = SM at *
        go_wp2_with fail
        refine HRd.mono ?_
        rintro e v2 ⟨rfl, h0⟩
        rw [h0]
        clear h0 v2 HRd
        go_wp2_with fail
        go_region_held3 (fun v => v.cell? ⟨w.heap.size, 3, none⟩ = some (.string NS)) (first | exact HB0.out | exact HB5.out _ b5) ((go_at_call 14; refine (HSm _).mono ?_; rintro e v5 ⟨rfl, b5⟩))
        have B5 : Below v1.heap.size v1 v5 := (Below.refl _ _).drew.trans b5
        clear b5
        go_wp2_with fail
        go_ret
        refine ⟨E, hE, ?_, ?_, K1.out.setBelow B5⟩
        · rw [HF.out]; rfl
        · rw [HF.out]; exact H1.out.below B5

end Go.Proofs.Ytjjmcnippjpclaa

namespace Go.Proofs.Ytjjmcnippjpclaa

open Go.RowKit

/-- what begin answers, and what it leaves. -/
def pBegin (x : Dp.Dv) (patch : List UInt8) (OL : Nat) (OS : ByteArray) (st : List Pl.St) (NL : Nat) : Int × Dp.Dv := match Dp.pRead x OL with
  | none => (7, x)
  | some old => if Dp.sumL old = OS then (match Dp.pLay x (Dp.enc (some (patch, doneB st ⟨old.toArray⟩ NL))) with
      | (true, y) => (0, y)
      | (false, y) => (7, y)) else (4, x)

set_option maxRecDepth 100000 in
set_option maxHeartbeats 2000000 in
theorem begin_any (D : Nat) (tv sv : Value) (x : Dp.Dv) (J : Nat) (p n : ByteArray) (d : Bool) (wh : Nat) (P : ByteArray) (OL NL : Nat) (OS NS : ByteArray) (a : Option Addr) (b o c : Nat) (st : List Pl.St) (w : World) (hO : OL ≤ 4000) (hN : NL ≤ 4000) (hst : st.length ≤ 2000) (hP : P.size ≤ 40000000) (hm : x.text.length ≤ 140737488355328) (hsz : x.log.length ≤ 4611686018000000000)
    (hstp : Hid (stepsAt w a b o st)) (hok : Hid (∀ s ∈ st, Pl.ok OL NL s = true)) (h : Hid (devAt D tv sv x w)) (hl : Hid (lifeOk x)) (hj : Hid (jrnAt J p n d wh w)) (ha : Hid (apart J D tv sv)) :
    Calls Try.prog 51 #[.pointer (some ⟨D, 0, none⟩), .pointer (some ⟨J, 0, none⟩), .string P, .agg #[.int .i64 OL, .int .i64 NL, .string OS, .string NS, .slice a st.length c]] w fun e w' => e = .returned (.int .i64 (pBegin x P.data.toList OL OS st NL).1) ∧ devAt D tv sv (pBegin x P.data.toList OL OS st NL).2 w' ∧ ((pBegin x P.data.toList OL OS st NL).1 = 0 → jrnAt J P ⟨(doneB st ⟨(x.text.take OL).toArray⟩ NL).toArray⟩ false wh w') ∧ kept4 J D tv.ownBlock sv.ownBlock w w' := by
  have hJ := hj.out.lt
  have hD := h.out.lt
  have b0 := (Below.refl w.heap.size w).alloc (Nat.le_refl _) (Obj.cells #[.int .i64 OL, .int .i64 NL, .string OS, .string NS, .slice a st.length c] 31)
  have q0 := heap_alloc_new w (Obj.cells #[.int .i64 OL, .int .i64 NL, .string OS, .string NS, .slice a st.length c] 31)
  have H0 : Hid (devAt D tv sv x (w.alloc (Obj.cells #[.int .i64 OL, .int .i64 NL, .string OS, .string NS, .slice a st.length c] 31))) := h.out.below b0
  have J0 : Hid (jrnAt J p n d wh (w.alloc (Obj.cells #[.int .i64 OL, .int .i64 NL, .string OS, .string NS, .slice a st.length c] 31))) := hj.out.below b0
  have S0 : Hid (stepsAt (w.alloc (Obj.cells #[.int .i64 OL, .int .i64 NL, .string OS, .string NS, .slice a st.length c] 31)) a b o st) := stepsAt_below hstp.out b0 hstp.out.2.1
  have HRd := readText_any D tv sv x OL (w.alloc (Obj.cells #[.int .i64 OL, .int .i64 NL, .string OS, .string NS, .slice a st.length c] 31)) (by omega) (by unfold maxLen; omega) H0
  generalize hv0 : w.alloc (Obj.cells #[.int .i64 OL, .int .i64 NL, .string OS, .string NS, .slice a st.length c] 31) = v0 at *
  have hs0 : w.heap.size < v0.heap.size := (Array.getElem?_eq_some_iff.1 q0).1
  obtain ⟨p0, p1, p2, p3, p4, _⟩ := box31 q0
  have B0 : Hid (Below w.heap.size w v0) := b0
  have Q0 : Hid _ := q0
  clear b0 q0
  cases hrd : Dp.pRead x OL with
  | none =>
    rw [hrd] at HRd
    dsimp only at HRd
    have HF : Hid (pBegin x P.data.toList OL OS st NL = (7, x)) := by show _ = _; unfold pBegin; rw [hrd]
    clear hrd
    generalize pBegin x P.data.toList OL OS st NL = R at *
    go_enter Try.func51, Try.ntmps51
    go_wp2_with fail
    refine HRd.mono ?_
    rintro e v2 ⟨rfl, h0⟩
    rw [h0]
    clear h0 v2
    go_wp2_with fail
    go_ret
    rw [HF.out]
    exact ⟨rfl, H0.out, (fun h => by cases h), .of_below B0.out⟩
  | some t =>
    rw [hrd] at HRd
    dsimp only at HRd
    have ht : t = x.text.take OL ∧ t.length = OL := by
      unfold Dp.pRead at hrd
      split at hrd
      · cases hrd
      · cases hrd; rw [List.length_take]; exact ⟨rfl, by omega⟩
    rw [← ht.1]
    have htl : t.length = OL := ht.2
    have HF1 : Hid (Dp.sumL t ≠ OS → pBegin x P.data.toList OL OS st NL = (4, x)) := fun hs => by unfold pBegin; rw [hrd]; simp only [if_neg hs]
    have HF2 : Hid (Dp.sumL t = OS → pBegin x P.data.toList OL OS st NL = match Dp.pLay x (Dp.enc (some (P.data.toList, doneB st ⟨t.toArray⟩ NL))) with
      | (true, y) => (0, y)
      | (false, y) => (7, y)) := fun hs => by unfold pBegin; rw [hrd]; simp only [if_pos hs]
    clear ht hrd
    have HB5 : Hid (∀ v, Below v0.drew.heap.size v0.drew v → v.cell? ⟨w.heap.size, 2, none⟩ = some (.string OS)) := fun v hb => by rw [hb.cell (show w.heap.size < v0.drew.heap.size from hs0)]; exact p2
    have HB0 : Hid (v0.drew.cell? ⟨w.heap.size, 2, none⟩ = some (.string OS)) := p2
    have HSm := fun v => sumL_any t v (by omega)
    generalize pBegin x P.data.toList OL OS st NL = R at *
    by_cases hsum : Dp.sumL t = OS
    · have hmd := fun v hv => made_any OL NL OS NS a b o c st ⟨t.toArray⟩ v hO hN (by rw [strSize]; omega) hst hv hok
      have hZ : (⟨(doneB st ⟨t.toArray⟩ NL).toArray⟩ : ByteArray).size ≤ 4000 := by rw [strSize]; simp [doneB]; exact hN
      have hjb := fun v hd hjj => jbegin_any D tv sv x J p n d wh P ⟨(doneB st ⟨t.toArray⟩ NL).toArray⟩ v hP (by omega) hsz hd hl hjj ha
      have HF : Hid (R = match Dp.pLay x (Dp.enc (some (P.data.toList, doneB st ⟨t.toArray⟩ NL))) with
        | (true, y) => (0, y)
        | (false, y) => (7, y)) := HF2.out hsum
      have HMd : Hid _ := hmd
      rw [show (ByteArray.mk (doneB st ⟨t.toArray⟩ NL).toArray).data.toList = doneB st ⟨t.toArray⟩ NL by simp] at hjb
      have HJb : Hid _ := hjb
      clear hmd hjb HF1 HF2
      rw [hsum] at HSm
      clear hsum
      generalize Dp.pLay x (Dp.enc (some (P.data.toList, doneB st ⟨t.toArray⟩ NL))) = r at *
      generalize (⟨(doneB st ⟨t.toArray⟩ NL).toArray⟩ : ByteArray) = NX at *
      obtain ⟨bb, y⟩ := r
      go_enter Try.func51, Try.ntmps51
      go_wp2_with fail
      refine HRd.mono ?_
      rintro e v2 ⟨rfl, h0⟩
      rw [h0]
      clear h0 v2 HRd
      go_wp2_with fail
      go_region_held3 (fun v => v.cell? ⟨w.heap.size, 2, none⟩ = some (.string OS)) (first | exact HB0.out | exact HB5.out _ b5) ((go_at_call 14; refine (HSm _).mono ?_; rintro e v5 ⟨rfl, b5⟩))
      have B5 : Below v0.heap.size v0 v5 := (Below.refl _ _).drew.trans b5
      clear b5 p0 p1 p2 p3 p4
      have Q5 : v5.heap[w.heap.size]? = some (.cells #[.int .i64 OL, .int .i64 NL, .string OS, .string NS, .slice a st.length c] 31 (0, 0)) := by rw [B5.block _ hs0]; exact Q0.out
      obtain ⟨p0, p1, p2, p3, p4, _⟩ := box31 Q5
      clear Q5
      have S5 : Hid (stepsAt v5 a b o st) := stepsAt_below S0.out B5 S0.out.2.1
      have B5' : Hid (Below v0.heap.size v0 v5) := B5
      clear B5
      go_wp2_with fail
      refine (HMd.out v5 S5).mono ?_
      rintro e v6 ⟨rfl, b6⟩
      have B6 : Hid (Below v0.heap.size v0 v6) := B5'.out.trans (b6.mono B5'.out.size)
      clear b6 B5' S5 p0 p1 p2 p3 p4
      cases bb with
      | false =>
        go_wp2_with fail
        refine (HJb.out v6 (H0.out.below B6.out) (J0.out.below B6.out)).mono ?_
        rintro e v7 ⟨rfl, h7, _, k7⟩
        go_wp2_with fail
        go_ret
        rw [HF.out]
        exact ⟨rfl, h7, (fun h => by cases h), ((kept4.of_below B0.out).setBelow B6.out).trans k7⟩
      | true =>
        go_wp2_with fail
        refine (HJb.out v6 (H0.out.below B6.out) (J0.out.below B6.out)).mono ?_
        rintro e v7 ⟨rfl, h7, j7, k7⟩
        go_wp2_with fail
        go_ret
        rw [HF.out]
        exact ⟨rfl, h7, (fun _ => j7 trivial), ((kept4.of_below B0.out).setBelow B6.out).trans k7⟩
    · have hbn := bne_of hsum
      have HF := HF1.out hsum
      subst HF
      clear HF1 HF2 hsum
      generalize Dp.sumL t = SM at *
      go_enter Try.func51, Try.ntmps51
      go_wp2_with fail
      refine HRd.mono ?_
      rintro e v2 ⟨rfl, h0⟩
      rw [h0]
      clear h0 v2 HRd
      go_wp2_with fail
      go_region_held3 (fun v => v.cell? ⟨w.heap.size, 2, none⟩ = some (.string OS)) (first | exact HB0.out | exact HB5.out _ b5) ((go_at_call 14; refine (HSm _).mono ?_; rintro e v5 ⟨rfl, b5⟩))
      have B5 : Below v0.heap.size v0 v5 := (Below.refl _ _).drew.trans b5
      clear b5
      go_wp2_with fail
      go_ret
      exact ⟨rfl, H0.out.below B5, (fun h => by cases h), (kept4.of_below B0.out).setBelow B5⟩

end Go.Proofs.Ytjjmcnippjpclaa
