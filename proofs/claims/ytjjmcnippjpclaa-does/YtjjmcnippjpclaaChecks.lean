/-
  The walks of the document's own look at a step, and at two stretches.
  The walk of the document's own check of a plan.
  The document's own check of any plan.
-/
import Derived.Test.YtjjmcnippjpclaaMays
import Derived.Deep.RegionHeld3
import Derived.Deep.CutRange
import Derived.Deep.QuietTactic
import Derived.BigQuiet
import Derived.WalkSmall
namespace Go.Proofs.Ytjjmcnippjpclaa

open Go.RowKit

theorem apart_any (a n b m : Int) (w : World) (h1 : -4000 ≤ a ∧ a ≤ 100000) (h2 : -4000 ≤ n ∧ n ≤ 100000) (h3 : -4000 ≤ b ∧ b ≤ 100000) (h4 : -4000 ≤ m ∧ m ≤ 100000) :
    Calls Try.prog 58 #[.int .i64 a, .int .i64 n, .int .i64 b, .int .i64 m] w fun e w' => e = .returned (.bool (decide (a + n ≤ b ∨ b + m ≤ a))) ∧ w' = w := by
  have e1 : wrap64 (a + n) = a + n := by unfold wrap64; omega
  have e2 : wrap64 (b + m) = b + m := by unfold wrap64; omega
  by_cases h : a + n ≤ b
  · go_enter Try.func58, Try.ntmps58
    go_wp2_with fail
    go_ret
    simp [h]
  · go_enter Try.func58, Try.ntmps58
    go_wp2_with fail
    go_ret
    simp; omega

set_option maxHeartbeats 4000000 in
theorem right_any (k t n f : Int) (d : ByteArray) (ol nl : Int) (os ns : ByteArray) (sl : Value) (w : World) (hol : 0 ≤ ol ∧ ol ≤ 4000) (hnl : 0 ≤ nl ∧ nl ≤ 4000) :
    Calls Try.prog 57 #[.agg #[.int .i64 ol, .int .i64 nl, .string os, .string ns, sl], .agg #[.int .i64 k, .int .i64 t, .int .i64 n, .string d, .int .i64 f]] w fun e w' => e = .returned (.bool (Pl.ok ol nl (k, t, n, d, f))) ∧ Below w.heap.size w w' := by
  have H0 : Hid (1 ≤ n → (0 ≤ t ∧ n ≤ nl ∧ t ≤ nl - n) → ((k = 1 ∧ (d.size : Int) = n ∧ f = 0) ∨ (k = 3 ∧ d.size = 0 ∧ (0 ≤ f ∧ n ≤ ol ∧ f ≤ ol - n))) → Pl.ok ol nl (k, t, n, d, f) = true) := fun a b c => ok_yes ⟨a, b, c⟩
  have H1 : Hid (¬ (1 ≤ n ∧ (0 ≤ t ∧ n ≤ nl ∧ t ≤ nl - n) ∧ ((k = 1 ∧ (d.size : Int) = n ∧ f = 0) ∨ (k = 3 ∧ d.size = 0 ∧ (0 ≤ f ∧ n ≤ ol ∧ f ≤ ol - n)))) → Pl.ok ol nl (k, t, n, d, f) = false) := fun a => ok_no a
  generalize Pl.ok ol nl (k, t, n, d, f) = r at *
  by_cases h1 : n < 1
  · have d1 : decide (n < 1) = true := decide_eq_true h1
    go_enter Try.func57, Try.ntmps57
    go_wp2_with fail
    go_ret
    exact ⟨by rw [H1.out (by omega)]; rfl, by go_grown⟩
  have d1 : decide (n < 1) = false := decide_eq_false h1
  by_cases h2 : 4000 < n
  · have d2 : decide (4000 < n) = true := decide_eq_true h2
    go_enter Try.func57, Try.ntmps57
    go_wp2_with fail
    go_ret
    exact ⟨by rw [H1.out (by omega)]; rfl, by go_grown⟩
  have d2 : decide (4000 < n) = false := decide_eq_false h2
  by_cases h3 : t < 0
  · have d3 : decide (t < 0) = true := decide_eq_true h3
    go_enter Try.func57, Try.ntmps57
    go_wp2_with fail
    go_ret
    exact ⟨by rw [H1.out (by omega)]; rfl, by go_grown⟩
  have d3 : decide (t < 0) = false := decide_eq_false h3
  by_cases h4 : 4000 < t
  · have d4 : decide (4000 < t) = true := decide_eq_true h4
    go_enter Try.func57, Try.ntmps57
    go_wp2_with fail
    go_ret
    exact ⟨by rw [H1.out (by omega)]; rfl, by go_grown⟩
  have d4 : decide (4000 < t) = false := decide_eq_false h4
  by_cases h5 : f < 0
  · have d5 : decide (f < 0) = true := decide_eq_true h5
    go_enter Try.func57, Try.ntmps57
    go_wp2_with fail
    go_ret
    exact ⟨by rw [H1.out (by omega)]; rfl, by go_grown⟩
  have d5 : decide (f < 0) = false := decide_eq_false h5
  by_cases h6 : 4000 < f
  · have d6 : decide (4000 < f) = true := decide_eq_true h6
    go_enter Try.func57, Try.ntmps57
    go_wp2_with fail
    go_ret
    exact ⟨by rw [H1.out (by omega)]; rfl, by go_grown⟩
  have d6 : decide (4000 < f) = false := decide_eq_false h6
  have e1 : wrap64 (t + n) = t + n := by unfold wrap64; omega
  have e2 : wrap64 (f + n) = f + n := by unfold wrap64; omega
  by_cases h7 : nl < t + n
  · have d7 : decide (nl < t + n) = true := decide_eq_true h7
    go_enter Try.func57, Try.ntmps57
    go_wp2_with fail
    go_ret
    exact ⟨by rw [H1.out (by omega)]; rfl, by go_grown⟩
  have d7 : decide (nl < t + n) = false := decide_eq_false h7
  by_cases hk3 : k = 3
  · subst hk3
    by_cases hd : d.size = 0
    · have hd' : d.toList = [] := List.eq_nil_of_length_eq_zero (by rw [toList_size, hd])
      go_enter Try.func57, Try.ntmps57
      go_wp2_with fail
      go_ret
      refine ⟨?_, by go_grown⟩
      show Ending.returned (Value.bool (decide (f + n ≤ ol))) = _
      by_cases hf : f + n ≤ ol
      · rw [H0.out (by omega) (by omega) (.inr ⟨by trivial, hd, by omega⟩), decide_eq_true hf]
      · rw [H1.out (by omega), decide_eq_false hf]
    · have hd' : ¬ d.toList = [] := fun h => hd (by rw [← toList_size, h]; rfl)
      go_enter Try.func57, Try.ntmps57
      go_wp2_with fail
      go_ret
      exact ⟨by rw [H1.out (by omega)]; rfl, by go_grown⟩
  · by_cases hk1 : k = 1
    · subst hk1
      by_cases hf : f = 0
      · subst hf
        go_enter Try.func57, Try.ntmps57
        go_wp2_with fail
        go_ret
        refine ⟨?_, by go_grown⟩
        show Ending.returned (Value.bool ((d.size : Int) == n)) = _
        by_cases hd : (d.size : Int) = n
        · rw [H0.out (by omega) (by omega) (.inl ⟨by trivial, hd, by trivial⟩), hd]; simp
        · rw [H1.out (by omega)]; simp [hd]
      · go_enter Try.func57, Try.ntmps57
        go_wp2_with fail
        go_ret
        exact ⟨by rw [H1.out (by omega)]; rfl, by go_grown⟩
    · go_enter Try.func57, Try.ntmps57
      go_wp2_with fail
      go_ret
      exact ⟨by rw [H1.out (by omega)]; rfl, by go_grown⟩

end Go.Proofs.Ytjjmcnippjpclaa

namespace Go.Proofs.Ytjjmcnippjpclaa

open Go.RowKit

set_option maxRecDepth 100000 in
set_option maxHeartbeats 8000000 in
theorem check_yes (OL NL : Nat) (os ns : ByteArray) (a : Option Addr) (b o c : Nat) (st : List Pl.St) (w : World) (hO : OL ≤ 4000) (hN : NL ≤ 4000) (hos : os.size = 4) (hns : ns.size = 4) (hm : st.length ≤ 2000) (hst : Hid (stepsAt w a b o st)) :
    Calls Try.prog 36 #[.agg #[.int .i64 OL, .int .i64 NL, .string os, .string ns, .slice a st.length c]] w fun e w' => e = .returned (.int .i64 (Pl.verdict (Pl.form OL NL [] st) (Pl.ord [] st))) ∧ Below w.heap.size w w' := by
  have V3 : Hid (Pl.form OL NL [] st = false → Pl.verdict (Pl.form OL NL [] st) (Pl.ord [] st) = 3) := fun h => by rw [h]; rfl
  have V6 : Hid (Pl.form OL NL [] st = true → Pl.ord [] st = false → Pl.verdict (Pl.form OL NL [] st) (Pl.ord [] st) = 6) := fun h k => by rw [h, k]; rfl
  have V0 : Hid (Pl.form OL NL [] st = true → Pl.ord [] st = true → Pl.verdict (Pl.form OL NL [] st) (Pl.ord [] st) = 0) := fun h k => by rw [h, k]; rfl
  have hF : Hid (Pl.form OL NL [] st = Pl.form OL NL (st.take 0) (st.drop 0)) := rfl
  have hG : Hid (Pl.ord [] st = Pl.ord (st.take 0) (st.drop 0)) := rfl
  generalize Pl.verdict (Pl.form OL NL [] st) (Pl.ord [] st) = V at *
  generalize Pl.form OL NL [] st = RF at *
  generalize Pl.ord [] st = RO at *
  have b1 : decide ((OL : Int) < 0) = false := decide_eq_false (by omega)
  have b2 : decide ((4000 : Int) < (OL : Int)) = false := decide_eq_false (by omega)
  have b3 : decide ((NL : Int) < 0) = false := decide_eq_false (by omega)
  have b4 : decide ((4000 : Int) < (NL : Int)) = false := decide_eq_false (by omega)
  have b5 : decide ((2000 : Int) < (st.length : Int)) = false := decide_eq_false (by omega)
  go_enter Try.func36, Try.ntmps36
  go_wp2_with fail
  go_loopw [3, 4] (fun u i wr => ∃ k A : Nat, k ≤ st.length ∧ i = .int .i64 k ∧ u = .int .i64 A ∧ A ≤ 4000 * k ∧ Hid (Pl.total (st.take k) = A) ∧ Hid (∀ s ∈ st.take k, Pl.ok OL NL s = true) ∧ Hid (RF = Pl.form OL NL (st.take k) (st.drop k)) ∧ Hid (Below (w.heap.size + 1) (w.alloc (Obj.cells #[.int .i64 OL, .int .i64 NL, .string os, .string ns, .slice a st.length c] 31)) wr)) (fun _ i _ => st.length - (intOf i).toNat)
  case atStart =>
    exact ⟨0, 0, Nat.zero_le _, rfl, rfl, Nat.zero_le _, by simp [Hid, Pl.total], by simp [Hid], hF, Below.refl _ _⟩
  case round =>
    obtain ⟨k, A, hk, rfl, rfl, hA4, hA, hall, hfo, hbel⟩ := hrel
    have p0 : wr.cell? ⟨w.heap.size, 0, none⟩ = some (.int .i64 OL) := by rw [hbel.out.cell (Nat.lt_succ_self _)]; simp [go_sem]
    have p1 : wr.cell? ⟨w.heap.size, 1, none⟩ = some (.int .i64 NL) := by rw [hbel.out.cell (Nat.lt_succ_self _)]; simp [go_sem]
    have p2 : wr.cell? ⟨w.heap.size, 2, none⟩ = some (.string os) := by rw [hbel.out.cell (Nat.lt_succ_self _)]; simp [go_sem]
    have p3 : wr.cell? ⟨w.heap.size, 3, none⟩ = some (.string ns) := by rw [hbel.out.cell (Nat.lt_succ_self _)]; simp [go_sem]
    have p4 : wr.cell? ⟨w.heap.size, 4, none⟩ = some (.slice a st.length c) := by rw [hbel.out.cell (Nat.lt_succ_self _)]; simp [go_sem]
    by_cases hlt : k < st.length
    · obtain ⟨s, hs⟩ : ∃ s, st[k]? = some s := ⟨st[k], List.getElem?_eq_getElem hlt⟩
      have ha : a = some ⟨b, o, none⟩ := by
        rcases hst.out.1 with h | h
        · rw [h] at hlt; exact absurd hlt (Nat.not_lt_zero _)
        · exact h
      subst ha
      obtain ⟨c0, c1, c2, c3, c4⟩ := stAt_below (stAt_below (hst.out.2.2 k s hs) ((Below.refl w.heap.size w).alloc (Nat.le_refl _) (Obj.cells #[.int .i64 OL, .int .i64 NL, .string os, .string ns, .slice (some ⟨b, o, none⟩) st.length c] 31)) hst.out.2.1) hbel.out (Nat.lt_succ_of_lt hst.out.2.1)
      have hsz : w.heap.size + 1 ≤ wr.heap.size := by have := hbel.out.size; simp at this; omega
      have hri : Hid (∀ w, Calls Try.prog 57 #[.agg #[.int .i64 OL, .int .i64 NL, .string os, .string ns, .slice (some ⟨b, o, none⟩) st.length c], .agg #[.int .i64 s.k, .int .i64 s.t, .int .i64 s.n, .string s.d, .int .i64 s.f]] w fun e w' => e = .returned (.bool (Pl.ok OL NL s)) ∧ Below w.heap.size w w') := fun w => right_any s.k s.t s.n s.f s.d OL NL os ns _ w (by omega) (by omega)
      go_wp2_with fail
      go_cut [5] from 47 to 102 (fun r wx => r = .bool (Pl.ok OL NL s) ∧ Below wr.heap.size wr wx)
      case first =>
        go_region_with (go_at_call 57; refine (hri.out _).mono ?_; rintro e v1 ⟨rfl, bv⟩)
        all_goals (try go_wp2_with fail)
        all_goals go_meet
        all_goals exact ⟨rfl, ⟨bv.os, bv.tape, bv.output, bv.size, bv.block⟩⟩
      case rest =>
        obtain ⟨rfl, bv⟩ := hcut
        have hbel1 : Hid (Below (w.heap.size + 1) (w.alloc (Obj.cells #[.int .i64 OL, .int .i64 NL, .string os, .string ns, .slice (some ⟨b, o, none⟩) st.length c] 31)) wc) := hbel.out.trans (bv.mono hsz)
        have hform : Hid (RF = (Pl.ok OL NL s && Pl.free s.t s.n (st.take k) && Pl.form OL NL (st.take (k + 1)) (st.drop (k + 1)))) := hfo.out.trans (Pl.form_at hs)
        clear p0 p1 p2 p3 p4 c0 c1 c2 c3 c4 hri
        have p4 : wc.cell? ⟨w.heap.size, 4, none⟩ = some (.slice (some ⟨b, o, none⟩) st.length c) := by rw [hbel1.out.cell (Nat.lt_succ_self _)]; simp [go_sem]
        obtain ⟨c0, c1, c2, c3, c4⟩ := stAt_below (stAt_below (hst.out.2.2 k s hs) ((Below.refl w.heap.size w).alloc (Nat.le_refl _) (Obj.cells #[.int .i64 OL, .int .i64 NL, .string os, .string ns, .slice (some ⟨b, o, none⟩) st.length c] 31)) hst.out.2.1) hbel1.out (Nat.lt_succ_of_lt hst.out.2.1)
        cases hokv : Pl.ok OL NL s
        · have hR : RF = false := by rw [hform.out, hokv]; rfl
          go_wp2_with fail
          go_ret
          refine ⟨by rw [V3.out hR]; rfl, ?_⟩
          exact ((Below.refl w.heap.size w).alloc (Nat.le_refl _) _).trans (hbel1.out.mono (by omega))
        · have hpos := Pl.ok_pos hokv
          have hoks : Hid (Pl.ok OL NL s = true) := hokv
          clear hokv
          obtain ⟨T, hT⟩ := Int.eq_ofNat_of_zero_le hpos.2.1
          obtain ⟨M, hM⟩ := Int.eq_ofNat_of_zero_le (show 0 ≤ s.n by omega)
          have hTM : T + M ≤ NL := by omega
          have hM1 : 1 ≤ M := by omega
          rw [hT] at c1
          rw [hM] at c2
          have hall1 : Hid (∀ s ∈ st.take (k + 1), Pl.ok OL NL s = true) := Pl.mem_take_succ hs hall.out hoks.out
          have hA1 : Hid (Pl.total (st.take (k + 1)) = ((A + M : Nat) : Int)) := by
            show _ = _
            rw [Pl.take_at hs, Pl.total_snoc, hA.out, hM]; omega
          clear hpos
          go_wp2_with fail
          go_loopw [6] (fun j wi => ∃ q : Nat, q ≤ k ∧ j = .int .i64 q ∧ Hid (Pl.free s.t s.n (st.take q) = true) ∧ Hid (Below (w.heap.size + 1) (w.alloc (Obj.cells #[.int .i64 OL, .int .i64 NL, .string os, .string ns, .slice (some ⟨b, o, none⟩) st.length c] 31)) wi)) (fun j _ => k - (intOf j).toNat)
          case atStart => exact ⟨0, Nat.zero_le _, rfl, rfl, hbel1⟩
          case round =>
            obtain ⟨q, hq, rfl, hfree, hbel2⟩ := hrel
            clear p4 c0 c1 c2 c3 c4
            have p4 : wr.cell? ⟨w.heap.size, 4, none⟩ = some (.slice (some ⟨b, o, none⟩) st.length c) := by rw [hbel2.out.cell (Nat.lt_succ_self _)]; simp [go_sem]
            obtain ⟨c0, c1, c2, c3, c4⟩ := stAt_below (stAt_below (hst.out.2.2 k s hs) ((Below.refl w.heap.size w).alloc (Nat.le_refl _) (Obj.cells #[.int .i64 OL, .int .i64 NL, .string os, .string ns, .slice (some ⟨b, o, none⟩) st.length c] 31)) hst.out.2.1) hbel2.out (Nat.lt_succ_of_lt hst.out.2.1)
            rw [hT] at c1
            rw [hM] at c2
            by_cases hqk : q < k
            · obtain ⟨x, hx⟩ : ∃ x, st[q]? = some x := ⟨st[q], List.getElem?_eq_getElem (by omega)⟩
              have hxo := Pl.ok_pos (hall.out x (List.mem_of_getElem? (by rw [List.getElem?_take, if_pos hqk, hx])))
              obtain ⟨d0, d1, d2, d3, d4⟩ := stAt_below (stAt_below (hst.out.2.2 q x hx) ((Below.refl w.heap.size w).alloc (Nat.le_refl _) (Obj.cells #[.int .i64 OL, .int .i64 NL, .string os, .string ns, .slice (some ⟨b, o, none⟩) st.length c] 31)) hst.out.2.1) hbel2.out (Nat.lt_succ_of_lt hst.out.2.1)
              have hq0 : (q : Int) < (st.length : Int) := by omega
              have hk0 : (k : Int) < (st.length : Int) := by omega
              have hap : Hid (∀ w, Calls Try.prog 58 #[.int .i64 T, .int .i64 M, .int .i64 x.t, .int .i64 x.n] w fun e w' => e = .returned (.bool (decide ((T : Int) + M ≤ x.t ∨ x.t + x.n ≤ T))) ∧ w' = w) := fun w => apart_any T M x.t x.n w (by omega) (by omega) (by omega) (by omega)
              have hnext : Hid (Pl.free s.t s.n (st.take (q + 1)) = decide ((T : Int) + M ≤ x.t ∨ x.t + x.n ≤ T)) := by
                show _ = _
                rw [Pl.take_at hx, Pl.free_snoc, hfree.out, hT, hM]; rfl
              have hbad : Hid (decide ((T : Int) + M ≤ x.t ∨ x.t + x.n ≤ T) = false → RF = false) := fun h => by
                have : Pl.free s.t s.n (st.take k) = false := Pl.free_mono (k := k) hqk (hnext.out.trans h)
                rw [hform.out, this, Bool.and_false]; rfl
              generalize hD : decide ((T : Int) + M ≤ x.t ∨ x.t + x.n ≤ T) = D at hap hnext hbad
              clear hD
              go_wp2_with fail
              go_quiet ((go_at_call 58; refine Calls.quiet_of_same (hap.out _)))
              cases D
              · have hRF : Hid (RF = false) := hbad.out rfl
                go_wp2_with fail
                go_ret
                refine ⟨by rw [V3.out hRF.out]; rfl, ?_⟩
                exact ((Below.refl w.heap.size w).alloc (Nat.le_refl _) _).trans ((below_drewN hbel2.out _).mono (by omega))
              · go_wp2_with fail
                exact ⟨⟨q + 1, by omega, by go_num, hnext, below_drewN hbel2.out _⟩, by simp [intOf]; omega⟩
            · have hqe : q = k := by omega
              subst hqe
              have hR1 : Hid (RF = Pl.form OL NL (st.take (q + 1)) (st.drop (q + 1))) := by
                show _ = _
                rw [hform.out, hoks.out, hfree.out]; rfl
              go_wp2_with fail
              exact ⟨⟨q + 1, A + M, by omega, by go_num, by go_num, by omega, hA1, hall1, hR1, hbel2⟩, by simp [intOf]; omega⟩
    · have hke : k = st.length := by omega
      subst hke
      have hR : Hid (RF = decide ((A : Int) = NL)) := by
        show _ = _
        have e := hA.out
        rw [List.take_length] at e
        rw [hfo.out, Pl.form_end, e]
      by_cases hAN : A = NL
      · subst hAN
        have hRT : Hid (RF = true) := by
          show _ = _
          rw [hR.out]; simp
        clear hR hfo
        go_wp2_with fail
        go_loopw [8] (fun i wi => ∃ k : Nat, k ≤ st.length ∧ i = .int .i64 k ∧ Hid (RO = Pl.ord (st.take k) (st.drop k)) ∧ Hid (Below (w.heap.size + 1) (w.alloc (Obj.cells #[.int .i64 OL, .int .i64 A, .string os, .string ns, .slice a st.length c] 31)) wi)) (fun i _ => st.length - (intOf i).toNat)
        case atStart => exact ⟨0, Nat.zero_le _, rfl, hG, hbel⟩
        case round =>
          obtain ⟨k, hk, rfl, hgo, hbel1⟩ := hrel
          clear p0 p1 p2 p3 p4
          have p4 : wr.cell? ⟨w.heap.size, 4, none⟩ = some (.slice a st.length c) := by rw [hbel1.out.cell (Nat.lt_succ_self _)]; simp [go_sem]
          by_cases hlt : k < st.length
          · obtain ⟨s, hs⟩ : ∃ s, st[k]? = some s := ⟨st[k], List.getElem?_eq_getElem hlt⟩
            have ha : a = some ⟨b, o, none⟩ := by
              rcases hst.out.1 with h | h
              · rw [h] at hlt; exact absurd hlt (Nat.not_lt_zero _)
              · exact h
            subst ha
            have hoks : Hid (Pl.ok OL A s = true) := hall.out s (by rw [List.take_length]; exact List.mem_of_getElem? hs)
            have hpos := Pl.ok_pos hoks.out
            have hfb := Pl.ok_frm (by omega) hoks.out
            obtain ⟨M, hM⟩ := Int.eq_ofNat_of_zero_le (show 0 ≤ s.n by omega)
            have hM1 : 1 ≤ M ∧ M ≤ 4000 := by omega
            have hord : Hid (RO = ((!decide (s.k = 3) || Pl.free s.f s.n (st.take k)) && Pl.ord (st.take (k + 1)) (st.drop (k + 1)))) := hgo.out.trans (Pl.ord_at hs)
            clear hpos
            go_wp2_with fail
            go_loopw [9] (fun j wi => ∃ q : Nat, q ≤ k ∧ j = .int .i64 q ∧ Hid (s.k = 3 → Pl.free s.f s.n (st.take q) = true) ∧ Hid (Below (w.heap.size + 1) (w.alloc (Obj.cells #[.int .i64 OL, .int .i64 A, .string os, .string ns, .slice (some ⟨b, o, none⟩) st.length c] 31)) wi)) (fun j _ => k - (intOf j).toNat)
            case atStart => exact ⟨0, Nat.zero_le _, rfl, fun _ => rfl, hbel1⟩
            case round =>
              obtain ⟨q, hq, rfl, hfree, hbel2⟩ := hrel
              clear p4
              have p4 : wr.cell? ⟨w.heap.size, 4, none⟩ = some (.slice (some ⟨b, o, none⟩) st.length c) := by rw [hbel2.out.cell (Nat.lt_succ_self _)]; simp [go_sem]
              obtain ⟨c0, c1, c2, c3, c4⟩ := stAt_below (stAt_below (hst.out.2.2 k s hs) ((Below.refl w.heap.size w).alloc (Nat.le_refl _) (Obj.cells #[.int .i64 OL, .int .i64 A, .string os, .string ns, .slice (some ⟨b, o, none⟩) st.length c] 31)) hst.out.2.1) hbel2.out (Nat.lt_succ_of_lt hst.out.2.1)
              rw [hM] at c2
              by_cases hqk : q < k
              · obtain ⟨x, hx⟩ : ∃ x, st[q]? = some x := ⟨st[q], List.getElem?_eq_getElem (by omega)⟩
                have hxo := Pl.ok_pos (hall.out x (by rw [List.take_length]; exact List.mem_of_getElem? hx))
                obtain ⟨d0, d1, d2, d3, d4⟩ := stAt_below (stAt_below (hst.out.2.2 q x hx) ((Below.refl w.heap.size w).alloc (Nat.le_refl _) (Obj.cells #[.int .i64 OL, .int .i64 A, .string os, .string ns, .slice (some ⟨b, o, none⟩) st.length c] 31)) hst.out.2.1) hbel2.out (Nat.lt_succ_of_lt hst.out.2.1)
                have hq0 : (q : Int) < (st.length : Int) := by omega
                have hk0 : (k : Int) < (st.length : Int) := by omega
                have hap : Hid (∀ w, Calls Try.prog 58 #[.int .i64 s.f, .int .i64 M, .int .i64 x.t, .int .i64 x.n] w fun e w' => e = .returned (.bool (decide (s.f + M ≤ x.t ∨ x.t + x.n ≤ s.f))) ∧ w' = w) := fun w => apart_any s.f M x.t x.n w (by omega) (by omega) (by omega) (by omega)
                have hnext : Hid (s.k = 3 → Pl.free s.f s.n (st.take (q + 1)) = decide (s.f + M ≤ x.t ∨ x.t + x.n ≤ s.f)) := by
                  intro h3
                  rw [Pl.take_at hx, Pl.free_snoc, hfree.out h3, hM]; rfl
                have hbad : Hid (s.k = 3 → decide (s.f + M ≤ x.t ∨ x.t + x.n ≤ s.f) = false → RO = false) := fun h3 h => by
                  have : Pl.free s.f s.n (st.take k) = false := Pl.free_mono (k := k) hqk ((hnext.out h3).trans h)
                  rw [hord.out, this, decide_eq_true h3]; rfl
                generalize hD : decide (s.f + M ≤ x.t ∨ x.t + x.n ≤ s.f) = D at hap hnext hbad
                clear hD
                go_wp2_with fail
                go_quiet ((go_at_call 58; refine Calls.quiet_of_same (hap.out _)))
                by_cases h3 : s.k = 3
                · rw [h3] at c0
                  cases D
                  · have hRO : Hid (RO = false) := hbad.out h3 rfl
                    clear hnext hbad
                    go_wp2_with fail
                    go_ret
                    refine ⟨by rw [V6.out hRT.out hRO.out]; rfl, ?_⟩
                    exact ((Below.refl w.heap.size w).alloc (Nat.le_refl _) _).trans ((below_drewN hbel2.out _).mono (by omega))
                  · have hn : Hid (s.k = 3 → Pl.free s.f s.n (st.take (q + 1)) = true) := hnext.out
                    clear hnext hbad
                    go_wp2_with fail
                    exact ⟨⟨q + 1, by omega, by go_num, hn, below_drewN hbel2.out _⟩, by simp [intOf]; omega⟩
                · have hn : Hid (s.k = 3 → Pl.free s.f s.n (st.take (q + 1)) = true) := fun h => absurd h h3
                  clear hnext hbad
                  go_wp2_with fail
                  exact ⟨⟨q + 1, by omega, by go_num, hn, below_drewN hbel2.out _⟩, by simp [intOf]; omega⟩
              · have hqe : q = k := by omega
                subst hqe
                have hR1 : Hid (RO = Pl.ord (st.take (q + 1)) (st.drop (q + 1))) := by
                  show _ = _
                  rw [hord.out]
                  by_cases h3 : s.k = 3
                  · rw [hfree.out h3]; simp
                  · rw [decide_eq_false h3]; rfl
                go_wp2_with fail
                exact ⟨⟨q + 1, by omega, by go_num, hR1, hbel2⟩, by simp [intOf]; omega⟩
          · have hke : k = st.length := by omega
            subst hke
            have hRO : Hid (RO = true) := by
              show _ = _
              rw [hgo.out, Pl.ord_end]
            go_wp2_with fail
            go_ret
            refine ⟨by rw [V0.out hRT.out hRO.out]; rfl, ?_⟩
            exact ((Below.refl w.heap.size w).alloc (Nat.le_refl _) _).trans (hbel1.out.mono (by omega))
      · have hRF : Hid (RF = false) := by
          show _ = _
          rw [hR.out]; simp; omega
        go_wp2_with fail
        go_ret
        refine ⟨by rw [V3.out hRF.out]; rfl, ?_⟩
        exact ((Below.refl w.heap.size w).alloc (Nat.le_refl _) _).trans (hbel.out.mono (by omega))

end Go.Proofs.Ytjjmcnippjpclaa

namespace Go.Proofs.Ytjjmcnippjpclaa

open Go.RowKit

set_option maxRecDepth 100000 in
set_option maxHeartbeats 4000000 in
theorem check_no (ol nl : Int) (os ns : ByteArray) (a : Option Addr) (m c : Nat) (w : World)
    (h : ¬ ((0 ≤ ol ∧ ol ≤ 4000) ∧ (0 ≤ nl ∧ nl ≤ 4000) ∧ os.size = 4 ∧ ns.size = 4 ∧ m ≤ 2000)) :
    Calls Try.prog 36 #[.agg #[.int .i64 ol, .int .i64 nl, .string os, .string ns, .slice a m c]] w fun e w' => e = .returned (.int .i64 3) ∧ Below w.heap.size w w' := by
  have HH : Hid (¬ ((0 ≤ ol ∧ ol ≤ 4000) ∧ (0 ≤ nl ∧ nl ≤ 4000) ∧ os.size = 4 ∧ ns.size = 4 ∧ m ≤ 2000)) := h
  clear h
  by_cases h1 : ol < 0
  · have d1 : decide (ol < 0) = true := decide_eq_true h1
    go_enter Try.func36, Try.ntmps36
    go_wp2_with fail
    go_ret
    exact ⟨rfl, by go_grown⟩
  have d1 : decide (ol < 0) = false := decide_eq_false h1
  by_cases h2 : 4000 < ol
  · have d2 : decide (4000 < ol) = true := decide_eq_true h2
    go_enter Try.func36, Try.ntmps36
    go_wp2_with fail
    go_ret
    exact ⟨rfl, by go_grown⟩
  have d2 : decide (4000 < ol) = false := decide_eq_false h2
  by_cases h3 : nl < 0
  · have d3 : decide (nl < 0) = true := decide_eq_true h3
    go_enter Try.func36, Try.ntmps36
    go_wp2_with fail
    go_ret
    exact ⟨rfl, by go_grown⟩
  have d3 : decide (nl < 0) = false := decide_eq_false h3
  by_cases h4 : 4000 < nl
  · have d4 : decide (4000 < nl) = true := decide_eq_true h4
    go_enter Try.func36, Try.ntmps36
    go_wp2_with fail
    go_ret
    exact ⟨rfl, by go_grown⟩
  have d4 : decide (4000 < nl) = false := decide_eq_false h4
  by_cases h5 : os.size = 4
  · by_cases h6 : ns.size = 4
    · have h7 : 2000 < m := Nat.lt_of_not_le fun h7 => HH.out ⟨by omega, by omega, h5, h6, h7⟩
      have d7 : decide ((2000 : Int) < (m : Int)) = true := decide_eq_true (by omega)
      go_enter Try.func36, Try.ntmps36
      go_wp2_with fail
      go_ret
      exact ⟨rfl, by go_grown⟩
    · go_enter Try.func36, Try.ntmps36
      go_wp2_with fail
      go_ret
      exact ⟨rfl, by go_grown⟩
  · go_enter Try.func36, Try.ntmps36
    go_wp2_with fail
    go_ret
    exact ⟨rfl, by go_grown⟩

theorem check_any (ol nl : Int) (os ns : ByteArray) (a : Option Addr) (b o c : Nat) (st : List Pl.St) (w : World) (hst : Hid (stepsAt w a b o st)) :
    Calls Try.prog 36 #[.agg #[.int .i64 ol, .int .i64 nl, .string os, .string ns, .slice a st.length c]] w fun e w' => e = .returned (.int .i64 (Pl.verdict (Pl.full ol nl os ns st) (Pl.ord [] st))) ∧ Below w.heap.size w w' := by
  by_cases h : (0 ≤ ol ∧ ol ≤ 4000) ∧ (0 ≤ nl ∧ nl ≤ 4000) ∧ os.size = 4 ∧ ns.size = 4 ∧ st.length ≤ 2000
  · obtain ⟨h1, h2, h3, h4, h5⟩ := h
    obtain ⟨OL, rfl⟩ := Int.eq_ofNat_of_zero_le h1.1
    obtain ⟨NL, rfl⟩ := Int.eq_ofNat_of_zero_le h2.1
    rw [Pl.full_yes h1 h2 h3 h4 h5]
    exact check_yes OL NL os ns a b o c st w (by omega) (by omega) h3 h4 h5 hst
  · rw [Pl.full_no h]
    exact check_no ol nl os ns a st.length c w h

end Go.Proofs.Ytjjmcnippjpclaa
