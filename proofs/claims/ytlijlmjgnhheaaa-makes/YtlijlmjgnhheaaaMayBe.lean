/-
  The walk of mayBe: it tells whether there is a patch in place that says this.
-/
import Derived.Test.YtlijlmjgnhheaaaMay
namespace Go.Proofs.Ytlijlmjgnhheaaa
open Go.RowKit

set_option maxRecDepth 100000 in
set_option maxHeartbeats 2000000 in
theorem mayBe_any (ol nl : Int) (os ns : ByteArray) (a : Option Addr) (b o c : Nat) (st : List Pl.St) (w : World) (hm : st.length ≤ 4611686018427387904) (hst : Hid (stepsAt w a b o st)) :
    Calls Try.prog 38 #[.agg #[.int .i64 ol, .int .i64 nl, .string os, .string ns, .slice a st.length c]] w fun e w' => e = .returned (.bool (Pl.full ol nl os ns st)) ∧ Below w.heap.size w w' := by
  have H0 : Hid (¬ ((0 ≤ ol ∧ ol ≤ 4000) ∧ (0 ≤ nl ∧ nl ≤ 4000) ∧ os.size = 4 ∧ ns.size = 4 ∧ st.length ≤ 2000) → Pl.full ol nl os ns st = false) := Pl.full_no
  have H1 : Hid ((0 ≤ ol ∧ ol ≤ 4000) → (0 ≤ nl ∧ nl ≤ 4000) → os.size = 4 → ns.size = 4 → st.length ≤ 2000 → Pl.full ol nl os ns st = Pl.form ol nl (st.take 0) (st.drop 0)) := Pl.full_yes
  generalize Pl.full ol nl os ns st = R at *
  go_enter Try.func38, Try.ntmps38
  go_wp2_with fail
  refine (isLength_any _ _).mono ?_
  rintro e v ⟨rfl, rfl⟩
  by_cases h1 : 0 ≤ ol ∧ ol ≤ 4000
  · rw [decide_eq_true h1]
    go_wp2_with fail
    refine (isLength_any _ _).mono ?_
    rintro e v ⟨rfl, rfl⟩
    by_cases h2 : 0 ≤ nl ∧ nl ≤ 4000
    · rw [decide_eq_true h2]
      by_cases h3 : os.size = 4
      · by_cases h4 : ns.size = 4
        · by_cases h5 : st.length ≤ 2000
          · obtain ⟨N, rfl⟩ := Int.eq_ofNat_of_zero_le h2.1
            have hmk := make_bools N (by omega)
            have hfull : Hid (R = Pl.form ol N (st.take 0) (st.drop 0)) := H1.out h1 h2 h3 h4 h5
            clear H0 H1
            go_wp2_with fail
            go_loopw [4, 41] (fun u i wr => ∃ k A : Nat, k ≤ st.length ∧ i = .int .i64 k ∧ u = .int .i64 A ∧ A ≤ 4000 * k ∧ Hid (Pl.total (st.take k) = A) ∧ Hid (∀ s ∈ st.take k, Pl.ok ol N s = true) ∧ Hid (R = Pl.form ol N (st.take k) (st.drop k)) ∧ Hid (wr.rowIs (w.heap.size + 1) 4 N (fun i => .bool (Pl.cov (st.take k) i))) ∧ Hid (Below (w.heap.size + 1) (w.alloc (Obj.cells #[.int .i64 ol, .int .i64 N, .string os, .string ns, .slice a st.length c] 31)) wr)) (fun _ i _ => st.length - (intOf i).toNat)
            case atStart =>
              refine ⟨0, 0, Nat.zero_le _, rfl, rfl, Nat.zero_le _, by simp [Hid, Pl.total], by simp [Hid], hfull, ?_, ?_⟩
              · have := World.rowIs_made (w.alloc (Obj.cells #[.int .i64 ol, .int .i64 N, .string os, .string ns, .slice a st.length c] 31)) (.bool false) N 4
                rw [World.size_alloc] at this
                exact this.congr fun i _ => by rw [List.take_zero, Pl.cov_nil]
              · show Below _ _ _
                exact (Below.refl _ _).alloc (by simp) _
            case round =>
              obtain ⟨k, A, hk, rfl, rfl, hA4, hA, hall, hfo, hrow, hbel⟩ := hrel
              by_cases hlt : k < st.length
              · obtain ⟨s, hs⟩ : ∃ s, st[k]? = some s := ⟨st[k], List.getElem?_eq_getElem hlt⟩
                have ha : a = some ⟨b, o, none⟩ := by
                  rcases hst.out.1 with h | h
                  · rw [h] at hlt; exact absurd hlt (Nat.not_lt_zero _)
                  · exact h
                subst ha
                obtain ⟨c0, c1, c2, c3, c4⟩ := stAt_below (stAt_below (hst.out.2.2 k s hs) ((Below.refl w.heap.size w).alloc (Nat.le_refl _) (Obj.cells #[.int .i64 ol, .int .i64 N, .string os, .string ns, .slice (some ⟨b, o, none⟩) st.length c] 31)) hst.out.2.1) hbel.out (Nat.lt_succ_of_lt hst.out.2.1)
                have p0 : wr.cell? ⟨w.heap.size, 0, none⟩ = some (.int .i64 ol) := by rw [hbel.out.cell (Nat.lt_succ_self _)]; simp [go_sem]
                have p1 : wr.cell? ⟨w.heap.size, 1, none⟩ = some (.int .i64 N) := by rw [hbel.out.cell (Nat.lt_succ_self _)]; simp [go_sem]
                have p2 : wr.cell? ⟨w.heap.size, 2, none⟩ = some (.string os) := by rw [hbel.out.cell (Nat.lt_succ_self _)]; simp [go_sem]
                have p3 : wr.cell? ⟨w.heap.size, 3, none⟩ = some (.string ns) := by rw [hbel.out.cell (Nat.lt_succ_self _)]; simp [go_sem]
                have p4 : wr.cell? ⟨w.heap.size, 4, none⟩ = some (.slice (some ⟨b, o, none⟩) st.length c) := by rw [hbel.out.cell (Nat.lt_succ_self _)]; simp [go_sem]
                have hsz : w.heap.size + 1 < wr.heap.size := hrow.out.lt
                have q : ∀ (ob : Obj) (j : Nat), (wr.alloc ob).cell? ⟨w.heap.size, j, none⟩ = wr.cell? ⟨w.heap.size, j, none⟩ := fun ob j => World.cell?_of_block (Below.heap_alloc wr ob _ (by simp; omega))
                go_wp2_with fail
                refine (stepMayBe_any s.k s.t s.n s.f s.d ol N os ns _ _ h1 h2).mono ?_
                rintro e v1 ⟨rfl, bv⟩
                have e1 : v1.cell? ⟨wr.heap.size, 1, none⟩ = some (.int .i64 s.t) := by rw [bv.cell (by simp)]; simp [go_sem]
                have e2 : v1.cell? ⟨wr.heap.size, 2, none⟩ = some (.int .i64 s.n) := by rw [bv.cell (by simp)]; simp [go_sem]
                have hrow1 : Hid (v1.rowIs (w.heap.size + 1) 4 N fun i => Value.bool (Pl.cov (List.take k st) ↑i)) := (hrow.out.alloc _).of_block (bv.block _ (by simp; omega))
                have hbel1 : Hid (Below (w.heap.size + 1) (w.alloc (Obj.cells #[.int .i64 ol, .int .i64 N, .string os, .string ns, .slice (some ⟨b, o, none⟩) st.length c] 31)) v1) := (hbel.out.alloc (by omega) _).trans (bv.mono (by simp; omega))
                have hsz1 : wr.heap.size < v1.heap.size := by have := bv.size; simp at this; omega
                have hok : Hid (Pl.ok ol N (s.k, s.t, s.n, s.d, s.f) = Pl.ok ol N s) := rfl
                have hform : Hid (R = (Pl.ok ol N s && Pl.free s.t s.n (st.take k) && Pl.form ol N (st.take (k + 1)) (st.drop (k + 1)))) := hfo.out.trans (Pl.form_at hs)
                cases hokv : Pl.ok ol N (s.k, s.t, s.n, s.d, s.f)
                · have hR : R = false := by rw [hform.out, ← hok.out, hokv]; rfl
                  clear hokv hok p0 p1 p2 p3 p4 q c0 c1 c2 c3 c4
                  go_wp2_with fail
                  go_ret
                  refine ⟨by rw [hR]; rfl, ?_⟩
                  exact ((Below.refl w.heap.size w).alloc (Nat.le_refl _) _).trans (hbel1.out.mono (by omega))
                · have hpos := Pl.ok_pos (hok.out.symm.trans hokv)
                  have hoks : Hid (Pl.ok ol N s = true) := hok.out.symm.trans hokv
                  clear hokv hok p0 p1 p2 p3 p4 q c0 c1 c2 c3 c4
                  obtain ⟨T, hT⟩ := Int.eq_ofNat_of_zero_le hpos.2.1
                  obtain ⟨M, hM⟩ := Int.eq_ofNat_of_zero_le (show 0 ≤ s.n by omega)
                  have hall1 : Hid (∀ s ∈ st.take (k + 1), Pl.ok ol N s = true) := Pl.mem_take_succ hs hall.out hoks.out
                  have hfr : Hid (((List.range M).any fun i => Pl.cov (st.take k) ((T + i : Nat) : Int)) = !Pl.free s.t s.n (st.take k)) := by
                    show _ = _
                    rw [hT, hM]
                    exact Pl.any_cov T M _ (by omega) fun x hx => (Pl.ok_pos (hall.out x hx)).1
                  have hcov : Hid (∀ i : Nat, Pl.cov (st.take (k + 1)) i = (Pl.cov (st.take k) i || decide (T ≤ i ∧ i < T + M))) := by
                    intro i
                    rw [Pl.take_at hs, Pl.cov_snoc, hT, hM]
                    congr 1
                    exact decide_eq_decide.mpr (by omega)
                  have hA1 : Hid (Pl.total (st.take (k + 1)) = ((A + M : Nat) : Int)) := by
                    show _ = _
                    rw [Pl.take_at hs, Pl.total_snoc, hA.out, hM]; omega
                  have hR : Hid (R = (Pl.free s.t s.n (st.take k) && Pl.form ol N (st.take (k + 1)) (st.drop (k + 1)))) := by
                    show _ = _
                    rw [hform.out, hoks.out]; rfl
                  rw [hT] at e1
                  rw [hM] at e2
                  have hTM : T + M ≤ N := by omega
                  have hM1 : 1 ≤ M := by omega
                  have hN : N ≤ 4000 := by omega
                  clear hpos
                  go_wp2_with fail
                  refine (anyOf_any (w.heap.size + 1) T M (N - T) (fun i => Pl.cov (st.take k) i) v1 (by omega) (fun i hi => hrow1.out.cell (by omega))).mono ?_
                  rintro e v2 ⟨rfl, rfl⟩
                  rw [hfr.out]
                  cases hfree : Pl.free s.t s.n (st.take k)
                  · have hR0 : R = false := by rw [hR.out, hfree]; rfl
                    go_wp2_with fail
                    go_ret
                    refine ⟨by rw [hR0]; rfl, ?_⟩
                    exact ((Below.refl w.heap.size w).alloc (Nat.le_refl _) _).trans (hbel1.out.mono (by omega))
                  · have hR1 : Hid (R = Pl.form ol N (st.take (k + 1)) (st.drop (k + 1))) := by
                      show _ = _
                      rw [hR.out, hfree]; rfl
                    go_wp2_with fail
                    refine (setAll_any (w.heap.size + 1) T M (N - T) N 4 _ _ (by omega) hTM hrow1).mono ?_
                    rintro e v3 ⟨rfl, bb, hsz3, hoth, hrow3⟩
                    have e3 : v3.cell? ⟨wr.heap.size, 2, none⟩ = some (.int .i64 M) := by rw [World.cell?_of_block (hoth _ (by simp; omega)), e2]
                    have hrow4 : Hid (v3.rowIs (w.heap.size + 1) 4 N (fun i => .bool (Pl.cov (st.take (k + 1)) i))) := hrow3.congr fun i _ => by
                      rw [hcov.out i]
                      by_cases hin : T ≤ i ∧ i < T + M
                      · rw [if_pos hin, decide_eq_true hin, Bool.or_true]
                      · rw [if_neg hin, decide_eq_false hin, Bool.or_false]
                    have hbel3 : Hid (Below (w.heap.size + 1) (w.alloc (Obj.cells #[.int .i64 ol, .int .i64 N, .string os, .string ns, .slice (some ⟨b, o, none⟩) st.length c] 31)) v3) := hbel1.out.trans bb
                    clear hrow3 hoth bb
                    go_wp2_with fail
                    exact ⟨⟨k + 1, A + M, by omega, by go_num, by go_num, by omega, hA1, hall1, hR1, hrow4, hbel3⟩, by simp [intOf]; omega⟩
              · have hke : k = st.length := by omega
                subst hke
                have p1 : wr.cell? ⟨w.heap.size, 1, none⟩ = some (.int .i64 N) := by rw [hbel.out.cell (Nat.lt_succ_self _)]; simp [go_sem]
                have hR : Hid (R = decide ((A : Int) = N)) := by
                  show _ = _
                  have e := hA.out
                  rw [List.take_length] at e
                  rw [hfo.out, Pl.form_end, e]
                go_wp2_with fail
                go_ret
                refine ⟨by rw [hR.out]; rfl, ?_⟩
                exact ((Below.refl w.heap.size w).alloc (Nat.le_refl _) _).trans (hbel.out.mono (by omega))
          · have h0 := H0.out (fun h => h5 h.2.2.2.2)
            go_wp2_with fail
            go_ret
            exact ⟨by rw [h0]; rfl, by go_grown⟩
        · have h0 := H0.out (fun h => h4 h.2.2.2.1)
          go_wp2_with fail
          go_ret
          exact ⟨by rw [h0]; rfl, by go_grown⟩
      · have h0 := H0.out (fun h => h3 h.2.2.1)
        go_wp2_with fail
        go_ret
        exact ⟨by rw [h0]; rfl, by go_grown⟩
    · rw [decide_eq_false h2]
      have h0 := H0.out (fun h => h2 h.2.1)
      go_wp2_with fail
      go_ret
      exact ⟨by rw [h0]; rfl, by go_grown⟩
  · rw [decide_eq_false h1]
    have h0 := H0.out (fun h => h1 h.1)
    go_wp2_with fail
    go_ret
    exact ⟨by rw [h0]; rfl, by go_grown⟩

end Go.Proofs.Ytlijlmjgnhheaaa
