/-
  The walk of inOrder: it tells whether no Copy comes from where a step ahead of it goes.
-/
import Derived.Test.YtlijlmjgnhheaaaMay
namespace Go.Proofs.Ytlijlmjgnhheaaa
open Go.RowKit

set_option maxRecDepth 100000 in
set_option maxHeartbeats 4000000 in
theorem inOrder_any (OL NL : Nat) (os ns : ByteArray) (a : Option Addr) (b o c : Nat) (st : List Pl.St) (w : World) (hO : OL ≤ 4000) (hN : NL ≤ 4000) (hm : st.length ≤ 2000) (hst : Hid (stepsAt w a b o st)) (hok : Hid (∀ s ∈ st, Pl.ok OL NL s = true)) :
    Calls Try.prog 39 #[.agg #[.int .i64 OL, .int .i64 NL, .string os, .string ns, .slice a st.length c]] w fun e w' => e = .returned (.bool (Pl.ord [] st)) ∧ Below w.heap.size w w' := by
  have hfull : Hid (Pl.ord [] st = Pl.ord (st.take 0) (st.drop 0)) := rfl
  generalize Pl.ord [] st = R at *
  by_cases hmax : OL < NL
  · have hmk := make_bools NL hN
    go_enter Try.func39, Try.ntmps39
    go_wp2_with fail
    go_loopw [15] (fun i wr => ∃ k : Nat, k ≤ st.length ∧ i = .int .i64 k ∧ Hid (R = Pl.ord (st.take k) (st.drop k)) ∧ Hid (wr.rowIs (w.heap.size + 1) 4 NL (fun i => .bool (Pl.cov (st.take k) i))) ∧ Hid (Below (w.heap.size + 1) (w.alloc (Obj.cells #[.int .i64 OL, .int .i64 NL, .string os, .string ns, .slice a st.length c] 31)) wr)) (fun i _ => st.length - (intOf i).toNat)
    case atStart =>
      refine ⟨0, Nat.zero_le _, rfl, hfull, ?_, ?_⟩
      · have := World.rowIs_made (w.alloc (Obj.cells #[.int .i64 OL, .int .i64 NL, .string os, .string ns, .slice a st.length c] 31)) (.bool false) NL 4
        rw [World.size_alloc] at this
        exact this.congr fun i _ => by rw [List.take_zero, Pl.cov_nil]
      · show Below _ _ _
        exact (Below.refl _ _).alloc (by simp) _
    case round =>
      obtain ⟨k, hk, rfl, hfo, hrow, hbel⟩ := hrel
      by_cases hlt : k < st.length
      · obtain ⟨s, hs⟩ : ∃ s, st[k]? = some s := ⟨st[k], List.getElem?_eq_getElem hlt⟩
        have ha : a = some ⟨b, o, none⟩ := by
          rcases hst.out.1 with h | h
          · rw [h] at hlt; exact absurd hlt (Nat.not_lt_zero _)
          · exact h
        subst ha
        have hoks : Hid (Pl.ok OL NL s = true) := hok.out s (List.mem_of_getElem? hs)
        have hpos := Pl.ok_pos hoks.out
        obtain ⟨T, hT⟩ := Int.eq_ofNat_of_zero_le hpos.2.1
        obtain ⟨M, hM⟩ := Int.eq_ofNat_of_zero_le (show 0 ≤ s.n by omega)
        have hTM : T + M ≤ NL := by omega
        have hM1 : 1 ≤ M := by omega
        obtain ⟨c0, c1, c2, c3, c4⟩ := stAt_below (stAt_below (hst.out.2.2 k s hs) ((Below.refl w.heap.size w).alloc (Nat.le_refl _) (Obj.cells #[.int .i64 OL, .int .i64 NL, .string os, .string ns, .slice (some ⟨b, o, none⟩) st.length c] 31)) hst.out.2.1) hbel.out (Nat.lt_succ_of_lt hst.out.2.1)
        have hsz : w.heap.size + 1 < wr.heap.size := hrow.out.lt
        have hcov : Hid (∀ i : Nat, Pl.cov (st.take (k + 1)) i = (Pl.cov (st.take k) i || decide (T ≤ i ∧ i < T + M))) := by
          intro i
          rw [Pl.take_at hs, Pl.cov_snoc, hT, hM]
          congr 1
          exact decide_eq_decide.mpr (by omega)
        have hform : Hid (R = ((!decide (s.k = 3) || Pl.free s.f s.n (st.take k)) && Pl.ord (st.take (k + 1)) (st.drop (k + 1)))) := hfo.out.trans (Pl.ord_at hs)
        have hall : Hid (∀ s ∈ st.take k, Pl.ok OL NL s = true) := fun x hx => hok.out x (List.mem_of_mem_take hx)
        rw [hT] at c1
        rw [hM] at c2
        have hset : Hid (∀ v1 : World, Below (wr.heap.size + 1) (wr.alloc (Obj.cells #[.int .i64 s.k, .int .i64 T, .int .i64 M, .string s.d, .int .i64 s.f] 40)) v1 → v1.rowIs (w.heap.size + 1) 4 NL (fun i => .bool (Pl.cov (st.take k) i)) ∧ Below (w.heap.size + 1) (w.alloc (Obj.cells #[.int .i64 OL, .int .i64 NL, .string os, .string ns, .slice (some ⟨b, o, none⟩) st.length c] 31)) v1) :=
          fun v1 bv => ⟨(hrow.out.alloc _).of_block (bv.block _ (by omega)), (hbel.out.alloc (by omega) _).trans (bv.mono (by omega))⟩
        have hsa := hset.out _ (Below.refl _ _)
        have hrow1 : Hid ((wr.alloc (Obj.cells #[.int .i64 s.k, .int .i64 T, .int .i64 M, .string s.d, .int .i64 s.f] 40)).rowIs (w.heap.size + 1) 4 NL (fun i => .bool (Pl.cov (st.take k) i))) := hsa.1
        have hbel1 : Hid (Below (w.heap.size + 1) (w.alloc (Obj.cells #[.int .i64 OL, .int .i64 NL, .string os, .string ns, .slice (some ⟨b, o, none⟩) st.length c] 31)) (wr.alloc (Obj.cells #[.int .i64 s.k, .int .i64 T, .int .i64 M, .string s.d, .int .i64 s.f] 40))) := hsa.2
        clear hset hsa hrow hbel
        have hsetall : Hid (∀ e v3, (e = Ending.returned (.tuple #[]) ∧ Below (w.heap.size + 1) (wr.alloc (Obj.cells #[.int .i64 s.k, .int .i64 T, .int .i64 M, .string s.d, .int .i64 s.f] 40)) v3 ∧ v3.heap.size = (wr.alloc (Obj.cells #[.int .i64 s.k, .int .i64 T, .int .i64 M, .string s.d, .int .i64 s.f] 40)).heap.size ∧ (∀ k, k ≠ w.heap.size + 1 → v3.heap[k]? = (wr.alloc (Obj.cells #[.int .i64 s.k, .int .i64 T, .int .i64 M, .string s.d, .int .i64 s.f] 40)).heap[k]?) ∧ v3.rowIs (w.heap.size + 1) 4 NL (fun i => if T ≤ i ∧ i < T + M then .bool true else .bool (Pl.cov (st.take k) i))) → e = Ending.returned (.tuple #[]) ∧ Hid (v3.rowIs (w.heap.size + 1) 4 NL (fun i => .bool (Pl.cov (st.take (k + 1)) i))) ∧ Hid (Below (w.heap.size + 1) (w.alloc (Obj.cells #[.int .i64 OL, .int .i64 NL, .string os, .string ns, .slice (some ⟨b, o, none⟩) st.length c] 31)) v3)) := by
          rintro e v3 ⟨he, bb, _, _, hrow3⟩
          refine ⟨he, hrow3.congr fun i _ => ?_, hbel1.out.trans bb⟩
          rw [hcov.out i]
          by_cases hin : T ≤ i ∧ i < T + M
          · rw [if_pos hin, decide_eq_true hin, Bool.or_true]
          · rw [if_neg hin, decide_eq_false hin, Bool.or_false]
        by_cases hk3 : s.k = 3
        · have hfr0 := Pl.ok_from hoks.out hk3
          obtain ⟨F, hF⟩ := Int.eq_ofNat_of_zero_le hfr0.1
          have hFM : F + M ≤ OL := by omega
          have hfr : Hid (((List.range M).any fun i => Pl.cov (st.take k) ((F + i : Nat) : Int)) = !Pl.free s.f s.n (st.take k)) := by
            show _ = _
            rw [hF, hM]
            exact Pl.any_cov F M _ (by omega) fun x hx => (Pl.ok_pos (hall.out x hx)).1
          have hR : Hid (R = (Pl.free s.f s.n (st.take k) && Pl.ord (st.take (k + 1)) (st.drop (k + 1)))) := by
            show _ = _
            rw [hform.out, decide_eq_true hk3]; rfl
          rw [hF] at c4 hrow1 hbel1 hsetall
          rw [hk3] at c0 hrow1 hbel1 hsetall
          clear hpos hfr0
          go_wp2_with fail
          refine (anyOf_any (w.heap.size + 1) F M (NL - F) (fun i => Pl.cov (st.take k) i) _ (by omega) (fun i hi => hrow1.out.cell (by omega))).mono ?_
          rintro e v2 ⟨rfl, rfl⟩
          rw [hfr.out]
          cases hfree : Pl.free s.f s.n (st.take k)
          · have hR0 : R = false := by rw [hR.out, hfree]; rfl
            go_wp2_with fail
            go_ret
            refine ⟨by rw [hR0]; rfl, ?_⟩
            exact ((Below.refl w.heap.size w).alloc (Nat.le_refl _) _).trans (hbel1.out.mono (by omega))
          · have hR1 : Hid (R = Pl.ord (st.take (k + 1)) (st.drop (k + 1))) := by
              show _ = _
              rw [hR.out, hfree]; rfl
            go_wp2_with fail
            refine (setAll_any (w.heap.size + 1) T M (NL - T) NL 4 _ _ (by omega) (by omega) hrow1).mono ?_
            intro e v3 hv3
            obtain ⟨rfl, hrow4, hbel3⟩ := hsetall.out e v3 hv3
            clear hv3
            go_wp2_with fail
            exact ⟨⟨k + 1, by omega, by go_num, hR1, hrow4, hbel3⟩, by simp [intOf]; omega⟩
        · have hR1 : Hid (R = Pl.ord (st.take (k + 1)) (st.drop (k + 1))) := by
            show _ = _
            rw [hform.out, decide_eq_false hk3]; rfl
          clear hpos
          go_wp2_with fail
          refine (setAll_any (w.heap.size + 1) T M (NL - T) NL 4 _ _ (by omega) (by omega) hrow1).mono ?_
          intro e v3 hv3
          obtain ⟨rfl, hrow4, hbel3⟩ := hsetall.out e v3 hv3
          clear hv3
          go_wp2_with fail
          exact ⟨⟨k + 1, by omega, by go_num, hR1, hrow4, hbel3⟩, by simp [intOf]; omega⟩
      · have hke : k = st.length := by omega
        subst hke
        have hR : Hid (R = true) := by
          show _ = _
          rw [hfo.out, Pl.ord_end]
        go_wp2_with fail
        go_ret
        refine ⟨by rw [hR.out]; rfl, ?_⟩
        exact ((Below.refl w.heap.size w).alloc (Nat.le_refl _) _).trans (hbel.out.mono (by omega))
  · have hmk := make_bools OL hO
    go_enter Try.func39, Try.ntmps39
    go_wp2_with fail
    go_loopw [15] (fun i wr => ∃ k : Nat, k ≤ st.length ∧ i = .int .i64 k ∧ Hid (R = Pl.ord (st.take k) (st.drop k)) ∧ Hid (wr.rowIs (w.heap.size + 1) 4 OL (fun i => .bool (Pl.cov (st.take k) i))) ∧ Hid (Below (w.heap.size + 1) (w.alloc (Obj.cells #[.int .i64 OL, .int .i64 NL, .string os, .string ns, .slice a st.length c] 31)) wr)) (fun i _ => st.length - (intOf i).toNat)
    case atStart =>
      refine ⟨0, Nat.zero_le _, rfl, hfull, ?_, ?_⟩
      · have := World.rowIs_made (w.alloc (Obj.cells #[.int .i64 OL, .int .i64 NL, .string os, .string ns, .slice a st.length c] 31)) (.bool false) OL 4
        rw [World.size_alloc] at this
        exact this.congr fun i _ => by rw [List.take_zero, Pl.cov_nil]
      · show Below _ _ _
        exact (Below.refl _ _).alloc (by simp) _
    case round =>
      obtain ⟨k, hk, rfl, hfo, hrow, hbel⟩ := hrel
      by_cases hlt : k < st.length
      · obtain ⟨s, hs⟩ : ∃ s, st[k]? = some s := ⟨st[k], List.getElem?_eq_getElem hlt⟩
        have ha : a = some ⟨b, o, none⟩ := by
          rcases hst.out.1 with h | h
          · rw [h] at hlt; exact absurd hlt (Nat.not_lt_zero _)
          · exact h
        subst ha
        have hoks : Hid (Pl.ok OL NL s = true) := hok.out s (List.mem_of_getElem? hs)
        have hpos := Pl.ok_pos hoks.out
        obtain ⟨T, hT⟩ := Int.eq_ofNat_of_zero_le hpos.2.1
        obtain ⟨M, hM⟩ := Int.eq_ofNat_of_zero_le (show 0 ≤ s.n by omega)
        have hTM : T + M ≤ NL := by omega
        have hM1 : 1 ≤ M := by omega
        obtain ⟨c0, c1, c2, c3, c4⟩ := stAt_below (stAt_below (hst.out.2.2 k s hs) ((Below.refl w.heap.size w).alloc (Nat.le_refl _) (Obj.cells #[.int .i64 OL, .int .i64 NL, .string os, .string ns, .slice (some ⟨b, o, none⟩) st.length c] 31)) hst.out.2.1) hbel.out (Nat.lt_succ_of_lt hst.out.2.1)
        have hsz : w.heap.size + 1 < wr.heap.size := hrow.out.lt
        have hcov : Hid (∀ i : Nat, Pl.cov (st.take (k + 1)) i = (Pl.cov (st.take k) i || decide (T ≤ i ∧ i < T + M))) := by
          intro i
          rw [Pl.take_at hs, Pl.cov_snoc, hT, hM]
          congr 1
          exact decide_eq_decide.mpr (by omega)
        have hform : Hid (R = ((!decide (s.k = 3) || Pl.free s.f s.n (st.take k)) && Pl.ord (st.take (k + 1)) (st.drop (k + 1)))) := hfo.out.trans (Pl.ord_at hs)
        have hall : Hid (∀ s ∈ st.take k, Pl.ok OL NL s = true) := fun x hx => hok.out x (List.mem_of_mem_take hx)
        rw [hT] at c1
        rw [hM] at c2
        have hset : Hid (∀ v1 : World, Below (wr.heap.size + 1) (wr.alloc (Obj.cells #[.int .i64 s.k, .int .i64 T, .int .i64 M, .string s.d, .int .i64 s.f] 40)) v1 → v1.rowIs (w.heap.size + 1) 4 OL (fun i => .bool (Pl.cov (st.take k) i)) ∧ Below (w.heap.size + 1) (w.alloc (Obj.cells #[.int .i64 OL, .int .i64 NL, .string os, .string ns, .slice (some ⟨b, o, none⟩) st.length c] 31)) v1) :=
          fun v1 bv => ⟨(hrow.out.alloc _).of_block (bv.block _ (by omega)), (hbel.out.alloc (by omega) _).trans (bv.mono (by omega))⟩
        have hsa := hset.out _ (Below.refl _ _)
        have hrow1 : Hid ((wr.alloc (Obj.cells #[.int .i64 s.k, .int .i64 T, .int .i64 M, .string s.d, .int .i64 s.f] 40)).rowIs (w.heap.size + 1) 4 OL (fun i => .bool (Pl.cov (st.take k) i))) := hsa.1
        have hbel1 : Hid (Below (w.heap.size + 1) (w.alloc (Obj.cells #[.int .i64 OL, .int .i64 NL, .string os, .string ns, .slice (some ⟨b, o, none⟩) st.length c] 31)) (wr.alloc (Obj.cells #[.int .i64 s.k, .int .i64 T, .int .i64 M, .string s.d, .int .i64 s.f] 40))) := hsa.2
        clear hset hsa hrow hbel
        have hsetall : Hid (∀ e v3, (e = Ending.returned (.tuple #[]) ∧ Below (w.heap.size + 1) (wr.alloc (Obj.cells #[.int .i64 s.k, .int .i64 T, .int .i64 M, .string s.d, .int .i64 s.f] 40)) v3 ∧ v3.heap.size = (wr.alloc (Obj.cells #[.int .i64 s.k, .int .i64 T, .int .i64 M, .string s.d, .int .i64 s.f] 40)).heap.size ∧ (∀ k, k ≠ w.heap.size + 1 → v3.heap[k]? = (wr.alloc (Obj.cells #[.int .i64 s.k, .int .i64 T, .int .i64 M, .string s.d, .int .i64 s.f] 40)).heap[k]?) ∧ v3.rowIs (w.heap.size + 1) 4 OL (fun i => if T ≤ i ∧ i < T + M then .bool true else .bool (Pl.cov (st.take k) i))) → e = Ending.returned (.tuple #[]) ∧ Hid (v3.rowIs (w.heap.size + 1) 4 OL (fun i => .bool (Pl.cov (st.take (k + 1)) i))) ∧ Hid (Below (w.heap.size + 1) (w.alloc (Obj.cells #[.int .i64 OL, .int .i64 NL, .string os, .string ns, .slice (some ⟨b, o, none⟩) st.length c] 31)) v3)) := by
          rintro e v3 ⟨he, bb, _, _, hrow3⟩
          refine ⟨he, hrow3.congr fun i _ => ?_, hbel1.out.trans bb⟩
          rw [hcov.out i]
          by_cases hin : T ≤ i ∧ i < T + M
          · rw [if_pos hin, decide_eq_true hin, Bool.or_true]
          · rw [if_neg hin, decide_eq_false hin, Bool.or_false]
        by_cases hk3 : s.k = 3
        · have hfr0 := Pl.ok_from hoks.out hk3
          obtain ⟨F, hF⟩ := Int.eq_ofNat_of_zero_le hfr0.1
          have hFM : F + M ≤ OL := by omega
          have hfr : Hid (((List.range M).any fun i => Pl.cov (st.take k) ((F + i : Nat) : Int)) = !Pl.free s.f s.n (st.take k)) := by
            show _ = _
            rw [hF, hM]
            exact Pl.any_cov F M _ (by omega) fun x hx => (Pl.ok_pos (hall.out x hx)).1
          have hR : Hid (R = (Pl.free s.f s.n (st.take k) && Pl.ord (st.take (k + 1)) (st.drop (k + 1)))) := by
            show _ = _
            rw [hform.out, decide_eq_true hk3]; rfl
          rw [hF] at c4 hrow1 hbel1 hsetall
          rw [hk3] at c0 hrow1 hbel1 hsetall
          clear hpos hfr0
          go_wp2_with fail
          refine (anyOf_any (w.heap.size + 1) F M (OL - F) (fun i => Pl.cov (st.take k) i) _ (by omega) (fun i hi => hrow1.out.cell (by omega))).mono ?_
          rintro e v2 ⟨rfl, rfl⟩
          rw [hfr.out]
          cases hfree : Pl.free s.f s.n (st.take k)
          · have hR0 : R = false := by rw [hR.out, hfree]; rfl
            go_wp2_with fail
            go_ret
            refine ⟨by rw [hR0]; rfl, ?_⟩
            exact ((Below.refl w.heap.size w).alloc (Nat.le_refl _) _).trans (hbel1.out.mono (by omega))
          · have hR1 : Hid (R = Pl.ord (st.take (k + 1)) (st.drop (k + 1))) := by
              show _ = _
              rw [hR.out, hfree]; rfl
            go_wp2_with fail
            refine (setAll_any (w.heap.size + 1) T M (OL - T) OL 4 _ _ (by omega) (by omega) hrow1).mono ?_
            intro e v3 hv3
            obtain ⟨rfl, hrow4, hbel3⟩ := hsetall.out e v3 hv3
            clear hv3
            go_wp2_with fail
            exact ⟨⟨k + 1, by omega, by go_num, hR1, hrow4, hbel3⟩, by simp [intOf]; omega⟩
        · have hR1 : Hid (R = Pl.ord (st.take (k + 1)) (st.drop (k + 1))) := by
            show _ = _
            rw [hform.out, decide_eq_false hk3]; rfl
          clear hpos
          go_wp2_with fail
          refine (setAll_any (w.heap.size + 1) T M (OL - T) OL 4 _ _ (by omega) (by omega) hrow1).mono ?_
          intro e v3 hv3
          obtain ⟨rfl, hrow4, hbel3⟩ := hsetall.out e v3 hv3
          clear hv3
          go_wp2_with fail
          exact ⟨⟨k + 1, by omega, by go_num, hR1, hrow4, hbel3⟩, by simp [intOf]; omega⟩
      · have hke : k = st.length := by omega
        subst hke
        have hR : Hid (R = true) := by
          show _ = _
          rw [hfo.out, Pl.ord_end]
        go_wp2_with fail
        go_ret
        refine ⟨by rw [hR.out]; rfl, ?_⟩
        exact ((Below.refl w.heap.size w).alloc (Nat.le_refl _) _).trans (hbel.out.mono (by omega))

end Go.Proofs.Ytlijlmjgnhheaaa
