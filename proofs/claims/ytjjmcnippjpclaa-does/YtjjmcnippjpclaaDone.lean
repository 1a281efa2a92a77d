/-
  The walk of the document's Done: what the steps of a plan make of a text.
-/
import Derived.Test.YtjjmcnippjpclaaDonePlain
namespace Go.Proofs.Ytjjmcnippjpclaa

open Go.RowKit

set_option maxRecDepth 100000 in
set_option maxHeartbeats 4000000 in
theorem done_any (OL NL : Nat) (os ns : ByteArray) (a : Option Addr) (b o c : Nat) (st : List Pl.St) (text : ByteArray) (w : World) (hO : OL ≤ 4000) (hN : NL ≤ 4000) (ht : OL ≤ text.size) (hm : st.length ≤ 2000) (hst : Hid (stepsAt w a b o st)) (hok : Hid (∀ s ∈ st, Pl.ok OL NL s = true)) :
    Calls Try.prog 25 #[.agg #[.int .i64 OL, .int .i64 NL, .string os, .string ns, .slice a st.length c], .string text] w fun e w' => e = .returned (.string ⟨(doneB st text NL).toArray⟩) ∧ Below w.heap.size w w' := by
  have hmk := make_bytes NL hN
  have hbl := hst.out.2.1
  go_enter Try.func25, Try.ntmps25
  go_wp2_with fail
  go_loopw [6] (fun x wr => ∃ i : Nat, x = .int .i64 i ∧ i ≤ st.length ∧ Hid (wr.rowIs (w.heap.size + 1) 5 NL (fun j => .int .u8 ((doneAt text j (st.take i)).toNat : Nat))) ∧ Hid (Below (w.heap.size + 1) (w.alloc (Obj.cells #[.int .i64 OL, .int .i64 NL, .string os, .string ns, .slice a st.length c] 31)) wr)) (fun x _ => st.length - (intOf x).toNat)
  case atStart =>
    refine ⟨0, rfl, Nat.zero_le _, ?_, ?_⟩
    · have := World.rowIs_made (w.alloc (Obj.cells #[.int .i64 OL, .int .i64 NL, .string os, .string ns, .slice a st.length c] 31)) (.int .u8 0) NL 5
      rw [World.size_alloc] at this
      exact this.congr fun i _ => rfl
    · show Below _ _ _
      exact (Below.refl _ _).alloc (by simp) _
  case round =>
    obtain ⟨i, rfl, hi, hrow, hbel⟩ := hrel
    have p4 : wr.cell? ⟨w.heap.size, 4, none⟩ = some (.slice a st.length c) := by rw [hbel.out.cell (Nat.lt_succ_self _)]; simp [go_sem]
    by_cases hlt : i < st.length
    · obtain ⟨x, hx⟩ : ∃ x, st[i]? = some x := ⟨st[i], List.getElem?_eq_getElem hlt⟩
      have ha : a = some ⟨b, o, none⟩ := by
        rcases hst.out.1 with h | h
        · rw [h] at hlt; exact absurd hlt (Nat.not_lt_zero _)
        · exact h
      subst ha
      obtain ⟨c0, c1, c2, c3, c4⟩ := stAt_below (stAt_below (hst.out.2.2 i x hx) ((Below.refl w.heap.size w).alloc (Nat.le_refl _) (Obj.cells #[.int .i64 OL, .int .i64 NL, .string os, .string ns, .slice (some ⟨b, o, none⟩) st.length c] 31)) hst.out.2.1) hbel.out (Nat.lt_succ_of_lt hst.out.2.1)
      obtain ⟨z0, z1, z2, z3, z4⟩ := ok_sizes (by omega) (by omega) (hok.out x (List.mem_of_getElem? hx))
      have hpos := Pl.ok_pos (hok.out x (List.mem_of_getElem? hx))
      have hfrom := fun hk => Pl.ok_from (hok.out x (List.mem_of_getElem? hx)) hk
      have hadd : x.k = 1 → (x.d.size : Int) = x.n := fun hk => by
        have h := hok.out x (List.mem_of_getElem? hx)
        simp only [Pl.ok, decide_eq_true_eq] at h
        omega
      obtain ⟨T, hT⟩ := Int.eq_ofNat_of_zero_le z1.1
      obtain ⟨M, hM⟩ := Int.eq_ofNat_of_zero_le z2.1
      obtain ⟨F, hF⟩ := Int.eq_ofNat_of_zero_le z3.1
      have HTK : Hid (st.take (i + 1) = st.take i ++ [x]) := Pl.take_at hx
      have HT : Hid (x.t = T) := hT
      have HMn : Hid (x.n = M) := hM
      have HFf : Hid (x.f = F) := hF
      have hTM : T + M ≤ NL := by omega
      have hi0 : (i : Int) < (st.length : Int) := by omega
      have hsz : w.heap.size + 1 < wr.heap.size := hrow.out.lt
      have hM4 : M ≤ 4000 := by omega
      have hT4 : T ≤ 4000 := by omega
      have hF4 : F ≤ 4000 := by omega
      rw [hT] at c1
      rw [hM] at c2
      rw [hF] at c4
      have hrow1 : Hid ((wr.alloc (Obj.cells #[.int .i64 x.k, .int .i64 T, .int .i64 M, .string x.d, .int .i64 F] 40)).rowIs (w.heap.size + 1) 5 NL (fun j => .int .u8 ((doneIn text (st.take i) x 0 j).toNat : Nat))) := (hrow.out.alloc _).congr (fun j _ => by rw [doneIn_zero])
      have hbox1 : Hid ((wr.alloc (Obj.cells #[.int .i64 x.k, .int .i64 T, .int .i64 M, .string x.d, .int .i64 F] 40)).heap[wr.heap.size]? = some (.cells #[.int .i64 x.k, .int .i64 T, .int .i64 M, .string x.d, .int .i64 F] 40 (0, 0))) := heap_alloc_new wr _
      have hbel1 : Hid (Below (w.heap.size + 1) (w.alloc (Obj.cells #[.int .i64 OL, .int .i64 NL, .string os, .string ns, .slice (some ⟨b, o, none⟩) st.length c] 31)) (wr.alloc (Obj.cells #[.int .i64 x.k, .int .i64 T, .int .i64 M, .string x.d, .int .i64 F] 40))) := hbel.out.alloc (by omega) _
      have hZ : w.heap.size + 1 < wr.heap.size := hsz
      go_wp2_with fail
      clear c0 c1 c2 c3 c4 p4 hmk hrow hbel hT hM hF hx hsz
      generalize wr.heap.size = X at *
      go_loopw [8] (fun y wq => ∃ k : Nat, y = .int .i64 k ∧ k ≤ M ∧ Hid (wq.rowIs (w.heap.size + 1) 5 NL (fun j => .int .u8 ((doneIn text (st.take i) x k j).toNat : Nat))) ∧ Hid (wq.heap[X]? = some (.cells #[.int .i64 x.k, .int .i64 T, .int .i64 M, .string x.d, .int .i64 F] 40 (0, 0))) ∧ Hid (Below (w.heap.size + 1) (w.alloc (Obj.cells #[.int .i64 OL, .int .i64 NL, .string os, .string ns, .slice (some ⟨b, o, none⟩) st.length c] 31)) wq)) (fun y _ => M - (intOf y).toNat)
      case atStart => exact ⟨0, rfl, Nat.zero_le _, hrow1, hbox1, hbel1⟩
      case round =>
        clear hrow1 hbox1 hbel1
        obtain ⟨k, rfl, hk, hrow2, hbox, hbel2⟩ := hrel
        obtain ⟨B0, B1, B2, B3, B4, _⟩ := box_cells hbox.out
        by_cases hkM : k < M
        · have hq0 := hrow2.out.cell (i := T + k) (by omega)
          have hq1 := hrow2.out.frozen (T + k)
          have ht1 : (T : Int) + (k : Int) < (NL : Int) := by omega
          have ht2 : (0 : Int) ≤ (T : Int) + (k : Int) := by omega
          have ht4 : ((T : Int) + (k : Int)).toNat = T + k := by omega
          have ht5 : IntKind.i64.wrap ((T : Int) + (k : Int)) = (T : Int) + (k : Int) := by rw [IntKind.wrap_i64]; omega
          rcases z0 with hk3 | hk3
          · have d3 : (x.k == 3) = false := by rw [hk3]; rfl
            have HK : Hid (x.k = 1) := hk3
            have hdM : x.d.size = M := by have := hadd hk3; have h6 := HMn.out; omega
            have gk1 : k < x.d.size := by omega
            have gk2 : (k : Int) < (x.d.size : Int) := by omega
            have hby : Hid (stByte x text k = x.d[k]) := by
              show _ = _
              unfold stByte
              rw [if_neg (by rw [HK.out]; decide), Array.getD_eq_getD_getElem?, data_at x.d k gk1]; rfl
            go_wp2_with fail
            go_region
            have hrow3 : Hid (((wr.setCell ⟨w.heap.size + 1, T + k, none⟩ (.int .u8 ((x.d[k]).toNat : Nat))).drew).rowIs (w.heap.size + 1) 5 NL (fun j => .int .u8 ((doneIn text (st.take i) x (k + 1) j).toNat : Nat))) := by
              refine (hrow2.out.set (T + k) _).congr (fun j _ => ?_)
              rw [doneIn_next, HT.out, Int.toNat_natCast, hby.out]
              by_cases hj : j = T + k
              · rw [if_pos hj, if_pos hj]
              · rw [if_neg hj, if_neg hj]
            have hbox3 : Hid (((wr.setCell ⟨w.heap.size + 1, T + k, none⟩ (.int .u8 ((x.d[k]).toNat : Nat))).drew).heap[X]? = some (.cells #[.int .i64 x.k, .int .i64 T, .int .i64 M, .string x.d, .int .i64 F] 40 (0, 0))) := by
              show (wr.setCell ⟨w.heap.size + 1, T + k, none⟩ (.int .u8 ((x.d[k]).toNat : Nat))).heap[X]? = _
              rw [Below.heap_setCell _ _ _ _ (show X ≠ w.heap.size + 1 by omega)]; exact hbox.out
            have hbel3 : Hid (Below (w.heap.size + 1) (w.alloc (Obj.cells #[.int .i64 OL, .int .i64 NL, .string os, .string ns, .slice (some ⟨b, o, none⟩) st.length c] 31)) ((wr.setCell ⟨w.heap.size + 1, T + k, none⟩ (.int .u8 ((x.d[k]).toNat : Nat))).drew)) := (hbel2.out.setCell (Nat.le_refl _) _).drew
            go_wp2_with fail
            exact ⟨⟨k + 1, by go_num, by omega, hrow3, hbox3, hbel3⟩, by simp [intOf]; omega⟩
          · have d3 : (x.k == 3) = true := by rw [hk3]; rfl
            have HK : Hid (x.k = 3) := hk3
            have hFM : F + M ≤ OL := by have := hfrom hk3; have h5 := HFf.out; have h6 := HMn.out; omega
            have gk1 : F + k < text.size := by omega
            have gk2 : (F : Int) + (k : Int) < (text.size : Int) := by omega
            have gk3 : (0 : Int) ≤ (F : Int) + (k : Int) := by omega
            have gk4 : ((F : Int) + (k : Int)).toNat = F + k := by omega
            have gk5 : IntKind.i64.wrap ((F : Int) + (k : Int)) = (F : Int) + (k : Int) := by rw [IntKind.wrap_i64]; omega
            have hby : Hid (stByte x text k = text[F + k]) := by
              show _ = _
              unfold stByte
              rw [if_pos HK.out, HFf.out, Int.toNat_natCast, Array.getD_eq_getD_getElem?, data_at text (F + k) gk1]; rfl
            go_wp2_with fail
            go_region
            have hrow3 : Hid (((wr.setCell ⟨w.heap.size + 1, T + k, none⟩ (.int .u8 ((text[F + k]).toNat : Nat))).drew).rowIs (w.heap.size + 1) 5 NL (fun j => .int .u8 ((doneIn text (st.take i) x (k + 1) j).toNat : Nat))) := by
              refine (hrow2.out.set (T + k) _).congr (fun j _ => ?_)
              rw [doneIn_next, HT.out, Int.toNat_natCast, hby.out]
              by_cases hj : j = T + k
              · rw [if_pos hj, if_pos hj]
              · rw [if_neg hj, if_neg hj]
            have hbox3 : Hid (((wr.setCell ⟨w.heap.size + 1, T + k, none⟩ (.int .u8 ((text[F + k]).toNat : Nat))).drew).heap[X]? = some (.cells #[.int .i64 x.k, .int .i64 T, .int .i64 M, .string x.d, .int .i64 F] 40 (0, 0))) := by
              show (wr.setCell ⟨w.heap.size + 1, T + k, none⟩ (.int .u8 ((text[F + k]).toNat : Nat))).heap[X]? = _
              rw [Below.heap_setCell _ _ _ _ (show X ≠ w.heap.size + 1 by omega)]; exact hbox.out
            have hbel3 : Hid (Below (w.heap.size + 1) (w.alloc (Obj.cells #[.int .i64 OL, .int .i64 NL, .string os, .string ns, .slice (some ⟨b, o, none⟩) st.length c] 31)) ((wr.setCell ⟨w.heap.size + 1, T + k, none⟩ (.int .u8 ((text[F + k]).toNat : Nat))).drew)) := (hbel2.out.setCell (Nat.le_refl _) _).drew
            go_wp2_with fail
            exact ⟨⟨k + 1, by go_num, by omega, hrow3, hbox3, hbel3⟩, by simp [intOf]; omega⟩
        · have hke : k = M := by omega
          subst hke
          have hfin : Hid (wr.rowIs (w.heap.size + 1) 5 NL (fun j => .int .u8 ((doneAt text j (st.take (i + 1))).toNat : Nat))) := hrow2.out.congr (fun j _ => by
            have e := doneIn_all text (st.take i) x j (by rw [HT.out]; omega) (by rw [HMn.out]; omega)
            rw [HMn.out, Int.toNat_natCast] at e
            rw [HTK.out, e])
          go_wp2_with fail
          exact ⟨⟨i + 1, by go_num, by omega, hfin, hbel2⟩, by simp [intOf]; omega⟩
    · have hie : i = st.length := by omega
      subst hie
      rw [List.take_length] at hrow
      have cv := conv_row hrow.out NL
      go_wp2_with fail
      go_ret
      exact ⟨rfl, ((Below.refl w.heap.size w).alloc (Nat.le_refl _) _).trans (hbel.out.mono (by omega))⟩

end Go.Proofs.Ytjjmcnippjpclaa
