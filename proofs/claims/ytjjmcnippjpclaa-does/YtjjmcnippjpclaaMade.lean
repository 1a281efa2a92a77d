/-
  The walk of made: what the steps of a plan make out of the old text.
-/
import Derived.Test.YtjjmcnippjpclaaDonePlain
import Derived.Test.YtjjmcnippjpclaaDevNew
import Derived.Test.YtjjmcnippjpclaaReadP
namespace Go.Proofs.Ytjjmcnippjpclaa

open Go.RowKit

/-- the row while the steps are at work: one step more. -/
theorem made_next (text : ByteArray) (st : List Pl.St) (x : Pl.St) (nl T M : Nat) (S : ByteArray) (hT : x.t = T) (hM : x.n = M) (hS : S.size = M) (hfit : T + M ≤ nl) (hby : ∀ k, k < M → S.data.toList[k]? = some (stByte x text k)) :
    (doneB st text nl).take T ++ S.data.toList ++ (doneB st text nl).drop (T + S.size) = doneB (st ++ [x]) text nl := by
  have hSl : S.data.toList.length = M := by simp [hS]
  have hl : ∀ st, (doneB st text nl).length = nl := fun st => by simp [doneB]
  apply List.ext_getElem?
  intro j
  by_cases hj : j < nl
  · have e : (doneB (st ++ [x]) text nl)[j]? = some (doneAt text j (st ++ [x])) := by unfold doneB; rw [List.getElem?_map, List.getElem?_range hj]; rfl
    have e2 : (doneB st text nl)[j]? = some (doneAt text j st) := by unfold doneB; rw [List.getElem?_map, List.getElem?_range hj]; rfl
    rw [e, doneAt_snoc, hT, hM]
    by_cases h1 : j < T
    · rw [if_neg (by omega), List.append_assoc, List.getElem?_append_left (by simp [hl]; omega), List.getElem?_take_of_lt h1, e2]
    · by_cases h2 : j < T + M
      · rw [if_pos (by omega), List.append_assoc, List.getElem?_append_right (by simp [hl]; omega), List.getElem?_append_left (by simp [hl]; omega)]
        have : j - ((doneB st text nl).take T).length = j - T := by simp [hl]; omega
        rw [this, hby (j - T) (by omega)]
        simp
      · rw [if_neg (by omega), List.getElem?_append_right (by simp [hl]; omega), List.getElem?_drop]
        have : T + S.size + (j - ((doneB st text nl).take T ++ S.data.toList).length) = j := by simp [hl]; omega
        rw [this, e2]
  · rw [List.getElem?_eq_none (by simp [hl]; omega), List.getElem?_eq_none (by rw [hl]; omega)]

theorem fill40 {w : World} {N : Nat} {a b c d e : Value} (h : w.heap[N]? = some (.cells #[a, b, c, d, e] 40 (0, 0))) (p q r s t : Value) :
    (((((w.setCell ⟨N, 0, none⟩ p).setCell ⟨N, 1, none⟩ q).setCell ⟨N, 2, none⟩ r).setCell ⟨N, 3, none⟩ s).setCell ⟨N, 4, none⟩ t).heap[N]? = some (.cells #[p, q, r, s, t] 40 (0, 0)) := by
  simp [World.setCell, Array.getElem?_modify, h]

set_option maxRecDepth 100000 in
set_option maxHeartbeats 4000000 in
theorem made_any (OL NL : Nat) (os ns : ByteArray) (a : Option Addr) (b o c : Nat) (st : List Pl.St) (text : ByteArray) (w : World) (hO : OL ≤ 4000) (hN : NL ≤ 4000) (ht : OL ≤ text.size) (hm : st.length ≤ 2000) (hst : Hid (stepsAt w a b o st)) (hok : Hid (∀ s ∈ st, Pl.ok OL NL s = true)) :
    Calls Try.prog 89 #[.string text, .agg #[.int .i64 OL, .int .i64 NL, .string os, .string ns, .slice a st.length c]] w fun e w' => e = .returned (.string ⟨(doneB st text NL).toArray⟩) ∧ Below w.heap.size w w' := by
  have hmk := make_bytes NL hN
  have hbl := hst.out.2.1
  have hl : ∀ st, (doneB st text NL).length = NL := fun st => by simp [doneB]
  go_enter Try.func89, Try.ntmps89
  go_wp2_with fail
  go_loopw [14] (fun x wr => ∃ i : Nat, x = .int .i64 i ∧ i ≤ st.length ∧ Hid (rowOf wr (.slice (some ⟨w.heap.size + 1, 0, none⟩) NL NL) (doneB (st.take i) text NL)) ∧ Hid (Below (w.heap.size + 1) (w.alloc (Obj.cells #[.int .i64 OL, .int .i64 NL, .string os, .string ns, .slice a st.length c] 31)) wr)) (fun x _ => st.length - (intOf x).toNat)
  case atStart =>
    refine ⟨0, rfl, Nat.zero_le _, ?_, ?_⟩
    · have := newRow (w.alloc (Obj.cells #[.int .i64 OL, .int .i64 NL, .string os, .string ns, .slice a st.length c] 31)) NL (by unfold maxLen; omega)
      rw [World.size_alloc] at this
      have e : doneB (st.take 0) text NL = List.replicate NL 0 := by
        apply List.ext_getElem?
        intro j
        by_cases hj : j < NL
        · unfold doneB; rw [List.getElem?_map, List.getElem?_range hj, List.getElem?_replicate, if_pos hj]; rfl
        · rw [List.getElem?_eq_none (by rw [hl]; omega), List.getElem?_eq_none (by simp; omega)]
      show rowOf _ _ _
      rw [e]; exact this
    · show Below _ _ _
      exact (Below.refl _ _).alloc (by simp) _
  case round =>
    obtain ⟨i, rfl, hi, hrow, hbel⟩ := hrel
    by_cases hlt : i < st.length
    · obtain ⟨x, hx⟩ : ∃ x, st[i]? = some x := ⟨st[i], List.getElem?_eq_getElem hlt⟩
      have ha : a = some ⟨b, o, none⟩ := by
        rcases hst.out.1 with h | h
        · rw [h] at hlt; exact absurd hlt (Nat.not_lt_zero _)
        · exact h
      subst ha
      obtain ⟨c0, c1, c2, c3, c4⟩ := stAt_below (stAt_below (hst.out.2.2 i x hx) ((Below.refl w.heap.size w).alloc (Nat.le_refl _) (Obj.cells #[.int .i64 OL, .int .i64 NL, .string os, .string ns, .slice (some ⟨b, o, none⟩) st.length c] 31)) hst.out.2.1) hbel.out (Nat.lt_succ_of_lt hst.out.2.1)
      obtain ⟨z0, z1, z2, z3, z4⟩ := ok_sizes (by omega) (by omega) (hok.out x (List.mem_of_getElem? hx))
      have hpos := Pl.ok_pos (hok.out x (List.mem_of_getElem? hx))
      have hfrom := fun hk => Pl.ok_from (hok.out x (List.mem_of_getElem? hx)) hk
      have hadd : x.k = 1 → (x.d.size : Int) = x.n := fun hk => by
        have h := hok.out x (List.mem_of_getElem? hx)
        simp only [Pl.ok, decide_eq_true_eq] at h
        omega
      obtain ⟨T, hT⟩ := Int.eq_ofNat_of_zero_le z1.1
      obtain ⟨M, hM⟩ := Int.eq_ofNat_of_zero_le z2.1
      obtain ⟨F, hF⟩ := Int.eq_ofNat_of_zero_le z3.1
      have HTK : Hid (st.take (i + 1) = st.take i ++ [x]) := Pl.take_at hx
      have HT : Hid (x.t = T) := hT
      have HMn : Hid (x.n = M) := hM
      have HFf : Hid (x.f = F) := hF
      have hTM : T + M ≤ NL := by omega
      have hM1 : 1 ≤ M := by omega
      have hi0 : (i : Int) < (st.length : Int) := by omega
      have hsz : w.heap.size + 1 < wr.heap.size := hrow.out.lt rfl
      have hM4 : M ≤ 4000 := by omega
      have hT4 : T ≤ 4000 := by omega
      have hF4 : F ≤ 4000 := by omega
      rw [hT] at c1
      rw [hM] at c2
      rw [hF] at c4
      have hrow1 : rowOf (wr.alloc (Obj.cells #[.int .i64 x.k, .int .i64 T, .int .i64 M, .string x.d, .int .i64 F] 40)).drew (.slice (some ⟨w.heap.size + 1, 0, none⟩) NL NL) (doneB (st.take i) text NL) := hrow.out.of_block fun k hk => Below.heap_alloc _ _ _ (by simp [Value.ownBlock] at hk; omega)
      obtain ⟨cap, cur, e1, hb3, hc1, hc2, hc3, hc4⟩ : ∃ cap cur, Value.slice (some ⟨w.heap.size + 1, 0, none⟩) NL NL = .slice (some ⟨w.heap.size + 1, 0, none⟩) (doneB (st.take i) text NL).length cap ∧ (wr.alloc (Obj.cells #[.int .i64 x.k, .int .i64 T, .int .i64 M, .string x.d, .int .i64 F] 40)).drew.heap[w.heap.size + 1]? = some (.cells cur 5 (0, 0)) ∧ (doneB (st.take i) text NL).length ≤ cap ∧ cap ≤ maxLen ∧ cur.size = cap ∧ cur.toList.take (doneB (st.take i) text NL).length = Lib.byteCells (doneB (st.take i) text NL) := by
        rcases hrow1.form with ⟨h, _⟩ | ⟨g, cap, cur, h, rest⟩
        · simp at h
        · obtain rfl : w.heap.size + 1 = g := by simp at h; exact h.1
          exact ⟨cap, cur, h, rest⟩
      obtain rfl : cap = NL := by have := e1; simp at this; exact this.2.symm
      rcases z0 with hk3 | hk3
      · have d3 : (x.k == 3) = false := by rw [hk3]; rfl
        have HK : Hid (x.k = 1) := hk3
        have hdM : x.d.size = M := by have := hadd hk3; have h6 := HMn.out; omega
        obtain ⟨v2, hcp, r2, g2⟩ := copy_in (a := T) x.d hrow1 e1 hb3 hc3 hc1 hc4 (by rw [hl]; omega)
        rw [hl] at hcp
        rw [made_next text (st.take i) x cap T M x.d HT.out HMn.out hdM hTM (fun k hk => by
          unfold stByte
          rw [if_neg (by rw [HK.out]; decide), Array.getD_eq_getD_getElem?, Array.getElem?_toList, data_at x.d k (by omega)]
          rfl), ← HTK.out] at r2
        have hbel1 : Below (w.heap.size + 1) (w.alloc (Obj.cells #[.int .i64 OL, .int .i64 cap, .string os, .string ns, .slice (some ⟨b, o, none⟩) st.length c] 31)) (wr.alloc (Obj.cells #[.int .i64 x.k, .int .i64 T, .int .i64 M, .string x.d, .int .i64 F] 40)).drew := (hbel.out.alloc (by omega) _).drew
        have HB2 : Hid (Below (w.heap.size + 1) (w.alloc (Obj.cells #[.int .i64 OL, .int .i64 cap, .string os, .string ns, .slice (some ⟨b, o, none⟩) st.length c] 31)) v2) := ⟨g2.os.trans hbel1.os, g2.tape.trans hbel1.tape, g2.output.trans hbel1.output, Nat.le_trans hbel1.size g2.size, fun k hk => (g2.block k (Nat.lt_of_lt_of_le (by simp; omega) hbel1.size) (by simp [Value.ownBlock]; omega)).trans (hbel1.block k hk)⟩
        have HR2 : Hid (rowOf v2 (.slice (some ⟨w.heap.size + 1, 0, none⟩) cap cap) (doneB (st.take (i + 1)) text cap)) := r2
        clear r2 g2 hbel1 hb3 hc1 hc2 hc3 hc4 hrow1 e1 hrow hbel hx hT hM hF hmk hl hk3
        go_wp2_with fail
        go_region
        go_wp2_with fail
        exact ⟨⟨i + 1, by go_num, by omega, HR2, HB2⟩, by simp [intOf]; omega⟩
      · have d3 : (x.k == 3) = true := by rw [hk3]; rfl
        have HK : Hid (x.k = 3) := hk3
        have hFM : F + M ≤ OL := by have := hfrom hk3; have h5 := HFf.out; have h6 := HMn.out; omega
        have hdM : (text.extract F (F + M)).size = M := by rw [ByteArray.size_extract]; omega
        obtain ⟨v2, hcp, r2, g2⟩ := copy_in (a := T) (text.extract F (F + M)) hrow1 e1 hb3 hc3 hc1 hc4 (by rw [hl]; omega)
        rw [hl] at hcp
        rw [made_next text (st.take i) x cap T M (text.extract F (F + M)) HT.out HMn.out hdM hTM (fun k hk => by
          unfold stByte
          have hx2 := HFf.out
          rw [if_pos HK.out, Array.getD_eq_getD_getElem?, Array.getElem?_toList, extract_at text F (F + M) k (by omega) (by omega), show x.f.toNat + k = F + k by omega, data_at text (F + k) (by omega)]
          rfl), ← HTK.out] at r2
        have hbel1 : Below (w.heap.size + 1) (w.alloc (Obj.cells #[.int .i64 OL, .int .i64 cap, .string os, .string ns, .slice (some ⟨b, o, none⟩) st.length c] 31)) (wr.alloc (Obj.cells #[.int .i64 x.k, .int .i64 T, .int .i64 M, .string x.d, .int .i64 F] 40)).drew := (hbel.out.alloc (by omega) _).drew
        have HB2 : Hid (Below (w.heap.size + 1) (w.alloc (Obj.cells #[.int .i64 OL, .int .i64 cap, .string os, .string ns, .slice (some ⟨b, o, none⟩) st.length c] 31)) v2) := ⟨g2.os.trans hbel1.os, g2.tape.trans hbel1.tape, g2.output.trans hbel1.output, Nat.le_trans hbel1.size g2.size, fun k hk => (g2.block k (Nat.lt_of_lt_of_le (by simp; omega) hbel1.size) (by simp [Value.ownBlock]; omega)).trans (hbel1.block k hk)⟩
        have HR2 : Hid (rowOf v2 (.slice (some ⟨w.heap.size + 1, 0, none⟩) cap cap) (doneB (st.take (i + 1)) text cap)) := r2
        clear r2 g2 hbel1 hb3 hc1 hc2 hc3 hc4 hrow1 e1 hrow hbel hx hT hM hF hmk hl hk3
        have g1 : (0 : Int) ≤ (F : Int) := by omega
        have g2 : (F : Int) ≤ (F : Int) + (M : Int) := by omega
        have g3 : (F : Int) + (M : Int) ≤ (text.size : Int) := by omega
        have g4 : ((F : Int) + (M : Int)).toNat = F + M := by omega
        have g5 : IntKind.i64.wrap ((F : Int) + (M : Int)) = (F : Int) + (M : Int) := by rw [IntKind.wrap_i64]; omega
        go_wp2_with fail
        go_region
        go_wp2_with fail
        exact ⟨⟨i + 1, by go_num, by omega, HR2, HB2⟩, by simp [intOf]; omega⟩
    · have hrow2 := hrow.out
      rw [List.take_of_length_le (by omega)] at hrow2
      have hcv : ∀ c, (convert 65 9 (.slice (some ⟨w.heap.size + 1, 0, none⟩) NL c)).run Try.prog wr = .ok (.string ⟨(doneB st text NL).toArray⟩) wr := fun c => by
        rcases hrow2.form with ⟨h, _⟩ | ⟨g, cap, cur, h, hb, h1, h2, h3, h4⟩
        · simp at h
        · obtain rfl : w.heap.size + 1 = g := by simp at h; exact h.1
          have := conv_front hb h4 NL c (by rw [hl]; exact Nat.le_refl _)
          rwa [List.take_of_length_le (by rw [hl]; exact Nat.le_refl _)] at this
      have hi0 : ¬ (i : Int) < (st.length : Int) := by omega
      have HB : Hid (Below w.heap.size w wr) := ((Below.refl _ _).alloc (Nat.le_refl _) _).trans (hbel.out.mono (Nat.le_succ _))
      clear hrow hrow2 hmk hbel
      go_wp2_with fail
      go_ret
      exact ⟨rfl, HB.out⟩

end Go.Proofs.Ytjjmcnippjpclaa
