/-
  The walk of the document's own writing of a plan.
-/
import Derived.Test.YtjjmcnippjpclaaBoxes
import Derived.Test.YtjjmcnippjpclaaRefs
namespace Go.Proofs.Ytjjmcnippjpclaa

open Go.RowKit

set_option linter.unusedSimpArgs false in
set_option maxRecDepth 100000 in
set_option maxHeartbeats 8000000 in
theorem refwrite_any (OL NL : Nat) (os ns : ByteArray) (a : Option Addr) (b o c : Nat) (st : List Pl.St) (w : World) (hO : OL ≤ 4000) (hN : NL ≤ 4000) (hos : os.size = 4) (hns : ns.size = 4) (hm : st.length ≤ 2000) (hst : Hid (stepsAt w a b o st)) (hok : Hid (∀ s ∈ st, Pl.ok OL NL s = true)) :
    Calls Try.prog 41 #[.agg #[.int .i64 OL, .int .i64 NL, .string os, .string ns, .slice a st.length c]] w fun e w' => e = .returned (.string ⟨(planB OL NL os ns st).toArray⟩) ∧ Below w.heap.size w w' := by
  have hn : Hid (∀ (n : Nat) (w : World), n ≤ 4000 → Calls Try.prog 32 #[.int .i64 n] w fun e w' => e = .returned (.string (strOfNums (Pl.num n))) ∧ Below w.heap.size w w') := fun n w h => refnum_any n w (by omega)
  have z1 : (strOfNums (Pl.num OL)).size ≤ 5 := by rw [nb_str, ← data_len]; exact nb_len OL (by omega)
  have z2 : (strOfNums (Pl.num NL)).size ≤ 5 := by rw [nb_str, ← data_len]; exact nb_len NL (by omega)
  have z3 : (strOfNums (Pl.num st.length)).size ≤ 5 := by rw [nb_str, ← data_len]; exact nb_len st.length (by omega)
  obtain ⟨X1, hX1⟩ : ∃ X : ByteArray, X = ⟨#[84, 76, 82, 73]⟩ ++ strOfNums (Pl.num OL) := ⟨_, rfl⟩
  obtain ⟨X2, hX2⟩ : ∃ X : ByteArray, X = X1 ++ os := ⟨_, rfl⟩
  obtain ⟨X3, hX3⟩ : ∃ X : ByteArray, X = X2 ++ strOfNums (Pl.num NL) := ⟨_, rfl⟩
  obtain ⟨X4, hX4⟩ : ∃ X : ByteArray, X = X3 ++ ns := ⟨_, rfl⟩
  obtain ⟨X5, hX5⟩ : ∃ X : ByteArray, X = X4 ++ strOfNums (Pl.num st.length) := ⟨_, rfl⟩
  have y1 : X1.size ≤ 9 := by rw [hX1, ByteArray.size_append]; show 4 + _ ≤ _; omega
  have y2 : X2.size ≤ 13 := by rw [hX2, ByteArray.size_append]; omega
  have y3 : X3.size ≤ 18 := by rw [hX3, ByteArray.size_append]; omega
  have y4 : X4.size ≤ 22 := by rw [hX4, ByteArray.size_append]; omega
  have y5 : X5.size ≤ 27 := by rw [hX5, ByteArray.size_append]; omega
  have A1 : ∀ w, (Op.stringOp .add ⟨#[84, 76, 82, 73]⟩ (strOfNums (Pl.num OL))).run Try.prog w = .ok (.string X1) w := fun w => by rw [hX1]; exact run_string_add_sum w _ _ (by show 4 + _ ≤ _; omega)
  have A2 : ∀ w, (Op.stringOp .add X1 os).run Try.prog w = .ok (.string X2) w := fun w => by rw [hX2]; exact run_string_add_sum w _ _ (by omega)
  have A3 : ∀ w, (Op.stringOp .add X2 (strOfNums (Pl.num NL))).run Try.prog w = .ok (.string X3) w := fun w => by rw [hX3]; exact run_string_add_sum w _ _ (by omega)
  have A4 : ∀ w, (Op.stringOp .add X3 ns).run Try.prog w = .ok (.string X4) w := fun w => by rw [hX4]; exact run_string_add_sum w _ _ (by omega)
  have A5 : ∀ w, (Op.stringOp .add X4 (strOfNums (Pl.num st.length))).run Try.prog w = .ok (.string X5) w := fun w => by rw [hX5]; exact run_string_add_sum w _ _ (by omega)
  have HX : Hid (X5.data.toList = headB OL NL os ns st.length) := by
    show _ = _
    rw [hX5, hX4, hX3, hX2, hX1]
    simp only [nb_str, ByteArray.data_append, Array.toList_append]
    rfl
  clear hX1 hX2 hX3 hX4 hX5
  have HP : Hid (planB OL NL os ns st = headB OL NL os ns st.length ++ st.flatMap stepB) := rfl
  generalize headB OL NL os ns st.length = HB at *
  generalize planB OL NL os ns st = PB at *
  have hpb0 : pbox w (w.alloc (Obj.cells #[.int .i64 OL, .int .i64 NL, .string os, .string ns, .slice a st.length c] 31)) OL NL os ns (.slice a st.length c) (w.alloc (Obj.cells #[.int .i64 OL, .int .i64 NL, .string os, .string ns, .slice a st.length c] 31)).drew := by
    refine ⟨by simp, (Below.refl _ _).drew, ?_, ?_, ?_, ?_, ?_⟩ <;> simp [go_sem]
  go_enter Try.func41, Try.ntmps41
  go_wp2_with fail
  go_cut [3] from 6 to 24 (fun r wx => r = .string X5 ∧ Hid (Below (w.heap.size + 1) (w.alloc (Obj.cells #[.int .i64 OL, .int .i64 NL, .string os, .string ns, .slice a st.length c] 31)) wx))
  case first =>
    go_region_held3 (fun w' => w.heap.size < w'.heap.size ∧ Hid (Below (w.heap.size + 1) (w.alloc (Obj.cells #[.int .i64 OL, .int .i64 NL, .string os, .string ns, .slice a st.length c] 31)) w') ∧ w'.cell? ⟨w.heap.size, 0, none⟩ = some (.int .i64 OL) ∧ w'.cell? ⟨w.heap.size, 1, none⟩ = some (.int .i64 NL) ∧ w'.cell? ⟨w.heap.size, 2, none⟩ = some (.string os) ∧ w'.cell? ⟨w.heap.size, 3, none⟩ = some (.string ns) ∧ w'.cell? ⟨w.heap.size, 4, none⟩ = some (.slice a st.length c)) (first | exact hpb0 | exact pbox_below (by assumption) (by assumption)) ((go_at_call 32; refine (hn.out _ _ (by omega)).mono ?_; rintro e v1 ⟨rfl, b1⟩))
    rename_i hheld
    have hb := hheld.2.1
    go_wp2_with fail
    go_meet
    exact ⟨rfl, hb⟩
  case rest =>
    obtain ⟨rfl, hb1⟩ := hcut
    clear A1 A2 A3 A4 A5 hpb0 y1 y2 y3 y4 z1 z2 z3
    go_wp2_with fail
    go_loopw [3, 4] (fun r i wr => ∃ (k : Nat) (X : ByteArray), k ≤ st.length ∧ i = .int .i64 k ∧ r = .string X ∧ X.size ≤ 100 + 4100 * k ∧ Hid (X.data.toList = HB ++ (st.take k).flatMap stepB) ∧ Hid (Below (w.heap.size + 1) (w.alloc (Obj.cells #[.int .i64 OL, .int .i64 NL, .string os, .string ns, .slice a st.length c] 31)) wr)) (fun _ i _ => st.length - (intOf i).toNat)
    case atStart => exact ⟨0, X5, Nat.zero_le _, rfl, rfl, by omega, by show _ = _; rw [HX.out]; simp, hb1⟩
    case round =>
    obtain ⟨k, X, hk, rfl, rfl, hll, hX, hbel⟩ := hrel
    have p4 : wr.cell? ⟨w.heap.size, 4, none⟩ = some (.slice a st.length c) := by rw [hbel.out.cell (Nat.lt_succ_self _)]; simp [go_sem]
    have hsr : w.heap.size + 1 ≤ wr.heap.size := by have := hbel.out.size; simp at this; omega
    by_cases hlt : k < st.length
    · obtain ⟨s, hs⟩ : ∃ s, st[k]? = some s := ⟨st[k], List.getElem?_eq_getElem hlt⟩
      have ha : a = some ⟨b, o, none⟩ := by
        rcases hst.out.1 with h | h
        · rw [h] at hlt; exact absurd hlt (Nat.not_lt_zero _)
        · exact h
      subst ha
      obtain ⟨c0, c1, c2, c3, c4⟩ := stAt_below (stAt_below (hst.out.2.2 k s hs) ((Below.refl w.heap.size w).alloc (Nat.le_refl _) (Obj.cells #[.int .i64 OL, .int .i64 NL, .string os, .string ns, .slice (some ⟨b, o, none⟩) st.length c] 31)) hst.out.2.1) hbel.out (Nat.lt_succ_of_lt hst.out.2.1)
      obtain ⟨z0, z1, z2, z3, z4⟩ := ok_sizes (by omega) (by omega) (hok.out s (List.mem_of_getElem? hs))
      obtain ⟨T, hT⟩ := Int.eq_ofNat_of_zero_le z1.1
      obtain ⟨M, hM⟩ := Int.eq_ofNat_of_zero_le z2.1
      obtain ⟨F, hF⟩ := Int.eq_ofNat_of_zero_le z3.1
      have HS : Hid (stepB s = [UInt8.ofNat s.k.toNat] ++ nb T ++ nb M ++ (if s.k = 3 then nb F else s.d.data.toList)) := by
        show _ = _
        unfold stepB
        rw [hT, hM, hF]; rfl
      have hT4 : T ≤ 4000 := by omega
      have hM4 : M ≤ 4000 := by omega
      have hF4 : F ≤ 4000 := by omega
      have q1 : (strOfNums (Pl.num T)).size ≤ 5 := by rw [nb_str, ← data_len]; exact nb_len T (by omega)
      have q2 : (strOfNums (Pl.num M)).size ≤ 5 := by rw [nb_str, ← data_len]; exact nb_len M (by omega)
      have q3 : (strOfNums (Pl.num F)).size ≤ 5 := by rw [nb_str, ← data_len]; exact nb_len F (by omega)
      rw [hT] at c1
      rw [hM] at c2
      rw [hF] at c4
      clear z1 z2 z3 hT hM hF
      rcases z0 with hk | hk
      · rw [hk] at c0 HS
        have hsb0 : sbox wr (w.heap.size + 1) (w.alloc (Obj.cells #[.int .i64 OL, .int .i64 NL, .string os, .string ns, .slice (some ⟨b, o, none⟩) st.length c] 31)) 1 T M s.d F (wr.alloc (Obj.cells #[.int .i64 1, .int .i64 T, .int .i64 M, .string s.d, .int .i64 F] 40)).drew :=
          sbox_drew (sbox_new (hbel.out.alloc (by omega) _))
        obtain ⟨Y1, hY1⟩ : ∃ Y : ByteArray, Y = X ++ strOfNums [1] := ⟨_, rfl⟩
        obtain ⟨Y2, hY2⟩ : ∃ Y : ByteArray, Y = Y1 ++ strOfNums (Pl.num T) := ⟨_, rfl⟩
        obtain ⟨Y3, hY3⟩ : ∃ Y : ByteArray, Y = Y2 ++ strOfNums (Pl.num M) := ⟨_, rfl⟩
        have y1 : Y1.size = X.size + 1 := by rw [hY1, ByteArray.size_append]; rfl
        have y2 : Y2.size ≤ X.size + 6 := by rw [hY2, ByteArray.size_append]; omega
        have y3 : Y3.size ≤ X.size + 11 := by rw [hY3, ByteArray.size_append]; omega
        have A1 : ∀ w, (Op.stringOp .add X (strOfNums [1])).run Try.prog w = .ok (.string Y1) w := fun w => by rw [hY1]; exact run_string_add_sum w _ _ (by rw [show (strOfNums [1]).size = 1 from rfl]; omega)
        have A2 : ∀ w, (Op.stringOp .add Y1 (strOfNums (Pl.num T))).run Try.prog w = .ok (.string Y2) w := fun w => by rw [hY2]; exact run_string_add_sum w _ _ (by omega)
        have A3 : ∀ w, (Op.stringOp .add Y2 (strOfNums (Pl.num M))).run Try.prog w = .ok (.string Y3) w := fun w => by rw [hY3]; exact run_string_add_sum w _ _ (by omega)
        have HY : Hid (Y3.data.toList = X.data.toList ++ ([UInt8.ofNat 1] ++ nb T ++ nb M)) := by
          show _ = _
          rw [hY3, hY2, hY1]
          simp only [nb_str, ByteArray.data_append, Array.toList_append, List.append_assoc]
          rfl
        clear hY1 hY2 hY3
        have kc := conv_1
        go_wp2_with fail
        go_cut [3] from 25 to 63 (fun r wx => r = .string Y3 ∧ sbox wr (w.heap.size + 1) (w.alloc (Obj.cells #[.int .i64 OL, .int .i64 NL, .string os, .string ns, .slice (some ⟨b, o, none⟩) st.length c] 31)) 1 T M s.d F wx)
        case first =>
          have hsbn : sbox wr (w.heap.size + 1) (w.alloc (Obj.cells #[.int .i64 OL, .int .i64 NL, .string os, .string ns, .slice (some ⟨b, o, none⟩) st.length c] 31)) 1 T M s.d F (wr.alloc (Obj.cells #[.int .i64 1, .int .i64 T, .int .i64 M, .string s.d, .int .i64 F] 40)) := sbox_new (hbel.out.alloc (by omega) _)
          refine wp_region_noPanic ?_
          refine wp_region_held_drew (S := fun w' => wr.heap.size < w'.heap.size ∧ Hid (Below (w.heap.size + 1) (w.alloc (Obj.cells #[.int .i64 OL, .int .i64 NL, .string os, .string ns, .slice (some ⟨b, o, none⟩) st.length c] 31)) w') ∧ w'.cell? ⟨wr.heap.size, 0, none⟩ = some (.int .i64 1) ∧ w'.cell? ⟨wr.heap.size, 1, none⟩ = some (.int .i64 T) ∧ w'.cell? ⟨wr.heap.size, 2, none⟩ = some (.int .i64 M) ∧ w'.cell? ⟨wr.heap.size, 3, none⟩ = some (.string s.d) ∧ w'.cell? ⟨wr.heap.size, 4, none⟩ = some (.int .i64 F)) (by kernel_rfl) hsb0 (fun hHeld => ?_)
          refine wpAnyH_take (i := 0) (v := ?v1_1) rfl (by kernel_rfl) (by kernel_rfl) (by kernel_rfl) (fun _ _ _ h => h) (Or.inl ⟨by rfl, ?hy1_1⟩) (by assumption) ?rest1_1
          case hy1_1 =>
            intro w hSw
            (try dsimp only at hSw)
            go_simp
            try with_reducible rfl
          simp only [Act.put, List.setIfInBounds_toArray, List.set_cons_zero, List.set_cons_succ, List.getElem_toArray, List.getElem_cons_zero, List.getElem_cons_succ]
          refine wpAnyH_take (i := 1) (v := ?v1_2) rfl (by kernel_rfl) (by kernel_rfl) (by kernel_rfl) (fun _ _ _ h => h) (Or.inl ⟨by rfl, ?hy1_2⟩) (by assumption) ?rest1_2
          case hy1_2 =>
            intro w hSw
            (try dsimp only at hSw)
            go_simp
            try with_reducible rfl
          simp only [Act.put, List.setIfInBounds_toArray, List.set_cons_zero, List.set_cons_succ, List.getElem_toArray, List.getElem_cons_zero, List.getElem_cons_succ]
          refine wpAnyH_take (i := 2) (v := ?v1_3) rfl (by kernel_rfl) (by kernel_rfl) (by kernel_rfl) (fun _ _ _ h => h) (Or.inl ⟨by rfl, ?hy1_3⟩) (by assumption) ?rest1_3
          case hy1_3 =>
            intro w hSw
            (try dsimp only at hSw)
            go_simp
            try with_reducible rfl
          simp only [Act.put, List.setIfInBounds_toArray, List.set_cons_zero, List.set_cons_succ, List.getElem_toArray, List.getElem_cons_zero, List.getElem_cons_succ]
          refine wpAnyH_take (i := 3) (v := ?v1_4) rfl (by kernel_rfl) (by kernel_rfl) (by kernel_rfl) (fun _ _ _ h => h) (Or.inl ⟨by rfl, ?hy1_4⟩) (by assumption) ?rest1_4
          case hy1_4 =>
            intro w hSw
            (try dsimp only at hSw)
            go_simp
            try with_reducible rfl
          simp only [Act.put, List.setIfInBounds_toArray, List.set_cons_zero, List.set_cons_succ, List.getElem_toArray, List.getElem_cons_zero, List.getElem_cons_succ]
          refine wpAnyH_take (i := 7) (v := ?v1_5) rfl (by kernel_rfl) (by kernel_rfl) (by kernel_rfl) (fun _ _ _ h => h) (Or.inl ⟨by rfl, ?hy1_5⟩) (by assumption) ?rest1_5
          case hy1_5 =>
            intro w hSw
            (try dsimp only at hSw)
            go_simp
            try with_reducible rfl
          simp only [Act.put, List.setIfInBounds_toArray, List.set_cons_zero, List.set_cons_succ, List.getElem_toArray, List.getElem_cons_zero, List.getElem_cons_succ]
          refine wpAnyH_take (i := 8) (v := ?v1_6) rfl (by kernel_rfl) (by kernel_rfl) (by kernel_rfl) (fun _ _ _ h => h) (Or.inl ⟨by rfl, ?hy1_6⟩) (by assumption) ?rest1_6
          case hy1_6 =>
            intro w hSw
            (try dsimp only at hSw)
            go_simp
            try with_reducible rfl
          simp only [Act.put, List.setIfInBounds_toArray, List.set_cons_zero, List.set_cons_succ, List.getElem_toArray, List.getElem_cons_zero, List.getElem_cons_succ]
          refine wpAnyH_take (i := 11) (v := ?v1_7) rfl (by kernel_rfl) (by kernel_rfl) (by kernel_rfl) (fun _ _ _ h => h) (Or.inl ⟨by rfl, ?hy1_7⟩) (by assumption) ?rest1_7
          case hy1_7 =>
            intro w hSw
            (try dsimp only at hSw)
            go_simp
            try with_reducible rfl
          simp only [Act.put, List.setIfInBounds_toArray, List.set_cons_zero, List.set_cons_succ, List.getElem_toArray, List.getElem_cons_zero, List.getElem_cons_succ]
          refine wpAnyH_take (i := 12) (v := ?v1_8) rfl (by kernel_rfl) (by kernel_rfl) (by kernel_rfl) (fun _ _ _ h => h) (Or.inl ⟨by rfl, ?hy1_8⟩) (by assumption) ?rest1_8
          case hy1_8 =>
            intro w hSw
            (try dsimp only at hSw)
            go_simp
            try with_reducible rfl
          simp only [Act.put, List.setIfInBounds_toArray, List.set_cons_zero, List.set_cons_succ, List.getElem_toArray, List.getElem_cons_zero, List.getElem_cons_succ]
          refine wpAnyH_ready (rs := [4, 9]) (by kernel_rfl) (by simp) ?_
          refine AllReadyH.cons rfl (fun K hK => ?_) ?_
          · go_simp
            refine hK.out _ _ ?_ (fun hHeld => ?_)
            · first | exact sbox_alloc hsr hsb0 _ | exact sbox_drew (sbox_alloc hsr hsbn _)
            clear hK
            (try simp only [Act.put, List.setIfInBounds_toArray, List.set_cons_zero, List.set_cons_succ, List.getElem_toArray, List.getElem_cons_zero, List.getElem_cons_succ])
            refine weaken_with (S' := fun w' => (wr.heap.size < w'.heap.size ∧ Hid (Below (w.heap.size + 1) (w.alloc (Obj.cells #[.int .i64 OL, .int .i64 NL, .string os, .string ns, .slice (some ⟨b, o, none⟩) st.length c] 31)) w') ∧ w'.cell? ⟨wr.heap.size, 0, none⟩ = some (.int .i64 1) ∧ w'.cell? ⟨wr.heap.size, 1, none⟩ = some (.int .i64 T) ∧ w'.cell? ⟨wr.heap.size, 2, none⟩ = some (.int .i64 M) ∧ w'.cell? ⟨wr.heap.size, 3, none⟩ = some (.string s.d) ∧ w'.cell? ⟨wr.heap.size, 4, none⟩ = some (.int .i64 F)) ∧ (wr.heap.size + 1) < w'.heap.size ∧ w'.cell? ⟨(wr.heap.size + 1), 0, none⟩ = some (.int .u8 (IntKind.u8.wrap 1))) (fun _ h => h.1) ⟨hHeld, by simp, by simp [go_sem]⟩ (fun hHeld2 => ?_)
            refine wpAnyH_take (i := 5) (v := ?v1_9) rfl (by kernel_rfl) (by kernel_rfl) (by kernel_rfl) (fun _ _ _ h => h) (Or.inl ⟨by rfl, ?hy1_9⟩) (by assumption) ?rest1_9
            case hy1_9 =>
              intro w hSw
              (try dsimp only at hSw)
              go_simp
              try with_reducible rfl
            simp only [Act.put, List.setIfInBounds_toArray, List.set_cons_zero, List.set_cons_succ, List.getElem_toArray, List.getElem_cons_zero, List.getElem_cons_succ]
            refine wpAnyH_take (i := 6) (v := ?v1_10) rfl (by kernel_rfl) (by kernel_rfl) (by kernel_rfl) (fun _ _ _ h => h) (Or.inl ⟨by rfl, ?hy1_10⟩) (by assumption) ?rest1_10
            case hy1_10 =>
              intro w hSw
              (try dsimp only at hSw)
              go_simp
              try with_reducible rfl
            simp only [Act.put, List.setIfInBounds_toArray, List.set_cons_zero, List.set_cons_succ, List.getElem_toArray, List.getElem_cons_zero, List.getElem_cons_succ]
            refine wpAnyH_ready (rs := [9]) (by kernel_rfl) (by simp) ?_
            refine AllReadyH.cons rfl (fun K hK => ?_) ?_
            · go_simp
              refine (hn.out _ _ (by omega)).mono ?_
              rintro e v1 ⟨rfl, b1⟩
              (try go_wp2_with fail)
              refine hK.out _ _ ?_ (fun hHeld => ?_)
              · exact ⟨sbox_below hsr hHeld2.1 b1, slc_keep hHeld2.2 b1⟩
              clear hK
              (try simp only [Act.put, List.setIfInBounds_toArray, List.set_cons_zero, List.set_cons_succ, List.getElem_toArray, List.getElem_cons_zero, List.getElem_cons_succ])
              refine wpAnyH_take (i := 10) (v := ?v1_11) rfl (by kernel_rfl) (by kernel_rfl) (by kernel_rfl) (fun _ _ _ h => h) (Or.inl ⟨by rfl, ?hy1_11⟩) (by assumption) ?rest1_11
              case hy1_11 =>
                intro w hSw
                (try dsimp only at hSw)
                go_simp
                try with_reducible rfl
              simp only [Act.put, List.setIfInBounds_toArray, List.set_cons_zero, List.set_cons_succ, List.getElem_toArray, List.getElem_cons_zero, List.getElem_cons_succ]
              refine wpAnyH_ready (rs := [13]) (by kernel_rfl) (by simp) ?_
              refine AllReadyH.cons rfl (fun K hK => ?_) ?_
              · go_simp
                refine (hn.out _ _ (by omega)).mono ?_
                rintro e v1 ⟨rfl, b1⟩
                (try go_wp2_with fail)
                refine hK.out _ _ ?_ (fun hHeld => ?_)
                · exact ⟨sbox_below hsr hHeld.1 b1, slc_keep hHeld.2 b1⟩
                clear hK
                (try simp only [Act.put, List.setIfInBounds_toArray, List.set_cons_zero, List.set_cons_succ, List.getElem_toArray, List.getElem_cons_zero, List.getElem_cons_succ])
                refine wpAnyH_take (i := 14) (v := ?v1_12) rfl (by kernel_rfl) (by kernel_rfl) (by kernel_rfl) (fun _ _ _ h => h) (Or.inl ⟨by rfl, ?hy1_12⟩) (by assumption) ?rest1_12
                case hy1_12 =>
                  intro w hSw
                  (try dsimp only at hSw)
                  go_simp
                  try with_reducible rfl
                simp only [Act.put, List.setIfInBounds_toArray, List.set_cons_zero, List.set_cons_succ, List.getElem_toArray, List.getElem_cons_zero, List.getElem_cons_succ]
                refine wpAnyH_take (i := 15) (v := ?v1_13) rfl (by kernel_rfl) (by kernel_rfl) (by kernel_rfl) (fun _ _ _ h => h) (Or.inl ⟨by rfl, ?hy1_13⟩) (by assumption) ?rest1_13
                case hy1_13 =>
                  intro w hSw
                  (try dsimp only at hSw)
                  go_simp
                  try with_reducible rfl
                simp only [Act.put, List.setIfInBounds_toArray, List.set_cons_zero, List.set_cons_succ, List.getElem_toArray, List.getElem_cons_zero, List.getElem_cons_succ]
                refine wpAnyH_done (by kernel_rfl) ?_ _
                refine NoPanic.normal ?_
                have hfin : Hid (sbox wr (w.heap.size + 1) (w.alloc (Obj.cells #[.int .i64 OL, .int .i64 NL, .string os, .string ns, .slice (some ⟨b, o, none⟩) st.length c] 31)) 1 T M s.d F _) := hHeld.1
                clear hHeld
                go_wp2_with fail
                go_meet
                exact ⟨rfl, hfin.out⟩
              exact AllReadyH.nil
            exact AllReadyH.nil
          refine AllReadyH.cons rfl (fun K hK => ?_) ?_
          · go_simp
            refine (hn.out _ _ (by omega)).mono ?_
            rintro e v1 ⟨rfl, b1⟩
            (try go_wp2_with fail)
            refine hK.out _ _ ?_ (fun hHeld => ?_)
            · exact sbox_below hsr hsb0 b1
            clear hK
            (try simp only [Act.put, List.setIfInBounds_toArray, List.set_cons_zero, List.set_cons_succ, List.getElem_toArray, List.getElem_cons_zero, List.getElem_cons_succ])
            refine wpAnyH_ready (rs := [4, 13]) (by kernel_rfl) (by simp) ?_
            refine AllReadyH.cons rfl (fun K hK => ?_) ?_
            · go_simp
              refine hK.out _ _ ?_ (fun hHeld => ?_)
              · exact sbox_alloc hsr hHeld _
              clear hK
              (try simp only [Act.put, List.setIfInBounds_toArray, List.set_cons_zero, List.set_cons_succ, List.getElem_toArray, List.getElem_cons_zero, List.getElem_cons_succ])
              refine weaken_with (S' := fun w' => (wr.heap.size < w'.heap.size ∧ Hid (Below (w.heap.size + 1) (w.alloc (Obj.cells #[.int .i64 OL, .int .i64 NL, .string os, .string ns, .slice (some ⟨b, o, none⟩) st.length c] 31)) w') ∧ w'.cell? ⟨wr.heap.size, 0, none⟩ = some (.int .i64 1) ∧ w'.cell? ⟨wr.heap.size, 1, none⟩ = some (.int .i64 T) ∧ w'.cell? ⟨wr.heap.size, 2, none⟩ = some (.int .i64 M) ∧ w'.cell? ⟨wr.heap.size, 3, none⟩ = some (.string s.d) ∧ w'.cell? ⟨wr.heap.size, 4, none⟩ = some (.int .i64 F)) ∧ v1.heap.size < w'.heap.size ∧ w'.cell? ⟨v1.heap.size, 0, none⟩ = some (.int .u8 (IntKind.u8.wrap 1))) (fun _ h => h.1) ⟨hHeld, by simp, by simp [go_sem]⟩ (fun hHeld2 => ?_)
              refine wpAnyH_take (i := 5) (v := ?v1_14) rfl (by kernel_rfl) (by kernel_rfl) (by kernel_rfl) (fun _ _ _ h => h) (Or.inl ⟨by rfl, ?hy1_14⟩) (by assumption) ?rest1_14
              case hy1_14 =>
                intro w hSw
                (try dsimp only at hSw)
                go_simp
                try with_reducible rfl
              simp only [Act.put, List.setIfInBounds_toArray, List.set_cons_zero, List.set_cons_succ, List.getElem_toArray, List.getElem_cons_zero, List.getElem_cons_succ]
              refine wpAnyH_take (i := 6) (v := ?v1_15) rfl (by kernel_rfl) (by kernel_rfl) (by kernel_rfl) (fun _ _ _ h => h) (Or.inl ⟨by rfl, ?hy1_15⟩) (by assumption) ?rest1_15
              case hy1_15 =>
                intro w hSw
                (try dsimp only at hSw)
                go_simp
                try with_reducible rfl
              simp only [Act.put, List.setIfInBounds_toArray, List.set_cons_zero, List.set_cons_succ, List.getElem_toArray, List.getElem_cons_zero, List.getElem_cons_succ]
              refine wpAnyH_take (i := 10) (v := ?v1_16) rfl (by kernel_rfl) (by kernel_rfl) (by kernel_rfl) (fun _ _ _ h => h) (Or.inl ⟨by rfl, ?hy1_16⟩) (by assumption) ?rest1_16
              case hy1_16 =>
                intro w hSw
                (try dsimp only at hSw)
                go_simp
                try with_reducible rfl
              simp only [Act.put, List.setIfInBounds_toArray, List.set_cons_zero, List.set_cons_succ, List.getElem_toArray, List.getElem_cons_zero, List.getElem_cons_succ]
              refine wpAnyH_ready (rs := [13]) (by kernel_rfl) (by simp) ?_
              refine AllReadyH.cons rfl (fun K hK => ?_) ?_
              · go_simp
                refine (hn.out _ _ (by omega)).mono ?_
                rintro e v1 ⟨rfl, b1⟩
                (try go_wp2_with fail)
                refine hK.out _ _ ?_ (fun hHeld => ?_)
                · exact ⟨sbox_below hsr hHeld2.1 b1, slc_keep hHeld2.2 b1⟩
                clear hK
                (try simp only [Act.put, List.setIfInBounds_toArray, List.set_cons_zero, List.set_cons_succ, List.getElem_toArray, List.getElem_cons_zero, List.getElem_cons_succ])
                refine wpAnyH_take (i := 14) (v := ?v1_17) rfl (by kernel_rfl) (by kernel_rfl) (by kernel_rfl) (fun _ _ _ h => h) (Or.inl ⟨by rfl, ?hy1_17⟩) (by assumption) ?rest1_17
                case hy1_17 =>
                  intro w hSw
                  (try dsimp only at hSw)
                  go_simp
                  try with_reducible rfl
                simp only [Act.put, List.setIfInBounds_toArray, List.set_cons_zero, List.set_cons_succ, List.getElem_toArray, List.getElem_cons_zero, List.getElem_cons_succ]
                refine wpAnyH_take (i := 15) (v := ?v1_18) rfl (by kernel_rfl) (by kernel_rfl) (by kernel_rfl) (fun _ _ _ h => h) (Or.inl ⟨by rfl, ?hy1_18⟩) (by assumption) ?rest1_18
                case hy1_18 =>
                  intro w hSw
                  (try dsimp only at hSw)
                  go_simp
                  try with_reducible rfl
                simp only [Act.put, List.setIfInBounds_toArray, List.set_cons_zero, List.set_cons_succ, List.getElem_toArray, List.getElem_cons_zero, List.getElem_cons_succ]
                refine wpAnyH_done (by kernel_rfl) ?_ _
                refine NoPanic.normal ?_
                have hfin : Hid (sbox wr (w.heap.size + 1) (w.alloc (Obj.cells #[.int .i64 OL, .int .i64 NL, .string os, .string ns, .slice (some ⟨b, o, none⟩) st.length c] 31)) 1 T M s.d F _) := hHeld.1
                clear hHeld
                go_wp2_with fail
                go_meet
                exact ⟨rfl, hfin.out⟩
              exact AllReadyH.nil
            refine AllReadyH.cons rfl (fun K hK => ?_) ?_
            · go_simp
              refine (hn.out _ _ (by omega)).mono ?_
              rintro e v1 ⟨rfl, b1⟩
              (try go_wp2_with fail)
              refine hK.out _ _ ?_ (fun hHeld => ?_)
              · exact sbox_below hsr hHeld b1
              clear hK
              (try simp only [Act.put, List.setIfInBounds_toArray, List.set_cons_zero, List.set_cons_succ, List.getElem_toArray, List.getElem_cons_zero, List.getElem_cons_succ])
              refine wpAnyH_ready (rs := [4]) (by kernel_rfl) (by simp) ?_
              refine AllReadyH.cons rfl (fun K hK => ?_) ?_
              · go_simp
                refine hK.out _ _ ?_ (fun hHeld => ?_)
                · exact sbox_alloc hsr hHeld _
                clear hK
                (try simp only [Act.put, List.setIfInBounds_toArray, List.set_cons_zero, List.set_cons_succ, List.getElem_toArray, List.getElem_cons_zero, List.getElem_cons_succ])
                refine weaken_with (S' := fun w' => (wr.heap.size < w'.heap.size ∧ Hid (Below (w.heap.size + 1) (w.alloc (Obj.cells #[.int .i64 OL, .int .i64 NL, .string os, .string ns, .slice (some ⟨b, o, none⟩) st.length c] 31)) w') ∧ w'.cell? ⟨wr.heap.size, 0, none⟩ = some (.int .i64 1) ∧ w'.cell? ⟨wr.heap.size, 1, none⟩ = some (.int .i64 T) ∧ w'.cell? ⟨wr.heap.size, 2, none⟩ = some (.int .i64 M) ∧ w'.cell? ⟨wr.heap.size, 3, none⟩ = some (.string s.d) ∧ w'.cell? ⟨wr.heap.size, 4, none⟩ = some (.int .i64 F)) ∧ v1.heap.size < w'.heap.size ∧ w'.cell? ⟨v1.heap.size, 0, none⟩ = some (.int .u8 (IntKind.u8.wrap 1))) (fun _ h => h.1) ⟨hHeld, by simp, by simp [go_sem]⟩ (fun hHeld2 => ?_)
                refine wpAnyH_take (i := 5) (v := ?v1_19) rfl (by kernel_rfl) (by kernel_rfl) (by kernel_rfl) (fun _ _ _ h => h) (Or.inl ⟨by rfl, ?hy1_19⟩) (by assumption) ?rest1_19
                case hy1_19 =>
                  intro w hSw
                  (try dsimp only at hSw)
                  go_simp
                  try with_reducible rfl
                simp only [Act.put, List.setIfInBounds_toArray, List.set_cons_zero, List.set_cons_succ, List.getElem_toArray, List.getElem_cons_zero, List.getElem_cons_succ]
                refine wpAnyH_take (i := 6) (v := ?v1_20) rfl (by kernel_rfl) (by kernel_rfl) (by kernel_rfl) (fun _ _ _ h => h) (Or.inl ⟨by rfl, ?hy1_20⟩) (by assumption) ?rest1_20
                case hy1_20 =>
                  intro w hSw
                  (try dsimp only at hSw)
                  go_simp
                  try with_reducible rfl
                simp only [Act.put, List.setIfInBounds_toArray, List.set_cons_zero, List.set_cons_succ, List.getElem_toArray, List.getElem_cons_zero, List.getElem_cons_succ]
                refine wpAnyH_take (i := 10) (v := ?v1_21) rfl (by kernel_rfl) (by kernel_rfl) (by kernel_rfl) (fun _ _ _ h => h) (Or.inl ⟨by rfl, ?hy1_21⟩) (by assumption) ?rest1_21
                case hy1_21 =>
                  intro w hSw
                  (try dsimp only at hSw)
                  go_simp
                  try with_reducible rfl
                simp only [Act.put, List.setIfInBounds_toArray, List.set_cons_zero, List.set_cons_succ, List.getElem_toArray, List.getElem_cons_zero, List.getElem_cons_succ]
                refine wpAnyH_take (i := 14) (v := ?v1_22) rfl (by kernel_rfl) (by kernel_rfl) (by kernel_rfl) (fun _ _ _ h => h) (Or.inl ⟨by rfl, ?hy1_22⟩) (by assumption) ?rest1_22
                case hy1_22 =>
                  intro w hSw
                  (try dsimp only at hSw)
                  go_simp
                  try with_reducible rfl
                simp only [Act.put, List.setIfInBounds_toArray, List.set_cons_zero, List.set_cons_succ, List.getElem_toArray, List.getElem_cons_zero, List.getElem_cons_succ]
                refine wpAnyH_take (i := 15) (v := ?v1_23) rfl (by kernel_rfl) (by kernel_rfl) (by kernel_rfl) (fun _ _ _ h => h) (Or.inl ⟨by rfl, ?hy1_23⟩) (by assumption) ?rest1_23
                case hy1_23 =>
                  intro w hSw
                  (try dsimp only at hSw)
                  go_simp
                  try with_reducible rfl
                simp only [Act.put, List.setIfInBounds_toArray, List.set_cons_zero, List.set_cons_succ, List.getElem_toArray, List.getElem_cons_zero, List.getElem_cons_succ]
                refine wpAnyH_done (by kernel_rfl) ?_ _
                refine NoPanic.normal ?_
                have hfin : Hid (sbox wr (w.heap.size + 1) (w.alloc (Obj.cells #[.int .i64 OL, .int .i64 NL, .string os, .string ns, .slice (some ⟨b, o, none⟩) st.length c] 31)) 1 T M s.d F _) := hHeld2.1
                clear hHeld2
                go_wp2_with fail
                go_meet
                exact ⟨rfl, hfin.out⟩
              exact AllReadyH.nil
            exact AllReadyH.nil
          exact AllReadyH.nil
        case rest =>
          obtain ⟨rfl, hsb⟩ := hcut
          have hsbH : Hid (sbox wr (w.heap.size + 1) (w.alloc (Obj.cells #[.int .i64 OL, .int .i64 NL, .string os, .string ns, .slice (some ⟨b, o, none⟩) st.length c] 31)) 1 T M s.d F wc) := hsb
          obtain ⟨g0, g1, d0, d1, d2, d3, d4⟩ := hsb
          obtain ⟨Y4, hY4⟩ : ∃ Y : ByteArray, Y = Y3 ++ s.d := ⟨_, rfl⟩
          have A4 : ∀ w, (Op.stringOp .add Y3 s.d).run Try.prog w = .ok (.string Y4) w := fun w => by rw [hY4]; exact run_string_add_sum w _ _ (by omega)
          have y4 : Y4.size ≤ X.size + 4011 := by rw [hY4, ByteArray.size_append]; omega
          have HZ : Hid (Y4.data.toList = HB ++ (st.take (k + 1)).flatMap stepB) := by
            show _ = _
            rw [hY4, Pl.take_at hs, List.flatMap_append, ← List.append_assoc, ← hX.out]
            simp only [ByteArray.data_append, Array.toList_append, HY.out, List.flatMap_cons, List.flatMap_nil, List.append_nil, HS.out]
            simp only [List.append_assoc]
            rfl
          clear hY4
          go_wp2_with fail
          exact ⟨⟨k + 1, Y4, by omega, by go_num, rfl, by omega, HZ, g1⟩, by simp [intOf]; omega⟩
      · rw [hk] at c0 HS
        have hsb0 : sbox wr (w.heap.size + 1) (w.alloc (Obj.cells #[.int .i64 OL, .int .i64 NL, .string os, .string ns, .slice (some ⟨b, o, none⟩) st.length c] 31)) 3 T M s.d F (wr.alloc (Obj.cells #[.int .i64 3, .int .i64 T, .int .i64 M, .string s.d, .int .i64 F] 40)).drew :=
          sbox_drew (sbox_new (hbel.out.alloc (by omega) _))
        obtain ⟨Y1, hY1⟩ : ∃ Y : ByteArray, Y = X ++ strOfNums [3] := ⟨_, rfl⟩
        obtain ⟨Y2, hY2⟩ : ∃ Y : ByteArray, Y = Y1 ++ strOfNums (Pl.num T) := ⟨_, rfl⟩
        obtain ⟨Y3, hY3⟩ : ∃ Y : ByteArray, Y = Y2 ++ strOfNums (Pl.num M) := ⟨_, rfl⟩
        have y1 : Y1.size = X.size + 1 := by rw [hY1, ByteArray.size_append]; rfl
        have y2 : Y2.size ≤ X.size + 6 := by rw [hY2, ByteArray.size_append]; omega
        have y3 : Y3.size ≤ X.size + 11 := by rw [hY3, ByteArray.size_append]; omega
        have A1 : ∀ w, (Op.stringOp .add X (strOfNums [3])).run Try.prog w = .ok (.string Y1) w := fun w => by rw [hY1]; exact run_string_add_sum w _ _ (by rw [show (strOfNums [3]).size = 1 from rfl]; omega)
        have A2 : ∀ w, (Op.stringOp .add Y1 (strOfNums (Pl.num T))).run Try.prog w = .ok (.string Y2) w := fun w => by rw [hY2]; exact run_string_add_sum w _ _ (by omega)
        have A3 : ∀ w, (Op.stringOp .add Y2 (strOfNums (Pl.num M))).run Try.prog w = .ok (.string Y3) w := fun w => by rw [hY3]; exact run_string_add_sum w _ _ (by omega)
        have HY : Hid (Y3.data.toList = X.data.toList ++ ([UInt8.ofNat 3] ++ nb T ++ nb M)) := by
          show _ = _
          rw [hY3, hY2, hY1]
          simp only [nb_str, ByteArray.data_append, Array.toList_append, List.append_assoc]
          rfl
        clear hY1 hY2 hY3
        have kc := conv_3
        go_wp2_with fail
        go_cut [3] from 25 to 63 (fun r wx => r = .string Y3 ∧ sbox wr (w.heap.size + 1) (w.alloc (Obj.cells #[.int .i64 OL, .int .i64 NL, .string os, .string ns, .slice (some ⟨b, o, none⟩) st.length c] 31)) 3 T M s.d F wx)
        case first =>
          have hsbn : sbox wr (w.heap.size + 1) (w.alloc (Obj.cells #[.int .i64 OL, .int .i64 NL, .string os, .string ns, .slice (some ⟨b, o, none⟩) st.length c] 31)) 3 T M s.d F (wr.alloc (Obj.cells #[.int .i64 3, .int .i64 T, .int .i64 M, .string s.d, .int .i64 F] 40)) := sbox_new (hbel.out.alloc (by omega) _)
          refine wp_region_noPanic ?_
          refine wp_region_held_drew (S := fun w' => wr.heap.size < w'.heap.size ∧ Hid (Below (w.heap.size + 1) (w.alloc (Obj.cells #[.int .i64 OL, .int .i64 NL, .string os, .string ns, .slice (some ⟨b, o, none⟩) st.length c] 31)) w') ∧ w'.cell? ⟨wr.heap.size, 0, none⟩ = some (.int .i64 3) ∧ w'.cell? ⟨wr.heap.size, 1, none⟩ = some (.int .i64 T) ∧ w'.cell? ⟨wr.heap.size, 2, none⟩ = some (.int .i64 M) ∧ w'.cell? ⟨wr.heap.size, 3, none⟩ = some (.string s.d) ∧ w'.cell? ⟨wr.heap.size, 4, none⟩ = some (.int .i64 F)) (by kernel_rfl) hsb0 (fun hHeld => ?_)
          refine wpAnyH_take (i := 0) (v := ?v3_1) rfl (by kernel_rfl) (by kernel_rfl) (by kernel_rfl) (fun _ _ _ h => h) (Or.inl ⟨by rfl, ?hy3_1⟩) (by assumption) ?rest3_1
          case hy3_1 =>
            intro w hSw
            (try dsimp only at hSw)
            go_simp
            try with_reducible rfl
          simp only [Act.put, List.setIfInBounds_toArray, List.set_cons_zero, List.set_cons_succ, List.getElem_toArray, List.getElem_cons_zero, List.getElem_cons_succ]
          refine wpAnyH_take (i := 1) (v := ?v3_2) rfl (by kernel_rfl) (by kernel_rfl) (by kernel_rfl) (fun _ _ _ h => h) (Or.inl ⟨by rfl, ?hy3_2⟩) (by assumption) ?rest3_2
          case hy3_2 =>
            intro w hSw
            (try dsimp only at hSw)
            go_simp
            try with_reducible rfl
          simp only [Act.put, List.setIfInBounds_toArray, List.set_cons_zero, List.set_cons_succ, List.getElem_toArray, List.getElem_cons_zero, List.getElem_cons_succ]
          refine wpAnyH_take (i := 2) (v := ?v3_3) rfl (by kernel_rfl) (by kernel_rfl) (by kernel_rfl) (fun _ _ _ h => h) (Or.inl ⟨by rfl, ?hy3_3⟩) (by assumption) ?rest3_3
          case hy3_3 =>
            intro w hSw
            (try dsimp only at hSw)
            go_simp
            try with_reducible rfl
          simp only [Act.put, List.setIfInBounds_toArray, List.set_cons_zero, List.set_cons_succ, List.getElem_toArray, List.getElem_cons_zero, List.getElem_cons_succ]
          refine wpAnyH_take (i := 3) (v := ?v3_4) rfl (by kernel_rfl) (by kernel_rfl) (by kernel_rfl) (fun _ _ _ h => h) (Or.inl ⟨by rfl, ?hy3_4⟩) (by assumption) ?rest3_4
          case hy3_4 =>
            intro w hSw
            (try dsimp only at hSw)
            go_simp
            try with_reducible rfl
          simp only [Act.put, List.setIfInBounds_toArray, List.set_cons_zero, List.set_cons_succ, List.getElem_toArray, List.getElem_cons_zero, List.getElem_cons_succ]
          refine wpAnyH_take (i := 7) (v := ?v3_5) rfl (by kernel_rfl) (by kernel_rfl) (by kernel_rfl) (fun _ _ _ h => h) (Or.inl ⟨by rfl, ?hy3_5⟩) (by assumption) ?rest3_5
          case hy3_5 =>
            intro w hSw
            (try dsimp only at hSw)
            go_simp
            try with_reducible rfl
          simp only [Act.put, List.setIfInBounds_toArray, List.set_cons_zero, List.set_cons_succ, List.getElem_toArray, List.getElem_cons_zero, List.getElem_cons_succ]
          refine wpAnyH_take (i := 8) (v := ?v3_6) rfl (by kernel_rfl) (by kernel_rfl) (by kernel_rfl) (fun _ _ _ h => h) (Or.inl ⟨by rfl, ?hy3_6⟩) (by assumption) ?rest3_6
          case hy3_6 =>
            intro w hSw
            (try dsimp only at hSw)
            go_simp
            try with_reducible rfl
          simp only [Act.put, List.setIfInBounds_toArray, List.set_cons_zero, List.set_cons_succ, List.getElem_toArray, List.getElem_cons_zero, List.getElem_cons_succ]
          refine wpAnyH_take (i := 11) (v := ?v3_7) rfl (by kernel_rfl) (by kernel_rfl) (by kernel_rfl) (fun _ _ _ h => h) (Or.inl ⟨by rfl, ?hy3_7⟩) (by assumption) ?rest3_7
          case hy3_7 =>
            intro w hSw
            (try dsimp only at hSw)
            go_simp
            try with_reducible rfl
          simp only [Act.put, List.setIfInBounds_toArray, List.set_cons_zero, List.set_cons_succ, List.getElem_toArray, List.getElem_cons_zero, List.getElem_cons_succ]
          refine wpAnyH_take (i := 12) (v := ?v3_8) rfl (by kernel_rfl) (by kernel_rfl) (by kernel_rfl) (fun _ _ _ h => h) (Or.inl ⟨by rfl, ?hy3_8⟩) (by assumption) ?rest3_8
          case hy3_8 =>
            intro w hSw
            (try dsimp only at hSw)
            go_simp
            try with_reducible rfl
          simp only [Act.put, List.setIfInBounds_toArray, List.set_cons_zero, List.set_cons_succ, List.getElem_toArray, List.getElem_cons_zero, List.getElem_cons_succ]
          refine wpAnyH_ready (rs := [4, 9]) (by kernel_rfl) (by simp) ?_
          refine AllReadyH.cons rfl (fun K hK => ?_) ?_
          · go_simp
            refine hK.out _ _ ?_ (fun hHeld => ?_)
            · first | exact sbox_alloc hsr hsb0 _ | exact sbox_drew (sbox_alloc hsr hsbn _)
            clear hK
            (try simp only [Act.put, List.setIfInBounds_toArray, List.set_cons_zero, List.set_cons_succ, List.getElem_toArray, List.getElem_cons_zero, List.getElem_cons_succ])
            refine weaken_with (S' := fun w' => (wr.heap.size < w'.heap.size ∧ Hid (Below (w.heap.size + 1) (w.alloc (Obj.cells #[.int .i64 OL, .int .i64 NL, .string os, .string ns, .slice (some ⟨b, o, none⟩) st.length c] 31)) w') ∧ w'.cell? ⟨wr.heap.size, 0, none⟩ = some (.int .i64 3) ∧ w'.cell? ⟨wr.heap.size, 1, none⟩ = some (.int .i64 T) ∧ w'.cell? ⟨wr.heap.size, 2, none⟩ = some (.int .i64 M) ∧ w'.cell? ⟨wr.heap.size, 3, none⟩ = some (.string s.d) ∧ w'.cell? ⟨wr.heap.size, 4, none⟩ = some (.int .i64 F)) ∧ (wr.heap.size + 1) < w'.heap.size ∧ w'.cell? ⟨(wr.heap.size + 1), 0, none⟩ = some (.int .u8 (IntKind.u8.wrap 3))) (fun _ h => h.1) ⟨hHeld, by simp, by simp [go_sem]⟩ (fun hHeld2 => ?_)
            refine wpAnyH_take (i := 5) (v := ?v3_9) rfl (by kernel_rfl) (by kernel_rfl) (by kernel_rfl) (fun _ _ _ h => h) (Or.inl ⟨by rfl, ?hy3_9⟩) (by assumption) ?rest3_9
            case hy3_9 =>
              intro w hSw
              (try dsimp only at hSw)
              go_simp
              try with_reducible rfl
            simp only [Act.put, List.setIfInBounds_toArray, List.set_cons_zero, List.set_cons_succ, List.getElem_toArray, List.getElem_cons_zero, List.getElem_cons_succ]
            refine wpAnyH_take (i := 6) (v := ?v3_10) rfl (by kernel_rfl) (by kernel_rfl) (by kernel_rfl) (fun _ _ _ h => h) (Or.inl ⟨by rfl, ?hy3_10⟩) (by assumption) ?rest3_10
            case hy3_10 =>
              intro w hSw
              (try dsimp only at hSw)
              go_simp
              try with_reducible rfl
            simp only [Act.put, List.setIfInBounds_toArray, List.set_cons_zero, List.set_cons_succ, List.getElem_toArray, List.getElem_cons_zero, List.getElem_cons_succ]
            refine wpAnyH_ready (rs := [9]) (by kernel_rfl) (by simp) ?_
            refine AllReadyH.cons rfl (fun K hK => ?_) ?_
            · go_simp
              refine (hn.out _ _ (by omega)).mono ?_
              rintro e v1 ⟨rfl, b1⟩
              (try go_wp2_with fail)
              refine hK.out _ _ ?_ (fun hHeld => ?_)
              · exact ⟨sbox_below hsr hHeld2.1 b1, slc_keep hHeld2.2 b1⟩
              clear hK
              (try simp only [Act.put, List.setIfInBounds_toArray, List.set_cons_zero, List.set_cons_succ, List.getElem_toArray, List.getElem_cons_zero, List.getElem_cons_succ])
              refine wpAnyH_take (i := 10) (v := ?v3_11) rfl (by kernel_rfl) (by kernel_rfl) (by kernel_rfl) (fun _ _ _ h => h) (Or.inl ⟨by rfl, ?hy3_11⟩) (by assumption) ?rest3_11
              case hy3_11 =>
                intro w hSw
                (try dsimp only at hSw)
                go_simp
                try with_reducible rfl
              simp only [Act.put, List.setIfInBounds_toArray, List.set_cons_zero, List.set_cons_succ, List.getElem_toArray, List.getElem_cons_zero, List.getElem_cons_succ]
              refine wpAnyH_ready (rs := [13]) (by kernel_rfl) (by simp) ?_
              refine AllReadyH.cons rfl (fun K hK => ?_) ?_
              · go_simp
                refine (hn.out _ _ (by omega)).mono ?_
                rintro e v1 ⟨rfl, b1⟩
                (try go_wp2_with fail)
                refine hK.out _ _ ?_ (fun hHeld => ?_)
                · exact ⟨sbox_below hsr hHeld.1 b1, slc_keep hHeld.2 b1⟩
                clear hK
                (try simp only [Act.put, List.setIfInBounds_toArray, List.set_cons_zero, List.set_cons_succ, List.getElem_toArray, List.getElem_cons_zero, List.getElem_cons_succ])
                refine wpAnyH_take (i := 14) (v := ?v3_12) rfl (by kernel_rfl) (by kernel_rfl) (by kernel_rfl) (fun _ _ _ h => h) (Or.inl ⟨by rfl, ?hy3_12⟩) (by assumption) ?rest3_12
                case hy3_12 =>
                  intro w hSw
                  (try dsimp only at hSw)
                  go_simp
                  try with_reducible rfl
                simp only [Act.put, List.setIfInBounds_toArray, List.set_cons_zero, List.set_cons_succ, List.getElem_toArray, List.getElem_cons_zero, List.getElem_cons_succ]
                refine wpAnyH_take (i := 15) (v := ?v3_13) rfl (by kernel_rfl) (by kernel_rfl) (by kernel_rfl) (fun _ _ _ h => h) (Or.inl ⟨by rfl, ?hy3_13⟩) (by assumption) ?rest3_13
                case hy3_13 =>
                  intro w hSw
                  (try dsimp only at hSw)
                  go_simp
                  try with_reducible rfl
                simp only [Act.put, List.setIfInBounds_toArray, List.set_cons_zero, List.set_cons_succ, List.getElem_toArray, List.getElem_cons_zero, List.getElem_cons_succ]
                refine wpAnyH_done (by kernel_rfl) ?_ _
                refine NoPanic.normal ?_
                have hfin : Hid (sbox wr (w.heap.size + 1) (w.alloc (Obj.cells #[.int .i64 OL, .int .i64 NL, .string os, .string ns, .slice (some ⟨b, o, none⟩) st.length c] 31)) 3 T M s.d F _) := hHeld.1
                clear hHeld
                go_wp2_with fail
                go_meet
                exact ⟨rfl, hfin.out⟩
              exact AllReadyH.nil
            exact AllReadyH.nil
          refine AllReadyH.cons rfl (fun K hK => ?_) ?_
          · go_simp
            refine (hn.out _ _ (by omega)).mono ?_
            rintro e v1 ⟨rfl, b1⟩
            (try go_wp2_with fail)
            refine hK.out _ _ ?_ (fun hHeld => ?_)
            · exact sbox_below hsr hsb0 b1
            clear hK
            (try simp only [Act.put, List.setIfInBounds_toArray, List.set_cons_zero, List.set_cons_succ, List.getElem_toArray, List.getElem_cons_zero, List.getElem_cons_succ])
            refine wpAnyH_ready (rs := [4, 13]) (by kernel_rfl) (by simp) ?_
            refine AllReadyH.cons rfl (fun K hK => ?_) ?_
            · go_simp
              refine hK.out _ _ ?_ (fun hHeld => ?_)
              · exact sbox_alloc hsr hHeld _
              clear hK
              (try simp only [Act.put, List.setIfInBounds_toArray, List.set_cons_zero, List.set_cons_succ, List.getElem_toArray, List.getElem_cons_zero, List.getElem_cons_succ])
              refine weaken_with (S' := fun w' => (wr.heap.size < w'.heap.size ∧ Hid (Below (w.heap.size + 1) (w.alloc (Obj.cells #[.int .i64 OL, .int .i64 NL, .string os, .string ns, .slice (some ⟨b, o, none⟩) st.length c] 31)) w') ∧ w'.cell? ⟨wr.heap.size, 0, none⟩ = some (.int .i64 3) ∧ w'.cell? ⟨wr.heap.size, 1, none⟩ = some (.int .i64 T) ∧ w'.cell? ⟨wr.heap.size, 2, none⟩ = some (.int .i64 M) ∧ w'.cell? ⟨wr.heap.size, 3, none⟩ = some (.string s.d) ∧ w'.cell? ⟨wr.heap.size, 4, none⟩ = some (.int .i64 F)) ∧ v1.heap.size < w'.heap.size ∧ w'.cell? ⟨v1.heap.size, 0, none⟩ = some (.int .u8 (IntKind.u8.wrap 3))) (fun _ h => h.1) ⟨hHeld, by simp, by simp [go_sem]⟩ (fun hHeld2 => ?_)
              refine wpAnyH_take (i := 5) (v := ?v3_14) rfl (by kernel_rfl) (by kernel_rfl) (by kernel_rfl) (fun _ _ _ h => h) (Or.inl ⟨by rfl, ?hy3_14⟩) (by assumption) ?rest3_14
              case hy3_14 =>
                intro w hSw
                (try dsimp only at hSw)
                go_simp
                try with_reducible rfl
              simp only [Act.put, List.setIfInBounds_toArray, List.set_cons_zero, List.set_cons_succ, List.getElem_toArray, List.getElem_cons_zero, List.getElem_cons_succ]
              refine wpAnyH_take (i := 6) (v := ?v3_15) rfl (by kernel_rfl) (by kernel_rfl) (by kernel_rfl) (fun _ _ _ h => h) (Or.inl ⟨by rfl, ?hy3_15⟩) (by assumption) ?rest3_15
              case hy3_15 =>
                intro w hSw
                (try dsimp only at hSw)
                go_simp
                try with_reducible rfl
              simp only [Act.put, List.setIfInBounds_toArray, List.set_cons_zero, List.set_cons_succ, List.getElem_toArray, List.getElem_cons_zero, List.getElem_cons_succ]
              refine wpAnyH_take (i := 10) (v := ?v3_16) rfl (by kernel_rfl) (by kernel_rfl) (by kernel_rfl) (fun _ _ _ h => h) (Or.inl ⟨by rfl, ?hy3_16⟩) (by assumption) ?rest3_16
              case hy3_16 =>
                intro w hSw
                (try dsimp only at hSw)
                go_simp
                try with_reducible rfl
              simp only [Act.put, List.setIfInBounds_toArray, List.set_cons_zero, List.set_cons_succ, List.getElem_toArray, List.getElem_cons_zero, List.getElem_cons_succ]
              refine wpAnyH_ready (rs := [13]) (by kernel_rfl) (by simp) ?_
              refine AllReadyH.cons rfl (fun K hK => ?_) ?_
              · go_simp
                refine (hn.out _ _ (by omega)).mono ?_
                rintro e v1 ⟨rfl, b1⟩
                (try go_wp2_with fail)
                refine hK.out _ _ ?_ (fun hHeld => ?_)
                · exact ⟨sbox_below hsr hHeld2.1 b1, slc_keep hHeld2.2 b1⟩
                clear hK
                (try simp only [Act.put, List.setIfInBounds_toArray, List.set_cons_zero, List.set_cons_succ, List.getElem_toArray, List.getElem_cons_zero, List.getElem_cons_succ])
                refine wpAnyH_take (i := 14) (v := ?v3_17) rfl (by kernel_rfl) (by kernel_rfl) (by kernel_rfl) (fun _ _ _ h => h) (Or.inl ⟨by rfl, ?hy3_17⟩) (by assumption) ?rest3_17
                case hy3_17 =>
                  intro w hSw
                  (try dsimp only at hSw)
                  go_simp
                  try with_reducible rfl
                simp only [Act.put, List.setIfInBounds_toArray, List.set_cons_zero, List.set_cons_succ, List.getElem_toArray, List.getElem_cons_zero, List.getElem_cons_succ]
                refine wpAnyH_take (i := 15) (v := ?v3_18) rfl (by kernel_rfl) (by kernel_rfl) (by kernel_rfl) (fun _ _ _ h => h) (Or.inl ⟨by rfl, ?hy3_18⟩) (by assumption) ?rest3_18
                case hy3_18 =>
                  intro w hSw
                  (try dsimp only at hSw)
                  go_simp
                  try with_reducible rfl
                simp only [Act.put, List.setIfInBounds_toArray, List.set_cons_zero, List.set_cons_succ, List.getElem_toArray, List.getElem_cons_zero, List.getElem_cons_succ]
                refine wpAnyH_done (by kernel_rfl) ?_ _
                refine NoPanic.normal ?_
                have hfin : Hid (sbox wr (w.heap.size + 1) (w.alloc (Obj.cells #[.int .i64 OL, .int .i64 NL, .string os, .string ns, .slice (some ⟨b, o, none⟩) st.length c] 31)) 3 T M s.d F _) := hHeld.1
                clear hHeld
                go_wp2_with fail
                go_meet
                exact ⟨rfl, hfin.out⟩
              exact AllReadyH.nil
            refine AllReadyH.cons rfl (fun K hK => ?_) ?_
            · go_simp
              refine (hn.out _ _ (by omega)).mono ?_
              rintro e v1 ⟨rfl, b1⟩
              (try go_wp2_with fail)
              refine hK.out _ _ ?_ (fun hHeld => ?_)
              · exact sbox_below hsr hHeld b1
              clear hK
              (try simp only [Act.put, List.setIfInBounds_toArray, List.set_cons_zero, List.set_cons_succ, List.getElem_toArray, List.getElem_cons_zero, List.getElem_cons_succ])
              refine wpAnyH_ready (rs := [4]) (by kernel_rfl) (by simp) ?_
              refine AllReadyH.cons rfl (fun K hK => ?_) ?_
              · go_simp
                refine hK.out _ _ ?_ (fun hHeld => ?_)
                · exact sbox_alloc hsr hHeld _
                clear hK
                (try simp only [Act.put, List.setIfInBounds_toArray, List.set_cons_zero, List.set_cons_succ, List.getElem_toArray, List.getElem_cons_zero, List.getElem_cons_succ])
                refine weaken_with (S' := fun w' => (wr.heap.size < w'.heap.size ∧ Hid (Below (w.heap.size + 1) (w.alloc (Obj.cells #[.int .i64 OL, .int .i64 NL, .string os, .string ns, .slice (some ⟨b, o, none⟩) st.length c] 31)) w') ∧ w'.cell? ⟨wr.heap.size, 0, none⟩ = some (.int .i64 3) ∧ w'.cell? ⟨wr.heap.size, 1, none⟩ = some (.int .i64 T) ∧ w'.cell? ⟨wr.heap.size, 2, none⟩ = some (.int .i64 M) ∧ w'.cell? ⟨wr.heap.size, 3, none⟩ = some (.string s.d) ∧ w'.cell? ⟨wr.heap.size, 4, none⟩ = some (.int .i64 F)) ∧ v1.heap.size < w'.heap.size ∧ w'.cell? ⟨v1.heap.size, 0, none⟩ = some (.int .u8 (IntKind.u8.wrap 3))) (fun _ h => h.1) ⟨hHeld, by simp, by simp [go_sem]⟩ (fun hHeld2 => ?_)
                refine wpAnyH_take (i := 5) (v := ?v3_19) rfl (by kernel_rfl) (by kernel_rfl) (by kernel_rfl) (fun _ _ _ h => h) (Or.inl ⟨by rfl, ?hy3_19⟩) (by assumption) ?rest3_19
                case hy3_19 =>
                  intro w hSw
                  (try dsimp only at hSw)
                  go_simp
                  try with_reducible rfl
                simp only [Act.put, List.setIfInBounds_toArray, List.set_cons_zero, List.set_cons_succ, List.getElem_toArray, List.getElem_cons_zero, List.getElem_cons_succ]
                refine wpAnyH_take (i := 6) (v := ?v3_20) rfl (by kernel_rfl) (by kernel_rfl) (by kernel_rfl) (fun _ _ _ h => h) (Or.inl ⟨by rfl, ?hy3_20⟩) (by assumption) ?rest3_20
                case hy3_20 =>
                  intro w hSw
                  (try dsimp only at hSw)
                  go_simp
                  try with_reducible rfl
                simp only [Act.put, List.setIfInBounds_toArray, List.set_cons_zero, List.set_cons_succ, List.getElem_toArray, List.getElem_cons_zero, List.getElem_cons_succ]
                refine wpAnyH_take (i := 10) (v := ?v3_21) rfl (by kernel_rfl) (by kernel_rfl) (by kernel_rfl) (fun _ _ _ h => h) (Or.inl ⟨by rfl, ?hy3_21⟩) (by assumption) ?rest3_21
                case hy3_21 =>
                  intro w hSw
                  (try dsimp only at hSw)
                  go_simp
                  try with_reducible rfl
                simp only [Act.put, List.setIfInBounds_toArray, List.set_cons_zero, List.set_cons_succ, List.getElem_toArray, List.getElem_cons_zero, List.getElem_cons_succ]
                refine wpAnyH_take (i := 14) (v := ?v3_22) rfl (by kernel_rfl) (by kernel_rfl) (by kernel_rfl) (fun _ _ _ h => h) (Or.inl ⟨by rfl, ?hy3_22⟩) (by assumption) ?rest3_22
                case hy3_22 =>
                  intro w hSw
                  (try dsimp only at hSw)
                  go_simp
                  try with_reducible rfl
                simp only [Act.put, List.setIfInBounds_toArray, List.set_cons_zero, List.set_cons_succ, List.getElem_toArray, List.getElem_cons_zero, List.getElem_cons_succ]
                refine wpAnyH_take (i := 15) (v := ?v3_23) rfl (by kernel_rfl) (by kernel_rfl) (by kernel_rfl) (fun _ _ _ h => h) (Or.inl ⟨by rfl, ?hy3_23⟩) (by assumption) ?rest3_23
                case hy3_23 =>
                  intro w hSw
                  (try dsimp only at hSw)
                  go_simp
                  try with_reducible rfl
                simp only [Act.put, List.setIfInBounds_toArray, List.set_cons_zero, List.set_cons_succ, List.getElem_toArray, List.getElem_cons_zero, List.getElem_cons_succ]
                refine wpAnyH_done (by kernel_rfl) ?_ _
                refine NoPanic.normal ?_
                have hfin : Hid (sbox wr (w.heap.size + 1) (w.alloc (Obj.cells #[.int .i64 OL, .int .i64 NL, .string os, .string ns, .slice (some ⟨b, o, none⟩) st.length c] 31)) 3 T M s.d F _) := hHeld2.1
                clear hHeld2
                go_wp2_with fail
                go_meet
                exact ⟨rfl, hfin.out⟩
              exact AllReadyH.nil
            exact AllReadyH.nil
          exact AllReadyH.nil
        case rest =>
          obtain ⟨rfl, hsb⟩ := hcut
          have hsbH : Hid (sbox wr (w.heap.size + 1) (w.alloc (Obj.cells #[.int .i64 OL, .int .i64 NL, .string os, .string ns, .slice (some ⟨b, o, none⟩) st.length c] 31)) 3 T M s.d F wc) := hsb
          obtain ⟨g0, g1, d0, d1, d2, d3, d4⟩ := hsb
          obtain ⟨Y4, hY4⟩ : ∃ Y : ByteArray, Y = Y3 ++ strOfNums (Pl.num F) := ⟨_, rfl⟩
          have A4 : ∀ w, (Op.stringOp .add Y3 (strOfNums (Pl.num F))).run Try.prog w = .ok (.string Y4) w := fun w => by rw [hY4]; exact run_string_add_sum w _ _ (by omega)
          have y4 : Y4.size ≤ X.size + 16 := by rw [hY4, ByteArray.size_append]; omega
          have HZ : Hid (Y4.data.toList = HB ++ (st.take (k + 1)).flatMap stepB) := by
            show _ = _
            rw [hY4, Pl.take_at hs, List.flatMap_append, ← List.append_assoc, ← hX.out, nb_str]
            simp only [ByteArray.data_append, Array.toList_append, HY.out, List.flatMap_cons, List.flatMap_nil, List.append_nil, HS.out, if_true]
            simp only [List.append_assoc]
            rfl
          clear hY4
          go_wp2_with fail
          refine (hn.out F _ (by omega)).mono ?_
          rintro e v2 ⟨rfl, b2⟩
          have hb2 : Hid (Below (w.heap.size + 1) (w.alloc (Obj.cells #[.int .i64 OL, .int .i64 NL, .string os, .string ns, .slice (some ⟨b, o, none⟩) st.length c] 31)) v2) := g1.out.trans (b2.mono (by omega))
          clear b2
          go_wp2_with fail
          exact ⟨⟨k + 1, Y4, by omega, by go_num, rfl, by omega, HZ, hb2⟩, by simp [intOf]; omega⟩
    · have hke : k = st.length := by omega
      subst hke
      have hlP : Hid (PB = X.data.toList) := by
        show _ = _
        rw [HP.out, hX.out, List.take_length]
      go_wp2_with fail
      go_ret
      exact ⟨by rw [hlP.out]; rfl, ((Below.refl w.heap.size w).alloc (Nat.le_refl _) _).trans (hbel.out.mono (by omega))⟩

end Go.Proofs.Ytjjmcnippjpclaa
