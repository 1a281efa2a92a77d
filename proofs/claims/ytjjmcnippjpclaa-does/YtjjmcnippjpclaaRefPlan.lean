/-
  The walk of the document's ReadPlan.
-/
import Derived.Test.YtjjmcnippjpclaaRefPlanF
namespace Go.Proofs.Ytjjmcnippjpclaa

open Go.RowKit

set_option maxRecDepth 100000 in
set_option maxHeartbeats 8000000 in
theorem refPlan_any (s : ByteArray) (w : World) (hs : s.size ≤ 140737488355328) :
    Calls Try.prog 16 #[.string s] w fun e w' => Below w.heap.size w w' ∧ ((pErr s ≠ 0 ∧ e = .returned (.tuple #[.agg #[.int .i64 0, .int .i64 0, .string ⟨#[]⟩, .string ⟨#[]⟩, .slice none 0 0], .int .i64 (pErr s)])) ∨
      (pErr s = 0 ∧ ∃ v, e = .returned (.tuple #[.agg #[.int .i64 (hOL s), .int .i64 (hNL s), .string (hOS s), .string (hNS s), v], .int .i64 0]) ∧ w'.ownsRow w.heap.size 40 5 v (hN s) (stCells (pSt s)))) := by
  have hm : s.size ≤ maxLen := by unfold maxLen; omega
  have bad : hOk s = false → pErr s = 3 := fun h => by simp [pErr, pOk, h]
  have i1 : qIn s (hq1 s) := pieceQ_in _ _ _
  have i2 : qIn s (hq2 s) := numQ_in _ _ i1
  have i3 : qIn s (hq3 s) := pieceQ_in _ _ _
  have i4 : qIn s (hq4 s) := numQ_in _ _ i3
  have i5 : qIn s (hq5 s) := pieceQ_in _ _ _
  have I6 : Hid (qIn s (hq6 s)) := numQ_in _ _ i5
  have n5 : hq5 s = none → hq6 s = none := fun h => by rw [hq6, h]; rfl
  have n3 : hq3 s = none → hq6 s = none := fun h => n5 (by rw [hq5, hq4, h]; rfl)
  have n1 : hq1 s = none → hq6 s = none := fun h => n3 (by rw [hq3, hq2, h]; rfl)
  have FM : Hid (¬ (pieceS s (some 0) 4).toList = [84, 76, 82, 73] → pErr s = 3) := fun h => bad (hOk_mark h)
  have F1 : Hid (hq1 s = none → pErr s = 3) := fun h => bad (hOk_fail (n1 h))
  have F3 : Hid (hq3 s = none → pErr s = 3) := fun h => bad (hOk_fail (n3 h))
  have F5 : Hid (hq5 s = none → pErr s = 3) := fun h => bad (hOk_fail (n5 h))
  have F6 : Hid (hq6 s = none → pErr s = 3) := fun h => bad (hOk_fail h)
  have FN : Hid (2000 < hN s → pErr s = 3) := fun h => bad (hOk_many h)
  have C1 : Hid (∀ v, Calls Try.prog 34 #[.string s, .int .i64 (qI (some 0)), .int .i64 4] v fun e w' => e = .returned (.tuple #[.string (pieceS s (some 0) 4), .int .i64 (qI (hq1 s))]) ∧ Below v.heap.size v w') := fun v => cut_any s (some 0) 4 v hs (by omega) (fun a h => by cases h; omega)
  have C2 : Hid (∀ v (a : Nat), hq1 s = some a → Calls Try.prog 33 #[.string s, .int .i64 a] v fun e w' => e = .returned (.tuple #[.int .i64 (hOL s), .int .i64 (qI (hq2 s))]) ∧ Below v.heap.size v w') := fun v a h => by
    have := rread_q s a v hs (i1 a h)
    rw [← h] at this; exact this
  have C3 : Hid (∀ v, Calls Try.prog 34 #[.string s, .int .i64 (qI (hq2 s)), .int .i64 4] v fun e w' => e = .returned (.tuple #[.string (hOS s), .int .i64 (qI (hq3 s))]) ∧ Below v.heap.size v w') := fun v => cut_any s (hq2 s) 4 v hs (by omega) i2
  have C4 : Hid (∀ v (a : Nat), hq3 s = some a → Calls Try.prog 33 #[.string s, .int .i64 a] v fun e w' => e = .returned (.tuple #[.int .i64 (hNL s), .int .i64 (qI (hq4 s))]) ∧ Below v.heap.size v w') := fun v a h => by
    have := rread_q s a v hs (i3 a h)
    rw [← h] at this; exact this
  have C5 : Hid (∀ v, Calls Try.prog 34 #[.string s, .int .i64 (qI (hq4 s)), .int .i64 4] v fun e w' => e = .returned (.tuple #[.string (hNS s), .int .i64 (qI (hq5 s))]) ∧ Below v.heap.size v w') := fun v => cut_any s (hq4 s) 4 v hs (by omega) i4
  have C6 : Hid (∀ v (a : Nat), hq5 s = some a → Calls Try.prog 33 #[.string s, .int .i64 a] v fun e w' => e = .returned (.tuple #[.int .i64 (hN s), .int .i64 (qI (hq6 s))]) ∧ Below v.heap.size v w') := fun v a h => by
    have := rread_q s a v hs (i5 a h)
    rw [← h] at this; exact this
  have hNle : hN s ≤ 2147483647 := numV_le _ _
  have ER : Hid (ErrOf s (hOL s) (hNL s) (hOS s) (hNS s) (hN s) (hq6 s) (pErr s)) := errOf s
  have MM : Hid ((pieceS s (some 0) 4).toList = [84, 76, 82, 73] → marked s) := fun h => h
  rw [show pSt s = stepsV s (hN s) (hq6 s) from rfl]
  clear bad i1 i2 i3 i4 i5 n5 n3 n1
  generalize pErr s = PE at *
  generalize pieceS s (some 0) 4 = MK at *
  generalize hq1 s = q1 at *
  generalize hq2 s = q2 at *
  generalize hq3 s = q3 at *
  generalize hq4 s = q4 at *
  generalize hq5 s = q5 at *
  generalize hq6 s = q6 at *
  generalize hOL s = OL at *
  generalize hNL s = NL at *
  generalize hOS s = OS at *
  generalize hNS s = NS at *
  generalize hN s = N at *
  go_enter Try.func16, Try.ntmps16
  go_wp2_with fail
  have Y0 : Hid (((w.alloc (Obj.cells #[.int .i64 0, .int .i64 0, .string ⟨#[]⟩, .string ⟨#[]⟩, .slice none 0 0] 31)).alloc (Obj.cells #[.int .i64 0, .int .i64 0, .string ⟨#[]⟩, .string ⟨#[]⟩, .slice none 0 0] 31)).heap[w.heap.size]? = some (.cells #[.int .i64 0, .int .i64 0, .string ⟨#[]⟩, .string ⟨#[]⟩, .slice none 0 0] 31 (0, 0))) := by
    show _ = _
    rw [Below.heap_alloc _ _ _ (by simp)]; exact heap_alloc_new w _
  have X0 : Hid (((w.alloc (Obj.cells #[.int .i64 0, .int .i64 0, .string ⟨#[]⟩, .string ⟨#[]⟩, .slice none 0 0] 31)).alloc (Obj.cells #[.int .i64 0, .int .i64 0, .string ⟨#[]⟩, .string ⟨#[]⟩, .slice none 0 0] 31)).heap[w.heap.size + 1]? = some (.cells #[.int .i64 0, .int .i64 0, .string ⟨#[]⟩, .string ⟨#[]⟩, .slice none 0 0] 31 (0, 0))) := by
    have := heap_alloc_new (w.alloc (Obj.cells #[.int .i64 0, .int .i64 0, .string ⟨#[]⟩, .string ⟨#[]⟩, .slice none 0 0] 31)) (Obj.cells #[.int .i64 0, .int .i64 0, .string ⟨#[]⟩, .string ⟨#[]⟩, .slice none 0 0] 31)
    rw [World.size_alloc] at this
    exact this
  have B0 : Hid (Below w.heap.size w ((w.alloc (Obj.cells #[.int .i64 0, .int .i64 0, .string ⟨#[]⟩, .string ⟨#[]⟩, .slice none 0 0] 31)).alloc (Obj.cells #[.int .i64 0, .int .i64 0, .string ⟨#[]⟩, .string ⟨#[]⟩, .slice none 0 0] 31))) := ((Below.refl _ _).alloc (Nat.le_refl _) _).alloc (by simp) _
  have s0 : w.heap.size + 2 ≤ ((w.alloc (Obj.cells #[.int .i64 0, .int .i64 0, .string ⟨#[]⟩, .string ⟨#[]⟩, .slice none 0 0] 31)).alloc (Obj.cells #[.int .i64 0, .int .i64 0, .string ⟨#[]⟩, .string ⟨#[]⟩, .slice none 0 0] 31)).heap.size := by simp
  generalize (w.alloc (Obj.cells #[.int .i64 0, .int .i64 0, .string ⟨#[]⟩, .string ⟨#[]⟩, .slice none 0 0] 31)).alloc (Obj.cells #[.int .i64 0, .int .i64 0, .string ⟨#[]⟩, .string ⟨#[]⟩, .slice none 0 0] 31) = v0 at *
  refine (C1.out _).mono ?_
  rintro e v1 ⟨rfl, b1⟩
  have Y1 : Hid (v1.heap[w.heap.size]? = some (.cells #[.int .i64 0, .int .i64 0, .string ⟨#[]⟩, .string ⟨#[]⟩, .slice none 0 0] 31 (0, 0))) := by
    show _ = _
    rw [b1.block _ (lt_of_heap Y0.out)]; exact Y0.out
  have X1 : Hid (v1.heap[w.heap.size + 1]? = some (.cells #[.int .i64 0, .int .i64 0, .string ⟨#[]⟩, .string ⟨#[]⟩, .slice none 0 0] 31 (0, 0))) := by
    show _ = _
    rw [b1.block _ (lt_of_heap X0.out)]; exact X0.out
  have B1 : Hid (Below w.heap.size w v1) := B0.out.trans (b1.mono B0.out.size)
  have s1 : w.heap.size + 2 ≤ v1.heap.size := Nat.le_trans s0 b1.size
  clear b1 Y0 X0 B0 s0
  cases q1 with
  | none =>
    have e1 : qI none = -1 := rfl
    have hPE : PE = 3 := F1.out rfl
    subst hPE
    clear FM F1 F3 F5 F6 FN
    obtain ⟨r0, r1, r2, r3, r4, rf⟩ := box31 Y1.out
    have g0 := rf 0
    have g1 := rf 1
    have g2 := rf 2
    have g3 := rf 3
    have g4 := rf 4
    clear rf
    go_wp2_with fail
    obtain ⟨z0, z1, z2, z3, z4, _⟩ := box31 (fill31 Y1.out (.int .i64 0) (.int .i64 0) (.string ⟨#[]⟩) (.string ⟨#[]⟩) (.slice none 0 0))
    refine bodyPost_ret (v := .tuple #[.agg #[.int .i64 0, .int .i64 0, .string ⟨#[]⟩, .string ⟨#[]⟩, .slice none 0 0], .int .i64 3]) (by simp [results, Try.results16, go_sem, z0, z1, z2, z3, z4]) rfl ?_
    exact ⟨((((B1.out.setCell (Nat.le_refl _) _).setCell (Nat.le_refl _) _).setCell (Nat.le_refl _) _).setCell (Nat.le_refl _) _).setCell (Nat.le_refl _) _, .inl ⟨by decide, rfl⟩⟩
  | some a1 =>
    have ea1 : qI (some a1) = (a1 : Int) := rfl
    have da1 : decide ((a1 : Int) < 0) = false := decide_eq_false (by omega)
    have D2 : Hid (∀ v, Calls Try.prog 33 #[.string s, .int .i64 a1] v fun e w' => e = .returned (.tuple #[.int .i64 OL, .int .i64 (qI q2)]) ∧ Below v.heap.size v w') := fun v => C2.out v a1 rfl
    clear C1 C2
    by_cases hmk : MK.toList = [84, 76, 82, 73]
    · have hmb : (MK.toList == [84, 76, 82, 73]) = true := by rw [hmk]; rfl
      have MK2 : Hid (marked s) := MM.out hmk
      clear FM F1 MM
      go_wp2_with fail
      refine (D2.out _).mono ?_
      rintro e v2 ⟨rfl, b2⟩
      have Y2 : Hid (v2.heap[w.heap.size]? = some (.cells #[.int .i64 0, .int .i64 0, .string ⟨#[]⟩, .string ⟨#[]⟩, .slice none 0 0] 31 (0, 0))) := by
        show _ = _
        rw [b2.block _ (lt_of_heap Y1.out)]; exact Y1.out
      have X2 : Hid (v2.heap[w.heap.size + 1]? = some (.cells #[.int .i64 0, .int .i64 0, .string ⟨#[]⟩, .string ⟨#[]⟩, .slice none 0 0] 31 (0, 0))) := by
        show _ = _
        rw [b2.block _ (lt_of_heap X1.out)]; exact X1.out
      have B2 : Hid (Below w.heap.size w v2) := B1.out.trans (b2.mono B1.out.size)
      have s2 : w.heap.size + 2 ≤ v2.heap.size := Nat.le_trans s1 b2.size
      clear b2 Y1 X1 B1 s1
      clear ea1 da1 D2 hmk hmb
      go_wp2_with fail
      refine (C3.out _).mono ?_
      rintro e v3 ⟨rfl, b3⟩
      have Y3 : Hid (v3.heap[w.heap.size]? = some (.cells #[.int .i64 0, .int .i64 0, .string ⟨#[]⟩, .string ⟨#[]⟩, .slice none 0 0] 31 (0, 0))) := by
        show _ = _
        rw [b3.block _ (lt_of_heap Y2.out)]; exact Y2.out
      have X3 : Hid (v3.heap[w.heap.size + 1]? = some (.cells #[.int .i64 0, .int .i64 0, .string ⟨#[]⟩, .string ⟨#[]⟩, .slice none 0 0] 31 (0, 0))) := by
        show _ = _
        rw [b3.block _ (lt_of_heap X2.out)]; exact X2.out
      have B3 : Hid (Below w.heap.size w v3) := B2.out.trans (b3.mono B2.out.size)
      have s3 : w.heap.size + 2 ≤ v3.heap.size := Nat.le_trans s2 b3.size
      clear b3 Y2 X2 B2 s2
      cases q3 with
      | none =>
        have e1 : qI none = -1 := rfl
        have hPE : PE = 3 := F3.out rfl
        subst hPE
        clear F3 F5 F6 FN
        obtain ⟨r0, r1, r2, r3, r4, rf⟩ := box31 Y3.out
        have g0 := rf 0
        have g1 := rf 1
        have g2 := rf 2
        have g3 := rf 3
        have g4 := rf 4
        clear rf
        go_wp2_with fail
        obtain ⟨z0, z1, z2, z3, z4, _⟩ := box31 (fill31 Y3.out (.int .i64 0) (.int .i64 0) (.string ⟨#[]⟩) (.string ⟨#[]⟩) (.slice none 0 0))
        refine bodyPost_ret (v := .tuple #[.agg #[.int .i64 0, .int .i64 0, .string ⟨#[]⟩, .string ⟨#[]⟩, .slice none 0 0], .int .i64 3]) (by simp [results, Try.results16, go_sem, z0, z1, z2, z3, z4]) rfl ?_
        exact ⟨((((B3.out.setCell (Nat.le_refl _) _).setCell (Nat.le_refl _) _).setCell (Nat.le_refl _) _).setCell (Nat.le_refl _) _).setCell (Nat.le_refl _) _, .inl ⟨by decide, rfl⟩⟩
      | some a3 =>
        have ea3 : qI (some a3) = (a3 : Int) := rfl
        have da3 : decide ((a3 : Int) < 0) = false := decide_eq_false (by omega)
        have D4 : Hid (∀ v, Calls Try.prog 33 #[.string s, .int .i64 a3] v fun e w' => e = .returned (.tuple #[.int .i64 NL, .int .i64 (qI q4)]) ∧ Below v.heap.size v w') := fun v => C4.out v a3 rfl
        clear C3 C4 F3
        go_wp2_with fail
        refine (D4.out _).mono ?_
        rintro e v4 ⟨rfl, b4⟩
        have Y4 : Hid (v4.heap[w.heap.size]? = some (.cells #[.int .i64 0, .int .i64 0, .string ⟨#[]⟩, .string ⟨#[]⟩, .slice none 0 0] 31 (0, 0))) := by
          show _ = _
          rw [b4.block _ (lt_of_heap Y3.out)]; exact Y3.out
        have X4 : Hid (v4.heap[w.heap.size + 1]? = some (.cells #[.int .i64 0, .int .i64 0, .string ⟨#[]⟩, .string ⟨#[]⟩, .slice none 0 0] 31 (0, 0))) := by
          show _ = _
          rw [b4.block _ (lt_of_heap X3.out)]; exact X3.out
        have B4 : Hid (Below w.heap.size w v4) := B3.out.trans (b4.mono B3.out.size)
        have s4 : w.heap.size + 2 ≤ v4.heap.size := Nat.le_trans s3 b4.size
        clear b4 Y3 X3 B3 s3
        clear ea3 da3 D4
        go_wp2_with fail
        refine (C5.out _).mono ?_
        rintro e v5 ⟨rfl, b5⟩
        have Y5 : Hid (v5.heap[w.heap.size]? = some (.cells #[.int .i64 0, .int .i64 0, .string ⟨#[]⟩, .string ⟨#[]⟩, .slice none 0 0] 31 (0, 0))) := by
          show _ = _
          rw [b5.block _ (lt_of_heap Y4.out)]; exact Y4.out
        have X5 : Hid (v5.heap[w.heap.size + 1]? = some (.cells #[.int .i64 0, .int .i64 0, .string ⟨#[]⟩, .string ⟨#[]⟩, .slice none 0 0] 31 (0, 0))) := by
          show _ = _
          rw [b5.block _ (lt_of_heap X4.out)]; exact X4.out
        have B5 : Hid (Below w.heap.size w v5) := B4.out.trans (b5.mono B4.out.size)
        have s5 : w.heap.size + 2 ≤ v5.heap.size := Nat.le_trans s4 b5.size
        clear b5 Y4 X4 B4 s4
        cases q5 with
        | none =>
          have e1 : qI none = -1 := rfl
          have hPE : PE = 3 := F5.out rfl
          subst hPE
          clear F5 F6 FN
          obtain ⟨r0, r1, r2, r3, r4, rf⟩ := box31 Y5.out
          have g0 := rf 0
          have g1 := rf 1
          have g2 := rf 2
          have g3 := rf 3
          have g4 := rf 4
          clear rf
          go_wp2_with fail
          obtain ⟨z0, z1, z2, z3, z4, _⟩ := box31 (fill31 Y5.out (.int .i64 0) (.int .i64 0) (.string ⟨#[]⟩) (.string ⟨#[]⟩) (.slice none 0 0))
          refine bodyPost_ret (v := .tuple #[.agg #[.int .i64 0, .int .i64 0, .string ⟨#[]⟩, .string ⟨#[]⟩, .slice none 0 0], .int .i64 3]) (by simp [results, Try.results16, go_sem, z0, z1, z2, z3, z4]) rfl ?_
          exact ⟨((((B5.out.setCell (Nat.le_refl _) _).setCell (Nat.le_refl _) _).setCell (Nat.le_refl _) _).setCell (Nat.le_refl _) _).setCell (Nat.le_refl _) _, .inl ⟨by decide, rfl⟩⟩
        | some a5 =>
          have ea5 : qI (some a5) = (a5 : Int) := rfl
          have da5 : decide ((a5 : Int) < 0) = false := decide_eq_false (by omega)
          have D6 : Hid (∀ v, Calls Try.prog 33 #[.string s, .int .i64 a5] v fun e w' => e = .returned (.tuple #[.int .i64 N, .int .i64 (qI q6)]) ∧ Below v.heap.size v w') := fun v => C6.out v a5 rfl
          clear C5 C6 F5
          go_wp2_with fail
          refine (D6.out _).mono ?_
          rintro e v6 ⟨rfl, b6⟩
          have Y6 : Hid (v6.heap[w.heap.size]? = some (.cells #[.int .i64 0, .int .i64 0, .string ⟨#[]⟩, .string ⟨#[]⟩, .slice none 0 0] 31 (0, 0))) := by
            show _ = _
            rw [b6.block _ (lt_of_heap Y5.out)]; exact Y5.out
          have X6 : Hid (v6.heap[w.heap.size + 1]? = some (.cells #[.int .i64 0, .int .i64 0, .string ⟨#[]⟩, .string ⟨#[]⟩, .slice none 0 0] 31 (0, 0))) := by
            show _ = _
            rw [b6.block _ (lt_of_heap X5.out)]; exact X5.out
          have B6 : Hid (Below w.heap.size w v6) := B5.out.trans (b6.mono B5.out.size)
          have s6 : w.heap.size + 2 ≤ v6.heap.size := Nat.le_trans s5 b6.size
          clear b6 Y5 X5 B5 s5
          clear ea5 da5 D6
          cases q6 with
          | none =>
            have e1 : qI none = -1 := rfl
            have hPE : PE = 3 := F6.out rfl
            subst hPE
            clear F6 FN
            obtain ⟨r0, r1, r2, r3, r4, rf⟩ := box31 Y6.out
            have g0 := rf 0
            have g1 := rf 1
            have g2 := rf 2
            have g3 := rf 3
            have g4 := rf 4
            clear rf
            go_wp2_with fail
            obtain ⟨z0, z1, z2, z3, z4, _⟩ := box31 (fill31 Y6.out (.int .i64 0) (.int .i64 0) (.string ⟨#[]⟩) (.string ⟨#[]⟩) (.slice none 0 0))
            refine bodyPost_ret (v := .tuple #[.agg #[.int .i64 0, .int .i64 0, .string ⟨#[]⟩, .string ⟨#[]⟩, .slice none 0 0], .int .i64 3]) (by simp [results, Try.results16, go_sem, z0, z1, z2, z3, z4]) rfl ?_
            exact ⟨((((B6.out.setCell (Nat.le_refl _) _).setCell (Nat.le_refl _) _).setCell (Nat.le_refl _) _).setCell (Nat.le_refl _) _).setCell (Nat.le_refl _) _, .inl ⟨by decide, rfl⟩⟩
          | some a6 =>
            have ea6 : qI (some a6) = (a6 : Int) := rfl
            have da6 : decide ((a6 : Int) < 0) = false := decide_eq_false (by omega)
            clear F6
            by_cases hbig : 2000 < N
            · have dn : decide ((2000 : Int) < (N : Int)) = true := decide_eq_true (by omega)
              have hPE : PE = 3 := FN.out hbig
              subst hPE
              clear FN
              obtain ⟨r0, r1, r2, r3, r4, rf⟩ := box31 Y6.out
              have g0 := rf 0
              have g1 := rf 1
              have g2 := rf 2
              have g3 := rf 3
              have g4 := rf 4
              clear rf
              go_wp2_with fail
              obtain ⟨z0, z1, z2, z3, z4, _⟩ := box31 (fill31 Y6.out (.int .i64 0) (.int .i64 0) (.string ⟨#[]⟩) (.string ⟨#[]⟩) (.slice none 0 0))
              refine bodyPost_ret (v := .tuple #[.agg #[.int .i64 0, .int .i64 0, .string ⟨#[]⟩, .string ⟨#[]⟩, .slice none 0 0], .int .i64 3]) (by simp [results, Try.results16, go_sem, z0, z1, z2, z3, z4]) rfl ?_
              exact ⟨((((B6.out.setCell (Nat.le_refl _) _).setCell (Nat.le_refl _) _).setCell (Nat.le_refl _) _).setCell (Nat.le_refl _) _).setCell (Nat.le_refl _) _, .inl ⟨by decide, rfl⟩⟩
            · have dn : decide ((2000 : Int) < (N : Int)) = false := decide_eq_false (by omega)
              clear FN
              clear ea6 da6
              obtain ⟨p0, p1, p2, p3, p4, pf⟩ := box31 X6.out
              have f0 := pf 0
              have f1 := pf 1
              have f2 := pf 2
              have f3 := pf 3
              have f4 := pf 4
              clear pf
              have ea6 : qI (some a6) = (a6 : Int) := rfl
              have da6 : decide ((a6 : Int) < 0) = false := decide_eq_false (by omega)
              have X7 : Hid (((((v6.setCell ⟨w.heap.size + 1, 0, none⟩ (.int .i64 OL)).setCell ⟨w.heap.size + 1, 2, none⟩ (.string OS)).setCell ⟨w.heap.size + 1, 1, none⟩ (.int .i64 NL)).setCell ⟨w.heap.size + 1, 3, none⟩ (.string NS)).heap[w.heap.size + 1]? = some (.cells #[.int .i64 OL, .int .i64 NL, .string OS, .string NS, .slice none 0 0] 31 (0, 0))) := by
                have h1 := Joins.block_setCell (i := 0) X6.out (.int .i64 OL)
                have h2 := Joins.block_setCell (i := 2) h1 (.string OS)
                have h3 := Joins.block_setCell (i := 1) h2 (.int .i64 NL)
                have h4 := Joins.block_setCell (i := 3) h3 (.string NS)
                exact h4
              have Y7 : Hid (((((v6.setCell ⟨w.heap.size + 1, 0, none⟩ (.int .i64 OL)).setCell ⟨w.heap.size + 1, 2, none⟩ (.string OS)).setCell ⟨w.heap.size + 1, 1, none⟩ (.int .i64 NL)).setCell ⟨w.heap.size + 1, 3, none⟩ (.string NS)).heap[w.heap.size]? = some (.cells #[.int .i64 0, .int .i64 0, .string ⟨#[]⟩, .string ⟨#[]⟩, .slice none 0 0] 31 (0, 0))) := by
                show _ = _
                rw [Below.heap_setCell _ _ _ _ (by simp), Below.heap_setCell _ _ _ _ (by simp), Below.heap_setCell _ _ _ _ (by simp), Below.heap_setCell _ _ _ _ (by simp)]
                exact Y6.out
              have B7 : Hid (Below w.heap.size w ((((v6.setCell ⟨w.heap.size + 1, 0, none⟩ (.int .i64 OL)).setCell ⟨w.heap.size + 1, 2, none⟩ (.string OS)).setCell ⟨w.heap.size + 1, 1, none⟩ (.int .i64 NL)).setCell ⟨w.heap.size + 1, 3, none⟩ (.string NS))) := (((B6.out.setCell (by simp) _).setCell (by simp) _).setCell (by simp) _).setCell (by simp) _
              have a6s : a6 ≤ s.size := I6.out a6 rfl
              clear I6 B6 X6 Y6
              go_wp2_with fail
              clear p0 p1 p2 p3 p4 f0 f1 f2 f3 f4
              rename_i KK hKK
              refine loop16 s w PE OL NL N a6 OS NS hs (by omega) MK2 ER KK _ rfl ?hK _ a6s ⟨X7.out, Y7.out⟩ B7 _ _ _ _ _ _ _ _ _ _ _ _ _ _ _ _ _ _ _ _ _ _ _ _ _ _ _ _ _ _ _ _ _ _ _ _ _ _ _ _ _ _ _ _ _ _ _ _ _ _ _ _ _ _ _ _ _ _ _ _ _ _ _ _ _ _ _ _ _ _ _ _ _ _ _ _ _ _ _ _ _ _ _ _ _ _ _ _ _ _ _ _ _ _ _ _ _ _ _ _ _ _ _ _ _ _ _ _ _ _ _ _ _ _ _ _ _ _ _ _ _ _ _ _ _ _ _ _ _ _ _ _ _ _ _ _ _ _ _ _ _ _ _ _ _ _ _ _ _ _ _ _ _ _ _ _ _ _ _ _ _ _ _ _ _ _ _ _ _ _ _ _ _ _ _
              case hK => exact fun a w h => hKK a w h
    · have hmb : (MK.toList == [84, 76, 82, 73]) = false := by simpa using hmk
      have hPE : PE = 3 := FM.out hmk
      subst hPE
      clear FM F1 F3 F5 F6 FN
      obtain ⟨r0, r1, r2, r3, r4, rf⟩ := box31 Y1.out
      have g0 := rf 0
      have g1 := rf 1
      have g2 := rf 2
      have g3 := rf 3
      have g4 := rf 4
      clear rf
      go_wp2_with fail
      obtain ⟨z0, z1, z2, z3, z4, _⟩ := box31 (fill31 Y1.out (.int .i64 0) (.int .i64 0) (.string ⟨#[]⟩) (.string ⟨#[]⟩) (.slice none 0 0))
      refine bodyPost_ret (v := .tuple #[.agg #[.int .i64 0, .int .i64 0, .string ⟨#[]⟩, .string ⟨#[]⟩, .slice none 0 0], .int .i64 3]) (by simp [results, Try.results16, go_sem, z0, z1, z2, z3, z4]) rfl ?_
      exact ⟨((((B1.out.setCell (Nat.le_refl _) _).setCell (Nat.le_refl _) _).setCell (Nat.le_refl _) _).setCell (Nat.le_refl _) _).setCell (Nat.le_refl _) _, .inl ⟨by decide, rfl⟩⟩

end Go.Proofs.Ytjjmcnippjpclaa
