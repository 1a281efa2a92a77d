/-
  The walk of Read: of every text the plan that it says, or why it says none.
-/
import Derived.Test.YtjjmcnippjpclaaReadPlan
import Derived.Test.YtjjmcnippjpclaaMays
namespace Go.Proofs.Ytjjmcnippjpclaa

open Go.RowKit

/-- the steps of a patch, as the program takes them. -/
def pSt (s : ByteArray) : List Pl.St := stepsV s (hN s) (hq6 s)

/-- has the patch the form, its steps aside? -/
def pOk (s : ByteArray) : Bool := hOk s && decide (stepsQ s (hN s) (hq6 s) = some s.size)

/-- what Read answers. -/
def pErr (s : ByteArray) : Int := if pOk s && Pl.full (hOL s) (hNL s) (hOS s) (hNS s) (pSt s) then (if Pl.ord [] (pSt s) then 0 else 6) else 3

theorem own_slice {u : World} {B : Nat} {v : Value} {st : List Pl.St} {n : Nat} (h : u.ownsRow B 40 5 v n (stCells st)) (hn : st.length = n) (h0 : 0 < u.heap.size) : ∃ a b o c, v = .slice a st.length c ∧ stepsAt u a b o st ∧ (b = 0 ∨ B ≤ b) := by
  subst hn
  rcases h.2 with ⟨hv, hz⟩ | ⟨g, cap, cur, hv, hB, hg, hle, _, _, htake⟩
  · have : st = [] := List.eq_nil_of_length_eq_zero hz
    subst this
    exact ⟨none, 0, 0, 0, hv, ⟨.inl rfl, h0, fun i s hs => by simp at hs⟩, .inl rfl⟩
  · refine ⟨some ⟨g, 0, none⟩, g, 0, cap, hv, ⟨.inr rfl, lt_of_heap hg, ?_⟩, .inr hB⟩
    have e : cur = (stCells st ++ cur.toList.drop (st.length * 5)).toArray := by
      apply Array.ext'
      rw [← htake]
      simp
    rw [e] at hg
    exact stAt_block hg

theorem ownsRow_base {u : World} {B B' : Nat} {v : Value} {n : Nat} {xs : List Value} (hB : B' ≤ B) (h : u.ownsRow B 40 5 v n xs) : u.ownsRow B' 40 5 v n xs := by
  refine ⟨h.1, ?_⟩
  rcases h.2 with hn | ⟨g, cap, cur, hv, hb, rest⟩
  · exact .inl hn
  · exact .inr ⟨g, cap, cur, hv, Nat.le_trans hB hb, rest⟩

theorem full_specs {ol nl : Int} {os ns : ByteArray} {st : List Pl.St} (h : Pl.full ol nl os ns st = true) : ol ≤ 4000 ∧ nl ≤ 4000 ∧ st.length ≤ 2000 ∧ ∀ s ∈ st, Pl.ok ol nl s = true := by
  simp only [Pl.full, Pl.head, Bool.and_eq_true, decide_eq_true_eq] at h
  exact ⟨h.1.1.1.1.1.2, h.1.1.1.1.2.2, h.1.2, Pl.form_ok st [] h.2⟩

set_option maxRecDepth 100000 in
set_option maxHeartbeats 4000000 in
theorem readP_any (s : ByteArray) (w : World) (hs : s.size ≤ 140737488355328) :
    Calls Try.prog 17 #[.string s] w fun e w' => Below w.heap.size w w' ∧ ((pErr s ≠ 0 ∧ e = .returned (.tuple #[.agg #[.int .i64 0, .int .i64 0, .string ⟨#[]⟩, .string ⟨#[]⟩, .slice none 0 0], .int .i64 (pErr s)])) ∨
      (pErr s = 0 ∧ ∃ v, e = .returned (.tuple #[.agg #[.int .i64 (hOL s), .int .i64 (hNL s), .string (hOS s), .string (hNS s), v], .int .i64 0]) ∧ w'.ownsRow w.heap.size 40 5 v (hN s) (stCells (pSt s)))) := by
  have E3 : Hid ((pOk s && Pl.full (hOL s) (hNL s) (hOS s) (hNS s) (pSt s)) = false → pErr s = 3) := fun h => by simp [pErr, h]
  have E6 : Hid (pOk s = true → Pl.full (hOL s) (hNL s) (hOS s) (hNS s) (pSt s) = true → Pl.ord [] (pSt s) = false → pErr s = 6) := fun h h2 h3 => by simp [pErr, h, h2, h3]
  have E0 : Hid (pOk s = true → Pl.full (hOL s) (hNL s) (hOS s) (hNS s) (pSt s) = true → Pl.ord [] (pSt s) = true → pErr s = 0) := fun h h2 h3 => by simp [pErr, h, h2, h3]
  have EO : Hid (pOk s = (hOk s && decide (stepsQ s (hN s) (hq6 s) = some s.size))) := rfl
  have ES : Hid (Pl.full (hOL s) (hNL s) (hOS s) (hNS s) (pSt s) = true → hOL s ≤ 4000 ∧ hNL s ≤ 4000 ∧ (pSt s).length ≤ 2000 ∧ ∀ x ∈ pSt s, Pl.ok (hOL s) (hNL s) x = true) := fun h => by
    have := full_specs h
    exact ⟨by omega, by omega, this.2.2.1, this.2.2.2⟩
  have HL : Hid ((pSt s).length = hN s) := stepsV_length _ _ _
  have hNle : hN s ≤ 2147483647 := numV_le _ _
  have RP : Hid (∀ v, Calls Try.prog 37 #[.string s] v fun e w' => Below v.heap.size v w' ∧ ((hOk s = false ∧ e = .returned (.tuple #[.agg #[.int .i64 0, .int .i64 0, .string ⟨#[]⟩, .string ⟨#[]⟩, .slice none 0 0], .bool false])) ∨
      (hOk s = true ∧ ∃ u, e = .returned (.tuple #[.agg #[.int .i64 (hOL s), .int .i64 (hNL s), .string (hOS s), .string (hNS s), u], .bool (decide (stepsQ s (hN s) (hq6 s) = some s.size))]) ∧ w'.ownsRow v.heap.size 40 5 u (hN s) (stCells (pSt s))))) := fun v => readPlan_any s v hs
  generalize decide (stepsQ s (hN s) (hq6 s) = some s.size) = DQ at *
  generalize hOk s = HO at *
  generalize pErr s = PE at *
  generalize pSt s = st at *
  generalize hOL s = OL at *
  generalize hNL s = NL at *
  generalize hOS s = OS at *
  generalize hNS s = NS at *
  generalize hN s = N at *
  generalize pOk s = PO at *
  go_enter Try.func17, Try.ntmps17
  go_wp2_with fail
  refine (RP.out _).mono ?_
  rintro e v1 ⟨b1, hcase⟩
  have Y1 : Hid (v1.heap[w.heap.size]? = some (.cells #[.int .i64 0, .int .i64 0, .string ⟨#[]⟩, .string ⟨#[]⟩, .slice none 0 0] 31 (0, 0))) := by
    show _ = _
    rw [b1.block _ (by simp)]; exact heap_alloc_new w _
  have B1 : Hid (Below w.heap.size w v1) := ((Below.refl _ _).alloc (Nat.le_refl _) _).trans (b1.mono (by simp))
  have hs1 : w.heap.size + 1 ≤ v1.heap.size := by have := b1.size; simp at this; omega
  obtain ⟨r0, r1, r2, r3, r4, rf⟩ := box31 Y1.out
  have g0 := rf 0
  have g1 := rf 1
  have g2 := rf 2
  have g3 := rf 3
  have g4 := rf 4
  clear rf b1
  rcases hcase with ⟨hHO, rfl⟩ | ⟨hHO, u, rfl, hown⟩
  · have hPE : PE = 3 := E3.out (by rw [EO.out, hHO]; rfl)
    subst hPE
    have Y2 : Hid ((v1.alloc (Obj.cells #[.int .i64 0, .int .i64 0, .string ⟨#[]⟩, .string ⟨#[]⟩, .slice none 0 0] 31)).heap[w.heap.size]? = some (.cells #[.int .i64 0, .int .i64 0, .string ⟨#[]⟩, .string ⟨#[]⟩, .slice none 0 0] 31 (0, 0))) := by
      show _ = _
      rw [Below.heap_alloc _ _ _ (by omega)]; exact Y1.out
    have B2 : Hid (Below w.heap.size w (v1.alloc (Obj.cells #[.int .i64 0, .int .i64 0, .string ⟨#[]⟩, .string ⟨#[]⟩, .slice none 0 0] 31))) := B1.out.alloc (by omega) _
    have q : ∀ (ob : Obj) (j : Nat), (v1.alloc ob).cell? ⟨w.heap.size, j, none⟩ = v1.cell? ⟨w.heap.size, j, none⟩ := fun ob j => World.cell?_of_block (Below.heap_alloc v1 ob _ (by simp; omega))
    have qf : ∀ (ob : Obj) (j : Nat), (v1.alloc ob).frozen? ⟨w.heap.size, j, none⟩ = v1.frozen? ⟨w.heap.size, j, none⟩ := fun ob j => World.frozen?_of_block (Below.heap_alloc v1 ob _ (by simp; omega))
    clear EO hHO E3 E6 E0 ES
    go_wp2_with fail
    obtain ⟨z0, z1, z2, z3, z4, _⟩ := box31 (fill31 Y2.out (.int .i64 0) (.int .i64 0) (.string ⟨#[]⟩) (.string ⟨#[]⟩) (.slice none 0 0))
    refine bodyPost_ret (v := .tuple #[.agg #[.int .i64 0, .int .i64 0, .string ⟨#[]⟩, .string ⟨#[]⟩, .slice none 0 0], .int .i64 3]) (by simp [results, Try.results17, go_sem, z0, z1, z2, z3, z4]) rfl ?_
    exact ⟨((((B2.out.setCell (Nat.le_refl _) _).setCell (Nat.le_refl _) _).setCell (Nat.le_refl _) _).setCell (Nat.le_refl _) _).setCell (Nat.le_refl _) _, .inl ⟨by decide, rfl⟩⟩
  · obtain ⟨a, b, o, c, rfl, hst, hbB⟩ := own_slice hown HL.out (by omega)
    rw [World.size_alloc] at hown hbB
    have Y2 : Hid ((v1.alloc (Obj.cells #[.int .i64 OL, .int .i64 NL, .string OS, .string NS, .slice a st.length c] 31)).heap[w.heap.size]? = some (.cells #[.int .i64 0, .int .i64 0, .string ⟨#[]⟩, .string ⟨#[]⟩, .slice none 0 0] 31 (0, 0))) := by
      show _ = _
      rw [Below.heap_alloc _ _ _ (by omega)]; exact Y1.out
    have B2 : Hid (Below w.heap.size w (v1.alloc (Obj.cells #[.int .i64 OL, .int .i64 NL, .string OS, .string NS, .slice a st.length c] 31))) := B1.out.alloc (by omega) _
    have HS : Hid (stepsAt (v1.alloc (Obj.cells #[.int .i64 OL, .int .i64 NL, .string OS, .string NS, .slice a st.length c] 31)) a b o st) := stepsAt_below hst ((Below.refl _ _).alloc (Nat.le_refl _) _) hst.2.1
    have HO1 : Hid ((v1.alloc (Obj.cells #[.int .i64 OL, .int .i64 NL, .string OS, .string NS, .slice a st.length c] 31)).ownsRow (w.heap.size + 1) 40 5 (.slice a st.length c) N (stCells st)) := hown.alloc _
    have q : ∀ (ob : Obj) (j : Nat), (v1.alloc ob).cell? ⟨w.heap.size, j, none⟩ = v1.cell? ⟨w.heap.size, j, none⟩ := fun ob j => World.cell?_of_block (Below.heap_alloc v1 ob _ (by simp; omega))
    have qf : ∀ (ob : Obj) (j : Nat), (v1.alloc ob).frozen? ⟨w.heap.size, j, none⟩ = v1.frozen? ⟨w.heap.size, j, none⟩ := fun ob j => World.frozen?_of_block (Below.heap_alloc v1 ob _ (by simp; omega))
    have XP : Hid ((v1.alloc (Obj.cells #[.int .i64 OL, .int .i64 NL, .string OS, .string NS, .slice a st.length c] 31)).heap[v1.heap.size]? = some (.cells #[.int .i64 OL, .int .i64 NL, .string OS, .string NS, .slice a st.length c] 31 (0, 0))) := heap_alloc_new v1 _
    clear hown hst
    cases DQ
    · have hPE : PE = 3 := E3.out (by rw [EO.out, Bool.and_false]; rfl)
      subst hPE
      clear EO hHO E3 E6 E0 ES
      go_wp2_with fail
      obtain ⟨z0, z1, z2, z3, z4, _⟩ := box31 (fill31 Y2.out (.int .i64 0) (.int .i64 0) (.string ⟨#[]⟩) (.string ⟨#[]⟩) (.slice none 0 0))
      refine bodyPost_ret (v := .tuple #[.agg #[.int .i64 0, .int .i64 0, .string ⟨#[]⟩, .string ⟨#[]⟩, .slice none 0 0], .int .i64 3]) (by simp [results, Try.results17, go_sem, z0, z1, z2, z3, z4]) rfl ?_
      exact ⟨((((B2.out.setCell (Nat.le_refl _) _).setCell (Nat.le_refl _) _).setCell (Nat.le_refl _) _).setCell (Nat.le_refl _) _).setCell (Nat.le_refl _) _, .inl ⟨by decide, rfl⟩⟩
    · have hPO : PO = true := by rw [EO.out, hHO]; rfl
      subst hPO
      have HM : Hid (∀ w, stepsAt w a b o st → Calls Try.prog 38 #[.agg #[.int .i64 OL, .int .i64 NL, .string OS, .string NS, .slice a st.length c]] w fun e w' => e = .returned (.bool (Pl.full OL NL OS NS st)) ∧ Below w.heap.size w w') := fun w h => mayBe_any OL NL OS NS a b o c st w (by have := HL.out; omega) h
      generalize Pl.full OL NL OS NS st = FU at *
      clear EO hHO
      go_wp2_with fail
      refine (HM.out _ HS.out).mono ?_
      rintro e v2 ⟨rfl, b2⟩
      have Y3 : Hid (v2.heap[w.heap.size]? = some (.cells #[.int .i64 0, .int .i64 0, .string ⟨#[]⟩, .string ⟨#[]⟩, .slice none 0 0] 31 (0, 0))) := by
        show _ = _
        rw [b2.block _ (lt_of_heap Y2.out)]; exact Y2.out
      have X3 : Hid (v2.heap[v1.heap.size]? = some (.cells #[.int .i64 OL, .int .i64 NL, .string OS, .string NS, .slice a st.length c] 31 (0, 0))) := by
        show _ = _
        rw [b2.block _ (lt_of_heap XP.out)]; exact XP.out
      have B3 : Hid (Below w.heap.size w v2) := B2.out.trans (b2.mono B2.out.size)
      have S3 : Hid (stepsAt v2 a b o st) := stepsAt_below HS.out b2 HS.out.2.1
      have O3 : Hid (v2.ownsRow (w.heap.size + 1) 40 5 (.slice a st.length c) N (stCells st)) := HO1.out.kept (row := none) ⟨b2.os, b2.tape, b2.output, b2.size, fun i hi _ => b2.block i hi⟩ (by cases hv : (Value.slice a st.length c).ownBlock <;> simp)
      clear r0 r1 r2 r3 r4 g0 g1 g2 g3 g4 q qf b2
      obtain ⟨r0, r1, r2, r3, r4, rf⟩ := box31 Y3.out
      have g0 := rf 0
      have g1 := rf 1
      have g2 := rf 2
      have g3 := rf 3
      have g4 := rf 4
      clear rf
      obtain ⟨p0, p1, p2, p3, p4, _⟩ := box31 X3.out
      cases FU
      · have hPE : PE = 3 := E3.out rfl
        subst hPE
        clear E3 E6 E0 ES
        go_wp2_with fail
        obtain ⟨z0, z1, z2, z3, z4, _⟩ := box31 (fill31 Y3.out (.int .i64 0) (.int .i64 0) (.string ⟨#[]⟩) (.string ⟨#[]⟩) (.slice none 0 0))
        refine bodyPost_ret (v := .tuple #[.agg #[.int .i64 0, .int .i64 0, .string ⟨#[]⟩, .string ⟨#[]⟩, .slice none 0 0], .int .i64 3]) (by simp [results, Try.results17, go_sem, z0, z1, z2, z3, z4]) rfl ?_
        exact ⟨((((B3.out.setCell (Nat.le_refl _) _).setCell (Nat.le_refl _) _).setCell (Nat.le_refl _) _).setCell (Nat.le_refl _) _).setCell (Nat.le_refl _) _, .inl ⟨by decide, rfl⟩⟩
      · obtain ⟨k1, k2, k3, k4⟩ := ES.out rfl
        have K4 : Hid (∀ x ∈ st, Pl.ok OL NL x = true) := k4
        have J6 : Hid (Pl.ord [] st = false → PE = 6) := fun h => by first | exact E6.out rfl rfl h | exact E6.out trivial rfl h | exact E6.out trivial trivial h | exact E6.out rfl trivial h
        have J0 : Hid (Pl.ord [] st = true → PE = 0) := fun h => by first | exact E0.out rfl rfl h | exact E0.out trivial rfl h | exact E0.out trivial trivial h | exact E0.out rfl trivial h
        clear k4 E3 E6 E0 ES
        have HOr : Hid (∀ w, stepsAt w a b o st → Calls Try.prog 39 #[.agg #[.int .i64 OL, .int .i64 NL, .string OS, .string NS, .slice a st.length c]] w fun e w' => e = .returned (.bool (Pl.ord [] st)) ∧ Below w.heap.size w w') := fun w h => inOrder_any OL NL OS NS a b o c st w k1 k2 k3 h K4
        generalize Pl.ord [] st = RO at *
        go_wp2_with fail
        refine (HOr.out _ S3.out).mono ?_
        rintro e v3 ⟨rfl, b3⟩
        have Y4 : Hid (v3.heap[w.heap.size]? = some (.cells #[.int .i64 0, .int .i64 0, .string ⟨#[]⟩, .string ⟨#[]⟩, .slice none 0 0] 31 (0, 0))) := by
          show _ = _
          rw [b3.block _ (lt_of_heap Y3.out)]; exact Y3.out
        have X4 : Hid (v3.heap[v1.heap.size]? = some (.cells #[.int .i64 OL, .int .i64 NL, .string OS, .string NS, .slice a st.length c] 31 (0, 0))) := by
          show _ = _
          rw [b3.block _ (lt_of_heap X3.out)]; exact X3.out
        have B4 : Hid (Below w.heap.size w v3) := B3.out.trans (b3.mono B3.out.size)
        have O4 : Hid (v3.ownsRow (w.heap.size + 1) 40 5 (.slice a st.length c) N (stCells st)) := O3.out.kept (row := none) ⟨b3.os, b3.tape, b3.output, b3.size, fun i hi _ => b3.block i hi⟩ (by cases hv : (Value.slice a st.length c).ownBlock <;> simp)
        clear r0 r1 r2 r3 r4 g0 g1 g2 g3 g4 p0 p1 p2 p3 p4 b3
        obtain ⟨r0, r1, r2, r3, r4, rf⟩ := box31 Y4.out
        have g0 := rf 0
        have g1 := rf 1
        have g2 := rf 2
        have g3 := rf 3
        have g4 := rf 4
        clear rf
        obtain ⟨p0, p1, p2, p3, p4, _⟩ := box31 X4.out
        cases RO
        · have hPE : PE = 6 := J6.out rfl
          subst hPE
          clear J6 J0
          go_wp2_with fail
          obtain ⟨z0, z1, z2, z3, z4, _⟩ := box31 (fill31 Y4.out (.int .i64 0) (.int .i64 0) (.string ⟨#[]⟩) (.string ⟨#[]⟩) (.slice none 0 0))
          refine bodyPost_ret (v := .tuple #[.agg #[.int .i64 0, .int .i64 0, .string ⟨#[]⟩, .string ⟨#[]⟩, .slice none 0 0], .int .i64 6]) (by simp [results, Try.results17, go_sem, z0, z1, z2, z3, z4]) rfl ?_
          exact ⟨((((B4.out.setCell (Nat.le_refl _) _).setCell (Nat.le_refl _) _).setCell (Nat.le_refl _) _).setCell (Nat.le_refl _) _).setCell (Nat.le_refl _) _, .inl ⟨by decide, rfl⟩⟩
        · have hPE : PE = 0 := J0.out rfl
          subst hPE
          clear J6 J0
          have n4 := own_ne O4.out Y4.out (by decide)
          go_wp2_with fail
          obtain ⟨z0, z1, z2, z3, z4, _⟩ := box31 (fill31 Y4.out (.int .i64 OL) (.int .i64 NL) (.string OS) (.string NS) (.slice a st.length c))
          refine bodyPost_ret (v := .tuple #[.agg #[.int .i64 OL, .int .i64 NL, .string OS, .string NS, .slice a st.length c], .int .i64 0]) (by simp [results, Try.results17, go_sem, z0, z1, z2, z3, z4]) rfl ?_
          exact ⟨((((B4.out.setCell (Nat.le_refl _) _).setCell (Nat.le_refl _) _).setCell (Nat.le_refl _) _).setCell (Nat.le_refl _) _).setCell (Nat.le_refl _) _, ⟨_, rfl, ownsRow_base (Nat.le_succ _) (ownsRow_fill O4.out n4 _ _ _ _ _)⟩⟩

end Go.Proofs.Ytjjmcnippjpclaa
