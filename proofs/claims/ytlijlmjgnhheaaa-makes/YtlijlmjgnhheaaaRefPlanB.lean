/-
  The document's ReadPlan: the rounds of its loop that end it.
-/
import Derived.Test.YtlijlmjgnhheaaaRefPlanA
namespace Go.Proofs.Ytlijlmjgnhheaaa
open Go.RowKit

set_option maxRecDepth 1000000 in
set_option maxHeartbeats 8000000 in
theorem round_none (s : ByteArray) (w wr : World) (PE : Int) (OL NL N k a a6 : Nat) (OS NS : ByteArray) (ST : List Pl.St) (v : Value) (hs : s.size ≤ 140737488355328) (hN : N ≤ 2000) (hlt : k < N) (has : a ≤ s.size) (h1 : ¬ a + 1 ≤ s.size)
    (hQ : Hid (stepsQ s k (some a6) = some a)) (ER : Hid (ErrOf s OL NL OS NS N (some a6) PE))
    (hX : Hid (wr.heap[w.heap.size + 1]? = some (.cells #[.int .i64 OL, .int .i64 NL, .string OS, .string NS, v] 31 (0, 0)) ∧ wr.heap[w.heap.size]? = some (.cells #[.int .i64 0, .int .i64 0, .string ⟨#[]⟩, .string ⟨#[]⟩, .slice none 0 0] 31 (0, 0)))) (hown : Hid (wr.ownsRow w.heap.size 40 5 v k (stCells (stepsV s k (some a6))))) (hb : Hid (Below w.heap.size w wr))
    (K R : Act → World → Prop) (Q : Exit → Act → World → Prop) (hQQ : Q = bodyPost Try.prog Try.f16 (rpPost w PE OL NL OS NS N ST))
    (c1 c3 c5 c7 c8 c9 c10 c11 c23 c24 c25 c26 c27 c28 c29 c30 c31 c32 c33 c34 c35 c36 c37 c38 c39 c40 c41 c42 c43 c44 c45 c46 c47 c48 c49 c50 c51 c52 c53 c54 c55 c56 c57 c58 c59 c60 c61 c62 c63 c64 c65 c66 c67 c68 c69 c70 c71 c72 c73 c74 c75 c76 c77 c78 c79 c80 c81 c82 c83 c84 c85 c86 c165 c166 c167 c168 c169 c170 c171 c172 c173 c174 c175 c176 c177 c178 c179 c180 u14 u15 u16 u17 u18 u19 u20 u21 u22 u87 u88 u89 u90 u91 u92 u93 u94 u95 u96 u97 u98 u99 u100 u101 u102 u103 u104 u105 u106 u107 u108 u109 u110 u111 u112 u113 u114 u115 u116 u117 u118 u119 u120 u121 u122 u123 u124 u125 u126 u127 u128 u129 u130 u131 u132 u133 u134 u135 u136 u137 u138 u139 u140 u141 u142 u143 u144 u145 u146 u147 u148 u149 u150 u151 u152 u153 u154 u155 u156 u157 u158 u159 u160 u161 u162 u163 u164 : Value) : Code.wp Try.prog lp16 (Exit.then R (Exit.inBlock 0 (Exit.then K Q))) ⟨#[.string s, c1, .pointer (some ⟨w.heap.size, 0, none⟩), c3, .pointer (some ⟨w.heap.size + 1, 0, none⟩), c5, .int .i64 a, c7, c8, c9, c10, c11, .int .i64 N, .int .i64 k, u14, u15, u16, u17, u18, u19, u20, u21, u22, c23, c24, c25, c26, c27, c28, c29, c30, c31, c32, c33, c34, c35, c36, c37, c38, c39, c40, c41, c42, c43, c44, c45, c46, c47, c48, c49, c50, c51, c52, c53, c54, c55, c56, c57, c58, c59, c60, c61, c62, c63, c64, c65, c66, c67, c68, c69, c70, c71, c72, c73, c74, c75, c76, c77, c78, c79, c80, c81, c82, c83, c84, c85, c86, u87, u88, u89, u90, u91, u92, u93, u94, u95, u96, u97, u98, u99, u100, u101, u102, u103, u104, u105, u106, u107, u108, u109, u110, u111, u112, u113, u114, u115, u116, u117, u118, u119, u120, u121, u122, u123, u124, u125, u126, u127, u128, u129, u130, u131, u132, u133, u134, u135, u136, u137, u138, u139, u140, u141, u142, u143, u144, u145, u146, u147, u148, u149, u150, u151, u152, u153, u154, u155, u156, u157, u158, u159, u160, u161, u162, u163, u164, c165, c166, c167, c168, c169, c170, c171, c172, c173, c174, c175, c176, c177, c178, c179, c180], []⟩ wr := by
  have hP : qI (pieceQ s (some a) 1) = -1 := by simp [pieceQ, h1, qI]
  have hS : pieceS s (some a) 1 = ⟨#[]⟩ := by simp [pieceS, h1]
  have s8 : w.heap.size + 2 ≤ wr.heap.size := lt_of_heap hX.out.1
  have hKc : Hid (∀ v, Calls Try.prog 34 #[.string s, .int .i64 a, .int .i64 1] v fun e w' => e = .returned (.tuple #[.string ⟨#[]⟩, .int .i64 (-1)]) ∧ Below v.heap.size v w') := fun v => by
    have := cut_any s (some a) 1 v hs (by omega) (fun b h => by cases h; exact has)
    rw [hS, hP] at this
    exact this
  conv => arg 2; whnf
  go_wp2_with fail
  refine (hKc.out _).mono ?_
  rintro e u1 ⟨rfl, b1⟩
  have Z1 : Hid (u1.heap[wr.heap.size]? = some (.cells #[.int .i64 0, .int .i64 0, .int .i64 0, .string ⟨#[]⟩, .int .i64 0] 40 (0, 0))) := by
    show _ = _
    rw [b1.block _ (by simp)]; exact heap_alloc_new wr _
  have P1 : Hid (u1.heap[w.heap.size + 1]? = some (.cells #[.int .i64 OL, .int .i64 NL, .string OS, .string NS, v] 31 (0, 0))) := by
    show _ = _
    rw [b1.block _ (by simp; omega), Below.heap_alloc _ _ _ (by omega)]; exact hX.out.1
  have Y1 : Hid (u1.heap[w.heap.size]? = some (.cells #[.int .i64 0, .int .i64 0, .string ⟨#[]⟩, .string ⟨#[]⟩, .slice none 0 0] 31 (0, 0))) := by
    show _ = _
    rw [b1.block _ (by simp; omega), Below.heap_alloc _ _ _ (by omega)]; exact hX.out.2
  have O1 : Hid (u1.ownsRow w.heap.size 40 5 v k (stCells (stepsV s k (some a6)))) := (hown.out.alloc _).kept (row := none) ⟨b1.os, b1.tape, b1.output, b1.size, fun i hi _ => b1.block i hi⟩ (by cases hv : v.ownBlock <;> simp)
  have B1 : Hid (Below w.heap.size w u1) := (hb.out.alloc hb.out.size _).trans (b1.mono (by simp; omega))
  have s1 : wr.heap.size + 1 ≤ u1.heap.size := by have := b1.size; simp at this; omega
  clear b1 hKc hown hX hb
  have hPE : PE = 3 := ER.out.1 hN (k + 1) (by omega) (by rw [stepsQ_succ, hQ.out]; exact stepQ_piece (by simp [pieceQ, h1]))
  subst hPE
  clear ER hQ Z1 P1 O1
  obtain ⟨r0, r1, r2, r3, r4, rf⟩ := box31 Y1.out
  have g0 := rf 0
  have g1 := rf 1
  have g2 := rf 2
  have g3 := rf 3
  have g4 := rf 4
  clear rf
  go_wp2_with fail
  obtain ⟨z0, z1, z2, z3, z4, _⟩ := box31 (fill31 Y1.out (.int .i64 0) (.int .i64 0) (.string ⟨#[]⟩) (.string ⟨#[]⟩) (.slice none 0 0))
  subst hQQ
  refine bodyPost_ret (v := .tuple #[.agg #[.int .i64 0, .int .i64 0, .string ⟨#[]⟩, .string ⟨#[]⟩, .slice none 0 0], .int .i64 3]) (by simp [results, Try.results16, go_sem, z0, z1, z2, z3, z4]) rfl ?_
  exact ⟨((((B1.out.setCell (Nat.le_refl _) _).setCell (Nat.le_refl _) _).setCell (Nat.le_refl _) _).setCell (Nat.le_refl _) _).setCell (Nat.le_refl _) _, .inl ⟨by decide, rfl⟩⟩

set_option maxRecDepth 1000000 in
set_option maxHeartbeats 8000000 in
theorem round_kind (s : ByteArray) (w wr : World) (PE : Int) (OL NL N k a a6 : Nat) (OS NS : ByteArray) (ST : List Pl.St) (v : Value) (hs : s.size ≤ 140737488355328) (_hN : N ≤ 2000) (hlt : k < N) (has : a ≤ s.size) (x : UInt8) (h1 : a + 1 ≤ s.size) (hS : pieceS s (some a) 1 = ⟨#[x]⟩) (hV : byteV s (some a) = x.toNat) (x1 : x ≠ 1) (x3 : x ≠ 3)
    (hQ : Hid (stepsQ s k (some a6) = some a)) (ER : Hid (ErrOf s OL NL OS NS N (some a6) PE))
    (hX : Hid (wr.heap[w.heap.size + 1]? = some (.cells #[.int .i64 OL, .int .i64 NL, .string OS, .string NS, v] 31 (0, 0)) ∧ wr.heap[w.heap.size]? = some (.cells #[.int .i64 0, .int .i64 0, .string ⟨#[]⟩, .string ⟨#[]⟩, .slice none 0 0] 31 (0, 0)))) (hown : Hid (wr.ownsRow w.heap.size 40 5 v k (stCells (stepsV s k (some a6))))) (hb : Hid (Below w.heap.size w wr))
    (K R : Act → World → Prop) (Q : Exit → Act → World → Prop) (hQQ : Q = bodyPost Try.prog Try.f16 (rpPost w PE OL NL OS NS N ST))
    (c1 c3 c5 c7 c8 c9 c10 c11 c23 c24 c25 c26 c27 c28 c29 c30 c31 c32 c33 c34 c35 c36 c37 c38 c39 c40 c41 c42 c43 c44 c45 c46 c47 c48 c49 c50 c51 c52 c53 c54 c55 c56 c57 c58 c59 c60 c61 c62 c63 c64 c65 c66 c67 c68 c69 c70 c71 c72 c73 c74 c75 c76 c77 c78 c79 c80 c81 c82 c83 c84 c85 c86 c165 c166 c167 c168 c169 c170 c171 c172 c173 c174 c175 c176 c177 c178 c179 c180 u14 u15 u16 u17 u18 u19 u20 u21 u22 u87 u88 u89 u90 u91 u92 u93 u94 u95 u96 u97 u98 u99 u100 u101 u102 u103 u104 u105 u106 u107 u108 u109 u110 u111 u112 u113 u114 u115 u116 u117 u118 u119 u120 u121 u122 u123 u124 u125 u126 u127 u128 u129 u130 u131 u132 u133 u134 u135 u136 u137 u138 u139 u140 u141 u142 u143 u144 u145 u146 u147 u148 u149 u150 u151 u152 u153 u154 u155 u156 u157 u158 u159 u160 u161 u162 u163 u164 : Value) : Code.wp Try.prog lp16 (Exit.then R (Exit.inBlock 0 (Exit.then K Q))) ⟨#[.string s, c1, .pointer (some ⟨w.heap.size, 0, none⟩), c3, .pointer (some ⟨w.heap.size + 1, 0, none⟩), c5, .int .i64 a, c7, c8, c9, c10, c11, .int .i64 N, .int .i64 k, u14, u15, u16, u17, u18, u19, u20, u21, u22, c23, c24, c25, c26, c27, c28, c29, c30, c31, c32, c33, c34, c35, c36, c37, c38, c39, c40, c41, c42, c43, c44, c45, c46, c47, c48, c49, c50, c51, c52, c53, c54, c55, c56, c57, c58, c59, c60, c61, c62, c63, c64, c65, c66, c67, c68, c69, c70, c71, c72, c73, c74, c75, c76, c77, c78, c79, c80, c81, c82, c83, c84, c85, c86, u87, u88, u89, u90, u91, u92, u93, u94, u95, u96, u97, u98, u99, u100, u101, u102, u103, u104, u105, u106, u107, u108, u109, u110, u111, u112, u113, u114, u115, u116, u117, u118, u119, u120, u121, u122, u123, u124, u125, u126, u127, u128, u129, u130, u131, u132, u133, u134, u135, u136, u137, u138, u139, u140, u141, u142, u143, u144, u145, u146, u147, u148, u149, u150, u151, u152, u153, u154, u155, u156, u157, u158, u159, u160, u161, u162, u163, u164, c165, c166, c167, c168, c169, c170, c171, c172, c173, c174, c175, c176, c177, c178, c179, c180], []⟩ wr := by
  have hP : qI (pieceQ s (some a) 1) = (a : Int) + 1 := by simp [pieceQ, h1, qI]
  have n1 : x.toNat ≠ 1 := fun h => x1 (UInt8.toNat_inj.1 h)
  have n3 : x.toNat ≠ 3 := fun h => x3 (UInt8.toNat_inj.1 h)
  have e0 : ((⟨#[x]⟩ : ByteArray)[0]'(Nat.zero_lt_one)) = x := rfl
  have m1 : ¬ ((x.toNat : Int) = 1) := by omega
  have m3 : ¬ ((x.toNat : Int) = 3) := by omega
  have q1 : ((x.toNat : Int) != 1) = true := by simpa using m1
  have q3 : ((x.toNat : Int) != 3) = true := by simpa using m3
  have d0 : decide ((a : Int) + 1 < 0) = false := decide_eq_false (by omega)
  have PE3 : Hid (PE = 3) := ER.out.2.1 k hlt (by rw [hQ.out, hV]; exact n1) (by rw [hQ.out, hV]; exact n3)
  have s8 : w.heap.size + 2 ≤ wr.heap.size := lt_of_heap hX.out.1
  have hKc : Hid (∀ v, Calls Try.prog 34 #[.string s, .int .i64 a, .int .i64 1] v fun e w' => e = .returned (.tuple #[.string ⟨#[x]⟩, .int .i64 ((a : Int) + 1)]) ∧ Below v.heap.size v w') := fun v => by
    have := cut_any s (some a) 1 v hs (by omega) (fun b h => by cases h; exact has)
    rw [hS, hP] at this
    exact this
  conv => arg 2; whnf
  go_wp2_with fail
  refine (hKc.out _).mono ?_
  rintro e u1 ⟨rfl, b1⟩
  have Z1 : Hid (u1.heap[wr.heap.size]? = some (.cells #[.int .i64 0, .int .i64 0, .int .i64 0, .string ⟨#[]⟩, .int .i64 0] 40 (0, 0))) := by
    show _ = _
    rw [b1.block _ (by simp)]; exact heap_alloc_new wr _
  have P1 : Hid (u1.heap[w.heap.size + 1]? = some (.cells #[.int .i64 OL, .int .i64 NL, .string OS, .string NS, v] 31 (0, 0))) := by
    show _ = _
    rw [b1.block _ (by simp; omega), Below.heap_alloc _ _ _ (by omega)]; exact hX.out.1
  have Y1 : Hid (u1.heap[w.heap.size]? = some (.cells #[.int .i64 0, .int .i64 0, .string ⟨#[]⟩, .string ⟨#[]⟩, .slice none 0 0] 31 (0, 0))) := by
    show _ = _
    rw [b1.block _ (by simp; omega), Below.heap_alloc _ _ _ (by omega)]; exact hX.out.2
  have O1 : Hid (u1.ownsRow w.heap.size 40 5 v k (stCells (stepsV s k (some a6)))) := (hown.out.alloc _).kept (row := none) ⟨b1.os, b1.tape, b1.output, b1.size, fun i hi _ => b1.block i hi⟩ (by cases hv : v.ownBlock <;> simp)
  have B1 : Hid (Below w.heap.size w u1) := (hb.out.alloc hb.out.size _).trans (b1.mono (by simp; omega))
  have s1 : wr.heap.size + 1 ≤ u1.heap.size := by have := b1.size; simp at this; omega
  clear b1 hKc hown hX hb
  have hPE : PE = 3 := PE3.out
  subst hPE
  clear ER hQ Z1 P1 O1 PE3
  obtain ⟨r0, r1, r2, r3, r4, rf⟩ := box31 Y1.out
  have g0 := rf 0
  have g1 := rf 1
  have g2 := rf 2
  have g3 := rf 3
  have g4 := rf 4
  clear rf
  go_wp2_with fail
  obtain ⟨z0, z1, z2, z3, z4, _⟩ := box31 (fill31 Y1.out (.int .i64 0) (.int .i64 0) (.string ⟨#[]⟩) (.string ⟨#[]⟩) (.slice none 0 0))
  subst hQQ
  refine bodyPost_ret (v := .tuple #[.agg #[.int .i64 0, .int .i64 0, .string ⟨#[]⟩, .string ⟨#[]⟩, .slice none 0 0], .int .i64 3]) (by simp [results, Try.results16, go_sem, z0, z1, z2, z3, z4]) rfl ?_
  exact ⟨((((B1.out.setCell (Nat.le_refl _) _).setCell (Nat.le_refl _) _).setCell (Nat.le_refl _) _).setCell (Nat.le_refl _) _).setCell (Nat.le_refl _) _, .inl ⟨by decide, rfl⟩⟩


end Go.Proofs.Ytlijlmjgnhheaaa
