/-
  The document's ReadPlan: the rounds of its loop that end it.
  The document's ReadPlan: the rounds of its loop that end it.
-/
import Derived.Test.YtjjmcnippjpclaaRefPlanC
namespace Go.Proofs.Ytjjmcnippjpclaa

open Go.RowKit

set_option maxRecDepth 1000000 in
set_option maxHeartbeats 8000000 in
theorem round_bad1 (s : ByteArray) (w wr : World) (PE : Int) (OL NL N k a a6 : Nat) (OS NS : ByteArray) (ST : List Pl.St) (v : Value) (hs : s.size ≤ 140737488355328) (hN : N ≤ 2000) (hlt : k < N) (has : a ≤ s.size) (x : UInt8) (h1 : a + 1 ≤ s.size) (hS : pieceS s (some a) 1 = ⟨#[x]⟩) (_hV : byteV s (some a) = x.toNat) (b : Nat) (hx : x.toNat = 1) (hbs : b ≤ s.size) (hn : numQ s (numQ s (some (a + 1))) = some b) (hend : stepQ s (some a) = none) (hq : pieceQ s (some b) (numV s (numQ s (some (a + 1)))) = none)
    (hQ : Hid (stepsQ s k (some a6) = some a)) (ER : Hid (ErrOf s OL NL OS NS N (some a6) PE))
    (hX : Hid (wr.heap[w.heap.size + 1]? = some (.cells #[.int .i64 OL, .int .i64 NL, .string OS, .string NS, v] 31 (0, 0)) ∧ wr.heap[w.heap.size]? = some (.cells #[.int .i64 0, .int .i64 0, .string ⟨#[]⟩, .string ⟨#[]⟩, .slice none 0 0] 31 (0, 0)))) (hown : Hid (wr.ownsRow w.heap.size 40 5 v k (stCells (stepsV s k (some a6))))) (hb : Hid (Below w.heap.size w wr))
    (K R : Act → World → Prop) (Q : Exit → Act → World → Prop) (hQQ : Q = bodyPost Try.prog Try.f16 (rpPost w PE OL NL OS NS N ST))
    (c1 c3 c5 c7 c8 c9 c10 c11 c23 c24 c25 c26 c27 c28 c29 c30 c31 c32 c33 c34 c35 c36 c37 c38 c39 c40 c41 c42 c43 c44 c45 c46 c47 c48 c49 c50 c51 c52 c53 c54 c55 c56 c57 c58 c59 c60 c61 c62 c63 c64 c65 c66 c67 c68 c69 c70 c71 c72 c73 c74 c75 c76 c77 c78 c79 c80 c81 c82 c83 c84 c85 c86 c165 c166 c167 c168 c169 c170 c171 c172 c173 c174 c175 c176 c177 c178 c179 c180 u14 u15 u16 u17 u18 u19 u20 u21 u22 u87 u88 u89 u90 u91 u92 u93 u94 u95 u96 u97 u98 u99 u100 u101 u102 u103 u104 u105 u106 u107 u108 u109 u110 u111 u112 u113 u114 u115 u116 u117 u118 u119 u120 u121 u122 u123 u124 u125 u126 u127 u128 u129 u130 u131 u132 u133 u134 u135 u136 u137 u138 u139 u140 u141 u142 u143 u144 u145 u146 u147 u148 u149 u150 u151 u152 u153 u154 u155 u156 u157 u158 u159 u160 u161 u162 u163 u164 : Value) : Code.wp Try.prog lp16 (Exit.then R (Exit.inBlock 0 (Exit.then K Q))) ⟨#[.string s, c1, .pointer (some ⟨w.heap.size, 0, none⟩), c3, .pointer (some ⟨w.heap.size + 1, 0, none⟩), c5, .int .i64 a, c7, c8, c9, c10, c11, .int .i64 N, .int .i64 k, u14, u15, u16, u17, u18, u19, u20, u21, u22, c23, c24, c25, c26, c27, c28, c29, c30, c31, c32, c33, c34, c35, c36, c37, c38, c39, c40, c41, c42, c43, c44, c45, c46, c47, c48, c49, c50, c51, c52, c53, c54, c55, c56, c57, c58, c59, c60, c61, c62, c63, c64, c65, c66, c67, c68, c69, c70, c71, c72, c73, c74, c75, c76, c77, c78, c79, c80, c81, c82, c83, c84, c85, c86, u87, u88, u89, u90, u91, u92, u93, u94, u95, u96, u97, u98, u99, u100, u101, u102, u103, u104, u105, u106, u107, u108, u109, u110, u111, u112, u113, u114, u115, u116, u117, u118, u119, u120, u121, u122, u123, u124, u125, u126, u127, u128, u129, u130, u131, u132, u133, u134, u135, u136, u137, u138, u139, u140, u141, u142, u143, u144, u145, u146, u147, u148, u149, u150, u151, u152, u153, u154, u155, u156, u157, u158, u159, u160, u161, u162, u163, u164, c165, c166, c167, c168, c169, c170, c171, c172, c173, c174, c175, c176, c177, c178, c179, c180], []⟩ wr := by
  have hP : qI (pieceQ s (some a) 1) = (a : Int) + 1 := by simp [pieceQ, h1, qI]
  have hP1 : pieceQ s (some a) 1 = some (a + 1) := by simp [pieceQ, h1]
  have e0 : ((⟨#[x]⟩ : ByteArray)[0]'(Nat.zero_lt_one)) = x := rfl
  have ex : (x.toNat : Int) = 1 := by omega
  have d0 : decide ((a : Int) + 1 < 0) = false := decide_eq_false (by omega)
  have NB : Hid (∀ v, Calls Try.prog 35 #[.string s, .int .i64 ((a : Int) + 1), .int .i64 2] v fun e w' => Below v.heap.size v w' ∧ ∃ l n, e = .returned (.tuple #[l, .int .i64 (qI (numQ s (numQ s (some (a + 1)))))]) ∧ (numQ s (numQ s (some (a + 1))) ≠ none → n = 2) ∧ w'.ownsRow v.heap.size 3 1 l n (nsL s (a + 1) n)) := fun v => numbers_any s (a + 1) v hs h1
  have N1 : Hid (v.ownBlock ≠ some wr.heap.size) := fun h => by have := (hown.out.lt _ h).2; omega
  have s8 : w.heap.size + 2 ≤ wr.heap.size := lt_of_heap hX.out.1
  have hKc : Hid (∀ v, Calls Try.prog 34 #[.string s, .int .i64 a, .int .i64 1] v fun e w' => e = .returned (.tuple #[.string ⟨#[x]⟩, .int .i64 ((a : Int) + 1)]) ∧ Below v.heap.size v w') := fun v => by
    have := cut_any s (some a) 1 v hs (by omega) (fun b h => by cases h; exact has)
    rw [hS, hP] at this
    exact this
  conv => arg 2; whnf
  go_wp2_with fail
  refine (hKc.out _).mono ?_
  rintro e u1 ⟨rfl, b1⟩
  have Z1 : Hid (u1.heap[wr.heap.size]? = some (.cells #[.int .i64 0, .int .i64 0, .int .i64 0, .string ⟨#[]⟩, .int .i64 0] 40 (0, 0))) := by
    show _ = _
    rw [b1.block _ (by simp)]; exact heap_alloc_new wr _
  have P1 : Hid (u1.heap[w.heap.size + 1]? = some (.cells #[.int .i64 OL, .int .i64 NL, .string OS, .string NS, v] 31 (0, 0))) := by
    show _ = _
    rw [b1.block _ (by simp; omega), Below.heap_alloc _ _ _ (by omega)]; exact hX.out.1
  have Y1 : Hid (u1.heap[w.heap.size]? = some (.cells #[.int .i64 0, .int .i64 0, .string ⟨#[]⟩, .string ⟨#[]⟩, .slice none 0 0] 31 (0, 0))) := by
    show _ = _
    rw [b1.block _ (by simp; omega), Below.heap_alloc _ _ _ (by omega)]; exact hX.out.2
  have O1 : Hid (u1.ownsRow w.heap.size 40 5 v k (stCells (stepsV s k (some a6)))) := (hown.out.alloc _).kept (row := none) ⟨b1.os, b1.tape, b1.output, b1.size, fun i hi _ => b1.block i hi⟩ (by cases hv : v.ownBlock <;> simp)
  have B1 : Hid (Below w.heap.size w u1) := (hb.out.alloc hb.out.size _).trans (b1.mono (by simp; omega))
  have s1 : wr.heap.size + 1 ≤ u1.heap.size := by have := b1.size; simp at this; omega
  clear b1 hKc hown hX hb
  obtain ⟨k0, k1, k2, k3, k4, kf⟩ := box_cells Z1.out
  have f0 := kf 0
  clear kf
  have Z2 : Hid ((u1.setCell ⟨wr.heap.size, 0, none⟩ (.int .i64 1)).heap[wr.heap.size]? = some (.cells #[.int .i64 1, .int .i64 0, .int .i64 0, .string ⟨#[]⟩, .int .i64 0] 40 (0, 0))) := Joins.block_setCell Z1.out _
  have P2 : Hid ((u1.setCell ⟨wr.heap.size, 0, none⟩ (.int .i64 1)).heap[w.heap.size + 1]? = some (.cells #[.int .i64 OL, .int .i64 NL, .string OS, .string NS, v] 31 (0, 0))) := by
    show _ = _
    rw [Below.heap_setCell _ _ _ _ (by simp; omega)]; exact P1.out
  have Y2 : Hid ((u1.setCell ⟨wr.heap.size, 0, none⟩ (.int .i64 1)).heap[w.heap.size]? = some (.cells #[.int .i64 0, .int .i64 0, .string ⟨#[]⟩, .string ⟨#[]⟩, .slice none 0 0] 31 (0, 0))) := by
    show _ = _
    rw [Below.heap_setCell _ _ _ _ (by simp; omega)]; exact Y1.out
  have O2 : Hid ((u1.setCell ⟨wr.heap.size, 0, none⟩ (.int .i64 1)).ownsRow w.heap.size 40 5 v k (stCells (stepsV s k (some a6)))) := ownsRow_setCell_other O1.out N1.out _
  have B2 : Hid (Below w.heap.size w (u1.setCell ⟨wr.heap.size, 0, none⟩ (.int .i64 1))) := B1.out.setCell (by simp; omega) _
  have s2 : wr.heap.size + 1 ≤ (u1.setCell ⟨wr.heap.size, 0, none⟩ (.int .i64 1)).heap.size := by simp; omega
  clear Z1 P1 Y1 O1 B1
  go_wp2_with fail
  refine (NB.out _).mono ?_
  rintro e u2 ⟨b2, lv, n2, rfl, hn2, hl2⟩
  have Z3 : Hid (u2.heap[wr.heap.size]? = some (.cells #[.int .i64 1, .int .i64 0, .int .i64 0, .string ⟨#[]⟩, .int .i64 0] 40 (0, 0))) := by
    show _ = _
    rw [b2.block _ (lt_of_heap Z2.out)]; exact Z2.out
  have P3 : Hid (u2.heap[w.heap.size + 1]? = some (.cells #[.int .i64 OL, .int .i64 NL, .string OS, .string NS, v] 31 (0, 0))) := by
    show _ = _
    rw [b2.block _ (lt_of_heap P2.out)]; exact P2.out
  have Y3 : Hid (u2.heap[w.heap.size]? = some (.cells #[.int .i64 0, .int .i64 0, .string ⟨#[]⟩, .string ⟨#[]⟩, .slice none 0 0] 31 (0, 0))) := by
    show _ = _
    rw [b2.block _ (lt_of_heap Y2.out)]; exact Y2.out
  have O3 : Hid (u2.ownsRow w.heap.size 40 5 v k (stCells (stepsV s k (some a6)))) := O2.out.kept (row := none) ⟨b2.os, b2.tape, b2.output, b2.size, fun i hi _ => b2.block i hi⟩ (by cases hv : v.ownBlock <;> simp)
  have B3 : Hid (Below w.heap.size w u2) := B2.out.trans (b2.mono (by simp; omega))
  have s3 : u1.heap.size ≤ u2.heap.size := by have := b2.size; simp at this; omega
  have L2 : Hid (u2.ownsRow u1.heap.size 3 1 lv n2 (nsL s (a + 1) n2)) := by
    show World.ownsRow _ _ _ _ _ _ _
    simpa using hl2
  clear b2 hl2 Z2 P2 Y2 O2 B2 s2 NB k0 k1 k2 k3 k4 f0
  have hn3 : n2 = 2 := hn2 (by rw [hn]; simp)
  subst hn3
  have en : qI (numQ s (numQ s (some (a + 1)))) = (b : Int) := by rw [hn]; rfl
  have eb : qI (some b) = (b : Int) := rfl
  have db : decide ((b : Int) < 0) = false := decide_eq_false (by omega)
  obtain ⟨g, lc, rfl, hg, l0, l1⟩ := own_two (x := .int .i64 (numV s (some (a + 1)))) (y := .int .i64 (numV s (numQ s (some (a + 1))))) L2.out
  have hSle : numV s (numQ s (some (a + 1))) ≤ 2147483647 := numV_le _ _
  have hTle : numV s (some (a + 1)) ≤ 2147483647 := numV_le _ _
  clear hn2 L2
  generalize hT : numV s (some (a + 1)) = T at *
  generalize hSz : numV s (numQ s (some (a + 1))) = S at *
  obtain ⟨k0, k1, k2, k3, k4, kf⟩ := box_cells Z3.out
  have f1 := kf 1
  have f2 := kf 2
  clear kf
  have Z4 : Hid (((u2.setCell ⟨wr.heap.size, 1, none⟩ (.int .i64 T)).setCell ⟨wr.heap.size, 2, none⟩ (.int .i64 S)).heap[wr.heap.size]? = some (.cells #[.int .i64 1, .int .i64 T, .int .i64 S, .string ⟨#[]⟩, .int .i64 0] 40 (0, 0))) := Joins.block_setCell (Joins.block_setCell Z3.out _) _
  have P4 : Hid (((u2.setCell ⟨wr.heap.size, 1, none⟩ (.int .i64 T)).setCell ⟨wr.heap.size, 2, none⟩ (.int .i64 S)).heap[w.heap.size + 1]? = some (.cells #[.int .i64 OL, .int .i64 NL, .string OS, .string NS, v] 31 (0, 0))) := by
    show _ = _
    rw [Below.heap_setCell _ _ _ _ (by simp; omega), Below.heap_setCell _ _ _ _ (by simp; omega)]; exact P3.out
  have Y4 : Hid (((u2.setCell ⟨wr.heap.size, 1, none⟩ (.int .i64 T)).setCell ⟨wr.heap.size, 2, none⟩ (.int .i64 S)).heap[w.heap.size]? = some (.cells #[.int .i64 0, .int .i64 0, .string ⟨#[]⟩, .string ⟨#[]⟩, .slice none 0 0] 31 (0, 0))) := by
    show _ = _
    rw [Below.heap_setCell _ _ _ _ (by simp; omega), Below.heap_setCell _ _ _ _ (by simp; omega)]; exact Y3.out
  have O4 : Hid (((u2.setCell ⟨wr.heap.size, 1, none⟩ (.int .i64 T)).setCell ⟨wr.heap.size, 2, none⟩ (.int .i64 S)).ownsRow w.heap.size 40 5 v k (stCells (stepsV s k (some a6)))) := ownsRow_setCell_other (ownsRow_setCell_other O3.out N1.out _) N1.out _
  have B4 : Hid (Below w.heap.size w ((u2.setCell ⟨wr.heap.size, 1, none⟩ (.int .i64 T)).setCell ⟨wr.heap.size, 2, none⟩ (.int .i64 S))) := (B3.out.setCell (by simp; omega) _).setCell (by simp; omega) _
  have s4 : wr.heap.size + 1 ≤ ((u2.setCell ⟨wr.heap.size, 1, none⟩ (.int .i64 T)).setCell ⟨wr.heap.size, 2, none⟩ (.int .i64 S)).heap.size := by simp; omega
  obtain ⟨m0, m1, m2, m3, m4, mf⟩ := box_cells Z4.out
  clear Z3 P3 Y3 O3 B3 mf
  have l1' : (u2.setCell ⟨wr.heap.size, 1, none⟩ (.int .i64 T)).cell? ⟨g, 1, none⟩ = some (.int .i64 S) := by
    rw [cell_other (by simp; omega)]; exact l1
  generalize hF : pieceS s (some b) S = D at *
  generalize hq4 : pieceQ s (some b) S = q4 at *
  have RC : Hid (∀ v, Calls Try.prog 34 #[.string s, .int .i64 b, .int .i64 S] v fun e w' => e = .returned (.tuple #[.string D, .int .i64 (qI q4)]) ∧ Below v.heap.size v w') := fun v => by
    have := cut_any s (some b) S v hs hSle (fun c h => by cases h; exact hbs)
    rw [hF, hq4] at this; exact this
  go_wp2_with fail
  refine (RC.out _).mono ?_
  rintro e u3 ⟨rfl, b3⟩
  have Z5 : Hid (u3.heap[wr.heap.size]? = some (.cells #[.int .i64 1, .int .i64 T, .int .i64 S, .string ⟨#[]⟩, .int .i64 0] 40 (0, 0))) := by
    show _ = _
    rw [b3.block _ (lt_of_heap Z4.out)]; exact Z4.out
  have P5 : Hid (u3.heap[w.heap.size + 1]? = some (.cells #[.int .i64 OL, .int .i64 NL, .string OS, .string NS, v] 31 (0, 0))) := by
    show _ = _
    rw [b3.block _ (lt_of_heap P4.out)]; exact P4.out
  have Y5 : Hid (u3.heap[w.heap.size]? = some (.cells #[.int .i64 0, .int .i64 0, .string ⟨#[]⟩, .string ⟨#[]⟩, .slice none 0 0] 31 (0, 0))) := by
    show _ = _
    rw [b3.block _ (lt_of_heap Y4.out)]; exact Y4.out
  have O5 : Hid (u3.ownsRow w.heap.size 40 5 v k (stCells (stepsV s k (some a6)))) := O4.out.kept (row := none) ⟨b3.os, b3.tape, b3.output, b3.size, fun i hi _ => b3.block i hi⟩ (by cases hv : v.ownBlock <;> simp)
  have B5 : Hid (Below w.heap.size w u3) := B4.out.trans (b3.mono (by simp; omega))
  have s5 : wr.heap.size + 1 ≤ u3.heap.size := lt_of_heap Z5.out
  clear b3 Z4 P4 Y4 O4 B4 RC k0 k1 k2 k3 k4 f1 f2 m0 m1 m2 m3 m4 l0 l1 l1' s4
  subst hq
  obtain ⟨k0, k1, k2, k3, k4, kf⟩ := box_cells Z5.out
  have f1 := kf 3
  clear kf
  have Y6 : Hid ((u3.setCell ⟨wr.heap.size, 3, none⟩ (.string D)).heap[w.heap.size]? = some (.cells #[.int .i64 0, .int .i64 0, .string ⟨#[]⟩, .string ⟨#[]⟩, .slice none 0 0] 31 (0, 0))) := by
    show _ = _
    rw [Below.heap_setCell _ _ _ _ (by simp; omega)]; exact Y5.out
  have B6 : Hid (Below w.heap.size w (u3.setCell ⟨wr.heap.size, 3, none⟩ (.string D))) := B5.out.setCell (by simp; omega) _
  have e4 : qI none = -1 := rfl
  have hPE : PE = 3 := ER.out.1 hN (k + 1) (by omega) (by rw [stepsQ_succ, hQ.out]; exact hend)
  subst hPE
  clear ER hQ N1 Z5 P5 Y5 O5 B5
  obtain ⟨r0, r1, r2, r3, r4, rf⟩ := box31 Y6.out
  have g0 := rf 0
  have g1 := rf 1
  have g2 := rf 2
  have g3 := rf 3
  have g4 := rf 4
  clear rf
  go_wp2_with fail
  obtain ⟨z0, z1, z2, z3, z4, _⟩ := box31 (fill31 Y6.out (.int .i64 0) (.int .i64 0) (.string ⟨#[]⟩) (.string ⟨#[]⟩) (.slice none 0 0))
  subst hQQ
  refine bodyPost_ret (v := .tuple #[.agg #[.int .i64 0, .int .i64 0, .string ⟨#[]⟩, .string ⟨#[]⟩, .slice none 0 0], .int .i64 3]) (by simp [results, Try.results16, go_sem, z0, z1, z2, z3, z4]) rfl ?_
  exact ⟨((((B6.out.setCell (Nat.le_refl _) _).setCell (Nat.le_refl _) _).setCell (Nat.le_refl _) _).setCell (Nat.le_refl _) _).setCell (Nat.le_refl _) _, .inl ⟨by decide, rfl⟩⟩

end Go.Proofs.Ytjjmcnippjpclaa

namespace Go.Proofs.Ytjjmcnippjpclaa

open Go.RowKit

set_option maxRecDepth 1000000 in
set_option maxHeartbeats 8000000 in
theorem round_bad3 (s : ByteArray) (w wr : World) (PE : Int) (OL NL N k a a6 : Nat) (OS NS : ByteArray) (ST : List Pl.St) (v : Value) (hs : s.size ≤ 140737488355328) (hN : N ≤ 2000) (hlt : k < N) (has : a ≤ s.size) (x : UInt8) (h1 : a + 1 ≤ s.size) (hS : pieceS s (some a) 1 = ⟨#[x]⟩) (_hV : byteV s (some a) = x.toNat) (b : Nat) (hx : x.toNat = 3) (hbs : b ≤ s.size) (hn : numQ s (numQ s (some (a + 1))) = some b) (hend : stepQ s (some a) = none) (hq : numQ s (some b) = none)
    (hQ : Hid (stepsQ s k (some a6) = some a)) (ER : Hid (ErrOf s OL NL OS NS N (some a6) PE))
    (hX : Hid (wr.heap[w.heap.size + 1]? = some (.cells #[.int .i64 OL, .int .i64 NL, .string OS, .string NS, v] 31 (0, 0)) ∧ wr.heap[w.heap.size]? = some (.cells #[.int .i64 0, .int .i64 0, .string ⟨#[]⟩, .string ⟨#[]⟩, .slice none 0 0] 31 (0, 0)))) (hown : Hid (wr.ownsRow w.heap.size 40 5 v k (stCells (stepsV s k (some a6))))) (hb : Hid (Below w.heap.size w wr))
    (K R : Act → World → Prop) (Q : Exit → Act → World → Prop) (hQQ : Q = bodyPost Try.prog Try.f16 (rpPost w PE OL NL OS NS N ST))
    (c1 c3 c5 c7 c8 c9 c10 c11 c23 c24 c25 c26 c27 c28 c29 c30 c31 c32 c33 c34 c35 c36 c37 c38 c39 c40 c41 c42 c43 c44 c45 c46 c47 c48 c49 c50 c51 c52 c53 c54 c55 c56 c57 c58 c59 c60 c61 c62 c63 c64 c65 c66 c67 c68 c69 c70 c71 c72 c73 c74 c75 c76 c77 c78 c79 c80 c81 c82 c83 c84 c85 c86 c165 c166 c167 c168 c169 c170 c171 c172 c173 c174 c175 c176 c177 c178 c179 c180 u14 u15 u16 u17 u18 u19 u20 u21 u22 u87 u88 u89 u90 u91 u92 u93 u94 u95 u96 u97 u98 u99 u100 u101 u102 u103 u104 u105 u106 u107 u108 u109 u110 u111 u112 u113 u114 u115 u116 u117 u118 u119 u120 u121 u122 u123 u124 u125 u126 u127 u128 u129 u130 u131 u132 u133 u134 u135 u136 u137 u138 u139 u140 u141 u142 u143 u144 u145 u146 u147 u148 u149 u150 u151 u152 u153 u154 u155 u156 u157 u158 u159 u160 u161 u162 u163 u164 : Value) : Code.wp Try.prog lp16 (Exit.then R (Exit.inBlock 0 (Exit.then K Q))) ⟨#[.string s, c1, .pointer (some ⟨w.heap.size, 0, none⟩), c3, .pointer (some ⟨w.heap.size + 1, 0, none⟩), c5, .int .i64 a, c7, c8, c9, c10, c11, .int .i64 N, .int .i64 k, u14, u15, u16, u17, u18, u19, u20, u21, u22, c23, c24, c25, c26, c27, c28, c29, c30, c31, c32, c33, c34, c35, c36, c37, c38, c39, c40, c41, c42, c43, c44, c45, c46, c47, c48, c49, c50, c51, c52, c53, c54, c55, c56, c57, c58, c59, c60, c61, c62, c63, c64, c65, c66, c67, c68, c69, c70, c71, c72, c73, c74, c75, c76, c77, c78, c79, c80, c81, c82, c83, c84, c85, c86, u87, u88, u89, u90, u91, u92, u93, u94, u95, u96, u97, u98, u99, u100, u101, u102, u103, u104, u105, u106, u107, u108, u109, u110, u111, u112, u113, u114, u115, u116, u117, u118, u119, u120, u121, u122, u123, u124, u125, u126, u127, u128, u129, u130, u131, u132, u133, u134, u135, u136, u137, u138, u139, u140, u141, u142, u143, u144, u145, u146, u147, u148, u149, u150, u151, u152, u153, u154, u155, u156, u157, u158, u159, u160, u161, u162, u163, u164, c165, c166, c167, c168, c169, c170, c171, c172, c173, c174, c175, c176, c177, c178, c179, c180], []⟩ wr := by
  have hP : qI (pieceQ s (some a) 1) = (a : Int) + 1 := by simp [pieceQ, h1, qI]
  have hP1 : pieceQ s (some a) 1 = some (a + 1) := by simp [pieceQ, h1]
  have e0 : ((⟨#[x]⟩ : ByteArray)[0]'(Nat.zero_lt_one)) = x := rfl
  have ex : (x.toNat : Int) = 3 := by omega
  have d0 : decide ((a : Int) + 1 < 0) = false := decide_eq_false (by omega)
  have NB : Hid (∀ v, Calls Try.prog 35 #[.string s, .int .i64 ((a : Int) + 1), .int .i64 2] v fun e w' => Below v.heap.size v w' ∧ ∃ l n, e = .returned (.tuple #[l, .int .i64 (qI (numQ s (numQ s (some (a + 1)))))]) ∧ (numQ s (numQ s (some (a + 1))) ≠ none → n = 2) ∧ w'.ownsRow v.heap.size 3 1 l n (nsL s (a + 1) n)) := fun v => numbers_any s (a + 1) v hs h1
  have N1 : Hid (v.ownBlock ≠ some wr.heap.size) := fun h => by have := (hown.out.lt _ h).2; omega
  have s8 : w.heap.size + 2 ≤ wr.heap.size := lt_of_heap hX.out.1
  have hKc : Hid (∀ v, Calls Try.prog 34 #[.string s, .int .i64 a, .int .i64 1] v fun e w' => e = .returned (.tuple #[.string ⟨#[x]⟩, .int .i64 ((a : Int) + 1)]) ∧ Below v.heap.size v w') := fun v => by
    have := cut_any s (some a) 1 v hs (by omega) (fun b h => by cases h; exact has)
    rw [hS, hP] at this
    exact this
  conv => arg 2; whnf
  go_wp2_with fail
  refine (hKc.out _).mono ?_
  rintro e u1 ⟨rfl, b1⟩
  have Z1 : Hid (u1.heap[wr.heap.size]? = some (.cells #[.int .i64 0, .int .i64 0, .int .i64 0, .string ⟨#[]⟩, .int .i64 0] 40 (0, 0))) := by
    show _ = _
    rw [b1.block _ (by simp)]; exact heap_alloc_new wr _
  have P1 : Hid (u1.heap[w.heap.size + 1]? = some (.cells #[.int .i64 OL, .int .i64 NL, .string OS, .string NS, v] 31 (0, 0))) := by
    show _ = _
    rw [b1.block _ (by simp; omega), Below.heap_alloc _ _ _ (by omega)]; exact hX.out.1
  have Y1 : Hid (u1.heap[w.heap.size]? = some (.cells #[.int .i64 0, .int .i64 0, .string ⟨#[]⟩, .string ⟨#[]⟩, .slice none 0 0] 31 (0, 0))) := by
    show _ = _
    rw [b1.block _ (by simp; omega), Below.heap_alloc _ _ _ (by omega)]; exact hX.out.2
  have O1 : Hid (u1.ownsRow w.heap.size 40 5 v k (stCells (stepsV s k (some a6)))) := (hown.out.alloc _).kept (row := none) ⟨b1.os, b1.tape, b1.output, b1.size, fun i hi _ => b1.block i hi⟩ (by cases hv : v.ownBlock <;> simp)
  have B1 : Hid (Below w.heap.size w u1) := (hb.out.alloc hb.out.size _).trans (b1.mono (by simp; omega))
  have s1 : wr.heap.size + 1 ≤ u1.heap.size := by have := b1.size; simp at this; omega
  clear b1 hKc hown hX hb
  obtain ⟨k0, k1, k2, k3, k4, kf⟩ := box_cells Z1.out
  have f0 := kf 0
  clear kf
  have Z2 : Hid ((u1.setCell ⟨wr.heap.size, 0, none⟩ (.int .i64 3)).heap[wr.heap.size]? = some (.cells #[.int .i64 3, .int .i64 0, .int .i64 0, .string ⟨#[]⟩, .int .i64 0] 40 (0, 0))) := Joins.block_setCell Z1.out _
  have P2 : Hid ((u1.setCell ⟨wr.heap.size, 0, none⟩ (.int .i64 3)).heap[w.heap.size + 1]? = some (.cells #[.int .i64 OL, .int .i64 NL, .string OS, .string NS, v] 31 (0, 0))) := by
    show _ = _
    rw [Below.heap_setCell _ _ _ _ (by simp; omega)]; exact P1.out
  have Y2 : Hid ((u1.setCell ⟨wr.heap.size, 0, none⟩ (.int .i64 3)).heap[w.heap.size]? = some (.cells #[.int .i64 0, .int .i64 0, .string ⟨#[]⟩, .string ⟨#[]⟩, .slice none 0 0] 31 (0, 0))) := by
    show _ = _
    rw [Below.heap_setCell _ _ _ _ (by simp; omega)]; exact Y1.out
  have O2 : Hid ((u1.setCell ⟨wr.heap.size, 0, none⟩ (.int .i64 3)).ownsRow w.heap.size 40 5 v k (stCells (stepsV s k (some a6)))) := ownsRow_setCell_other O1.out N1.out _
  have B2 : Hid (Below w.heap.size w (u1.setCell ⟨wr.heap.size, 0, none⟩ (.int .i64 3))) := B1.out.setCell (by simp; omega) _
  have s2 : wr.heap.size + 1 ≤ (u1.setCell ⟨wr.heap.size, 0, none⟩ (.int .i64 3)).heap.size := by simp; omega
  clear Z1 P1 Y1 O1 B1
  go_wp2_with fail
  refine (NB.out _).mono ?_
  rintro e u2 ⟨b2, lv, n2, rfl, hn2, hl2⟩
  have Z3 : Hid (u2.heap[wr.heap.size]? = some (.cells #[.int .i64 3, .int .i64 0, .int .i64 0, .string ⟨#[]⟩, .int .i64 0] 40 (0, 0))) := by
    show _ = _
    rw [b2.block _ (lt_of_heap Z2.out)]; exact Z2.out
  have P3 : Hid (u2.heap[w.heap.size + 1]? = some (.cells #[.int .i64 OL, .int .i64 NL, .string OS, .string NS, v] 31 (0, 0))) := by
    show _ = _
    rw [b2.block _ (lt_of_heap P2.out)]; exact P2.out
  have Y3 : Hid (u2.heap[w.heap.size]? = some (.cells #[.int .i64 0, .int .i64 0, .string ⟨#[]⟩, .string ⟨#[]⟩, .slice none 0 0] 31 (0, 0))) := by
    show _ = _
    rw [b2.block _ (lt_of_heap Y2.out)]; exact Y2.out
  have O3 : Hid (u2.ownsRow w.heap.size 40 5 v k (stCells (stepsV s k (some a6)))) := O2.out.kept (row := none) ⟨b2.os, b2.tape, b2.output, b2.size, fun i hi _ => b2.block i hi⟩ (by cases hv : v.ownBlock <;> simp)
  have B3 : Hid (Below w.heap.size w u2) := B2.out.trans (b2.mono (by simp; omega))
  have s3 : u1.heap.size ≤ u2.heap.size := by have := b2.size; simp at this; omega
  have L2 : Hid (u2.ownsRow u1.heap.size 3 1 lv n2 (nsL s (a + 1) n2)) := by
    show World.ownsRow _ _ _ _ _ _ _
    simpa using hl2
  clear b2 hl2 Z2 P2 Y2 O2 B2 s2 NB k0 k1 k2 k3 k4 f0
  have hn3 : n2 = 2 := hn2 (by rw [hn]; simp)
  subst hn3
  have en : qI (numQ s (numQ s (some (a + 1)))) = (b : Int) := by rw [hn]; rfl
  have eb : qI (some b) = (b : Int) := rfl
  have db : decide ((b : Int) < 0) = false := decide_eq_false (by omega)
  obtain ⟨g, lc, rfl, hg, l0, l1⟩ := own_two (x := .int .i64 (numV s (some (a + 1)))) (y := .int .i64 (numV s (numQ s (some (a + 1))))) L2.out
  have hSle : numV s (numQ s (some (a + 1))) ≤ 2147483647 := numV_le _ _
  have hTle : numV s (some (a + 1)) ≤ 2147483647 := numV_le _ _
  clear hn2 L2
  generalize hT : numV s (some (a + 1)) = T at *
  generalize hSz : numV s (numQ s (some (a + 1))) = S at *
  obtain ⟨k0, k1, k2, k3, k4, kf⟩ := box_cells Z3.out
  have f1 := kf 1
  have f2 := kf 2
  clear kf
  have Z4 : Hid (((u2.setCell ⟨wr.heap.size, 1, none⟩ (.int .i64 T)).setCell ⟨wr.heap.size, 2, none⟩ (.int .i64 S)).heap[wr.heap.size]? = some (.cells #[.int .i64 3, .int .i64 T, .int .i64 S, .string ⟨#[]⟩, .int .i64 0] 40 (0, 0))) := Joins.block_setCell (Joins.block_setCell Z3.out _) _
  have P4 : Hid (((u2.setCell ⟨wr.heap.size, 1, none⟩ (.int .i64 T)).setCell ⟨wr.heap.size, 2, none⟩ (.int .i64 S)).heap[w.heap.size + 1]? = some (.cells #[.int .i64 OL, .int .i64 NL, .string OS, .string NS, v] 31 (0, 0))) := by
    show _ = _
    rw [Below.heap_setCell _ _ _ _ (by simp; omega), Below.heap_setCell _ _ _ _ (by simp; omega)]; exact P3.out
  have Y4 : Hid (((u2.setCell ⟨wr.heap.size, 1, none⟩ (.int .i64 T)).setCell ⟨wr.heap.size, 2, none⟩ (.int .i64 S)).heap[w.heap.size]? = some (.cells #[.int .i64 0, .int .i64 0, .string ⟨#[]⟩, .string ⟨#[]⟩, .slice none 0 0] 31 (0, 0))) := by
    show _ = _
    rw [Below.heap_setCell _ _ _ _ (by simp; omega), Below.heap_setCell _ _ _ _ (by simp; omega)]; exact Y3.out
  have O4 : Hid (((u2.setCell ⟨wr.heap.size, 1, none⟩ (.int .i64 T)).setCell ⟨wr.heap.size, 2, none⟩ (.int .i64 S)).ownsRow w.heap.size 40 5 v k (stCells (stepsV s k (some a6)))) := ownsRow_setCell_other (ownsRow_setCell_other O3.out N1.out _) N1.out _
  have B4 : Hid (Below w.heap.size w ((u2.setCell ⟨wr.heap.size, 1, none⟩ (.int .i64 T)).setCell ⟨wr.heap.size, 2, none⟩ (.int .i64 S))) := (B3.out.setCell (by simp; omega) _).setCell (by simp; omega) _
  have s4 : wr.heap.size + 1 ≤ ((u2.setCell ⟨wr.heap.size, 1, none⟩ (.int .i64 T)).setCell ⟨wr.heap.size, 2, none⟩ (.int .i64 S)).heap.size := by simp; omega
  obtain ⟨m0, m1, m2, m3, m4, mf⟩ := box_cells Z4.out
  clear Z3 P3 Y3 O3 B3 mf
  have l1' : (u2.setCell ⟨wr.heap.size, 1, none⟩ (.int .i64 T)).cell? ⟨g, 1, none⟩ = some (.int .i64 S) := by
    rw [cell_other (by simp; omega)]; exact l1
  have hFle : numV s (some b) ≤ 2147483647 := numV_le _ _
  generalize hF : numV s (some b) = F at *
  generalize hq4 : numQ s (some b) = q4 at *
  have RC : Hid (∀ v, Calls Try.prog 33 #[.string s, .int .i64 b] v fun e w' => e = .returned (.tuple #[.int .i64 F, .int .i64 (qI q4)]) ∧ Below v.heap.size v w') := fun v => by
    have := rread_q s b v hs hbs
    rw [hF, hq4] at this; exact this
  go_wp2_with fail
  refine (RC.out _).mono ?_
  rintro e u3 ⟨rfl, b3⟩
  have Z5 : Hid (u3.heap[wr.heap.size]? = some (.cells #[.int .i64 3, .int .i64 T, .int .i64 S, .string ⟨#[]⟩, .int .i64 0] 40 (0, 0))) := by
    show _ = _
    rw [b3.block _ (lt_of_heap Z4.out)]; exact Z4.out
  have P5 : Hid (u3.heap[w.heap.size + 1]? = some (.cells #[.int .i64 OL, .int .i64 NL, .string OS, .string NS, v] 31 (0, 0))) := by
    show _ = _
    rw [b3.block _ (lt_of_heap P4.out)]; exact P4.out
  have Y5 : Hid (u3.heap[w.heap.size]? = some (.cells #[.int .i64 0, .int .i64 0, .string ⟨#[]⟩, .string ⟨#[]⟩, .slice none 0 0] 31 (0, 0))) := by
    show _ = _
    rw [b3.block _ (lt_of_heap Y4.out)]; exact Y4.out
  have O5 : Hid (u3.ownsRow w.heap.size 40 5 v k (stCells (stepsV s k (some a6)))) := O4.out.kept (row := none) ⟨b3.os, b3.tape, b3.output, b3.size, fun i hi _ => b3.block i hi⟩ (by cases hv : v.ownBlock <;> simp)
  have B5 : Hid (Below w.heap.size w u3) := B4.out.trans (b3.mono (by simp; omega))
  have s5 : wr.heap.size + 1 ≤ u3.heap.size := lt_of_heap Z5.out
  clear b3 Z4 P4 Y4 O4 B4 RC k0 k1 k2 k3 k4 f1 f2 m0 m1 m2 m3 m4 l0 l1 l1' s4
  subst hq
  obtain ⟨k0, k1, k2, k3, k4, kf⟩ := box_cells Z5.out
  have f1 := kf 4
  clear kf
  have Y6 : Hid ((u3.setCell ⟨wr.heap.size, 4, none⟩ (.int .i64 F)).heap[w.heap.size]? = some (.cells #[.int .i64 0, .int .i64 0, .string ⟨#[]⟩, .string ⟨#[]⟩, .slice none 0 0] 31 (0, 0))) := by
    show _ = _
    rw [Below.heap_setCell _ _ _ _ (by simp; omega)]; exact Y5.out
  have B6 : Hid (Below w.heap.size w (u3.setCell ⟨wr.heap.size, 4, none⟩ (.int .i64 F))) := B5.out.setCell (by simp; omega) _
  have e4 : qI none = -1 := rfl
  have hPE : PE = 3 := ER.out.1 hN (k + 1) (by omega) (by rw [stepsQ_succ, hQ.out]; exact hend)
  subst hPE
  clear ER hQ N1 Z5 P5 Y5 O5 B5
  obtain ⟨r0, r1, r2, r3, r4, rf⟩ := box31 Y6.out
  have g0 := rf 0
  have g1 := rf 1
  have g2 := rf 2
  have g3 := rf 3
  have g4 := rf 4
  clear rf
  go_wp2_with fail
  obtain ⟨z0, z1, z2, z3, z4, _⟩ := box31 (fill31 Y6.out (.int .i64 0) (.int .i64 0) (.string ⟨#[]⟩) (.string ⟨#[]⟩) (.slice none 0 0))
  subst hQQ
  refine bodyPost_ret (v := .tuple #[.agg #[.int .i64 0, .int .i64 0, .string ⟨#[]⟩, .string ⟨#[]⟩, .slice none 0 0], .int .i64 3]) (by simp [results, Try.results16, go_sem, z0, z1, z2, z3, z4]) rfl ?_
  exact ⟨((((B6.out.setCell (Nat.le_refl _) _).setCell (Nat.le_refl _) _).setCell (Nat.le_refl _) _).setCell (Nat.le_refl _) _).setCell (Nat.le_refl _) _, .inl ⟨by decide, rfl⟩⟩

end Go.Proofs.Ytjjmcnippjpclaa
