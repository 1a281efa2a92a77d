/-
  The document's ReadPlan: its loop and what lies behind it, taken out; what it answers; the walk behind the loop.
  The document's ReadPlan: the rounds of its loop that end it.
-/
import Derived.Test.YtjjmcnippjpclaaCut
import Derived.Test.YtjjmcnippjpclaaChecks
namespace Go.Proofs.Ytjjmcnippjpclaa

open Go.RowKit

/-- the first four bytes are the mark's. -/
def marked (s : ByteArray) : Prop := (pieceS s (some 0) 4).toList = [84, 76, 82, 73]

/-- what follows from the steps for what is answered. -/
def ErrOf (s : ByteArray) (OL NL : Nat) (OS NS : ByteArray) (N : Nat) (q6 : Option Nat) (PE : Int) : Prop :=
  (N ≤ 2000 → (∀ k, k ≤ N → stepsQ s k q6 = none → PE = 3)) ∧ (∀ k, k < N → byteV s (stepsQ s k q6) ≠ 1 → byteV s (stepsQ s k q6) ≠ 3 → PE = 3)
  ∧ (stepsQ s N q6 ≠ some s.size → PE = 3) ∧ (Pl.full OL NL OS NS (stepsV s N q6) = false → PE = 3)
  ∧ ((pieceS s (some 0) 4).toList = [84, 76, 82, 73] → q6.isNone = false → N ≤ 2000 → stepsQ s N q6 = some s.size → Pl.full OL NL OS NS (stepsV s N q6) = true → PE = if Pl.ord [] (stepsV s N q6) then 0 else 6)

theorem stepQ_none (s : ByteArray) : stepQ s none = none := by
  simp [stepQ, byteV, pieceQ, numQ]

theorem stepQ_piece {s : ByteArray} {q : Option Nat} (h : pieceQ s q 1 = none) : stepQ s q = none := by
  have h2 : ∀ n, pieceQ s none n = none := fun _ => rfl
  have h3 : numQ s none = none := rfl
  simp only [stepQ, h, h2, h3, ite_self]

theorem stepsQ_none (s : ByteArray) (q : Option Nat) (k : Nat) (h : stepsQ s k q = none) : ∀ m, stepsQ s (k + m) q = none
  | 0 => h
  | m + 1 => by rw [← Nat.add_assoc, stepsQ_succ, stepsQ_none s q k h m, stepQ_none]

theorem stepsV_at (s : ByteArray) (q : Option Nat) (k n : Nat) (h : k < n) : stepV s (stepsQ s k q) ∈ stepsV s n q := by
  obtain ⟨m, rfl⟩ : ∃ m, n = k + 1 + m := ⟨n - k - 1, by omega⟩
  induction m with
  | zero => rw [Nat.add_zero, stepsV_succ]; simp
  | succ m ih => rw [← Nat.add_assoc, stepsV_succ]; simp [ih (by omega)]

theorem stepV_k (s : ByteArray) (q : Option Nat) : (stepV s q).k = byteV s q := by
  unfold stepV
  simp only
  split <;> rfl

theorem errOf (s : ByteArray) : ErrOf s (hOL s) (hNL s) (hOS s) (hNS s) (hN s) (hq6 s) (pErr s) := by
  refine ⟨fun _ k hk h => ?_, fun k hk h1 h3 => ?_, fun h => ?_, fun h => ?_, fun h1 h2 h3 h4 h5 => ?_⟩
  · have := stepsQ_none s (hq6 s) k h (hN s - k)
    rw [show k + (hN s - k) = hN s by omega] at this
    simp [pErr, pOk, this]
  · have : Pl.full (hOL s) (hNL s) (hOS s) (hNS s) (pSt s) = false := by
      cases hf : Pl.full (hOL s) (hNL s) (hOS s) (hNS s) (pSt s) with
      | false => rfl
      | true =>
        have := (full_specs hf).2.2.2 _ (stepsV_at s (hq6 s) k (hN s) hk)
        simp only [Pl.ok, decide_eq_true_eq, stepV_k] at this
        omega
    simp [pErr, this]
  · simp [pErr, pOk, h]
  · have h' : Pl.full (hOL s) (hNL s) (hOS s) (hNS s) (pSt s) = false := h
    simp [pErr, h']
  · have hf : Pl.full (hOL s) (hNL s) (hOS s) (hNS s) (pSt s) = true := h5
    have ho := hOk_yes h1 h2 h3
    simp only [pErr, pOk, hf, ho, h4, decide_true, Bool.and_self, if_true]
    rfl

/-- the first loop of a code, and what lies behind it. -/
def firstLoop : Code → Option Code
  | .loop c => some c
  | .seq a b => match firstLoop a with
    | some c => some c
    | none => firstLoop b
  | .block _ c => firstLoop c
  | .scope c => firstLoop c
  | .cond _ a b => match firstLoop a with
    | some c => some c
    | none => firstLoop b
  | _ => none

def behindLoop : Code → Option Code
  | .seq a b => match firstLoop a with
    | some _ => match behindLoop a with
      | some c => some (.seq c b)
      | none => some b
    | none => behindLoop b
  | .scope c => behindLoop c
  | _ => none

noncomputable def lp16 : Code := (Try.f16.body.bind firstLoop).getD .skip

noncomputable def tl16 : Code := (Try.f16.body.bind behindLoop).getD .skip

/-- what is answered. -/
abbrev rpPost (w : World) (PE : Int) (OL NL : Nat) (OS NS : ByteArray) (N : Nat) (ST : List Pl.St) : Ending → World → Prop := fun e w' =>
  Below w.heap.size w w' ∧ ((PE ≠ 0 ∧ e = .returned (.tuple #[.agg #[.int .i64 0, .int .i64 0, .string ⟨#[]⟩, .string ⟨#[]⟩, .slice none 0 0], .int .i64 PE])) ∨
      (PE = 0 ∧ ∃ v, e = .returned (.tuple #[.agg #[.int .i64 OL, .int .i64 NL, .string OS, .string NS, v], .int .i64 0]) ∧ w'.ownsRow w.heap.size 40 5 v N (stCells ST)))

set_option maxRecDepth 1000000 in
set_option maxHeartbeats 8000000 in
theorem tail16 (s : ByteArray) (w wr : World) (PE : Int) (OL NL k a a6 : Nat) (OS NS : ByteArray) (v : Value) (hk : k ≤ 2000)
    (MK2 : Hid (marked s)) (hQ : Hid (stepsQ s k (some a6) = some a)) (ER : Hid (ErrOf s OL NL OS NS k (some a6) PE))
    (hX : Hid (wr.heap[w.heap.size + 1]? = some (.cells #[.int .i64 OL, .int .i64 NL, .string OS, .string NS, v] 31 (0, 0)) ∧ wr.heap[w.heap.size]? = some (.cells #[.int .i64 0, .int .i64 0, .string ⟨#[]⟩, .string ⟨#[]⟩, .slice none 0 0] 31 (0, 0)))) (hown : Hid (wr.ownsRow w.heap.size 40 5 v k (stCells (stepsV s k (some a6))))) (hb : Hid (Below w.heap.size w wr))
    (c1 c3 c5 c7 c8 c9 c10 c11 c12 c13 c14 c15 c16 c17 c18 c19 c20 c21 c22 c23 c24 c25 c26 c27 c28 c29 c30 c31 c32 c33 c34 c35 c36 c37 c38 c39 c40 c41 c42 c43 c44 c45 c46 c47 c48 c49 c50 c51 c52 c53 c54 c55 c56 c57 c58 c59 c60 c61 c62 c63 c64 c65 c66 c67 c68 c69 c70 c71 c72 c73 c74 c75 c76 c77 c78 c79 c80 c81 c82 c83 c84 c85 c86 c87 c88 c89 c90 c91 c92 c93 c94 c95 c96 c97 c98 c99 c100 c101 c102 c103 c104 c105 c106 c107 c108 c109 c110 c111 c112 c113 c114 c115 c116 c117 c118 c119 c120 c121 c122 c123 c124 c125 c126 c127 c128 c129 c130 c131 c132 c133 c134 c135 c136 c137 c138 c139 c140 c141 c142 c143 c144 c145 c146 c147 c148 c149 c150 c151 c152 c153 c154 c155 c156 c157 c158 c159 c160 c161 c162 c163 c164 c165 c166 c167 c168 c169 c170 c171 c172 c173 c174 c175 c176 c177 c178 c179 c180 : Value) :
    Code.wp Try.prog tl16 (bodyPost Try.prog Try.f16 (rpPost w PE OL NL OS NS k (stepsV s k (some a6)))) ⟨#[.string s, c1, .pointer (some ⟨w.heap.size, 0, none⟩), c3, .pointer (some ⟨w.heap.size + 1, 0, none⟩), c5, .int .i64 a, c7, c8, c9, c10, c11, c12, c13, c14, c15, c16, c17, c18, c19, c20, c21, c22, c23, c24, c25, c26, c27, c28, c29, c30, c31, c32, c33, c34, c35, c36, c37, c38, c39, c40, c41, c42, c43, c44, c45, c46, c47, c48, c49, c50, c51, c52, c53, c54, c55, c56, c57, c58, c59, c60, c61, c62, c63, c64, c65, c66, c67, c68, c69, c70, c71, c72, c73, c74, c75, c76, c77, c78, c79, c80, c81, c82, c83, c84, c85, c86, c87, c88, c89, c90, c91, c92, c93, c94, c95, c96, c97, c98, c99, c100, c101, c102, c103, c104, c105, c106, c107, c108, c109, c110, c111, c112, c113, c114, c115, c116, c117, c118, c119, c120, c121, c122, c123, c124, c125, c126, c127, c128, c129, c130, c131, c132, c133, c134, c135, c136, c137, c138, c139, c140, c141, c142, c143, c144, c145, c146, c147, c148, c149, c150, c151, c152, c153, c154, c155, c156, c157, c158, c159, c160, c161, c162, c163, c164, c165, c166, c167, c168, c169, c170, c171, c172, c173, c174, c175, c176, c177, c178, c179, c180], []⟩ wr := by
  have s8 : w.heap.size + 2 ≤ wr.heap.size := lt_of_heap hX.out.1
  have ERs := ER.out
  obtain ⟨_, _, E3, E4, E5⟩ := ERs
  have E3h : Hid (a ≠ s.size → PE = 3) := fun h => E3 (by rw [hQ.out]; simpa using h)
  have E4h : Hid (Pl.full OL NL OS NS (stepsV s k (some a6)) = false → PE = 3) := E4
  have E5h : Hid (a = s.size → Pl.full OL NL OS NS (stepsV s k (some a6)) = true → PE = if Pl.ord [] (stepsV s k (some a6)) then 0 else 6) := fun h1 h2 => E5 MK2.out rfl (by omega) (by rw [hQ.out, h1]) h2
  clear E3 E4 E5 ER
  have hlen : (stepsV s k (some a6)).length = k := stepsV_length _ _ _
  obtain ⟨pa, pb, po, pc, rfl, hst, _⟩ := own_slice hown.out hlen (by omega)
  have HS : Hid (stepsAt wr pa pb po (stepsV s k (some a6))) := hst
  have HCk : Hid (∀ w, stepsAt w pa pb po (stepsV s k (some a6)) → Calls Try.prog 36 #[.agg #[.int .i64 OL, .int .i64 NL, .string OS, .string NS, .slice pa (stepsV s k (some a6)).length pc]] w fun e w' => e = .returned (.int .i64 (Pl.verdict (Pl.full OL NL OS NS (stepsV s k (some a6))) (Pl.ord [] (stepsV s k (some a6))))) ∧ Below w.heap.size w w') := fun w h => check_any OL NL OS NS pa pb po pc _ w h
  clear hst
  generalize stepsV s k (some a6) = ST at *
  clear hlen
  generalize Pl.full OL NL OS NS ST = FU at *
  generalize Pl.ord [] ST = RO at *
  obtain ⟨l0, l1, l2, l3, l4, _⟩ := box31 hX.out.1
  generalize hQQ : bodyPost Try.prog Try.f16 (rpPost w PE OL NL OS NS k ST) = QQ
  conv => arg 2; whnf
  go_wp2_with fail
  refine (HCk.out _ HS.out).mono ?_
  rintro e v9 ⟨rfl, b9⟩
  have Y9 : Hid (v9.heap[w.heap.size]? = some (.cells #[.int .i64 0, .int .i64 0, .string ⟨#[]⟩, .string ⟨#[]⟩, .slice none 0 0] 31 (0, 0))) := by
    show _ = _
    rw [b9.block _ (lt_of_heap hX.out.2)]; exact hX.out.2
  have X9 : Hid (v9.heap[w.heap.size + 1]? = some (.cells #[.int .i64 OL, .int .i64 NL, .string OS, .string NS, (.slice pa ST.length pc)] 31 (0, 0))) := by
    show _ = _
    rw [b9.block _ (lt_of_heap hX.out.1)]; exact hX.out.1
  have B9 : Hid (Below w.heap.size w v9) := hb.out.trans (b9.mono hb.out.size)
  have O9 : Hid (v9.ownsRow w.heap.size 40 5 (.slice pa ST.length pc) k (stCells ST)) := hown.out.kept (row := none) ⟨b9.os, b9.tape, b9.output, b9.size, fun i hi _ => b9.block i hi⟩ (by cases hv : (Value.slice pa ST.length pc).ownBlock <;> simp)
  clear b9 hX hown hb l0 l1 l2 l3 l4 HS HCk
  by_cases hend : a = s.size
  · have dz : decide ((a : Int) = (s.size : Int)) = true := decide_eq_true (by omega)
    cases FU with
    | false =>
      have hv : Pl.verdict false RO = 3 := rfl
      have hPE : PE = 3 := E4h.out rfl
      subst hPE
      clear E3h E4h E5h
      obtain ⟨r0, r1, r2, r3, r4, rf⟩ := box31 Y9.out
      have g0 := rf 0
      have g1 := rf 1
      have g2 := rf 2
      have g3 := rf 3
      have g4 := rf 4
      clear rf
      go_wp2_with fail
      obtain ⟨z0, z1, z2, z3, z4, _⟩ := box31 (fill31 Y9.out (.int .i64 0) (.int .i64 0) (.string ⟨#[]⟩) (.string ⟨#[]⟩) (.slice none 0 0))
      subst hQQ
      refine bodyPost_ret (v := .tuple #[.agg #[.int .i64 0, .int .i64 0, .string ⟨#[]⟩, .string ⟨#[]⟩, .slice none 0 0], .int .i64 3]) (by simp [results, Try.results16, go_sem, z0, z1, z2, z3, z4]) rfl ?_
      exact ⟨((((B9.out.setCell (Nat.le_refl _) _).setCell (Nat.le_refl _) _).setCell (Nat.le_refl _) _).setCell (Nat.le_refl _) _).setCell (Nat.le_refl _) _, .inl ⟨by decide, rfl⟩⟩
    | true =>
      cases RO with
      | false =>
        have hv : Pl.verdict true false = 6 := rfl
        have hPE : PE = 6 := E5h.out hend rfl
        subst hPE
        clear E3h E4h E5h
        obtain ⟨r0, r1, r2, r3, r4, rf⟩ := box31 Y9.out
        have g0 := rf 0
        have g1 := rf 1
        have g2 := rf 2
        have g3 := rf 3
        have g4 := rf 4
        clear rf
        go_wp2_with fail
        obtain ⟨z0, z1, z2, z3, z4, _⟩ := box31 (fill31 Y9.out (.int .i64 0) (.int .i64 0) (.string ⟨#[]⟩) (.string ⟨#[]⟩) (.slice none 0 0))
        subst hQQ
        refine bodyPost_ret (v := .tuple #[.agg #[.int .i64 0, .int .i64 0, .string ⟨#[]⟩, .string ⟨#[]⟩, .slice none 0 0], .int .i64 6]) (by simp [results, Try.results16, go_sem, z0, z1, z2, z3, z4]) rfl ?_
        exact ⟨((((B9.out.setCell (Nat.le_refl _) _).setCell (Nat.le_refl _) _).setCell (Nat.le_refl _) _).setCell (Nat.le_refl _) _).setCell (Nat.le_refl _) _, .inl ⟨by decide, rfl⟩⟩
      | true =>
        have hv : Pl.verdict true true = 0 := rfl
        have hPE : PE = 0 := E5h.out hend rfl
        subst hPE
        clear E3h E4h E5h
        have n4 := own_ne O9.out Y9.out (by decide)
        obtain ⟨r0, r1, r2, r3, r4, rf⟩ := box31 Y9.out
        have g0 := rf 0
        have g1 := rf 1
        have g2 := rf 2
        have g3 := rf 3
        have g4 := rf 4
        clear rf
        obtain ⟨l0, l1, l2, l3, l4, _⟩ := box31 X9.out
        go_wp2_with fail
        obtain ⟨z0, z1, z2, z3, z4, _⟩ := box31 (fill31 Y9.out (.int .i64 OL) (.int .i64 NL) (.string OS) (.string NS) (.slice pa ST.length pc))
        subst hQQ
        refine bodyPost_ret (v := .tuple #[.agg #[.int .i64 OL, .int .i64 NL, .string OS, .string NS, (.slice pa ST.length pc)], .int .i64 0]) (by simp [results, Try.results16, go_sem, z0, z1, z2, z3, z4]) rfl ?_
        refine ⟨((((B9.out.setCell (Nat.le_refl _) _).setCell (Nat.le_refl _) _).setCell (Nat.le_refl _) _).setCell (Nat.le_refl _) _).setCell (Nat.le_refl _) _, ?_⟩
        first | exact .inr ⟨rfl, _, rfl, ownsRow_fill O9.out n4 _ _ _ _ _⟩ | exact ⟨_, rfl, ownsRow_fill O9.out n4 _ _ _ _ _⟩
  · have dz : decide ((a : Int) = (s.size : Int)) = false := decide_eq_false (by omega)
    have hv : Hid (Pl.verdict FU RO = Pl.verdict FU RO) := rfl
    generalize Pl.verdict FU RO = VE at *
    have hPE : PE = 3 := E3h.out hend
    subst hPE
    clear E3h E4h E5h
    obtain ⟨r0, r1, r2, r3, r4, rf⟩ := box31 Y9.out
    have g0 := rf 0
    have g1 := rf 1
    have g2 := rf 2
    have g3 := rf 3
    have g4 := rf 4
    clear rf
    go_wp2_with fail
    obtain ⟨z0, z1, z2, z3, z4, _⟩ := box31 (fill31 Y9.out (.int .i64 0) (.int .i64 0) (.string ⟨#[]⟩) (.string ⟨#[]⟩) (.slice none 0 0))
    subst hQQ
    refine bodyPost_ret (v := .tuple #[.agg #[.int .i64 0, .int .i64 0, .string ⟨#[]⟩, .string ⟨#[]⟩, .slice none 0 0], .int .i64 3]) (by simp [results, Try.results16, go_sem, z0, z1, z2, z3, z4]) rfl ?_
    exact ⟨((((B9.out.setCell (Nat.le_refl _) _).setCell (Nat.le_refl _) _).setCell (Nat.le_refl _) _).setCell (Nat.le_refl _) _).setCell (Nat.le_refl _) _, .inl ⟨by decide, rfl⟩⟩

end Go.Proofs.Ytjjmcnippjpclaa

namespace Go.Proofs.Ytjjmcnippjpclaa

open Go.RowKit

set_option maxRecDepth 1000000 in
set_option maxHeartbeats 8000000 in
theorem round_none (s : ByteArray) (w wr : World) (PE : Int) (OL NL N k a a6 : Nat) (OS NS : ByteArray) (ST : List Pl.St) (v : Value) (hs : s.size ≤ 140737488355328) (hN : N ≤ 2000) (hlt : k < N) (has : a ≤ s.size) (h1 : ¬ a + 1 ≤ s.size)
    (hQ : Hid (stepsQ s k (some a6) = some a)) (ER : Hid (ErrOf s OL NL OS NS N (some a6) PE))
    (hX : Hid (wr.heap[w.heap.size + 1]? = some (.cells #[.int .i64 OL, .int .i64 NL, .string OS, .string NS, v] 31 (0, 0)) ∧ wr.heap[w.heap.size]? = some (.cells #[.int .i64 0, .int .i64 0, .string ⟨#[]⟩, .string ⟨#[]⟩, .slice none 0 0] 31 (0, 0)))) (hown : Hid (wr.ownsRow w.heap.size 40 5 v k (stCells (stepsV s k (some a6))))) (hb : Hid (Below w.heap.size w wr))
    (K R : Act → World → Prop) (Q : Exit → Act → World → Prop) (hQQ : Q = bodyPost Try.prog Try.f16 (rpPost w PE OL NL OS NS N ST))
    (c1 c3 c5 c7 c8 c9 c10 c11 c23 c24 c25 c26 c27 c28 c29 c30 c31 c32 c33 c34 c35 c36 c37 c38 c39 c40 c41 c42 c43 c44 c45 c46 c47 c48 c49 c50 c51 c52 c53 c54 c55 c56 c57 c58 c59 c60 c61 c62 c63 c64 c65 c66 c67 c68 c69 c70 c71 c72 c73 c74 c75 c76 c77 c78 c79 c80 c81 c82 c83 c84 c85 c86 c165 c166 c167 c168 c169 c170 c171 c172 c173 c174 c175 c176 c177 c178 c179 c180 u14 u15 u16 u17 u18 u19 u20 u21 u22 u87 u88 u89 u90 u91 u92 u93 u94 u95 u96 u97 u98 u99 u100 u101 u102 u103 u104 u105 u106 u107 u108 u109 u110 u111 u112 u113 u114 u115 u116 u117 u118 u119 u120 u121 u122 u123 u124 u125 u126 u127 u128 u129 u130 u131 u132 u133 u134 u135 u136 u137 u138 u139 u140 u141 u142 u143 u144 u145 u146 u147 u148 u149 u150 u151 u152 u153 u154 u155 u156 u157 u158 u159 u160 u161 u162 u163 u164 : Value) : Code.wp Try.prog lp16 (Exit.then R (Exit.inBlock 0 (Exit.then K Q))) ⟨#[.string s, c1, .pointer (some ⟨w.heap.size, 0, none⟩), c3, .pointer (some ⟨w.heap.size + 1, 0, none⟩), c5, .int .i64 a, c7, c8, c9, c10, c11, .int .i64 N, .int .i64 k, u14, u15, u16, u17, u18, u19, u20, u21, u22, c23, c24, c25, c26, c27, c28, c29, c30, c31, c32, c33, c34, c35, c36, c37, c38, c39, c40, c41, c42, c43, c44, c45, c46, c47, c48, c49, c50, c51, c52, c53, c54, c55, c56, c57, c58, c59, c60, c61, c62, c63, c64, c65, c66, c67, c68, c69, c70, c71, c72, c73, c74, c75, c76, c77, c78, c79, c80, c81, c82, c83, c84, c85, c86, u87, u88, u89, u90, u91, u92, u93, u94, u95, u96, u97, u98, u99, u100, u101, u102, u103, u104, u105, u106, u107, u108, u109, u110, u111, u112, u113, u114, u115, u116, u117, u118, u119, u120, u121, u122, u123, u124, u125, u126, u127, u128, u129, u130, u131, u132, u133, u134, u135, u136, u137, u138, u139, u140, u141, u142, u143, u144, u145, u146, u147, u148, u149, u150, u151, u152, u153, u154, u155, u156, u157, u158, u159, u160, u161, u162, u163, u164, c165, c166, c167, c168, c169, c170, c171, c172, c173, c174, c175, c176, c177, c178, c179, c180], []⟩ wr := by
  have hP : qI (pieceQ s (some a) 1) = -1 := by simp [pieceQ, h1, qI]
  have hS : pieceS s (some a) 1 = ⟨#[]⟩ := by simp [pieceS, h1]
  have s8 : w.heap.size + 2 ≤ wr.heap.size := lt_of_heap hX.out.1
  have hKc : Hid (∀ v, Calls Try.prog 34 #[.string s, .int .i64 a, .int .i64 1] v fun e w' => e = .returned (.tuple #[.string ⟨#[]⟩, .int .i64 (-1)]) ∧ Below v.heap.size v w') := fun v => by
    have := cut_any s (some a) 1 v hs (by omega) (fun b h => by cases h; exact has)
    rw [hS, hP] at this
    exact this
  conv => arg 2; whnf
  go_wp2_with fail
  refine (hKc.out _).mono ?_
  rintro e u1 ⟨rfl, b1⟩
  have Z1 : Hid (u1.heap[wr.heap.size]? = some (.cells #[.int .i64 0, .int .i64 0, .int .i64 0, .string ⟨#[]⟩, .int .i64 0] 40 (0, 0))) := by
    show _ = _
    rw [b1.block _ (by simp)]; exact heap_alloc_new wr _
  have P1 : Hid (u1.heap[w.heap.size + 1]? = some (.cells #[.int .i64 OL, .int .i64 NL, .string OS, .string NS, v] 31 (0, 0))) := by
    show _ = _
    rw [b1.block _ (by simp; omega), Below.heap_alloc _ _ _ (by omega)]; exact hX.out.1
  have Y1 : Hid (u1.heap[w.heap.size]? = some (.cells #[.int .i64 0, .int .i64 0, .string ⟨#[]⟩, .string ⟨#[]⟩, .slice none 0 0] 31 (0, 0))) := by
    show _ = _
    rw [b1.block _ (by simp; omega), Below.heap_alloc _ _ _ (by omega)]; exact hX.out.2
  have O1 : Hid (u1.ownsRow w.heap.size 40 5 v k (stCells (stepsV s k (some a6)))) := (hown.out.alloc _).kept (row := none) ⟨b1.os, b1.tape, b1.output, b1.size, fun i hi _ => b1.block i hi⟩ (by cases hv : v.ownBlock <;> simp)
  have B1 : Hid (Below w.heap.size w u1) := (hb.out.alloc hb.out.size _).trans (b1.mono (by simp; omega))
  have s1 : wr.heap.size + 1 ≤ u1.heap.size := by have := b1.size; simp at this; omega
  clear b1 hKc hown hX hb
  have hPE : PE = 3 := ER.out.1 hN (k + 1) (by omega) (by rw [stepsQ_succ, hQ.out]; exact stepQ_piece (by simp [pieceQ, h1]))
  subst hPE
  clear ER hQ Z1 P1 O1
  obtain ⟨r0, r1, r2, r3, r4, rf⟩ := box31 Y1.out
  have g0 := rf 0
  have g1 := rf 1
  have g2 := rf 2
  have g3 := rf 3
  have g4 := rf 4
  clear rf
  go_wp2_with fail
  obtain ⟨z0, z1, z2, z3, z4, _⟩ := box31 (fill31 Y1.out (.int .i64 0) (.int .i64 0) (.string ⟨#[]⟩) (.string ⟨#[]⟩) (.slice none 0 0))
  subst hQQ
  refine bodyPost_ret (v := .tuple #[.agg #[.int .i64 0, .int .i64 0, .string ⟨#[]⟩, .string ⟨#[]⟩, .slice none 0 0], .int .i64 3]) (by simp [results, Try.results16, go_sem, z0, z1, z2, z3, z4]) rfl ?_
  exact ⟨((((B1.out.setCell (Nat.le_refl _) _).setCell (Nat.le_refl _) _).setCell (Nat.le_refl _) _).setCell (Nat.le_refl _) _).setCell (Nat.le_refl _) _, .inl ⟨by decide, rfl⟩⟩

set_option maxRecDepth 1000000 in
set_option maxHeartbeats 8000000 in
theorem round_kind (s : ByteArray) (w wr : World) (PE : Int) (OL NL N k a a6 : Nat) (OS NS : ByteArray) (ST : List Pl.St) (v : Value) (hs : s.size ≤ 140737488355328) (_hN : N ≤ 2000) (hlt : k < N) (has : a ≤ s.size) (x : UInt8) (h1 : a + 1 ≤ s.size) (hS : pieceS s (some a) 1 = ⟨#[x]⟩) (hV : byteV s (some a) = x.toNat) (x1 : x ≠ 1) (x3 : x ≠ 3)
    (hQ : Hid (stepsQ s k (some a6) = some a)) (ER : Hid (ErrOf s OL NL OS NS N (some a6) PE))
    (hX : Hid (wr.heap[w.heap.size + 1]? = some (.cells #[.int .i64 OL, .int .i64 NL, .string OS, .string NS, v] 31 (0, 0)) ∧ wr.heap[w.heap.size]? = some (.cells #[.int .i64 0, .int .i64 0, .string ⟨#[]⟩, .string ⟨#[]⟩, .slice none 0 0] 31 (0, 0)))) (hown : Hid (wr.ownsRow w.heap.size 40 5 v k (stCells (stepsV s k (some a6))))) (hb : Hid (Below w.heap.size w wr))
    (K R : Act → World → Prop) (Q : Exit → Act → World → Prop) (hQQ : Q = bodyPost Try.prog Try.f16 (rpPost w PE OL NL OS NS N ST))
    (c1 c3 c5 c7 c8 c9 c10 c11 c23 c24 c25 c26 c27 c28 c29 c30 c31 c32 c33 c34 c35 c36 c37 c38 c39 c40 c41 c42 c43 c44 c45 c46 c47 c48 c49 c50 c51 c52 c53 c54 c55 c56 c57 c58 c59 c60 c61 c62 c63 c64 c65 c66 c67 c68 c69 c70 c71 c72 c73 c74 c75 c76 c77 c78 c79 c80 c81 c82 c83 c84 c85 c86 c165 c166 c167 c168 c169 c170 c171 c172 c173 c174 c175 c176 c177 c178 c179 c180 u14 u15 u16 u17 u18 u19 u20 u21 u22 u87 u88 u89 u90 u91 u92 u93 u94 u95 u96 u97 u98 u99 u100 u101 u102 u103 u104 u105 u106 u107 u108 u109 u110 u111 u112 u113 u114 u115 u116 u117 u118 u119 u120 u121 u122 u123 u124 u125 u126 u127 u128 u129 u130 u131 u132 u133 u134 u135 u136 u137 u138 u139 u140 u141 u142 u143 u144 u145 u146 u147 u148 u149 u150 u151 u152 u153 u154 u155 u156 u157 u158 u159 u160 u161 u162 u163 u164 : Value) : Code.wp Try.prog lp16 (Exit.then R (Exit.inBlock 0 (Exit.then K Q))) ⟨#[.string s, c1, .pointer (some ⟨w.heap.size, 0, none⟩), c3, .pointer (some ⟨w.heap.size + 1, 0, none⟩), c5, .int .i64 a, c7, c8, c9, c10, c11, .int .i64 N, .int .i64 k, u14, u15, u16, u17, u18, u19, u20, u21, u22, c23, c24, c25, c26, c27, c28, c29, c30, c31, c32, c33, c34, c35, c36, c37, c38, c39, c40, c41, c42, c43, c44, c45, c46, c47, c48, c49, c50, c51, c52, c53, c54, c55, c56, c57, c58, c59, c60, c61, c62, c63, c64, c65, c66, c67, c68, c69, c70, c71, c72, c73, c74, c75, c76, c77, c78, c79, c80, c81, c82, c83, c84, c85, c86, u87, u88, u89, u90, u91, u92, u93, u94, u95, u96, u97, u98, u99, u100, u101, u102, u103, u104, u105, u106, u107, u108, u109, u110, u111, u112, u113, u114, u115, u116, u117, u118, u119, u120, u121, u122, u123, u124, u125, u126, u127, u128, u129, u130, u131, u132, u133, u134, u135, u136, u137, u138, u139, u140, u141, u142, u143, u144, u145, u146, u147, u148, u149, u150, u151, u152, u153, u154, u155, u156, u157, u158, u159, u160, u161, u162, u163, u164, c165, c166, c167, c168, c169, c170, c171, c172, c173, c174, c175, c176, c177, c178, c179, c180], []⟩ wr := by
  have hP : qI (pieceQ s (some a) 1) = (a : Int) + 1 := by simp [pieceQ, h1, qI]
  have n1 : x.toNat ≠ 1 := fun h => x1 (UInt8.toNat_inj.1 h)
  have n3 : x.toNat ≠ 3 := fun h => x3 (UInt8.toNat_inj.1 h)
  have e0 : ((⟨#[x]⟩ : ByteArray)[0]'(Nat.zero_lt_one)) = x := rfl
  have m1 : ¬ ((x.toNat : Int) = 1) := by omega
  have m3 : ¬ ((x.toNat : Int) = 3) := by omega
  have q1 : ((x.toNat : Int) != 1) = true := by simpa using m1
  have q3 : ((x.toNat : Int) != 3) = true := by simpa using m3
  have d0 : decide ((a : Int) + 1 < 0) = false := decide_eq_false (by omega)
  have PE3 : Hid (PE = 3) := ER.out.2.1 k hlt (by rw [hQ.out, hV]; exact n1) (by rw [hQ.out, hV]; exact n3)
  have s8 : w.heap.size + 2 ≤ wr.heap.size := lt_of_heap hX.out.1
  have hKc : Hid (∀ v, Calls Try.prog 34 #[.string s, .int .i64 a, .int .i64 1] v fun e w' => e = .returned (.tuple #[.string ⟨#[x]⟩, .int .i64 ((a : Int) + 1)]) ∧ Below v.heap.size v w') := fun v => by
    have := cut_any s (some a) 1 v hs (by omega) (fun b h => by cases h; exact has)
    rw [hS, hP] at this
    exact this
  conv => arg 2; whnf
  go_wp2_with fail
  refine (hKc.out _).mono ?_
  rintro e u1 ⟨rfl, b1⟩
  have Z1 : Hid (u1.heap[wr.heap.size]? = some (.cells #[.int .i64 0, .int .i64 0, .int .i64 0, .string ⟨#[]⟩, .int .i64 0] 40 (0, 0))) := by
    show _ = _
    rw [b1.block _ (by simp)]; exact heap_alloc_new wr _
  have P1 : Hid (u1.heap[w.heap.size + 1]? = some (.cells #[.int .i64 OL, .int .i64 NL, .string OS, .string NS, v] 31 (0, 0))) := by
    show _ = _
    rw [b1.block _ (by simp; omega), Below.heap_alloc _ _ _ (by omega)]; exact hX.out.1
  have Y1 : Hid (u1.heap[w.heap.size]? = some (.cells #[.int .i64 0, .int .i64 0, .string ⟨#[]⟩, .string ⟨#[]⟩, .slice none 0 0] 31 (0, 0))) := by
    show _ = _
    rw [b1.block _ (by simp; omega), Below.heap_alloc _ _ _ (by omega)]; exact hX.out.2
  have O1 : Hid (u1.ownsRow w.heap.size 40 5 v k (stCells (stepsV s k (some a6)))) := (hown.out.alloc _).kept (row := none) ⟨b1.os, b1.tape, b1.output, b1.size, fun i hi _ => b1.block i hi⟩ (by cases hv : v.ownBlock <;> simp)
  have B1 : Hid (Below w.heap.size w u1) := (hb.out.alloc hb.out.size _).trans (b1.mono (by simp; omega))
  have s1 : wr.heap.size + 1 ≤ u1.heap.size := by have := b1.size; simp at this; omega
  clear b1 hKc hown hX hb
  have hPE : PE = 3 := PE3.out
  subst hPE
  clear ER hQ Z1 P1 O1 PE3
  obtain ⟨r0, r1, r2, r3, r4, rf⟩ := box31 Y1.out
  have g0 := rf 0
  have g1 := rf 1
  have g2 := rf 2
  have g3 := rf 3
  have g4 := rf 4
  clear rf
  go_wp2_with fail
  obtain ⟨z0, z1, z2, z3, z4, _⟩ := box31 (fill31 Y1.out (.int .i64 0) (.int .i64 0) (.string ⟨#[]⟩) (.string ⟨#[]⟩) (.slice none 0 0))
  subst hQQ
  refine bodyPost_ret (v := .tuple #[.agg #[.int .i64 0, .int .i64 0, .string ⟨#[]⟩, .string ⟨#[]⟩, .slice none 0 0], .int .i64 3]) (by simp [results, Try.results16, go_sem, z0, z1, z2, z3, z4]) rfl ?_
  exact ⟨((((B1.out.setCell (Nat.le_refl _) _).setCell (Nat.le_refl _) _).setCell (Nat.le_refl _) _).setCell (Nat.le_refl _) _).setCell (Nat.le_refl _) _, .inl ⟨by decide, rfl⟩⟩

end Go.Proofs.Ytjjmcnippjpclaa
