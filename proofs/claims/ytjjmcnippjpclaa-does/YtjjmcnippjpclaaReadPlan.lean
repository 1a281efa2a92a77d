/-
  The walk of readPlan: a patch in place is taken apart.
-/
import Derived.Test.YtjjmcnippjpclaaReadStep
import Derived.Test.YtjjmcnippjpclaaGiven
import Derived.Deep.AppendLies
import Derived.Deep.CutRange
import Derived.Test.YtjjmcnippjpclaaBoxes
namespace Go.Proofs.Ytjjmcnippjpclaa

open Go.RowKit

def stepsV (s : ByteArray) : Nat → Option Nat → List Pl.St
  | 0, _ => []
  | n + 1, q => stepV s q :: stepsV s n (stepQ s q)

def stepsQ (s : ByteArray) : Nat → Option Nat → Option Nat
  | 0, q => q
  | n + 1, q => stepsQ s n (stepQ s q)

theorem stepsV_length (s : ByteArray) : ∀ (n : Nat) (q : Option Nat), (stepsV s n q).length = n
  | 0, _ => rfl
  | n + 1, q => by rw [stepsV, List.length_cons, stepsV_length s n]

theorem stepsQ_succ (s : ByteArray) : ∀ (n : Nat) (q : Option Nat), stepsQ s (n + 1) q = stepQ s (stepsQ s n q)
  | 0, _ => rfl
  | n + 1, q => by rw [stepsQ, stepsQ_succ s n, stepsQ]

theorem stepsV_succ (s : ByteArray) : ∀ (n : Nat) (q : Option Nat), stepsV s (n + 1) q = stepsV s n q ++ [stepV s (stepsQ s n q)]
  | 0, _ => rfl
  | n + 1, q => by rw [stepsV, stepsV_succ s n, stepsV, stepsQ]; rfl

def hq1 (s : ByteArray) : Option Nat := pieceQ s (some 0) 4

def hq2 (s : ByteArray) : Option Nat := numQ s (hq1 s)

def hq3 (s : ByteArray) : Option Nat := pieceQ s (hq2 s) 4

def hq4 (s : ByteArray) : Option Nat := numQ s (hq3 s)

def hq5 (s : ByteArray) : Option Nat := pieceQ s (hq4 s) 4

def hq6 (s : ByteArray) : Option Nat := numQ s (hq5 s)

def hOL (s : ByteArray) : Nat := numV s (hq1 s)

def hOS (s : ByteArray) : ByteArray := pieceS s (hq2 s) 4

def hNL (s : ByteArray) : Nat := numV s (hq3 s)

def hNS (s : ByteArray) : ByteArray := pieceS s (hq4 s) 4

def hN (s : ByteArray) : Nat := numV s (hq5 s)

/-- does a patch begin as it must, so that its steps may be taken? -/
def hOk (s : ByteArray) : Bool := (pieceS s (some 0) 4).toList == [84, 76, 82, 73] && !(hq6 s).isNone && decide (hN s ≤ 2000)

theorem stCells_snoc (st : List Pl.St) (s : Pl.St) : stCells (st ++ [s]) = stCells st ++ [.int .i64 s.k, .int .i64 s.t, .int .i64 s.n, .string s.d, .int .i64 s.f] := by simp [stCells]

theorem rdrAt.grown {R : Nat} {s : ByteArray} {q : Option Nat} {w v : World} {row : Option Nat} (h : rdrAt R s q w) (hg : w.grownBy v row) (hne : some R ≠ row) : rdrAt R s q v := by
  have hl := h.lt
  obtain ⟨i, h1, h2, h3⟩ := h
  exact ⟨i, h1, by rw [hg.block R hl hne]; exact h2, h3⟩

theorem box31 {v : World} {g : Nat} {a b c d e : Value} (h : v.heap[g]? = some (.cells #[a, b, c, d, e] 31 (0, 0))) :
    v.cell? ⟨g, 0, none⟩ = some a ∧ v.cell? ⟨g, 1, none⟩ = some b ∧ v.cell? ⟨g, 2, none⟩ = some c ∧ v.cell? ⟨g, 3, none⟩ = some d ∧ v.cell? ⟨g, 4, none⟩ = some e ∧ (∀ i, v.frozen? ⟨g, i, none⟩ = false) := by
  refine ⟨?_, ?_, ?_, ?_, ?_, fun i => Lib.frozen_of_heap h i⟩ <;> rw [Lib.cell_of_heap h] <;> rfl

theorem fill31 {v : World} {g : Nat} {a b c d e : Value} (h : v.heap[g]? = some (.cells #[a, b, c, d, e] 31 (0, 0))) (a' b' c' d' e' : Value) :
    (((((v.setCell ⟨g, 0, none⟩ a').setCell ⟨g, 1, none⟩ b').setCell ⟨g, 2, none⟩ c').setCell ⟨g, 3, none⟩ d').setCell ⟨g, 4, none⟩ e').heap[g]? = some (.cells #[a', b', c', d', e'] 31 (0, 0)) :=
  Joins.block_setCell (Joins.block_setCell (Joins.block_setCell (Joins.block_setCell (Joins.block_setCell h _) _) _) _) _

theorem lt_of_heap {w : World} {g : Nat} {o : Obj} (h : w.heap[g]? = some o) : g < w.heap.size := (Array.getElem?_eq_some_iff.1 h).1

/-- what holds in a round of readPlan's loop. -/
def inRound (w : World) (Pb : Nat) (s : ByteArray) (OL NL : Nat) (OS NS : ByteArray) (v : Value) (k : Nat) (q6 q : Option Nat) (u : World) : Prop :=
  rdrAt (w.heap.size + 1) s q u ∧ (u.heap[Pb]? = some (.cells #[.int .i64 OL, .int .i64 NL, .string OS, .string NS, v] 31 (0, 0)) ∧ u.heap[w.heap.size]? = some (.cells #[.int .i64 0, .int .i64 0, .string ⟨#[]⟩, .string ⟨#[]⟩, .slice none 0 0] 31 (0, 0))) ∧ u.ownsRow w.heap.size 40 5 v k (stCells (stepsV s k q6)) ∧ Below w.heap.size w u

theorem own_ne {u : World} {B : Nat} {v : Value} {n : Nat} {xs : List Value} {g : Nat} {cs : Array Value} {t : TypeId} {fz : Nat × Nat} (h : u.ownsRow B 40 5 v n xs) (hg : u.heap[g]? = some (.cells cs t fz)) (ht : t ≠ 40) : v.ownBlock ≠ some g := by
  rcases h.2 with ⟨rfl, _⟩ | ⟨g', cap, cur, rfl, _, hg', _⟩
  · simp [Value.ownBlock]
  · intro e
    simp only [Value.ownBlock, Option.some.injEq] at e
    subst e
    rw [hg] at hg'
    cases hg'
    exact ht rfl

theorem ownsRow_fill {u : World} {B g : Nat} {v : Value} {n : Nat} {xs : List Value} (h : u.ownsRow B 40 5 v n xs) (hne : v.ownBlock ≠ some g) (a b c d e : Value) :
    (((((u.setCell ⟨g, 0, none⟩ a).setCell ⟨g, 1, none⟩ b).setCell ⟨g, 2, none⟩ c).setCell ⟨g, 3, none⟩ d).setCell ⟨g, 4, none⟩ e).ownsRow B 40 5 v n xs := by
  have one : ∀ (u : World) (i : Nat) (x : Value), u.ownsRow B 40 5 v n xs → (u.setCell ⟨g, i, none⟩ x).ownsRow B 40 5 v n xs := fun u i x h =>
    h.kept (row := some g) ⟨rfl, rfl, rfl, by simp [World.setCell], fun k _ hn => Below.heap_setCell _ _ _ _ (fun e => hn (by rw [e]))⟩ (Or.inr hne)
  exact one _ _ _ (one _ _ _ (one _ _ _ (one _ _ _ (one _ _ _ h))))

theorem rdrAt.ne {R : Nat} {s : ByteArray} {q : Option Nat} {u : World} {B : Nat} {v : Value} {n : Nat} {xs : List Value} (h : rdrAt R s q u) (hw : u.ownsRow B 40 5 v n xs) : v.ownBlock ≠ some R := by
  obtain ⟨i, _, h2, _⟩ := h
  exact own_ne hw h2 (by decide)

theorem inRound_only {w u u1 : World} {Pb : Nat} {s : ByteArray} {OL NL : Nat} {OS NS : ByteArray} {v : Value} {k : Nat} {q6 q q' : Option Nat} (h : inRound w Pb s OL NL OS NS v k q6 q u) (h1 : rdrAt (w.heap.size + 1) s q' u1) (o : only (w.heap.size + 1) u u1) : inRound w Pb s OL NL OS NS v k q6 q' u1 := by
  obtain ⟨hr, ⟨hp, hz⟩, hw, hb⟩ := h
  have hne : Pb ≠ w.heap.size + 1 := by
    intro e
    obtain ⟨i, _, h2, _⟩ := hr
    rw [e, h2] at hp
    cases hp
  refine ⟨h1, ⟨by rw [o.2 _ (lt_of_heap hp) hne]; exact hp, by rw [o.2 _ (lt_of_heap hz) (by omega)]; exact hz⟩, ?_, hb.trans (o.1.mono (by omega))⟩
  exact hw.kept (row := some (w.heap.size + 1)) ⟨o.1.os, o.1.tape, o.1.output, o.1.size, fun i hi hn => o.2 i hi (fun e => hn (by rw [e]))⟩ (Or.inr (hr.ne hw))

theorem inRound_alloc {w u : World} {Pb : Nat} {s : ByteArray} {OL NL : Nat} {OS NS : ByteArray} {v : Value} {k : Nat} {q6 q : Option Nat} (h : inRound w Pb s OL NL OS NS v k q6 q u) (ob : Obj) : inRound w Pb s OL NL OS NS v k q6 q (u.alloc ob) := by
  obtain ⟨hr, ⟨hp, hz⟩, hw, hb⟩ := h
  exact ⟨hr.alloc ob, ⟨by rw [Below.heap_alloc _ _ _ (lt_of_heap hp)]; exact hp, by rw [Below.heap_alloc _ _ _ (lt_of_heap hz)]; exact hz⟩, hw.alloc ob, hb.alloc hb.size ob⟩

theorem inRound_grown {w u u2 : World} {Pb : Nat} {s : ByteArray} {OL NL : Nat} {OS NS : ByteArray} {v v' : Value} {k : Nat} {q6 q : Option Nat} (h : inRound w Pb s OL NL OS NS v k q6 q u) (hPb : w.heap.size + 1 < Pb) (hg : u.grownBy u2 v.ownBlock)
    (hw' : u2.ownsRow w.heap.size 40 5 v' (k + 1) (stCells (stepsV s k q6) ++ [.int .i64 (stepV s (stepsQ s k q6)).k, .int .i64 (stepV s (stepsQ s k q6)).t, .int .i64 (stepV s (stepsQ s k q6)).n, .string (stepV s (stepsQ s k q6)).d, .int .i64 (stepV s (stepsQ s k q6)).f])) :
    (u2.heap[Pb]? = some (.cells #[.int .i64 OL, .int .i64 NL, .string OS, .string NS, v] 31 (0, 0)) ∧ u2.heap[w.heap.size]? = some (.cells #[.int .i64 0, .int .i64 0, .string ⟨#[]⟩, .string ⟨#[]⟩, .slice none 0 0] 31 (0, 0))) ∧
    inRound w Pb s OL NL OS NS v' (k + 1) q6 q (u2.setCell ⟨Pb, 4, none⟩ v') := by
  obtain ⟨hr, ⟨hp, hz⟩, hw, hb⟩ := h
  have n1 := own_ne hw hp (by decide)
  have n2 := own_ne hw hz (by decide)
  have n3 := hr.ne hw
  have p2 : u2.heap[Pb]? = some (.cells #[.int .i64 OL, .int .i64 NL, .string OS, .string NS, v] 31 (0, 0)) := by rw [hg.block _ (lt_of_heap hp) (fun e => n1 e.symm)]; exact hp
  have z2 : u2.heap[w.heap.size]? = some (.cells #[.int .i64 0, .int .i64 0, .string ⟨#[]⟩, .string ⟨#[]⟩, .slice none 0 0] 31 (0, 0)) := by rw [hg.block _ (lt_of_heap hz) (fun e => n2 e.symm)]; exact hz
  have r2 := hr.grown hg (fun e => n3 e.symm)
  have b2 : Below w.heap.size w u2 := hb.grown hg hb.size (fun k hk => (hw.lt k hk).1)
  have hPR : w.heap.size + 1 ≠ Pb := by omega
  have n4 := own_ne hw' p2 (by decide)
  refine ⟨⟨p2, z2⟩, r2.other (by simpa using hPR) _, ⟨Joins.block_setCell p2 _, by rw [Below.heap_setCell _ _ _ _ (by simp; omega)]; exact z2⟩, ?_, b2.setCell (by simp; omega) _⟩
  rw [stepsV_succ, stCells_snoc]
  exact hw'.kept (row := some Pb) ⟨rfl, rfl, rfl, by simp [World.setCell], fun i _ hn => Below.heap_setCell _ _ _ _ (fun e => hn (by rw [e]))⟩ (Or.inr n4)

/-- the patch begins as it must not. -/
theorem hOk_mark {s : ByteArray} (h : ¬ (pieceS s (some 0) 4).toList = [84, 76, 82, 73]) : hOk s = false := by simp [hOk, h]

theorem hOk_fail {s : ByteArray} (h : hq6 s = none) : hOk s = false := by simp [hOk, h]

theorem hOk_many {s : ByteArray} (h : 2000 < hN s) : hOk s = false := by simp [hOk]; omega

theorem hOk_yes {s : ByteArray} (h : (pieceS s (some 0) 4).toList = [84, 76, 82, 73]) (h6 : (hq6 s).isNone = false) (hn : hN s ≤ 2000) : hOk s = true := by simp [hOk, h, hn, h6]

set_option linter.unusedSimpArgs false in
set_option maxRecDepth 100000 in
set_option maxHeartbeats 8000000 in
theorem readPlan_any (s : ByteArray) (w : World) (hs : s.size ≤ 140737488355328) :
    Calls Try.prog 37 #[.string s] w fun e w' => Below w.heap.size w w' ∧ ((hOk s = false ∧ e = .returned (.tuple #[.agg #[.int .i64 0, .int .i64 0, .string ⟨#[]⟩, .string ⟨#[]⟩, .slice none 0 0], .bool false])) ∨
      (hOk s = true ∧ ∃ v, e = .returned (.tuple #[.agg #[.int .i64 (hOL s), .int .i64 (hNL s), .string (hOS s), .string (hNS s), v], .bool (decide (stepsQ s (hN s) (hq6 s) = some s.size))]) ∧ w'.ownsRow w.heap.size 40 5 v (hN s) (stCells (stepsV s (hN s) (hq6 s))))) := by
  have hm : s.size ≤ maxLen := by unfold maxLen; omega
  have F0 : Hid (¬ (pieceS s (some 0) 4).toList = [84, 76, 82, 73] → hOk s = false) := hOk_mark
  have F1 : Hid (hq6 s = none → hOk s = false) := hOk_fail
  have F2 : Hid (2000 < hN s → hOk s = false) := hOk_many
  have F3 : Hid ((pieceS s (some 0) 4).toList = [84, 76, 82, 73] → (hq6 s).isNone = false → hN s ≤ 2000 → hOk s = true) := hOk_yes
  have P0 : Hid (∀ v, rdrAt (w.heap.size + 1) s (some 0) v → Calls Try.prog 60 #[.pointer (some ⟨(w.heap.size + 1), 0, none⟩), .int .i64 4] v fun e w' => e = .returned (.string (pieceS s (some 0) 4)) ∧ rdrAt (w.heap.size + 1) s (hq1 s) w' ∧ only (w.heap.size + 1) v w') := fun v h => piece_any _ s (some 0) 4 v hm (by omega) h
  have P1 : Hid (∀ v, rdrAt (w.heap.size + 1) s (hq1 s) v → Calls Try.prog 61 #[.pointer (some ⟨(w.heap.size + 1), 0, none⟩)] v fun e w' => e = .returned (.int .i64 (hOL s)) ∧ rdrAt (w.heap.size + 1) s (hq2 s) w' ∧ only (w.heap.size + 1) v w') := fun v h => rNumber_any _ s _ v hm h
  have P2 : Hid (∀ v, rdrAt (w.heap.size + 1) s (hq2 s) v → Calls Try.prog 60 #[.pointer (some ⟨(w.heap.size + 1), 0, none⟩), .int .i64 4] v fun e w' => e = .returned (.string (hOS s)) ∧ rdrAt (w.heap.size + 1) s (hq3 s) w' ∧ only (w.heap.size + 1) v w') := fun v h => piece_any _ s _ 4 v hm (by omega) h
  have P3 : Hid (∀ v, rdrAt (w.heap.size + 1) s (hq3 s) v → Calls Try.prog 61 #[.pointer (some ⟨(w.heap.size + 1), 0, none⟩)] v fun e w' => e = .returned (.int .i64 (hNL s)) ∧ rdrAt (w.heap.size + 1) s (hq4 s) w' ∧ only (w.heap.size + 1) v w') := fun v h => rNumber_any _ s _ v hm h
  have P4 : Hid (∀ v, rdrAt (w.heap.size + 1) s (hq4 s) v → Calls Try.prog 60 #[.pointer (some ⟨(w.heap.size + 1), 0, none⟩), .int .i64 4] v fun e w' => e = .returned (.string (hNS s)) ∧ rdrAt (w.heap.size + 1) s (hq5 s) w' ∧ only (w.heap.size + 1) v w') := fun v h => piece_any _ s _ 4 v hm (by omega) h
  have P5 : Hid (∀ v, rdrAt (w.heap.size + 1) s (hq5 s) v → Calls Try.prog 61 #[.pointer (some ⟨(w.heap.size + 1), 0, none⟩)] v fun e w' => e = .returned (.int .i64 (hN s)) ∧ rdrAt (w.heap.size + 1) s (hq6 s) w' ∧ only (w.heap.size + 1) v w') := fun v h => rNumber_any _ s _ v hm h
  have L2 : Hid ((hOS s).size ≤ 140737488355328) := Nat.le_trans (pieceS_size _ _ _) hs
  have L4 : Hid ((hNS s).size ≤ 140737488355328) := Nat.le_trans (pieceS_size _ _ _) hs
  have hNle : hN s ≤ 2147483647 := numV_le _ _
  generalize pieceS s (some 0) 4 = MK at *
  generalize hq1 s = q1 at *
  generalize hq2 s = q2 at *
  generalize hq3 s = q3 at *
  generalize hq4 s = q4 at *
  generalize hq5 s = q5 at *
  generalize hq6 s = q6 at *
  generalize hOL s = OL at *
  generalize hNL s = NL at *
  generalize hOS s = OS at *
  generalize hNS s = NS at *
  generalize hN s = N at *
  generalize hOk s = OK at *
  go_enter Try.func37, Try.ntmps37
  go_wp2_with fail
  refine (of_any s _).mono ?_
  rintro e v1 ⟨rfl, h1, b1⟩
  rw [World.size_alloc] at h1
  have Y1 : Hid (v1.heap[w.heap.size]? = some (.cells #[.int .i64 0, .int .i64 0, .string ⟨#[]⟩, .string ⟨#[]⟩, .slice none 0 0] 31 (0, 0))) := by
    show _ = _
    rw [b1.block _ (by simp)]; exact heap_alloc_new w _
  have B1 : Hid (Below w.heap.size w v1) := ((Below.refl _ _).alloc (Nat.le_refl _) _).trans (b1.mono (by simp))
  have H1 : Hid (rdrAt (w.heap.size + 1) s (some 0) v1) := h1
  clear h1 b1
  go_wp2_with fail
  refine (P0.out _ H1.out).mono ?_
  rintro e v2 ⟨rfl, h2, o2⟩
  have Y2 : Hid (v2.heap[w.heap.size]? = some (.cells #[.int .i64 0, .int .i64 0, .string ⟨#[]⟩, .string ⟨#[]⟩, .slice none 0 0] 31 (0, 0))) := by
    show _ = _
    rw [o2.2 _ (lt_of_heap Y1.out) (by omega)]; exact Y1.out
  have B2 : Hid (Below w.heap.size w v2) := B1.out.trans (o2.1.mono (by omega))
  have H2 : Hid (rdrAt (w.heap.size + 1) s q1 v2) := h2
  have s2 : w.heap.size + 1 < v2.heap.size := h2.lt
  clear h2 o2
  by_cases hmk : MK.toList = [84, 76, 82, 73]
  · have hmb : (MK.toList == [84, 76, 82, 73]) = true := by rw [hmk]; rfl
    obtain ⟨Pb, hPb⟩ : ∃ Pb, Pb = v2.heap.size := ⟨_, rfl⟩
    have X2 : Hid ((v2.alloc (Obj.cells #[.int .i64 0, .int .i64 0, .string ⟨#[]⟩, .string ⟨#[]⟩, .slice none 0 0] 31)).heap[Pb]? = some (.cells #[.int .i64 0, .int .i64 0, .string ⟨#[]⟩, .string ⟨#[]⟩, .slice none 0 0] 31 (0, 0)) ∧ (v2.alloc (Obj.cells #[.int .i64 0, .int .i64 0, .string ⟨#[]⟩, .string ⟨#[]⟩, .slice none 0 0] 31)).heap[w.heap.size]? = some (.cells #[.int .i64 0, .int .i64 0, .string ⟨#[]⟩, .string ⟨#[]⟩, .slice none 0 0] 31 (0, 0))) := by
      rw [hPb]
      exact ⟨heap_alloc_new v2 _, by rw [Below.heap_alloc _ _ _ (by omega)]; exact Y2.out⟩
    have B3 : Hid (Below w.heap.size w (v2.alloc (Obj.cells #[.int .i64 0, .int .i64 0, .string ⟨#[]⟩, .string ⟨#[]⟩, .slice none 0 0] 31))) := B2.out.alloc (by omega) _
    have H3 : Hid (rdrAt (w.heap.size + 1) s q1 (v2.alloc (Obj.cells #[.int .i64 0, .int .i64 0, .string ⟨#[]⟩, .string ⟨#[]⟩, .slice none 0 0] 31))) := H2.out.alloc _
    have hPR : w.heap.size + 1 < Pb := by omega
    go_wp2_with fail
    rw [← hPb]
    clear hPb
    refine (P1.out _ H3.out).mono ?_
    rintro e v4 ⟨rfl, h4, o4⟩
    have U4 : Hid (v4.heap[Pb]? = some (.cells #[.int .i64 0, .int .i64 0, .string ⟨#[]⟩, .string ⟨#[]⟩, .slice none 0 0] 31 (0, 0)) ∧ v4.heap[w.heap.size]? = some (.cells #[.int .i64 0, .int .i64 0, .string ⟨#[]⟩, .string ⟨#[]⟩, .slice none 0 0] 31 (0, 0))) := ⟨by rw [o4.2 _ (lt_of_heap X2.out.1) (by omega)]; exact X2.out.1, by rw [o4.2 _ (lt_of_heap X2.out.2) (by omega)]; exact X2.out.2⟩
    have X4 : Hid ((v4.setCell ⟨Pb, 0, none⟩ (.int .i64 OL)).heap[Pb]? = some (.cells #[.int .i64 OL, .int .i64 0, .string ⟨#[]⟩, .string ⟨#[]⟩, .slice none 0 0] 31 (0, 0)) ∧ (v4.setCell ⟨Pb, 0, none⟩ (.int .i64 OL)).heap[w.heap.size]? = some (.cells #[.int .i64 0, .int .i64 0, .string ⟨#[]⟩, .string ⟨#[]⟩, .slice none 0 0] 31 (0, 0))) := ⟨Joins.block_setCell U4.out.1 _, by rw [Below.heap_setCell _ _ _ _ (by simp; omega)]; exact U4.out.2⟩
    have B4 : Hid (Below w.heap.size w (v4.setCell ⟨Pb, 0, none⟩ (.int .i64 OL))) := (B3.out.trans (o4.1.mono (by omega))).setCell (by simp; omega) _
    have H4 : Hid (rdrAt (w.heap.size + 1) s q2 (v4.setCell ⟨Pb, 0, none⟩ (.int .i64 OL))) := h4.other (by simp; omega) _
    obtain ⟨c0, c1, c2, c3, c4, cf⟩ := box31 U4.out.1
    have f0 := cf 0
    clear cf h4 o4 U4 X2 B3 H3
    go_wp2_with fail
    clear c0 c1 c2 c3 c4 f0
    refine (P2.out _ H4.out).mono ?_
    rintro e v5 ⟨rfl, h5, o5⟩
    have U5 : Hid (v5.heap[Pb]? = some (.cells #[.int .i64 OL, .int .i64 0, .string ⟨#[]⟩, .string ⟨#[]⟩, .slice none 0 0] 31 (0, 0)) ∧ v5.heap[w.heap.size]? = some (.cells #[.int .i64 0, .int .i64 0, .string ⟨#[]⟩, .string ⟨#[]⟩, .slice none 0 0] 31 (0, 0))) := ⟨by rw [o5.2 _ (lt_of_heap X4.out.1) (by omega)]; exact X4.out.1, by rw [o5.2 _ (lt_of_heap X4.out.2) (by omega)]; exact X4.out.2⟩
    have B5 : Hid (Below w.heap.size w v5) := B4.out.trans (o5.1.mono (by omega))
    have H5 : Hid (rdrAt (w.heap.size + 1) s q3 v5) := h5
    clear h5 o5 X4 B4 H4
    go_wp2_with fail
    refine (clone_any _ v5 L2.out).mono ?_
    rintro e v6 ⟨rfl, b6⟩
    have U6 : Hid (v6.heap[Pb]? = some (.cells #[.int .i64 OL, .int .i64 0, .string ⟨#[]⟩, .string ⟨#[]⟩, .slice none 0 0] 31 (0, 0)) ∧ v6.heap[w.heap.size]? = some (.cells #[.int .i64 0, .int .i64 0, .string ⟨#[]⟩, .string ⟨#[]⟩, .slice none 0 0] 31 (0, 0))) := ⟨by rw [b6.block _ (lt_of_heap U5.out.1)]; exact U5.out.1, by rw [b6.block _ (lt_of_heap U5.out.2)]; exact U5.out.2⟩
    have X6 : Hid ((v6.setCell ⟨Pb, 2, none⟩ (.string OS)).heap[Pb]? = some (.cells #[.int .i64 OL, .int .i64 0, .string OS, .string ⟨#[]⟩, .slice none 0 0] 31 (0, 0)) ∧ (v6.setCell ⟨Pb, 2, none⟩ (.string OS)).heap[w.heap.size]? = some (.cells #[.int .i64 0, .int .i64 0, .string ⟨#[]⟩, .string ⟨#[]⟩, .slice none 0 0] 31 (0, 0))) := ⟨Joins.block_setCell U6.out.1 _, by rw [Below.heap_setCell _ _ _ _ (by simp; omega)]; exact U6.out.2⟩
    have B6 : Hid (Below w.heap.size w (v6.setCell ⟨Pb, 2, none⟩ (.string OS))) := (B5.out.trans (b6.mono B5.out.size)).setCell (by simp; omega) _
    have H6 : Hid (rdrAt (w.heap.size + 1) s q3 (v6.setCell ⟨Pb, 2, none⟩ (.string OS))) := (H5.out.below b6).other (by simp; omega) _
    obtain ⟨c0, c1, c2, c3, c4, cf⟩ := box31 U6.out.1
    have f0 := cf 2
    clear cf b6 U5 U6 B5 H5
    go_wp2_with fail
    clear c0 c1 c2 c3 c4 f0
    refine (P3.out _ H6.out).mono ?_
    rintro e v7 ⟨rfl, h7, o7⟩
    have U7 : Hid (v7.heap[Pb]? = some (.cells #[.int .i64 OL, .int .i64 0, .string OS, .string ⟨#[]⟩, .slice none 0 0] 31 (0, 0)) ∧ v7.heap[w.heap.size]? = some (.cells #[.int .i64 0, .int .i64 0, .string ⟨#[]⟩, .string ⟨#[]⟩, .slice none 0 0] 31 (0, 0))) := ⟨by rw [o7.2 _ (lt_of_heap X6.out.1) (by omega)]; exact X6.out.1, by rw [o7.2 _ (lt_of_heap X6.out.2) (by omega)]; exact X6.out.2⟩
    have X7 : Hid ((v7.setCell ⟨Pb, 1, none⟩ (.int .i64 NL)).heap[Pb]? = some (.cells #[.int .i64 OL, .int .i64 NL, .string OS, .string ⟨#[]⟩, .slice none 0 0] 31 (0, 0)) ∧ (v7.setCell ⟨Pb, 1, none⟩ (.int .i64 NL)).heap[w.heap.size]? = some (.cells #[.int .i64 0, .int .i64 0, .string ⟨#[]⟩, .string ⟨#[]⟩, .slice none 0 0] 31 (0, 0))) := ⟨Joins.block_setCell U7.out.1 _, by rw [Below.heap_setCell _ _ _ _ (by simp; omega)]; exact U7.out.2⟩
    have B7 : Hid (Below w.heap.size w (v7.setCell ⟨Pb, 1, none⟩ (.int .i64 NL))) := (B6.out.trans (o7.1.mono (by omega))).setCell (by simp; omega) _
    have H7 : Hid (rdrAt (w.heap.size + 1) s q4 (v7.setCell ⟨Pb, 1, none⟩ (.int .i64 NL))) := h7.other (by simp; omega) _
    obtain ⟨c0, c1, c2, c3, c4, cf⟩ := box31 U7.out.1
    have f0 := cf 1
    clear cf h7 o7 U7 X6 B6 H6
    go_wp2_with fail
    clear c0 c1 c2 c3 c4 f0
    refine (P4.out _ H7.out).mono ?_
    rintro e v8 ⟨rfl, h8, o8⟩
    have U8 : Hid (v8.heap[Pb]? = some (.cells #[.int .i64 OL, .int .i64 NL, .string OS, .string ⟨#[]⟩, .slice none 0 0] 31 (0, 0)) ∧ v8.heap[w.heap.size]? = some (.cells #[.int .i64 0, .int .i64 0, .string ⟨#[]⟩, .string ⟨#[]⟩, .slice none 0 0] 31 (0, 0))) := ⟨by rw [o8.2 _ (lt_of_heap X7.out.1) (by omega)]; exact X7.out.1, by rw [o8.2 _ (lt_of_heap X7.out.2) (by omega)]; exact X7.out.2⟩
    have B8 : Hid (Below w.heap.size w v8) := B7.out.trans (o8.1.mono (by omega))
    have H8 : Hid (rdrAt (w.heap.size + 1) s q5 v8) := h8
    clear h8 o8 X7 B7 H7
    go_wp2_with fail
    refine (clone_any _ v8 L4.out).mono ?_
    rintro e v9 ⟨rfl, b9⟩
    have U9 : Hid (v9.heap[Pb]? = some (.cells #[.int .i64 OL, .int .i64 NL, .string OS, .string ⟨#[]⟩, .slice none 0 0] 31 (0, 0)) ∧ v9.heap[w.heap.size]? = some (.cells #[.int .i64 0, .int .i64 0, .string ⟨#[]⟩, .string ⟨#[]⟩, .slice none 0 0] 31 (0, 0))) := ⟨by rw [b9.block _ (lt_of_heap U8.out.1)]; exact U8.out.1, by rw [b9.block _ (lt_of_heap U8.out.2)]; exact U8.out.2⟩
    have X9 : Hid ((v9.setCell ⟨Pb, 3, none⟩ (.string NS)).heap[Pb]? = some (.cells #[.int .i64 OL, .int .i64 NL, .string OS, .string NS, .slice none 0 0] 31 (0, 0)) ∧ (v9.setCell ⟨Pb, 3, none⟩ (.string NS)).heap[w.heap.size]? = some (.cells #[.int .i64 0, .int .i64 0, .string ⟨#[]⟩, .string ⟨#[]⟩, .slice none 0 0] 31 (0, 0))) := ⟨Joins.block_setCell U9.out.1 _, by rw [Below.heap_setCell _ _ _ _ (by simp; omega)]; exact U9.out.2⟩
    have B9 : Hid (Below w.heap.size w (v9.setCell ⟨Pb, 3, none⟩ (.string NS))) := (B8.out.trans (b9.mono B8.out.size)).setCell (by simp; omega) _
    have H9 : Hid (rdrAt (w.heap.size + 1) s q5 (v9.setCell ⟨Pb, 3, none⟩ (.string NS))) := (H8.out.below b9).other (by simp; omega) _
    obtain ⟨c0, c1, c2, c3, c4, cf⟩ := box31 U9.out.1
    have f0 := cf 3
    clear cf b9 U8 U9 B8 H8
    go_wp2_with fail
    clear c0 c1 c2 c3 c4 f0
    refine (P5.out _ H9.out).mono ?_
    rintro e v10 ⟨rfl, h10, o10⟩
    have X10 : Hid (v10.heap[Pb]? = some (.cells #[.int .i64 OL, .int .i64 NL, .string OS, .string NS, .slice none 0 0] 31 (0, 0)) ∧ v10.heap[w.heap.size]? = some (.cells #[.int .i64 0, .int .i64 0, .string ⟨#[]⟩, .string ⟨#[]⟩, .slice none 0 0] 31 (0, 0))) := ⟨by rw [o10.2 _ (lt_of_heap X9.out.1) (by omega)]; exact X9.out.1, by rw [o10.2 _ (lt_of_heap X9.out.2) (by omega)]; exact X9.out.2⟩
    have B10 : Hid (Below w.heap.size w v10) := B9.out.trans (o10.1.mono (by omega))
    have H10 : Hid (rdrAt (w.heap.size + 1) s q6 v10) := h10
    clear h10 o10 X9 B9 H9
    go_wp2_with fail
    refine (failed_any _ s q6 v10 H10).mono ?_
    rintro e v11 ⟨rfl, rfl⟩
    obtain ⟨r0, r1, r2, r3, r4, rf⟩ := box31 X10.out.2
    have g0 := rf 0
    have g1 := rf 1
    have g2 := rf 2
    have g3 := rf 3
    have g4 := rf 4
    clear rf
    cases hq : q6.isNone
    · by_cases hn : N ≤ 2000
      · have hOK : Hid (OK = true) := F3.out hmk hq hn
        have dn : decide ((2000 : Int) < (N : Int)) = false := decide_eq_false (by omega)
        clear r0 r1 r2 r3 r4 g0 g1 g2 g3 g4
        go_wp2_with fail
        go_loopw [38] (fun i wr => ∃ (k : Nat) (v : Value), k ≤ N ∧ i = .int .i64 k ∧ Hid (rdrAt (w.heap.size + 1) s (stepsQ s k q6) wr) ∧ Hid (wr.heap[Pb]? = some (.cells #[.int .i64 OL, .int .i64 NL, .string OS, .string NS, v] 31 (0, 0)) ∧ wr.heap[w.heap.size]? = some (.cells #[.int .i64 0, .int .i64 0, .string ⟨#[]⟩, .string ⟨#[]⟩, .slice none 0 0] 31 (0, 0))) ∧ Hid (wr.ownsRow w.heap.size 40 5 v k (stCells (stepsV s k q6))) ∧ Hid (Below w.heap.size w wr)) (fun i _ => N - (intOf i).toNat)
        case atStart => exact ⟨0, .slice none 0 0, Nat.zero_le _, rfl, H10, X10, World.ownsRow_nil _ _ _ _, B10⟩
        case round =>
          obtain ⟨k, v, hk, rfl, hr, hx, hown, hb⟩ := hrel
          by_cases hlt : k < N
          · have HIN : Hid (inRound w Pb s OL NL OS NS v k q6 (stepsQ s k q6) wr.drew) := ⟨hr.out, hx.out, hown.out, hb.out.drew⟩
            have HRD : Hid (rdrAt (w.heap.size + 1) s (stepsQ s k q6) wr.drew) := hr.out
            have hPs : Pb < wr.heap.size := lt_of_heap hx.out.1
            have l3 : wr.cell? ⟨Pb, 4, none⟩ = some v := (box31 hx.out.1).2.2.2.2.1
            obtain ⟨i0, hi, hzz⟩ := Option.map_eq_some_iff.1 info40
            simp only [Prod.mk.injEq] at hzz
            go_wp2_with fail
            refine wp_region_noPanic ?_
            refine wp_region_held_drew (S := fun _ => True) (by kernel_rfl) trivial (fun _ => ?_)
            refine wpAnyH_take (i := 0) (v := ?va4) rfl (by kernel_rfl) (by kernel_rfl) (by kernel_rfl) (fun _ _ _ h => h) (Or.inl ⟨by rfl, ?hya4⟩) trivial ?resta4
            case hya4 =>
              intro w hSw
              go_simp
              try with_reducible rfl
            simp only [Act.put, List.setIfInBounds_toArray, List.set_cons_zero, List.set_cons_succ, List.getElem_toArray, List.getElem_cons_zero, List.getElem_cons_succ]
            refine wpAnyH_take (i := 2) (v := ?va5) rfl (by kernel_rfl) (by kernel_rfl) (by kernel_rfl) (fun _ _ _ h => h) (Or.inl ⟨by rfl, ?hya5⟩) trivial ?resta5
            case hya5 =>
              intro w hSw
              go_simp
              try with_reducible rfl
            simp only [Act.put, List.setIfInBounds_toArray, List.set_cons_zero, List.set_cons_succ, List.getElem_toArray, List.getElem_cons_zero, List.getElem_cons_succ]
            refine wpAnyH_ready (rs := [1, 3]) (by kernel_rfl) (by simp) ?_
            refine AllReadyH.cons rfl (fun K hK => ?_) ?_
            · go_simp
              refine hK.out _ _ trivial (fun _ => ?_)
              clear hK
              (try simp only [Act.put, List.setIfInBounds_toArray, List.set_cons_zero, List.set_cons_succ, List.getElem_toArray, List.getElem_cons_zero, List.getElem_cons_succ])
              refine wpAnyH_ready (rs := [3]) (by kernel_rfl) (by simp) ?_
              refine AllReadyH.cons rfl (fun K hK => ?_) ?_
              · go_simp
                refine (readStep_any _ s (stepsQ s k q6) _ hs HRD).mono ?_
                rintro e u1 ⟨rfl, k1, o1⟩
                (try go_wp2_with fail)
                refine hK.out _ _ trivial (fun _ => ?_)
                clear hK
                (try simp only [Act.put, List.setIfInBounds_toArray, List.set_cons_zero, List.set_cons_succ, List.getElem_toArray, List.getElem_cons_zero, List.getElem_cons_succ])
                have E1 : Hid (inRound w Pb s OL NL OS NS v k q6 (stepQ s (stepsQ s k q6)) u1) := inRound_only HIN.out k1 o1
                have l4 : u1.cell? ⟨Pb, 4, none⟩ = some v := (box31 E1.out.2.1.1).2.2.2.2.1
                refine wpAnyH_ready (rs := [4]) (by kernel_rfl) (by simp) ?_
                refine AllReadyH.cons rfl (fun K hK => ?_) ?_
                · go_simp
                  refine hK.out _ _ trivial (fun _ => ?_)
                  clear hK
                  (try simp only [Act.put, List.setIfInBounds_toArray, List.set_cons_zero, List.set_cons_succ, List.getElem_toArray, List.getElem_cons_zero, List.getElem_cons_succ])
                  have l5 : (u1.alloc (Obj.cells #[.int .i64 (stepV s (stepsQ s k q6)).k, .int .i64 (stepV s (stepsQ s k q6)).t, .int .i64 (stepV s (stepsQ s k q6)).n, .string (stepV s (stepsQ s k q6)).d, .int .i64 (stepV s (stepsQ s k q6)).f] 40)).cell? ⟨Pb, 4, none⟩ = some v := (box31 (inRound_alloc E1.out (Obj.cells #[.int .i64 (stepV s (stepsQ s k q6)).k, .int .i64 (stepV s (stepsQ s k q6)).t, .int .i64 (stepV s (stepsQ s k q6)).n, .string (stepV s (stepsQ s k q6)).d, .int .i64 (stepV s (stepsQ s k q6)).f] 40)).2.1.1).2.2.2.2.1
                  refine wpAnyH_ready (rs := [5]) (by kernel_rfl) (by simp) ?_
                  refine AllReadyH.cons rfl (fun K hK => ?_) ?_
                  · rw [if_pos (by rfl)]
                    refine wp_append_own _ (.tmp 41) (.tmp 44) 29 rfl w.heap.size 40 i0 (.agg zero5.toArray) 5 48 Try.underlying29 hi hzz.1 hzz.2.1 hzz.2.2 rfl (by decide) v k (stCells (stepsV s k q6)) rfl (inRound_alloc E1.out (Obj.cells #[.int .i64 (stepV s (stepsQ s k q6)).k, .int .i64 (stepV s (stepsQ s k q6)).t, .int .i64 (stepV s (stepsQ s k q6)).n, .string (stepV s (stepsQ s k q6)).d, .int .i64 (stepV s (stepsQ s k q6)).f] 40)).2.2.1 ⟨u1.heap.size, 0, none⟩ 1 1 [.int .i64 (stepV s (stepsQ s k q6)).k, .int .i64 (stepV s (stepsQ s k q6)).t, .int .i64 (stepV s (stepsQ s k q6)).n, .string (stepV s (stepsQ s k q6)).d, .int .i64 (stepV s (stepsQ s k q6)).f] rfl rfl ?c1 ?c2 ?c3 ?c4 ?c5 ?_
                    case c1 => exact World.news_of_block (cs := #[.int .i64 (stepV s (stepsQ s k q6)).k, .int .i64 (stepV s (stepsQ s k q6)).t, .int .i64 (stepV s (stepsQ s k q6)).n, .string (stepV s (stepsQ s k q6)).d, .int .i64 (stepV s (stepsQ s k q6)).f]) (heap_alloc_new u1 _)
                    case c2 =>
                      intro u hu
                      simp at hu
                      rcases hu with rfl | rfl | rfl | rfl | rfl <;> rfl
                    case c3 => unfold maxLen; omega
                    case c4 => omega
                    case c5 => have := E1.out.2.2.2.size; simp; omega
                    intro v' u2 hw hg _
                    obtain ⟨ao, n', cp, rfl⟩ : ∃ ao n' cp, v' = .slice ao n' cp := by
                      rcases hw.2 with ⟨hv, _⟩ | ⟨g, cap, cur, hv, _⟩ <;> exact ⟨_, _, _, hv⟩
                    refine hK.out _ _ trivial (fun _ => ?_)
                    clear hK
                    (try simp only [Act.put, List.setIfInBounds_toArray, List.set_cons_zero, List.set_cons_succ, List.getElem_toArray, List.getElem_cons_zero, List.getElem_cons_succ])
                    have E2 : Hid (u2.heap[Pb]? = some (.cells #[.int .i64 OL, .int .i64 NL, .string OS, .string NS, v] 31 (0, 0))) := (inRound_grown (inRound_alloc E1.out (Obj.cells #[.int .i64 (stepV s (stepsQ s k q6)).k, .int .i64 (stepV s (stepsQ s k q6)).t, .int .i64 (stepV s (stepsQ s k q6)).n, .string (stepV s (stepsQ s k q6)).d, .int .i64 (stepV s (stepsQ s k q6)).f] 40)) hPR hg hw).1.1
                    have E3 : Hid (inRound w Pb s OL NL OS NS (.slice ao n' cp) (k + 1) q6 (stepQ s (stepsQ s k q6)) (u2.setCell ⟨Pb, 4, none⟩ (.slice ao n' cp))) := (inRound_grown (inRound_alloc E1.out (Obj.cells #[.int .i64 (stepV s (stepsQ s k q6)).k, .int .i64 (stepV s (stepsQ s k q6)).t, .int .i64 (stepV s (stepsQ s k q6)).n, .string (stepV s (stepsQ s k q6)).d, .int .i64 (stepV s (stepsQ s k q6)).f] 40)) hPR hg hw).2
                    obtain ⟨_, _, _, _, l6, lf⟩ := box31 E2.out
                    have l7 := lf 4
                    clear lf hw hg
                    refine wpAnyH_take (i := 6) (v := ?va1) rfl (by kernel_rfl) (by kernel_rfl) (by kernel_rfl) (fun _ _ _ h => h) (Or.inl ⟨by rfl, ?hya1⟩) trivial ?resta1
                    case hya1 =>
                      intro w hSw
                      go_simp
                      try with_reducible rfl
                    simp only [Act.put, List.setIfInBounds_toArray, List.set_cons_zero, List.set_cons_succ, List.getElem_toArray, List.getElem_cons_zero, List.getElem_cons_succ]
                    refine wpAnyH_ready (rs := [7]) (by kernel_rfl) (by simp) ?_
                    refine AllReadyH.cons rfl (fun K hK => ?_) ?_
                    · go_simp
                      refine hK.out _ _ trivial (fun _ => ?_)
                      clear hK
                      (try simp only [Act.put, List.setIfInBounds_toArray, List.set_cons_zero, List.set_cons_succ, List.getElem_toArray, List.getElem_cons_zero, List.getElem_cons_succ])
                      refine wpAnyH_done (by kernel_rfl) ?_ _
                      refine NoPanic.normal ?_
                      go_wp2_with fail
                      exact ⟨⟨k + 1, _, by omega, by go_num, by rw [stepsQ_succ]; exact E3.out.1, E3.out.2.1, E3.out.2.2.1, E3.out.2.2.2⟩, by simp [intOf]; omega⟩
                    exact AllReadyH.nil
                  exact AllReadyH.nil
                exact AllReadyH.nil
              exact AllReadyH.nil
            refine AllReadyH.cons rfl (fun K hK => ?_) ?_
            · go_simp
              refine (readStep_any _ s (stepsQ s k q6) _ hs HRD).mono ?_
              rintro e u1 ⟨rfl, k1, o1⟩
              (try go_wp2_with fail)
              refine hK.out _ _ trivial (fun _ => ?_)
              clear hK
              (try simp only [Act.put, List.setIfInBounds_toArray, List.set_cons_zero, List.set_cons_succ, List.getElem_toArray, List.getElem_cons_zero, List.getElem_cons_succ])
              have E1 : Hid (inRound w Pb s OL NL OS NS v k q6 (stepQ s (stepsQ s k q6)) u1) := inRound_only HIN.out k1 o1
              have l4 : u1.cell? ⟨Pb, 4, none⟩ = some v := (box31 E1.out.2.1.1).2.2.2.2.1
              refine wpAnyH_ready (rs := [1, 4]) (by kernel_rfl) (by simp) ?_
              refine AllReadyH.cons rfl (fun K hK => ?_) ?_
              · go_simp
                refine hK.out _ _ trivial (fun _ => ?_)
                clear hK
                (try simp only [Act.put, List.setIfInBounds_toArray, List.set_cons_zero, List.set_cons_succ, List.getElem_toArray, List.getElem_cons_zero, List.getElem_cons_succ])
                refine wpAnyH_ready (rs := [4]) (by kernel_rfl) (by simp) ?_
                refine AllReadyH.cons rfl (fun K hK => ?_) ?_
                · go_simp
                  refine hK.out _ _ trivial (fun _ => ?_)
                  clear hK
                  (try simp only [Act.put, List.setIfInBounds_toArray, List.set_cons_zero, List.set_cons_succ, List.getElem_toArray, List.getElem_cons_zero, List.getElem_cons_succ])
                  have l5 : (u1.alloc (Obj.cells #[.int .i64 (stepV s (stepsQ s k q6)).k, .int .i64 (stepV s (stepsQ s k q6)).t, .int .i64 (stepV s (stepsQ s k q6)).n, .string (stepV s (stepsQ s k q6)).d, .int .i64 (stepV s (stepsQ s k q6)).f] 40)).cell? ⟨Pb, 4, none⟩ = some v := (box31 (inRound_alloc E1.out (Obj.cells #[.int .i64 (stepV s (stepsQ s k q6)).k, .int .i64 (stepV s (stepsQ s k q6)).t, .int .i64 (stepV s (stepsQ s k q6)).n, .string (stepV s (stepsQ s k q6)).d, .int .i64 (stepV s (stepsQ s k q6)).f] 40)).2.1.1).2.2.2.2.1
                  refine wpAnyH_ready (rs := [5]) (by kernel_rfl) (by simp) ?_
                  refine AllReadyH.cons rfl (fun K hK => ?_) ?_
                  · rw [if_pos (by rfl)]
                    refine wp_append_own _ (.tmp 41) (.tmp 44) 29 rfl w.heap.size 40 i0 (.agg zero5.toArray) 5 48 Try.underlying29 hi hzz.1 hzz.2.1 hzz.2.2 rfl (by decide) v k (stCells (stepsV s k q6)) rfl (inRound_alloc E1.out (Obj.cells #[.int .i64 (stepV s (stepsQ s k q6)).k, .int .i64 (stepV s (stepsQ s k q6)).t, .int .i64 (stepV s (stepsQ s k q6)).n, .string (stepV s (stepsQ s k q6)).d, .int .i64 (stepV s (stepsQ s k q6)).f] 40)).2.2.1 ⟨u1.heap.size, 0, none⟩ 1 1 [.int .i64 (stepV s (stepsQ s k q6)).k, .int .i64 (stepV s (stepsQ s k q6)).t, .int .i64 (stepV s (stepsQ s k q6)).n, .string (stepV s (stepsQ s k q6)).d, .int .i64 (stepV s (stepsQ s k q6)).f] rfl rfl ?c1 ?c2 ?c3 ?c4 ?c5 ?_
                    case c1 => exact World.news_of_block (cs := #[.int .i64 (stepV s (stepsQ s k q6)).k, .int .i64 (stepV s (stepsQ s k q6)).t, .int .i64 (stepV s (stepsQ s k q6)).n, .string (stepV s (stepsQ s k q6)).d, .int .i64 (stepV s (stepsQ s k q6)).f]) (heap_alloc_new u1 _)
                    case c2 =>
                      intro u hu
                      simp at hu
                      rcases hu with rfl | rfl | rfl | rfl | rfl <;> rfl
                    case c3 => unfold maxLen; omega
                    case c4 => omega
                    case c5 => have := E1.out.2.2.2.size; simp; omega
                    intro v' u2 hw hg _
                    obtain ⟨ao, n', cp, rfl⟩ : ∃ ao n' cp, v' = .slice ao n' cp := by
                      rcases hw.2 with ⟨hv, _⟩ | ⟨g, cap, cur, hv, _⟩ <;> exact ⟨_, _, _, hv⟩
                    refine hK.out _ _ trivial (fun _ => ?_)
                    clear hK
                    (try simp only [Act.put, List.setIfInBounds_toArray, List.set_cons_zero, List.set_cons_succ, List.getElem_toArray, List.getElem_cons_zero, List.getElem_cons_succ])
                    have E2 : Hid (u2.heap[Pb]? = some (.cells #[.int .i64 OL, .int .i64 NL, .string OS, .string NS, v] 31 (0, 0))) := (inRound_grown (inRound_alloc E1.out (Obj.cells #[.int .i64 (stepV s (stepsQ s k q6)).k, .int .i64 (stepV s (stepsQ s k q6)).t, .int .i64 (stepV s (stepsQ s k q6)).n, .string (stepV s (stepsQ s k q6)).d, .int .i64 (stepV s (stepsQ s k q6)).f] 40)) hPR hg hw).1.1
                    have E3 : Hid (inRound w Pb s OL NL OS NS (.slice ao n' cp) (k + 1) q6 (stepQ s (stepsQ s k q6)) (u2.setCell ⟨Pb, 4, none⟩ (.slice ao n' cp))) := (inRound_grown (inRound_alloc E1.out (Obj.cells #[.int .i64 (stepV s (stepsQ s k q6)).k, .int .i64 (stepV s (stepsQ s k q6)).t, .int .i64 (stepV s (stepsQ s k q6)).n, .string (stepV s (stepsQ s k q6)).d, .int .i64 (stepV s (stepsQ s k q6)).f] 40)) hPR hg hw).2
                    obtain ⟨_, _, _, _, l6, lf⟩ := box31 E2.out
                    have l7 := lf 4
                    clear lf hw hg
                    refine wpAnyH_take (i := 6) (v := ?va2) rfl (by kernel_rfl) (by kernel_rfl) (by kernel_rfl) (fun _ _ _ h => h) (Or.inl ⟨by rfl, ?hya2⟩) trivial ?resta2
                    case hya2 =>
                      intro w hSw
                      go_simp
                      try with_reducible rfl
                    simp only [Act.put, List.setIfInBounds_toArray, List.set_cons_zero, List.set_cons_succ, List.getElem_toArray, List.getElem_cons_zero, List.getElem_cons_succ]
                    refine wpAnyH_ready (rs := [7]) (by kernel_rfl) (by simp) ?_
                    refine AllReadyH.cons rfl (fun K hK => ?_) ?_
                    · go_simp
                      refine hK.out _ _ trivial (fun _ => ?_)
                      clear hK
                      (try simp only [Act.put, List.setIfInBounds_toArray, List.set_cons_zero, List.set_cons_succ, List.getElem_toArray, List.getElem_cons_zero, List.getElem_cons_succ])
                      refine wpAnyH_done (by kernel_rfl) ?_ _
                      refine NoPanic.normal ?_
                      go_wp2_with fail
                      exact ⟨⟨k + 1, _, by omega, by go_num, by rw [stepsQ_succ]; exact E3.out.1, E3.out.2.1, E3.out.2.2.1, E3.out.2.2.2⟩, by simp [intOf]; omega⟩
                    exact AllReadyH.nil
                  exact AllReadyH.nil
                exact AllReadyH.nil
              refine AllReadyH.cons rfl (fun K hK => ?_) ?_
              · go_simp
                refine hK.out _ _ trivial (fun _ => ?_)
                clear hK
                (try simp only [Act.put, List.setIfInBounds_toArray, List.set_cons_zero, List.set_cons_succ, List.getElem_toArray, List.getElem_cons_zero, List.getElem_cons_succ])
                have l5 : (u1.alloc (Obj.cells #[.int .i64 (stepV s (stepsQ s k q6)).k, .int .i64 (stepV s (stepsQ s k q6)).t, .int .i64 (stepV s (stepsQ s k q6)).n, .string (stepV s (stepsQ s k q6)).d, .int .i64 (stepV s (stepsQ s k q6)).f] 40)).cell? ⟨Pb, 4, none⟩ = some v := (box31 (inRound_alloc E1.out (Obj.cells #[.int .i64 (stepV s (stepsQ s k q6)).k, .int .i64 (stepV s (stepsQ s k q6)).t, .int .i64 (stepV s (stepsQ s k q6)).n, .string (stepV s (stepsQ s k q6)).d, .int .i64 (stepV s (stepsQ s k q6)).f] 40)).2.1.1).2.2.2.2.1
                refine wpAnyH_ready (rs := [1]) (by kernel_rfl) (by simp) ?_
                refine AllReadyH.cons rfl (fun K hK => ?_) ?_
                · go_simp
                  refine hK.out _ _ trivial (fun _ => ?_)
                  clear hK
                  (try simp only [Act.put, List.setIfInBounds_toArray, List.set_cons_zero, List.set_cons_succ, List.getElem_toArray, List.getElem_cons_zero, List.getElem_cons_succ])
                  refine wpAnyH_ready (rs := [5]) (by kernel_rfl) (by simp) ?_
                  refine AllReadyH.cons rfl (fun K hK => ?_) ?_
                  · rw [if_pos (by rfl)]
                    refine wp_append_own _ (.tmp 41) (.tmp 44) 29 rfl w.heap.size 40 i0 (.agg zero5.toArray) 5 48 Try.underlying29 hi hzz.1 hzz.2.1 hzz.2.2 rfl (by decide) v k (stCells (stepsV s k q6)) rfl (inRound_alloc E1.out (Obj.cells #[.int .i64 (stepV s (stepsQ s k q6)).k, .int .i64 (stepV s (stepsQ s k q6)).t, .int .i64 (stepV s (stepsQ s k q6)).n, .string (stepV s (stepsQ s k q6)).d, .int .i64 (stepV s (stepsQ s k q6)).f] 40)).2.2.1 ⟨u1.heap.size, 0, none⟩ 1 1 [.int .i64 (stepV s (stepsQ s k q6)).k, .int .i64 (stepV s (stepsQ s k q6)).t, .int .i64 (stepV s (stepsQ s k q6)).n, .string (stepV s (stepsQ s k q6)).d, .int .i64 (stepV s (stepsQ s k q6)).f] rfl rfl ?c1 ?c2 ?c3 ?c4 ?c5 ?_
                    case c1 => exact World.news_of_block (cs := #[.int .i64 (stepV s (stepsQ s k q6)).k, .int .i64 (stepV s (stepsQ s k q6)).t, .int .i64 (stepV s (stepsQ s k q6)).n, .string (stepV s (stepsQ s k q6)).d, .int .i64 (stepV s (stepsQ s k q6)).f]) (heap_alloc_new u1 _)
                    case c2 =>
                      intro u hu
                      simp at hu
                      rcases hu with rfl | rfl | rfl | rfl | rfl <;> rfl
                    case c3 => unfold maxLen; omega
                    case c4 => omega
                    case c5 => have := E1.out.2.2.2.size; simp; omega
                    intro v' u2 hw hg _
                    obtain ⟨ao, n', cp, rfl⟩ : ∃ ao n' cp, v' = .slice ao n' cp := by
                      rcases hw.2 with ⟨hv, _⟩ | ⟨g, cap, cur, hv, _⟩ <;> exact ⟨_, _, _, hv⟩
                    refine hK.out _ _ trivial (fun _ => ?_)
                    clear hK
                    (try simp only [Act.put, List.setIfInBounds_toArray, List.set_cons_zero, List.set_cons_succ, List.getElem_toArray, List.getElem_cons_zero, List.getElem_cons_succ])
                    have E2 : Hid (u2.heap[Pb]? = some (.cells #[.int .i64 OL, .int .i64 NL, .string OS, .string NS, v] 31 (0, 0))) := (inRound_grown (inRound_alloc E1.out (Obj.cells #[.int .i64 (stepV s (stepsQ s k q6)).k, .int .i64 (stepV s (stepsQ s k q6)).t, .int .i64 (stepV s (stepsQ s k q6)).n, .string (stepV s (stepsQ s k q6)).d, .int .i64 (stepV s (stepsQ s k q6)).f] 40)) hPR hg hw).1.1
                    have E3 : Hid (inRound w Pb s OL NL OS NS (.slice ao n' cp) (k + 1) q6 (stepQ s (stepsQ s k q6)) (u2.setCell ⟨Pb, 4, none⟩ (.slice ao n' cp))) := (inRound_grown (inRound_alloc E1.out (Obj.cells #[.int .i64 (stepV s (stepsQ s k q6)).k, .int .i64 (stepV s (stepsQ s k q6)).t, .int .i64 (stepV s (stepsQ s k q6)).n, .string (stepV s (stepsQ s k q6)).d, .int .i64 (stepV s (stepsQ s k q6)).f] 40)) hPR hg hw).2
                    obtain ⟨_, _, _, _, l6, lf⟩ := box31 E2.out
                    have l7 := lf 4
                    clear lf hw hg
                    refine wpAnyH_take (i := 6) (v := ?va3) rfl (by kernel_rfl) (by kernel_rfl) (by kernel_rfl) (fun _ _ _ h => h) (Or.inl ⟨by rfl, ?hya3⟩) trivial ?resta3
                    case hya3 =>
                      intro w hSw
                      go_simp
                      try with_reducible rfl
                    simp only [Act.put, List.setIfInBounds_toArray, List.set_cons_zero, List.set_cons_succ, List.getElem_toArray, List.getElem_cons_zero, List.getElem_cons_succ]
                    refine wpAnyH_ready (rs := [7]) (by kernel_rfl) (by simp) ?_
                    refine AllReadyH.cons rfl (fun K hK => ?_) ?_
                    · go_simp
                      refine hK.out _ _ trivial (fun _ => ?_)
                      clear hK
                      (try simp only [Act.put, List.setIfInBounds_toArray, List.set_cons_zero, List.set_cons_succ, List.getElem_toArray, List.getElem_cons_zero, List.getElem_cons_succ])
                      refine wpAnyH_done (by kernel_rfl) ?_ _
                      refine NoPanic.normal ?_
                      go_wp2_with fail
                      exact ⟨⟨k + 1, _, by omega, by go_num, by rw [stepsQ_succ]; exact E3.out.1, E3.out.2.1, E3.out.2.2.1, E3.out.2.2.2⟩, by simp [intOf]; omega⟩
                    exact AllReadyH.nil
                  exact AllReadyH.nil
                exact AllReadyH.nil
              exact AllReadyH.nil
            exact AllReadyH.nil
          · have hke : k = N := by omega
            subst hke
            have HRD : Hid (rdrAt (w.heap.size + 1) s (stepsQ s k q6) wr.drew) := hr.out
            have hPs : Pb < wr.heap.size := lt_of_heap hx.out.1
            have hBs : w.heap.size < wr.heap.size := lt_of_heap hx.out.2
            obtain ⟨l0, l1, l2, l3, l4, _⟩ := box31 hx.out.1
            obtain ⟨r0, r1, r2, r3, r4, rf⟩ := box31 hx.out.2
            have g0 := rf 0
            have g1 := rf 1
            have g2 := rf 2
            have g3 := rf 3
            have g4 := rf 4
            clear rf
            have HP1 : Hid (∀ u1, Below wr.heap.size wr.drew u1 → u1.heap[Pb]? = some (.cells #[.int .i64 OL, .int .i64 NL, .string OS, .string NS, v] 31 (0, 0)) ∧ u1.heap[w.heap.size]? = some (.cells #[.int .i64 0, .int .i64 0, .string ⟨#[]⟩, .string ⟨#[]⟩, .slice none 0 0] 31 (0, 0))) := fun u1 b => ⟨(b.block _ hPs).trans hx.out.1, (b.block _ hBs).trans hx.out.2⟩
            have hsl : ∃ ao n' cp, v = .slice ao n' cp := by
              rcases hown.out.2 with ⟨hv, _⟩ | ⟨g, cap, cur, hv, _⟩ <;> exact ⟨_, _, _, hv⟩
            obtain ⟨ao, n', cp, rfl⟩ := hsl
            go_wp2_with fail
            go_region_with (go_at_call 65; refine (whole_any _ s (stepsQ s k q6) _ HRD).mono ?_; rintro e u1 ⟨rfl, b1⟩; obtain ⟨m0, m1, m2, m3, m4, _⟩ := box31 (HP1.out u1 b1).1; obtain ⟨y0, y1, y2, y3, y4, yf⟩ := box31 (HP1.out u1 b1).2; have x0 := yf 0; have x1 := yf 1; have x2 := yf 2; have x3 := yf 3; have x4 := yf 4; clear yf)
            all_goals
              have hU := HP1.out u1 b1
              have n4 := own_ne (hown.out) hx.out.2 (by decide)
              have hW : Hid (u1.ownsRow w.heap.size 40 5 (.slice ao n' cp) k (stCells (stepsV s k q6))) := hown.out.kept (row := none) ⟨b1.os, b1.tape, b1.output, b1.size, fun i hi _ => b1.block i hi⟩ (by cases hv : (Value.slice ao n' cp).ownBlock <;> simp)
              have BU : Hid (Below w.heap.size w u1) := hb.out.trans ⟨b1.os, b1.tape, b1.output, b1.size, fun i hi => b1.block i (by show i < wr.heap.size; omega)⟩
              go_wp2_with fail
              obtain ⟨z0, z1, z2, z3, z4, _⟩ := box31 (fill31 hU.2 (.int .i64 OL) (.int .i64 NL) (.string OS) (.string NS) (.slice ao n' cp))
              refine bodyPost_ret (v := .tuple #[.agg #[.int .i64 OL, .int .i64 NL, .string OS, .string NS, .slice ao n' cp], .bool (decide (stepsQ s k q6 = some s.size))]) (by simp [results, Try.results37, go_sem, z0, z1, z2, z3, z4]) rfl ?_
              refine ⟨((((BU.out.setCell (Nat.le_refl _) _).setCell (Nat.le_refl _) _).setCell (Nat.le_refl _) _).setCell (Nat.le_refl _) _).setCell (Nat.le_refl _) _, .inr ⟨hOK.out, _, rfl, ?_⟩⟩
              exact ownsRow_fill hW.out n4 _ _ _ _ _
      · have hOK : Hid (OK = false) := F2.out (by omega)
        have dn : decide ((2000 : Int) < (N : Int)) = true := decide_eq_true (by omega)
        go_wp2_with fail
        obtain ⟨z0, z1, z2, z3, z4, _⟩ := box31 (fill31 X10.out.2 (.int .i64 0) (.int .i64 0) (.string ⟨#[]⟩) (.string ⟨#[]⟩) (.slice none 0 0))
        refine bodyPost_ret (v := .tuple #[.agg #[.int .i64 0, .int .i64 0, .string ⟨#[]⟩, .string ⟨#[]⟩, .slice none 0 0], .bool false]) (by simp [results, Try.results37, go_sem, z0, z1, z2, z3, z4]) rfl ?_
        exact ⟨((((B10.out.setCell (Nat.le_refl _) _).setCell (Nat.le_refl _) _).setCell (Nat.le_refl _) _).setCell (Nat.le_refl _) _).setCell (Nat.le_refl _) _, .inl ⟨hOK.out, rfl⟩⟩
    · have hOK : Hid (OK = false) := F1.out (by simpa using hq)
      go_wp2_with fail
      obtain ⟨z0, z1, z2, z3, z4, _⟩ := box31 (fill31 X10.out.2 (.int .i64 0) (.int .i64 0) (.string ⟨#[]⟩) (.string ⟨#[]⟩) (.slice none 0 0))
      refine bodyPost_ret (v := .tuple #[.agg #[.int .i64 0, .int .i64 0, .string ⟨#[]⟩, .string ⟨#[]⟩, .slice none 0 0], .bool false]) (by simp [results, Try.results37, go_sem, z0, z1, z2, z3, z4]) rfl ?_
      exact ⟨((((B10.out.setCell (Nat.le_refl _) _).setCell (Nat.le_refl _) _).setCell (Nat.le_refl _) _).setCell (Nat.le_refl _) _).setCell (Nat.le_refl _) _, .inl ⟨hOK.out, rfl⟩⟩
  · have hOK : Hid (OK = false) := F0.out hmk
    have hmb : (MK.toList == [84, 76, 82, 73]) = false := by simpa using hmk
    obtain ⟨r0, r1, r2, r3, r4, rf⟩ := box31 Y2.out
    have g0 := rf 0
    have g1 := rf 1
    have g2 := rf 2
    have g3 := rf 3
    have g4 := rf 4
    clear rf
    go_wp2_with fail
    obtain ⟨z0, z1, z2, z3, z4, _⟩ := box31 (fill31 Y2.out (.int .i64 0) (.int .i64 0) (.string ⟨#[]⟩) (.string ⟨#[]⟩) (.slice none 0 0))
    refine bodyPost_ret (v := .tuple #[.agg #[.int .i64 0, .int .i64 0, .string ⟨#[]⟩, .string ⟨#[]⟩, .slice none 0 0], .bool false]) (by simp [results, Try.results37, go_sem, z0, z1, z2, z3, z4]) rfl ?_
    exact ⟨((((B2.out.setCell (Nat.le_refl _) _).setCell (Nat.le_refl _) _).setCell (Nat.le_refl _) _).setCell (Nat.le_refl _) _).setCell (Nat.le_refl _) _, .inl ⟨hOK.out, rfl⟩⟩

end Go.Proofs.Ytjjmcnippjpclaa
