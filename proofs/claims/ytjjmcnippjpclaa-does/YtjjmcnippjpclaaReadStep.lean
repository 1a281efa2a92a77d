/-
  The walk of readStep: a step is taken out of a patch.
-/
import Derived.Test.YtjjmcnippjpclaaReader
import Derived.Test.YtjjmcnippjpclaaPlan
import Derived.Lib.SmallJoins
namespace Go.Proofs.Ytjjmcnippjpclaa

open Go.RowKit

theorem only.alloc {R : Nat} {a b : World} (h : only R a b) (hR : R ≤ a.heap.size) (o : Obj) : only R a (b.alloc o) :=
  ⟨h.1.alloc (Nat.le_trans hR h.1.size) o, fun k hk hn => by rw [Below.heap_alloc b o k (Nat.lt_of_lt_of_le hk h.1.size), h.2 k hk hn]⟩

theorem only.new {R : Nat} {a b : World} (h : only R a b) (hR : R ≤ a.heap.size) {p : Addr} (hp : a.heap.size ≤ p.block) (v : Value) : only R a (b.setCell p v) :=
  ⟨h.1.setCell (Nat.le_trans hR hp) v, fun k hk hn => by rw [Below.heap_setCell _ _ _ _ (by omega), h.2 k hk hn]⟩

theorem rdrAt.alloc {R : Nat} {s : ByteArray} {q : Option Nat} {w : World} (h : rdrAt R s q w) (o : Obj) : rdrAt R s q (w.alloc o) := h.below ((Below.refl _ _).alloc (Nat.le_refl _) _)

theorem rdrAt.other {R : Nat} {s : ByteArray} {q : Option Nat} {w : World} (h : rdrAt R s q w) {p : Addr} (hp : R ≠ p.block) (v : Value) : rdrAt R s q (w.setCell p v) := by
  obtain ⟨i, h1, h2, h3⟩ := h
  exact ⟨i, h1, by rw [Below.heap_setCell _ _ _ _ hp]; exact h2, h3⟩

def mkSt (k t n : Int) (d : ByteArray) (f : Int) : Pl.St := (k, t, n, d, f)

/-- a step as the program takes it: the step, and where the reader is then. -/
def stepV (s : ByteArray) (q : Option Nat) : Pl.St :=
  let q1 := pieceQ s q 1
  let q2 := numQ s q1
  let q3 := numQ s q2
  if byteV s q = 3 then mkSt (byteV s q) (numV s q1) (numV s q2) ⟨#[]⟩ (numV s q3)
  else mkSt (byteV s q) (numV s q1) (numV s q2) (pieceS s q3 (numV s q2)) 0

def stepQ (s : ByteArray) (q : Option Nat) : Option Nat :=
  let q1 := pieceQ s q 1
  let q2 := numQ s q1
  let q3 := numQ s q2
  if byteV s q = 3 then numQ s q3 else pieceQ s q3 (numV s q2)

theorem numV_le (s : ByteArray) (q : Option Nat) : numV s q ≤ 2147483647 := by
  cases q with
  | none => simp [numV]
  | some a =>
    simp only [numV]
    cases h : Pl.rd (s.data.toList.drop a) with
    | none => simp
    | some p => exact (Pl.rd_bd _ _ h).1

theorem pieceS_size (s : ByteArray) (q : Option Nat) (n : Nat) : (pieceS s q n).size ≤ s.size := by
  cases q with
  | none => exact Nat.zero_le _
  | some a =>
    simp only [pieceS]
    split
    · rw [ByteArray.size_extract]; omega
    · exact Nat.zero_le _

theorem box_cells {v : World} {g : Nat} {a b c d e : Value} (h : v.heap[g]? = some (.cells #[a, b, c, d, e] 40 (0, 0))) :
    v.cell? ⟨g, 0, none⟩ = some a ∧ v.cell? ⟨g, 1, none⟩ = some b ∧ v.cell? ⟨g, 2, none⟩ = some c ∧ v.cell? ⟨g, 3, none⟩ = some d ∧ v.cell? ⟨g, 4, none⟩ = some e ∧ (∀ i, v.frozen? ⟨g, i, none⟩ = false) := by
  refine ⟨?_, ?_, ?_, ?_, ?_, fun i => Lib.frozen_of_heap h i⟩ <;> rw [Lib.cell_of_heap h] <;> rfl

theorem fill5 {v : World} {g : Nat} {a b c d e : Value} (h : v.heap[g]? = some (.cells #[a, b, c, d, e] 40 (0, 0))) (a' b' c' d' e' : Value) :
    (((((v.setCell ⟨g, 0, none⟩ a').setCell ⟨g, 1, none⟩ b').setCell ⟨g, 2, none⟩ c').setCell ⟨g, 3, none⟩ d').setCell ⟨g, 4, none⟩ e').heap[g]? = some (.cells #[a', b', c', d', e'] 40 (0, 0)) :=
  Joins.block_setCell (Joins.block_setCell (Joins.block_setCell (Joins.block_setCell (Joins.block_setCell h _) _) _) _) _

set_option maxRecDepth 100000 in
set_option maxHeartbeats 4000000 in
theorem readStep_any (R : Nat) (s : ByteArray) (q : Option Nat) (w : World) (hs : s.size ≤ 140737488355328) (h : Hid (rdrAt R s q w)) :
    Calls Try.prog 64 #[.pointer (some ⟨R, 0, none⟩)] w fun e w' => e = .returned (.agg #[.int .i64 (stepV s q).k, .int .i64 (stepV s q).t, .int .i64 (stepV s q).n, .string (stepV s q).d, .int .i64 (stepV s q).f]) ∧ rdrAt R s (stepQ s q) w' ∧ only R w w' := by
  have hm : s.size ≤ maxLen := by unfold maxLen; omega
  have hR : R < w.heap.size := h.out.lt
  have H0 : Hid (rdrAt R s q ((w.alloc (Obj.cells #[.int .i64 0, .int .i64 0, .int .i64 0, .string ⟨#[]⟩, .int .i64 0] 40)).alloc (Obj.cells #[.int .i64 0, .int .i64 0, .int .i64 0, .string ⟨#[]⟩, .int .i64 0] 40))) := (h.out.alloc _).alloc _
  have O0 : Hid (only R w ((w.alloc (Obj.cells #[.int .i64 0, .int .i64 0, .int .i64 0, .string ⟨#[]⟩, .int .i64 0] 40)).alloc (Obj.cells #[.int .i64 0, .int .i64 0, .int .i64 0, .string ⟨#[]⟩, .int .i64 0] 40))) := ((only.refl R w).alloc (by omega) _).alloc (by omega) _
  have HV3 : Hid (byteV s q = 3 → stepV s q = mkSt (byteV s q) (numV s (pieceQ s q 1)) (numV s (numQ s (pieceQ s q 1))) ⟨#[]⟩ (numV s (numQ s (numQ s (pieceQ s q 1)))) ∧ stepQ s q = numQ s (numQ s (numQ s (pieceQ s q 1)))) := fun h => by simp [stepV, stepQ, h]
  have HV1 : Hid (byteV s q ≠ 3 → stepV s q = mkSt (byteV s q) (numV s (pieceQ s q 1)) (numV s (numQ s (pieceQ s q 1))) (pieceS s (numQ s (numQ s (pieceQ s q 1))) (numV s (numQ s (pieceQ s q 1)))) 0 ∧ stepQ s q = pieceQ s (numQ s (numQ s (pieceQ s q 1))) (numV s (numQ s (pieceQ s q 1)))) := fun h => by simp [stepV, stepQ, h]
  have HB : Hid (Calls Try.prog 97 #[.pointer (some ⟨R, 0, none⟩)] ((w.alloc (Obj.cells #[.int .i64 0, .int .i64 0, .int .i64 0, .string ⟨#[]⟩, .int .i64 0] 40)).alloc (Obj.cells #[.int .i64 0, .int .i64 0, .int .i64 0, .string ⟨#[]⟩, .int .i64 0] 40)) fun e w' => e = .returned (.int .i64 (byteV s q)) ∧ rdrAt R s (pieceQ s q 1) w' ∧ only R ((w.alloc (Obj.cells #[.int .i64 0, .int .i64 0, .int .i64 0, .string ⟨#[]⟩, .int .i64 0] 40)).alloc (Obj.cells #[.int .i64 0, .int .i64 0, .int .i64 0, .string ⟨#[]⟩, .int .i64 0] 40)) w') := byte_any R s q _ hm H0
  generalize byteV s q = k at *
  generalize pieceQ s q 1 = q1 at *
  generalize stepV s q = SV at *
  generalize stepQ s q = SQ at *
  have hx0 : Hid (((w.alloc (Obj.cells #[.int .i64 0, .int .i64 0, .int .i64 0, .string ⟨#[]⟩, .int .i64 0] 40)).alloc (Obj.cells #[.int .i64 0, .int .i64 0, .int .i64 0, .string ⟨#[]⟩, .int .i64 0] 40)).heap[w.heap.size + 1]? = some (.cells #[.int .i64 0, .int .i64 0, .int .i64 0, .string ⟨#[]⟩, .int .i64 0] 40 (0, 0)) ∧ ((w.alloc (Obj.cells #[.int .i64 0, .int .i64 0, .int .i64 0, .string ⟨#[]⟩, .int .i64 0] 40)).alloc (Obj.cells #[.int .i64 0, .int .i64 0, .int .i64 0, .string ⟨#[]⟩, .int .i64 0] 40)).heap[w.heap.size]? = some (.cells #[.int .i64 0, .int .i64 0, .int .i64 0, .string ⟨#[]⟩, .int .i64 0] 40 (0, 0))) := by
    constructor
    · have := heap_alloc_new (w.alloc (Obj.cells #[.int .i64 0, .int .i64 0, .int .i64 0, .string ⟨#[]⟩, .int .i64 0] 40)) (Obj.cells #[.int .i64 0, .int .i64 0, .int .i64 0, .string ⟨#[]⟩, .int .i64 0] 40)
      rw [World.size_alloc] at this
      exact this
    · rw [Below.heap_alloc _ _ _ (by simp)]; exact heap_alloc_new w _
  go_enter Try.func64, Try.ntmps64
  go_wp2_with fail
  refine HB.out.mono ?_
  rintro e v1 ⟨rfl, h1, o1⟩
  have X1 : Hid (v1.heap[w.heap.size + 1]? = some (.cells #[.int .i64 0, .int .i64 0, .int .i64 0, .string ⟨#[]⟩, .int .i64 0] 40 (0, 0)) ∧ v1.heap[w.heap.size]? = some (.cells #[.int .i64 0, .int .i64 0, .int .i64 0, .string ⟨#[]⟩, .int .i64 0] 40 (0, 0))) := ⟨by rw [o1.2 _ (by simp) (by omega)]; exact hx0.out.1, by rw [o1.2 _ (by simp; omega) (by omega)]; exact hx0.out.2⟩
  have O1 : Hid (only R w (v1.setCell ⟨w.heap.size + 1, 0, none⟩ (.int .i64 k))) := (O0.out.trans o1).new (by omega) (by simp) _
  have H1 : Hid (rdrAt R s q1 (v1.setCell ⟨w.heap.size + 1, 0, none⟩ (.int .i64 k))) := h1.other (by simp; omega) _
  have Y1 : Hid ((v1.setCell ⟨w.heap.size + 1, 0, none⟩ (.int .i64 k)).heap[w.heap.size + 1]? = some (.cells #[.int .i64 k, .int .i64 0, .int .i64 0, .string ⟨#[]⟩, .int .i64 0] 40 (0, 0)) ∧ (v1.setCell ⟨w.heap.size + 1, 0, none⟩ (.int .i64 k)).heap[w.heap.size]? = some (.cells #[.int .i64 0, .int .i64 0, .int .i64 0, .string ⟨#[]⟩, .int .i64 0] 40 (0, 0))) := ⟨Joins.block_setCell X1.out.1 _, by rw [Below.heap_setCell _ _ _ _ (by simp)]; exact X1.out.2⟩
  obtain ⟨c0, c1, c2, c3, c4, cf⟩ := box_cells X1.out.1
  have f0 := cf 0
  clear cf h1 o1 hx0 HB O0 H0
  go_wp2_with fail
  refine (rNumber_any R s q1 _ hm H1).mono ?_
  rintro e v2 ⟨rfl, h2, o2⟩
  have X2 : Hid (v2.heap[w.heap.size + 1]? = some (.cells #[.int .i64 k, .int .i64 0, .int .i64 0, .string ⟨#[]⟩, .int .i64 0] 40 (0, 0)) ∧ v2.heap[w.heap.size]? = some (.cells #[.int .i64 0, .int .i64 0, .int .i64 0, .string ⟨#[]⟩, .int .i64 0] 40 (0, 0))) := ⟨by rw [o2.2 _ (Array.getElem?_eq_some_iff.1 Y1.out.1).1 (by omega)]; exact Y1.out.1, by rw [o2.2 _ (Array.getElem?_eq_some_iff.1 Y1.out.2).1 (by omega)]; exact Y1.out.2⟩
  have O2 : Hid (only R w (v2.setCell ⟨w.heap.size + 1, 1, none⟩ (.int .i64 (numV s q1)))) := (O1.out.trans o2).new (by omega) (by simp) _
  have H2 : Hid (rdrAt R s (numQ s q1) (v2.setCell ⟨w.heap.size + 1, 1, none⟩ (.int .i64 (numV s q1)))) := h2.other (by simp; omega) _
  have Y2 : Hid ((v2.setCell ⟨w.heap.size + 1, 1, none⟩ (.int .i64 (numV s q1))).heap[w.heap.size + 1]? = some (.cells #[.int .i64 k, .int .i64 (numV s q1), .int .i64 0, .string ⟨#[]⟩, .int .i64 0] 40 (0, 0)) ∧ (v2.setCell ⟨w.heap.size + 1, 1, none⟩ (.int .i64 (numV s q1))).heap[w.heap.size]? = some (.cells #[.int .i64 0, .int .i64 0, .int .i64 0, .string ⟨#[]⟩, .int .i64 0] 40 (0, 0))) := ⟨Joins.block_setCell X2.out.1 _, by rw [Below.heap_setCell _ _ _ _ (by simp)]; exact X2.out.2⟩
  clear c0 c1 c2 c3 c4 f0
  obtain ⟨c0, c1, c2, c3, c4, cf⟩ := box_cells X2.out.1
  have f0 := cf 1
  have r0 := box_cells X2.out.2
  clear cf h2 o2 H1 O1 X1
  clear r0
  go_wp2_with fail
  refine (rNumber_any R s (numQ s q1) _ hm H2).mono ?_
  rintro e v3 ⟨rfl, h3, o3⟩
  have X3 : Hid (v3.heap[w.heap.size + 1]? = some (.cells #[.int .i64 k, .int .i64 (numV s q1), .int .i64 0, .string ⟨#[]⟩, .int .i64 0] 40 (0, 0)) ∧ v3.heap[w.heap.size]? = some (.cells #[.int .i64 0, .int .i64 0, .int .i64 0, .string ⟨#[]⟩, .int .i64 0] 40 (0, 0))) := ⟨by rw [o3.2 _ (Array.getElem?_eq_some_iff.1 Y2.out.1).1 (by omega)]; exact Y2.out.1, by rw [o3.2 _ (Array.getElem?_eq_some_iff.1 Y2.out.2).1 (by omega)]; exact Y2.out.2⟩
  have O3 : Hid (only R w (v3.setCell ⟨w.heap.size + 1, 2, none⟩ (.int .i64 (numV s (numQ s q1))))) := (O2.out.trans o3).new (by omega) (by simp) _
  have H3 : Hid (rdrAt R s (numQ s (numQ s q1)) (v3.setCell ⟨w.heap.size + 1, 2, none⟩ (.int .i64 (numV s (numQ s q1))))) := h3.other (by simp; omega) _
  have Y3 : Hid ((v3.setCell ⟨w.heap.size + 1, 2, none⟩ (.int .i64 (numV s (numQ s q1)))).heap[w.heap.size + 1]? = some (.cells #[.int .i64 k, .int .i64 (numV s q1), .int .i64 (numV s (numQ s q1)), .string ⟨#[]⟩, .int .i64 0] 40 (0, 0)) ∧ (v3.setCell ⟨w.heap.size + 1, 2, none⟩ (.int .i64 (numV s (numQ s q1)))).heap[w.heap.size]? = some (.cells #[.int .i64 0, .int .i64 0, .int .i64 0, .string ⟨#[]⟩, .int .i64 0] 40 (0, 0))) := ⟨Joins.block_setCell X3.out.1 _, by rw [Below.heap_setCell _ _ _ _ (by simp)]; exact X3.out.2⟩
  clear c0 c1 c2 c3 c4 f0
  obtain ⟨c0, c1, c2, c3, c4, cf⟩ := box_cells X3.out.1
  have f0 := cf 2
  have r0 := box_cells X3.out.2
  clear cf h3 o3 H2 O2 X2
  clear r0
  have hle := numV_le s (numQ s q1)
  by_cases hk : k = 3
  · subst hk
    obtain ⟨e1, e2⟩ := HV3.out rfl
    have E1 : Hid (SV = mkSt 3 (numV s q1) (numV s (numQ s q1)) ⟨#[]⟩ (numV s (numQ s (numQ s q1)))) := e1
    have E2 : Hid (SQ = numQ s (numQ s (numQ s q1))) := e2
    clear e1 e2 HV3 HV1
    go_wp2_with fail
    refine (rNumber_any R s (numQ s (numQ s q1)) _ hm H3).mono ?_
    rintro e v4 ⟨rfl, h4, o4⟩
    have X4 : Hid (v4.heap[w.heap.size + 1]? = some (.cells #[.int .i64 3, .int .i64 (numV s q1), .int .i64 (numV s (numQ s q1)), .string ⟨#[]⟩, .int .i64 0] 40 (0, 0)) ∧ v4.heap[w.heap.size]? = some (.cells #[.int .i64 0, .int .i64 0, .int .i64 0, .string ⟨#[]⟩, .int .i64 0] 40 (0, 0))) := ⟨by rw [o4.2 _ (Array.getElem?_eq_some_iff.1 Y3.out.1).1 (by omega)]; exact Y3.out.1, by rw [o4.2 _ (Array.getElem?_eq_some_iff.1 Y3.out.2).1 (by omega)]; exact Y3.out.2⟩
    have O4 : Hid (only R w (v4.setCell ⟨w.heap.size + 1, 4, none⟩ (.int .i64 (numV s (numQ s (numQ s q1)))))) := (O3.out.trans o4).new (by omega) (by simp) _
    have H4 : Hid (rdrAt R s (numQ s (numQ s (numQ s q1))) (v4.setCell ⟨w.heap.size + 1, 4, none⟩ (.int .i64 (numV s (numQ s (numQ s q1)))))) := h4.other (by simp; omega) _
    have Y4 : Hid ((v4.setCell ⟨w.heap.size + 1, 4, none⟩ (.int .i64 (numV s (numQ s (numQ s q1))))).heap[w.heap.size + 1]? = some (.cells #[.int .i64 3, .int .i64 (numV s q1), .int .i64 (numV s (numQ s q1)), .string ⟨#[]⟩, .int .i64 (numV s (numQ s (numQ s q1)))] 40 (0, 0)) ∧ (v4.setCell ⟨w.heap.size + 1, 4, none⟩ (.int .i64 (numV s (numQ s (numQ s q1))))).heap[w.heap.size]? = some (.cells #[.int .i64 0, .int .i64 0, .int .i64 0, .string ⟨#[]⟩, .int .i64 0] 40 (0, 0))) := ⟨Joins.block_setCell X4.out.1 _, by rw [Below.heap_setCell _ _ _ _ (by simp)]; exact X4.out.2⟩
    clear c0 c1 c2 c3 c4 f0
    obtain ⟨c0, c1, c2, c3, c4, cf⟩ := box_cells X4.out.1
    have f0 := cf 4
    have r0 := box_cells X4.out.2
    clear cf h4 o4 H3 O3 X3
    obtain ⟨r0, r1, r2, r3, r4, rf⟩ := r0
    have g0 := rf 0
    have g1 := rf 1
    have g2 := rf 2
    have g3 := rf 3
    have g4 := rf 4
    clear rf
    go_wp2_with fail
    obtain ⟨z0, z1, z2, z3, z4, _⟩ := box_cells (fill5 Y4.out.2 (.int .i64 3) (.int .i64 (numV s q1)) (.int .i64 (numV s (numQ s q1))) (.string ⟨#[]⟩) (.int .i64 (numV s (numQ s (numQ s q1)))))
    refine bodyPost_ret (v := .agg #[.int .i64 3, .int .i64 (numV s q1), .int .i64 (numV s (numQ s q1)), .string ⟨#[]⟩, .int .i64 (numV s (numQ s (numQ s q1)))]) (by simp [results, Try.results64, go_sem, z0, z1, z2, z3, z4]) rfl ?_
    refine ⟨by rw [E1.out]; rfl, ?_, ?_⟩
    · rw [E2.out]
      exact ((((H4.out.other (by simp; omega) _).other (by simp; omega) _).other (by simp; omega) _).other (by simp; omega) _).other (by simp; omega) _
    · exact ((((O4.out.new (by omega) (by simp) _).new (by omega) (by simp) _).new (by omega) (by simp) _).new (by omega) (by simp) _).new (by omega) (by simp) _
  · obtain ⟨e1, e2⟩ := HV1.out hk
    have E1 : Hid (SV = mkSt k (numV s q1) (numV s (numQ s q1)) (pieceS s (numQ s (numQ s q1)) (numV s (numQ s q1))) 0) := e1
    have E2 : Hid (SQ = pieceQ s (numQ s (numQ s q1)) (numV s (numQ s q1))) := e2
    clear e1 e2 HV3 HV1
    have hps := pieceS_size s (numQ s (numQ s q1)) (numV s (numQ s q1))
    have d2 : (v3.setCell ⟨w.heap.size + 1, 2, none⟩ (.int .i64 (numV s (numQ s q1)))).cell? ⟨w.heap.size + 1, 2, none⟩ = some (.int .i64 (numV s (numQ s q1))) := (box_cells Y3.out.1).2.2.1
    go_wp2_with fail
    refine (piece_any R s (numQ s (numQ s q1)) (numV s (numQ s q1)) _ hm hle H3).mono ?_
    rintro e v4 ⟨rfl, h4, o4⟩
    have X4 : Hid (v4.heap[w.heap.size + 1]? = some (.cells #[.int .i64 k, .int .i64 (numV s q1), .int .i64 (numV s (numQ s q1)), .string ⟨#[]⟩, .int .i64 0] 40 (0, 0)) ∧ v4.heap[w.heap.size]? = some (.cells #[.int .i64 0, .int .i64 0, .int .i64 0, .string ⟨#[]⟩, .int .i64 0] 40 (0, 0))) := ⟨by rw [o4.2 _ (Array.getElem?_eq_some_iff.1 Y3.out.1).1 (by omega)]; exact Y3.out.1, by rw [o4.2 _ (Array.getElem?_eq_some_iff.1 Y3.out.2).1 (by omega)]; exact Y3.out.2⟩
    have O4 : Hid (only R w v4) := O3.out.trans o4
    have H4 : Hid (rdrAt R s (pieceQ s (numQ s (numQ s q1)) (numV s (numQ s q1))) v4) := h4
    clear h4 o4 O3 H3 X3 c0 c1 c2 c3 c4 f0 d2
    go_wp2_with fail
    refine (clone_any _ v4 (by omega)).mono ?_
    rintro e v5 ⟨rfl, b5⟩
    have X5 : Hid (v5.heap[w.heap.size + 1]? = some (.cells #[.int .i64 k, .int .i64 (numV s q1), .int .i64 (numV s (numQ s q1)), .string ⟨#[]⟩, .int .i64 0] 40 (0, 0)) ∧ v5.heap[w.heap.size]? = some (.cells #[.int .i64 0, .int .i64 0, .int .i64 0, .string ⟨#[]⟩, .int .i64 0] 40 (0, 0))) := ⟨by rw [b5.block _ (Array.getElem?_eq_some_iff.1 X4.out.1).1]; exact X4.out.1, by rw [b5.block _ (Array.getElem?_eq_some_iff.1 X4.out.2).1]; exact X4.out.2⟩
    have O5 : Hid (only R w v5) := O4.out.trans (only.of_below b5 (by have := H4.out.lt; omega))
    have H5 : Hid (rdrAt R s (pieceQ s (numQ s (numQ s q1)) (numV s (numQ s q1))) v5) := H4.out.below b5
    clear b5
    obtain ⟨c0, c1, c2, c3, c4, cf⟩ := box_cells X5.out.1
    have f0 := cf 3
    obtain ⟨r0, r1, r2, r3, r4, rf⟩ := box_cells X5.out.2
    have g0 := rf 0
    have g1 := rf 1
    have g2 := rf 2
    have g3 := rf 3
    have g4 := rf 4
    clear cf rf
    go_wp2_with fail
    have Y5 : (v5.setCell ⟨w.heap.size + 1, 3, none⟩ (.string (pieceS s (numQ s (numQ s q1)) (numV s (numQ s q1))))).heap[w.heap.size]? = some (.cells #[.int .i64 0, .int .i64 0, .int .i64 0, .string ⟨#[]⟩, .int .i64 0] 40 (0, 0)) := by rw [Below.heap_setCell _ _ _ _ (by simp)]; exact X5.out.2
    obtain ⟨z0, z1, z2, z3, z4, _⟩ := box_cells (fill5 Y5 (.int .i64 k) (.int .i64 (numV s q1)) (.int .i64 (numV s (numQ s q1))) (.string (pieceS s (numQ s (numQ s q1)) (numV s (numQ s q1)))) (.int .i64 0))
    clear Y5
    refine bodyPost_ret (v := .agg #[.int .i64 k, .int .i64 (numV s q1), .int .i64 (numV s (numQ s q1)), .string (pieceS s (numQ s (numQ s q1)) (numV s (numQ s q1))), .int .i64 0]) (by simp [results, Try.results64, go_sem, z0, z1, z2, z3, z4]) rfl ?_
    refine ⟨by rw [E1.out]; rfl, ?_, ?_⟩
    · rw [E2.out]
      exact (((((H5.out.other (by simp; omega) _).other (by simp; omega) _).other (by simp; omega) _).other (by simp; omega) _).other (by simp; omega) _).other (by simp; omega) _
    · exact (((((O5.out.new (by omega) (by simp) _).new (by omega) (by simp) _).new (by omega) (by simp) _).new (by omega) (by simp) _).new (by omega) (by simp) _).new (by omega) (by simp) _

end Go.Proofs.Ytjjmcnippjpclaa
