/-
  The walks of a device's making, its copy, and of which of raw numbers is meant.
-/
import Derived.Test.YtjjmcnippjpclaaDevs
namespace Go.Proofs.Ytjjmcnippjpclaa

open Go.RowKit

/-- 'append([]byte(nil), b...)' of a row. -/
theorem append_row {w : World} {v : Value} {l : List UInt8} (h : rowOf w v l) (hl : l.length ≤ 140737488355328) :
    ∃ v' w', (Builtin.append_ #[65, 65] 65 #[.slice none 0 0, v]).run Try.prog w = .ok v' w' ∧ rowOf w' v' l ∧ w.grownBy w' none ∧ ∀ k, v'.ownBlock = some k → w.heap.size ≤ k := by
  obtain ⟨i, hi, hzz⟩ := Option.map_eq_some_iff.1 info5
  simp only [Prod.mk.injEq] at hzz
  obtain ⟨hz, hsz, hby⟩ := hzz
  rcases h.form with ⟨rfl, rfl⟩ | ⟨g, cap, cur, rfl, hb, h1, h2, h3, h4⟩
  · refine ⟨.slice none 0 0, w, ?_, h, ⟨rfl, rfl, rfl, Nat.le_refl _, fun _ _ _ => rfl⟩, fun k hk => by simp [Value.ownBlock] at hk⟩
    simp [Builtin.append_, run_underlying Try.underlying65, sizeOf, typeInfo, hi, Builtin.lenOf, Builtin.firstCells]
  · obtain ⟨v', w', hr, ho, hg, -⟩ := run_append_own (P := Try.prog) w w.heap.size 65 65 5 i (.int .u8 0) 1 1 Try.underlying65 hi hz hsz hby rfl (by omega) (.slice none 0 0) 0 [] (World.ownsRow_nil _ _ _ _) ⟨g, 0, none⟩ l.length cap (Lib.byteCells l) (by rw [Lib.byteCells_length, Nat.mul_one])
      (fun j u hj => by
        have hj' : j < l.length := by have := (List.getElem?_eq_some_iff.1 hj).1; rwa [Lib.byteCells_length] at this
        have hadd : (⟨g, 0, none⟩ : Addr).add j = ⟨g, j, none⟩ := by unfold Addr.add; split <;> simp_all
        rw [hadd, row_cell hb h4 j hj', ← hj]
        simp [Lib.byteCells, List.getElem?_eq_getElem hj'])
      (byteCells_one l) (by unfold maxLen; omega) (by omega) (Nat.le_refl _)
    rw [Nat.zero_add, List.nil_append] at ho
    refine ⟨v', w', hr, ?_, hg, fun k hk => (World.ownsRow.lt ho k hk).1⟩
    refine ⟨ho.1, ?_⟩
    rcases ho.2 with h | ⟨g', c', cu, a1, a2, rest⟩
    · exact .inl h
    · exact .inr ⟨g', c', cu, a1, Nat.zero_le _, rest⟩

theorem wpList_append_eq {P : Program} (w : World) {ops : Array Oper} {rest : List Oper} {o : Oper} {a : Act} {Q : Exit → Act → World → Prop} (hgd : o.guard = none) (s x : Operand) (t : TypeId)
    (ho : o.op = .call { callee := .builtin .append, args := #[s, x], argTypes := #[t, t] }) (v u : Value) (hs : a.eval s = v) (hx : a.eval x = u) {v' : Value} {w' : World}
    (hr : (Builtin.append_ #[t, t] o.type #[v, u]).run P w = .ok v' w') (h : wpList P ops Q rest (a.put o.dst v') w') : wpList P ops Q (o :: rest) a w :=
  wpList_plain hgd fun _ hK => by
    unfold Oper.wp execOp
    simp only [ho, resolve, invoke, builtin, Sem.run_bind, Sem.run_pure, Result.andThen_ok, List.map_toArray, List.map_cons, List.map_nil, hs, hx, hr]
    exact hK _ _ h

theorem make_row (n : Nat) (hn : n ≤ 140737488355328) (w : World) :
    (Instr.makeSlice 65 (.int .i64 (n : Int)) (.int .i64 (n : Int))).run Try.prog w = .ok (.slice (some ⟨w.heap.size, 0, none⟩) n n) (w.alloc (.cells (madeCells #[.int .u8 0] n) 5)) :=
  run_make_row' 65 5 (.int .u8 0) 1 Try.underlying65 infoU8 rfl .i64 .i64 n (by omega) (by omega) w

/-- a new device's text. -/
def padded (l : List UInt8) (n : Nat) : List UInt8 := l ++ List.replicate (n - l.length) 0

theorem padded_length (l : List UInt8) (n : Nat) (h : l.length ≤ n) : (padded l n).length = n := by simp [padded]; omega

theorem newRow (w : World) (n : Nat) (hn : n ≤ maxLen) : rowOf (w.alloc (.cells (madeCells #[.int .u8 0] n) 5)) (.slice (some ⟨w.heap.size, 0, none⟩) n n) (List.replicate n 0) := by
  have hs : (madeCells #[Value.int .u8 0] n).size = n := size_madeCells _ _
  have hcl : (madeCells #[Value.int .u8 0] n).toList = Lib.byteCells (List.replicate n 0) := by
    apply List.ext_getElem?
    intro i
    by_cases hi : i < n
    · simp [madeCells, hi, Nat.mod_one, Lib.byteCells]
    · rw [List.getElem?_eq_none (by simp; omega), List.getElem?_eq_none (by simp [Lib.byteCells]; omega)]
  refine ⟨by simp [Lib.byteCells_length], .inr ⟨w.heap.size, n, _, by rw [List.length_replicate], Nat.zero_le _, heap_alloc_new w _, by simp, hn, by rw [hs, Nat.mul_one], ?_⟩⟩
  rw [List.length_replicate, Nat.mul_one, List.take_of_length_le (by simp [hs]), hcl]

set_option maxRecDepth 100000 in
set_option maxHeartbeats 1000000 in
theorem new_any (size : Int) (S : ByteArray) (N : Nat) (w : World) (hN : max size (S.size : Int) = (N : Int)) (hb : N ≤ 140737488355328) :
    Calls Try.prog 28 #[.int .i64 size, .string S] w fun e w' => ∃ D tv sv, e = .returned (.pointer (some ⟨D, 0, none⟩)) ∧ devAt D tv sv ⟨padded S.data.toList N, padded S.data.toList N, [], 0, -1⟩ w' ∧ Below w.heap.size w w' ∧ w.heap.size ≤ D ∧ (∀ k, tv.ownBlock = some k → w.heap.size ≤ k) ∧ (∀ k, sv.ownBlock = some k → w.heap.size ≤ k) := by
  have hSN : S.size ≤ N := by omega
  have hSl : S.data.toList.length = S.size := by simp
  have q0 := heap_alloc_new w (.cells #[.slice none 0 0, .slice none 0 0, .string ⟨#[]⟩, .int .i64 0, .int .i64 (-1)] 95 (0, 0))
  have z1 : (w.alloc (.cells #[.slice none 0 0, .slice none 0 0, .string ⟨#[]⟩, .int .i64 0, .int .i64 (-1)] 95 (0, 0))).heap.size = w.heap.size + 1 := by simp
  have b1 := (Below.refl w.heap.size w).alloc (Nat.le_refl _) (.cells #[.slice none 0 0, .slice none 0 0, .string ⟨#[]⟩, .int .i64 0, .int .i64 (-1)] 95 (0, 0))
  generalize hv1 : w.alloc (.cells #[.slice none 0 0, .slice none 0 0, .string ⟨#[]⟩, .int .i64 0, .int .i64 (-1)] 95 (0, 0)) = v1 at *
  have hmk := make_row N hb v1
  have r2 := newRow v1 N (by unfold maxLen; omega)
  have q2 : (v1.alloc (.cells (madeCells #[.int .u8 0] N) 5)).heap[w.heap.size]? = some (.cells #[.slice none 0 0, .slice none 0 0, .string ⟨#[]⟩, .int .i64 0, .int .i64 (-1)] 95 (0, 0)) := by rw [Below.heap_alloc _ _ _ (by omega)]; exact q0
  have b2 := b1.alloc (by omega) (.cells (madeCells #[.int .u8 0] N) 5)
  rw [z1] at hmk r2
  generalize v1.alloc (.cells (madeCells #[.int .u8 0] N) 5) = v2 at *
  clear q0 b1
  have c0 : v2.cell? ⟨w.heap.size, 0, none⟩ = some (.slice none 0 0) := by rw [Lib.cell_of_heap q2]; rfl
  have f0 : v2.frozen? ⟨w.heap.size, 0, none⟩ = false := Lib.frozen_of_heap q2 _
  have q3 : (v2.setCell ⟨w.heap.size, 0, none⟩ (.slice (some ⟨w.heap.size + 1, 0, none⟩) N N)).heap[w.heap.size]? = some (.cells #[.slice (some ⟨w.heap.size + 1, 0, none⟩) N N, .slice none 0 0, .string ⟨#[]⟩, .int .i64 0, .int .i64 (-1)] 95 (0, 0)) := by simp [World.setCell, Array.getElem?_modify, q2]
  have r3 : rowOf (v2.setCell ⟨w.heap.size, 0, none⟩ (.slice (some ⟨w.heap.size + 1, 0, none⟩) N N)) (.slice (some ⟨w.heap.size + 1, 0, none⟩) N N) (List.replicate N 0) := r2.of_block fun k hk => Below.heap_setCell _ _ _ _ (by simp [Value.ownBlock] at hk; show k ≠ w.heap.size; omega)
  have b3 := b2.setCell (p := ⟨w.heap.size, 0, none⟩) (Nat.le_refl _) (.slice (some ⟨w.heap.size + 1, 0, none⟩) N N)
  generalize hv3 : v2.setCell ⟨w.heap.size, 0, none⟩ (.slice (some ⟨w.heap.size + 1, 0, none⟩) N N) = v3 at *
  clear q2 r2 b2
  obtain ⟨cap, cur, e1, hb3, hc1, hc2, hc3, hc4⟩ : ∃ cap cur, Value.slice (some ⟨w.heap.size + 1, 0, none⟩) N N = .slice (some ⟨w.heap.size + 1, 0, none⟩) (List.replicate N (0 : UInt8)).length cap ∧ v3.heap[w.heap.size + 1]? = some (.cells cur 5 (0, 0)) ∧ (List.replicate N (0 : UInt8)).length ≤ cap ∧ cap ≤ maxLen ∧ cur.size = cap ∧ cur.toList.take (List.replicate N (0 : UInt8)).length = Lib.byteCells (List.replicate N 0) := by
    rcases r3.form with ⟨h, _⟩ | ⟨g, cap, cur, h, rest⟩
    · simp at h
    · obtain rfl : w.heap.size + 1 = g := by simp at h; exact h.1
      exact ⟨cap, cur, h, rest⟩
  obtain rfl : N = cap := by simpa using e1
  obtain ⟨v4, hcp, r4, g4⟩ := copy_in (a := 0) S r3 e1 hb3 hc3 hc1 hc4 (by simp; omega)
  have hpad : (List.replicate N (0 : UInt8)).take 0 ++ S.data.toList ++ (List.replicate N (0 : UInt8)).drop (0 + S.size) = padded S.data.toList N := by simp [padded]
  rw [hpad] at r4
  rw [List.length_replicate, Nat.sub_zero] at hcp
  have q4 : v4.heap[w.heap.size]? = some (.cells #[.slice (some ⟨w.heap.size + 1, 0, none⟩) N N, .slice none 0 0, .string ⟨#[]⟩, .int .i64 0, .int .i64 (-1)] 95 (0, 0)) := by
    rw [g4.block _ (Array.getElem?_eq_some_iff.1 q3).1 (by simp [Value.ownBlock])]; exact q3
  have b4 : Below w.heap.size w v4 := ⟨g4.os.trans b3.os, g4.tape.trans b3.tape, g4.output.trans b3.output, Nat.le_trans b3.size g4.size, fun k hk => (g4.block k (Nat.lt_of_lt_of_le hk b3.size) (by simp [Value.ownBlock]; omega)).trans (b3.block k hk)⟩
  have c3 : v3.cell? ⟨w.heap.size, 0, none⟩ = some (.slice (some ⟨w.heap.size + 1, 0, none⟩) N N) := by rw [Lib.cell_of_heap q3]; rfl
  clear q3 r3 b3 hb3 hc3 hc4 e1 hc1 hc2 hpad
  obtain ⟨sv, v5, hap, r5, g5, n5⟩ := append_row r4 (by rw [padded_length _ _ (by omega)]; exact hb)
  have hs4 : w.heap.size + 1 < v4.heap.size := r4.lt rfl
  have q5 : v5.heap[w.heap.size]? = some (.cells #[.slice (some ⟨w.heap.size + 1, 0, none⟩) N N, .slice none 0 0, .string ⟨#[]⟩, .int .i64 0, .int .i64 (-1)] 95 (0, 0)) := by
    rw [g5.block _ (by omega) (by simp)]; exact q4
  have t5 : rowOf v5 (.slice (some ⟨w.heap.size + 1, 0, none⟩) N N) (padded S.data.toList N) := r4.of_block fun k hk => g5.block k (r4.lt hk) (by simp)
  have b5 : Below w.heap.size w v5 := ⟨g5.os.trans b4.os, g5.tape.trans b4.tape, g5.output.trans b4.output, Nat.le_trans b4.size g5.size, fun k hk => (g5.block k (by omega) (by simp)).trans (b4.block k hk)⟩
  have c4 : v4.cell? ⟨w.heap.size, 0, none⟩ = some (.slice (some ⟨w.heap.size + 1, 0, none⟩) N N) := by rw [Lib.cell_of_heap q4]; rfl
  have c5 : v5.cell? ⟨w.heap.size, 1, none⟩ = some (.slice none 0 0) := by rw [Lib.cell_of_heap q5]; rfl
  have f5 : v5.frozen? ⟨w.heap.size, 1, none⟩ = false := Lib.frozen_of_heap q5 _
  obtain ⟨sa, sl, sc, rfl⟩ : ∃ a l c, sv = .slice a l c := by
    rcases r5.form with ⟨h, _⟩ | ⟨g, cap, cur, h, _⟩
    · exact ⟨_, _, _, h⟩
    · exact ⟨_, _, _, h⟩
  have HD : Hid (devAt w.heap.size (.slice (some ⟨w.heap.size + 1, 0, none⟩) N N) (.slice sa sl sc) ⟨padded S.data.toList N, padded S.data.toList N, [], 0, -1⟩ (v5.setCell ⟨w.heap.size, 1, none⟩ (.slice sa sl sc))) := by
    refine ⟨by simp [World.setCell, Array.getElem?_modify, q5], t5.of_block fun k hk => Below.heap_setCell _ _ _ _ ?_, r5.of_block fun k hk => Below.heap_setCell _ _ _ _ ?_, ?_, ?_, ?_⟩
    · simp [Value.ownBlock] at hk; show k ≠ w.heap.size; omega
    · have := n5 k hk; show k ≠ w.heap.size; omega
    · simp [Value.ownBlock]
    · intro h; have := n5 _ h; omega
    · intro k hk h; have := n5 _ h; simp [Value.ownBlock] at hk; omega
  have HB : Hid (Below w.heap.size w (v5.setCell ⟨w.heap.size, 1, none⟩ (.slice sa sl sc))) := b5.setCell (Nat.le_refl _) _
  have HN : Hid (∀ k, (Value.slice sa sl sc).ownBlock = some k → w.heap.size ≤ k) := fun k hk => by have := n5 k hk; omega
  clear q4 q5 t5 b4 b5 r4 r5 g4 g5 n5
  go_enter Try.func28, Try.ntmps28
  go_wp2_with (at_builtin; refine wpList_append_eq _ rfl _ _ 65 rfl _ _ rfl rfl hap ?_)
  go_ret
  exact ⟨_, _, _, rfl, HD.out, HB.out, Nat.le_refl _, fun k hk => by simp [Value.ownBlock] at hk; omega, HN.out⟩

end Go.Proofs.Ytjjmcnippjpclaa

namespace Go.Proofs.Ytjjmcnippjpclaa

open Go.RowKit

theorem rowOf.shape {w : World} {v : Value} {l : List UInt8} (h : rowOf w v l) : ∃ a n c, v = .slice a n c := by
  rcases h.form with ⟨h, _⟩ | ⟨g, cap, cur, h, _⟩
  · exact ⟨_, _, _, h⟩
  · exact ⟨_, _, _, h⟩

/-- a device's block filled anew. -/
theorem fill60 {w : World} {N : Nat} {a b c d e : Value} (h : w.heap[N]? = some (.cells #[a, b, c, d, e] 95 (0, 0))) (p q r s t : Value) :
    (((((w.setCell ⟨N, 0, none⟩ p).setCell ⟨N, 1, none⟩ q).setCell ⟨N, 2, none⟩ r).setCell ⟨N, 3, none⟩ s).setCell ⟨N, 4, none⟩ t).heap[N]? = some (.cells #[p, q, r, s, t] 95 (0, 0)) := by
  simp [World.setCell, Array.getElem?_modify, h]

set_option maxRecDepth 100000 in
set_option maxHeartbeats 1000000 in
theorem copy_any (D : Nat) (tv sv : Value) (x : Dp.Dv) (w : World) (hb : x.text.length ≤ 140737488355328) (hb2 : x.safe.length ≤ 140737488355328) (h : Hid (devAt D tv sv x w)) :
    Calls Try.prog 92 #[.pointer (some ⟨D, 0, none⟩)] w fun e w' => ∃ D' tv' sv', e = .returned (.pointer (some ⟨D', 0, none⟩)) ∧ devAt D' tv' sv' x w' ∧ Below w.heap.size w w' ∧ w.heap.size ≤ D' ∧ (∀ k, tv'.ownBlock = some k → w.heap.size ≤ k) ∧ (∀ k, sv'.ownBlock = some k → w.heap.size ≤ k) := by
  have hlt := h.out.lt
  obtain ⟨ta, tl, tc, rfl⟩ := h.out.text.shape
  obtain ⟨sa, sl, sc, rfl⟩ := h.out.safe.shape
  obtain ⟨c0, c1, c2, c3, c4, fz⟩ := h.out.cells
  generalize hG : (⟨x.log.toArray⟩ : ByteArray) = G at *
  have q1 := heap_alloc_new w (.cells #[.slice none 0 0, .slice none 0 0, .string ⟨#[]⟩, .int .i64 0, .int .i64 0] 95 (0, 0))
  have b1 := (Below.refl w.heap.size w).alloc (Nat.le_refl _) (.cells #[.slice none 0 0, .slice none 0 0, .string ⟨#[]⟩, .int .i64 0, .int .i64 0] 95 (0, 0))
  have D1 : Hid (devAt D (.slice ta tl tc) (.slice sa sl sc) x (w.alloc (.cells #[.slice none 0 0, .slice none 0 0, .string ⟨#[]⟩, .int .i64 0, .int .i64 0] 95 (0, 0)))) := h.out.below b1
  have z1 : (w.alloc (.cells #[.slice none 0 0, .slice none 0 0, .string ⟨#[]⟩, .int .i64 0, .int .i64 0] 95 (0, 0))).heap.size = w.heap.size + 1 := by simp
  generalize hv1 : w.alloc (.cells #[.slice none 0 0, .slice none 0 0, .string ⟨#[]⟩, .int .i64 0, .int .i64 0] 95 (0, 0)) = v1 at *
  have n0 : v1.cell? ⟨w.heap.size, 0, none⟩ = some (.slice none 0 0) := by rw [Lib.cell_of_heap q1]; rfl
  have n1 : v1.cell? ⟨w.heap.size, 1, none⟩ = some (.slice none 0 0) := by rw [Lib.cell_of_heap q1]; rfl
  have n2 : v1.cell? ⟨w.heap.size, 2, none⟩ = some (.string ⟨#[]⟩) := by rw [Lib.cell_of_heap q1]; rfl
  have n3 : v1.cell? ⟨w.heap.size, 3, none⟩ = some (.int .i64 0) := by rw [Lib.cell_of_heap q1]; rfl
  have n4 : v1.cell? ⟨w.heap.size, 4, none⟩ = some (.int .i64 0) := by rw [Lib.cell_of_heap q1]; rfl
  have m0 : v1.frozen? ⟨w.heap.size, 0, none⟩ = false := Lib.frozen_of_heap q1 _
  have m1 : v1.frozen? ⟨w.heap.size, 1, none⟩ = false := Lib.frozen_of_heap q1 _
  have m2 : v1.frozen? ⟨w.heap.size, 2, none⟩ = false := Lib.frozen_of_heap q1 _
  have m3 : v1.frozen? ⟨w.heap.size, 3, none⟩ = false := Lib.frozen_of_heap q1 _
  have m4 : v1.frozen? ⟨w.heap.size, 4, none⟩ = false := Lib.frozen_of_heap q1 _
  have q2 := fill60 q1 (.slice ta tl tc) (.slice sa sl sc) (.string G) (.int .i64 x.sure) (.int .i64 x.life)
  have b2 := ((((b1.setCell (p := ⟨w.heap.size, 0, none⟩) (Nat.le_refl _) (.slice ta tl tc)).setCell (p := ⟨w.heap.size, 1, none⟩) (Nat.le_refl _) (.slice sa sl sc)).setCell (p := ⟨w.heap.size, 2, none⟩) (Nat.le_refl _) (.string G)).setCell (p := ⟨w.heap.size, 3, none⟩) (Nat.le_refl _) (.int .i64 x.sure)).setCell (p := ⟨w.heap.size, 4, none⟩) (Nat.le_refl _) (.int .i64 x.life)
  generalize hv2 : ((((v1.setCell ⟨w.heap.size, 0, none⟩ (.slice ta tl tc)).setCell ⟨w.heap.size, 1, none⟩ (.slice sa sl sc)).setCell ⟨w.heap.size, 2, none⟩ (.string G)).setCell ⟨w.heap.size, 3, none⟩ (.int .i64 x.sure)).setCell ⟨w.heap.size, 4, none⟩ (.int .i64 x.life) = v2 at *
  have D2 := h.out.below b2
  obtain ⟨k0, k1, -, -, -, -⟩ := D2.cells
  obtain ⟨tv', v3, hap, r3, g3, t3⟩ := append_row D2.text hb
  obtain ⟨pa, pl, pc, rfl⟩ := r3.shape
  have hz2 := b2.size
  have hN2 : w.heap.size < v2.heap.size := (Array.getElem?_eq_some_iff.1 q2).1
  have q3 : v3.heap[w.heap.size]? = some (.cells #[.slice ta tl tc, .slice sa sl sc, .string G, .int .i64 x.sure, .int .i64 x.life] 95 (0, 0)) := by rw [g3.block _ hN2 (by simp)]; exact q2
  have b3 : Below w.heap.size w v3 := ⟨g3.os.trans b2.os, g3.tape.trans b2.tape, g3.output.trans b2.output, Nat.le_trans b2.size g3.size, fun k hk => (g3.block k (by omega) (by simp)).trans (b2.block k hk)⟩
  have o0 : v3.cell? ⟨w.heap.size, 0, none⟩ = some (.slice ta tl tc) := by rw [Lib.cell_of_heap q3]; rfl
  have o1 : v3.frozen? ⟨w.heap.size, 0, none⟩ = false := Lib.frozen_of_heap q3 _
  have q4 : (v3.setCell ⟨w.heap.size, 0, none⟩ (.slice pa pl pc)).heap[w.heap.size]? = some (.cells #[.slice pa pl pc, .slice sa sl sc, .string G, .int .i64 x.sure, .int .i64 x.life] 95 (0, 0)) := by simp [World.setCell, Array.getElem?_modify, q3]
  have r4 : rowOf (v3.setCell ⟨w.heap.size, 0, none⟩ (.slice pa pl pc)) (.slice pa pl pc) x.text := r3.of_block fun k hk => Below.heap_setCell _ _ _ _ (by have := t3 k hk; show k ≠ w.heap.size; omega)
  have b4 := b3.setCell (p := ⟨w.heap.size, 0, none⟩) (Nat.le_refl _) (.slice pa pl pc)
  have z4 : (v3.setCell ⟨w.heap.size, 0, none⟩ (.slice pa pl pc)).heap.size = v3.heap.size := by simp [World.setCell]
  generalize hv4 : v3.setCell ⟨w.heap.size, 0, none⟩ (.slice pa pl pc) = v4 at *
  have D4 := h.out.below b4
  obtain ⟨-, l1, -, -, -, -⟩ := D4.cells
  obtain ⟨sv', v5, hap2, r5, g5, t5⟩ := append_row D4.safe hb2
  obtain ⟨ua, ul, uc, rfl⟩ := r5.shape
  have hz4 := b4.size
  have hg3 := g3.size
  have q5 : v5.heap[w.heap.size]? = some (.cells #[.slice pa pl pc, .slice sa sl sc, .string G, .int .i64 x.sure, .int .i64 x.life] 95 (0, 0)) := by rw [g5.block _ (by omega) (by simp)]; exact q4
  have b5 : Below w.heap.size w v5 := ⟨g5.os.trans b4.os, g5.tape.trans b4.tape, g5.output.trans b4.output, Nat.le_trans b4.size g5.size, fun k hk => (g5.block k (by omega) (by simp)).trans (b4.block k hk)⟩
  have p0 : v5.cell? ⟨w.heap.size, 1, none⟩ = some (.slice sa sl sc) := by rw [Lib.cell_of_heap q5]; rfl
  have p1 : v5.frozen? ⟨w.heap.size, 1, none⟩ = false := Lib.frozen_of_heap q5 _
  have HD : Hid (devAt w.heap.size (.slice pa pl pc) (.slice ua ul uc) x (v5.setCell ⟨w.heap.size, 1, none⟩ (.slice ua ul uc))) := by
    refine ⟨by rw [hG]; simp [World.setCell, Array.getElem?_modify, q5], (r4.of_block fun k hk => g5.block k (r4.lt hk) (by simp)).of_block fun k hk => Below.heap_setCell _ _ _ _ ?_, r5.of_block fun k hk => Below.heap_setCell _ _ _ _ ?_, ?_, ?_, ?_⟩
    · have := t3 k hk; show k ≠ w.heap.size; omega
    · have := t5 k hk; show k ≠ w.heap.size; omega
    · intro h; have := t3 _ h; omega
    · intro h; have := t5 _ h; omega
    · intro k hk h; have h1 := t5 _ h; have h2 := r4.lt hk; omega
  have HB : Hid (Below w.heap.size w (v5.setCell ⟨w.heap.size, 1, none⟩ (.slice ua ul uc))) := b5.setCell (Nat.le_refl _) _
  have HN : Hid ((∀ k, (Value.slice pa pl pc).ownBlock = some k → w.heap.size ≤ k) ∧ (∀ k, (Value.slice ua ul uc).ownBlock = some k → w.heap.size ≤ k)) := ⟨fun k hk => by have := t3 k hk; omega, fun k hk => by have := t5 k hk; omega⟩
  clear q1 q2 q3 q4 q5 r3 r4 r5 b1 b2 b3 b4 b5 g3 g5 D1 D2 D4 t3 t5 z1 z4 hz2 hN2 hz4 hg3
  go_enter Try.func92, Try.ntmps92
  go_wp2_with (at_builtin; first | (refine wpList_append_eq _ rfl _ _ 65 rfl _ _ rfl rfl hap ?_; clear hap) | refine wpList_append_eq _ rfl _ _ 65 rfl _ _ rfl rfl hap2 ?_)
  go_ret
  exact ⟨_, _, _, rfl, HD.out, HB.out, Nat.le_refl _, HN.out.1, HN.out.2⟩

end Go.Proofs.Ytjjmcnippjpclaa
