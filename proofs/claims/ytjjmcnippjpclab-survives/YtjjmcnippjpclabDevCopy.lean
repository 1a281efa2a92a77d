/-
  The walk of a device's copy.
-/
import Derived.Test.YtjjmcnippjpclabDevNew
namespace Go.Proofs.Ytjjmcnippjpclab

open Go.RowKit

theorem rowOf.shape {w : World} {v : Value} {l : List UInt8} (h : rowOf w v l) : ∃ a n c, v = .slice a n c := by
  rcases h.form with ⟨h, _⟩ | ⟨g, cap, cur, h, _⟩
  · exact ⟨_, _, _, h⟩
  · exact ⟨_, _, _, h⟩

/-- a device's block filled anew. -/
theorem fill60 {w : World} {N : Nat} {a b c d e : Value} (h : w.heap[N]? = some (.cells #[a, b, c, d, e] 60 (0, 0))) (p q r s t : Value) :
    (((((w.setCell ⟨N, 0, none⟩ p).setCell ⟨N, 1, none⟩ q).setCell ⟨N, 2, none⟩ r).setCell ⟨N, 3, none⟩ s).setCell ⟨N, 4, none⟩ t).heap[N]? = some (.cells #[p, q, r, s, t] 60 (0, 0)) := by
  simp [World.setCell, Array.getElem?_modify, h]

set_option maxRecDepth 100000 in
set_option maxHeartbeats 1000000 in
theorem copy_any (D : Nat) (tv sv : Value) (x : Dp.Dv) (w : World) (hb : x.text.length ≤ 140737488355328) (hb2 : x.safe.length ≤ 140737488355328) (h : Hid (devAt D tv sv x w)) :
    Calls Try.prog 18 #[.pointer (some ⟨D, 0, none⟩)] w fun e w' => ∃ D' tv' sv', e = .returned (.pointer (some ⟨D', 0, none⟩)) ∧ devAt D' tv' sv' x w' ∧ Below w.heap.size w w' ∧ w.heap.size ≤ D' ∧ (∀ k, tv'.ownBlock = some k → w.heap.size ≤ k) ∧ (∀ k, sv'.ownBlock = some k → w.heap.size ≤ k) := by
  have hlt := h.out.lt
  obtain ⟨ta, tl, tc, rfl⟩ := h.out.text.shape
  obtain ⟨sa, sl, sc, rfl⟩ := h.out.safe.shape
  obtain ⟨c0, c1, c2, c3, c4, fz⟩ := h.out.cells
  generalize hG : (⟨x.log.toArray⟩ : ByteArray) = G at *
  have q1 := heap_alloc_new w (.cells #[.slice none 0 0, .slice none 0 0, .string ⟨#[]⟩, .int .i64 0, .int .i64 0] 60 (0, 0))
  have b1 := (Below.refl w.heap.size w).alloc (Nat.le_refl _) (.cells #[.slice none 0 0, .slice none 0 0, .string ⟨#[]⟩, .int .i64 0, .int .i64 0] 60 (0, 0))
  have D1 : Hid (devAt D (.slice ta tl tc) (.slice sa sl sc) x (w.alloc (.cells #[.slice none 0 0, .slice none 0 0, .string ⟨#[]⟩, .int .i64 0, .int .i64 0] 60 (0, 0)))) := h.out.below b1
  have z1 : (w.alloc (.cells #[.slice none 0 0, .slice none 0 0, .string ⟨#[]⟩, .int .i64 0, .int .i64 0] 60 (0, 0))).heap.size = w.heap.size + 1 := by simp
  generalize hv1 : w.alloc (.cells #[.slice none 0 0, .slice none 0 0, .string ⟨#[]⟩, .int .i64 0, .int .i64 0] 60 (0, 0)) = v1 at *
  have n0 : v1.cell? ⟨w.heap.size, 0, none⟩ = some (.slice none 0 0) := by rw [Lib.cell_of_heap q1]; rfl
  have n1 : v1.cell? ⟨w.heap.size, 1, none⟩ = some (.slice none 0 0) := by rw [Lib.cell_of_heap q1]; rfl
  have n2 : v1.cell? ⟨w.heap.size, 2, none⟩ = some (.string ⟨#[]⟩) := by rw [Lib.cell_of_heap q1]; rfl
  have n3 : v1.cell? ⟨w.heap.size, 3, none⟩ = some (.int .i64 0) := by rw [Lib.cell_of_heap q1]; rfl
  have n4 : v1.cell? ⟨w.heap.size, 4, none⟩ = some (.int .i64 0) := by rw [Lib.cell_of_heap q1]; rfl
  have m0 : v1.frozen? ⟨w.heap.size, 0, none⟩ = false := Lib.frozen_of_heap q1 _
  have m1 : v1.frozen? ⟨w.heap.size, 1, none⟩ = false := Lib.frozen_of_heap q1 _
  have m2 : v1.frozen? ⟨w.heap.size, 2, none⟩ = false := Lib.frozen_of_heap q1 _
  have m3 : v1.frozen? ⟨w.heap.size, 3, none⟩ = false := Lib.frozen_of_heap q1 _
  have m4 : v1.frozen? ⟨w.heap.size, 4, none⟩ = false := Lib.frozen_of_heap q1 _
  have q2 := fill60 q1 (.slice ta tl tc) (.slice sa sl sc) (.string G) (.int .i64 x.sure) (.int .i64 x.life)
  have b2 := ((((b1.setCell (p := ⟨w.heap.size, 0, none⟩) (Nat.le_refl _) (.slice ta tl tc)).setCell (p := ⟨w.heap.size, 1, none⟩) (Nat.le_refl _) (.slice sa sl sc)).setCell (p := ⟨w.heap.size, 2, none⟩) (Nat.le_refl _) (.string G)).setCell (p := ⟨w.heap.size, 3, none⟩) (Nat.le_refl _) (.int .i64 x.sure)).setCell (p := ⟨w.heap.size, 4, none⟩) (Nat.le_refl _) (.int .i64 x.life)
  generalize hv2 : ((((v1.setCell ⟨w.heap.size, 0, none⟩ (.slice ta tl tc)).setCell ⟨w.heap.size, 1, none⟩ (.slice sa sl sc)).setCell ⟨w.heap.size, 2, none⟩ (.string G)).setCell ⟨w.heap.size, 3, none⟩ (.int .i64 x.sure)).setCell ⟨w.heap.size, 4, none⟩ (.int .i64 x.life) = v2 at *
  have D2 := h.out.below b2
  obtain ⟨k0, k1, -, -, -, -⟩ := D2.cells
  obtain ⟨tv', v3, hap, r3, g3, t3⟩ := append_row D2.text hb
  obtain ⟨pa, pl, pc, rfl⟩ := r3.shape
  have hz2 := b2.size
  have hN2 : w.heap.size < v2.heap.size := (Array.getElem?_eq_some_iff.1 q2).1
  have q3 : v3.heap[w.heap.size]? = some (.cells #[.slice ta tl tc, .slice sa sl sc, .string G, .int .i64 x.sure, .int .i64 x.life] 60 (0, 0)) := by rw [g3.block _ hN2 (by simp)]; exact q2
  have b3 : Below w.heap.size w v3 := ⟨g3.os.trans b2.os, g3.tape.trans b2.tape, g3.output.trans b2.output, Nat.le_trans b2.size g3.size, fun k hk => (g3.block k (by omega) (by simp)).trans (b2.block k hk)⟩
  have o0 : v3.cell? ⟨w.heap.size, 0, none⟩ = some (.slice ta tl tc) := by rw [Lib.cell_of_heap q3]; rfl
  have o1 : v3.frozen? ⟨w.heap.size, 0, none⟩ = false := Lib.frozen_of_heap q3 _
  have q4 : (v3.setCell ⟨w.heap.size, 0, none⟩ (.slice pa pl pc)).heap[w.heap.size]? = some (.cells #[.slice pa pl pc, .slice sa sl sc, .string G, .int .i64 x.sure, .int .i64 x.life] 60 (0, 0)) := by simp [World.setCell, Array.getElem?_modify, q3]
  have r4 : rowOf (v3.setCell ⟨w.heap.size, 0, none⟩ (.slice pa pl pc)) (.slice pa pl pc) x.text := r3.of_block fun k hk => Below.heap_setCell _ _ _ _ (by have := t3 k hk; show k ≠ w.heap.size; omega)
  have b4 := b3.setCell (p := ⟨w.heap.size, 0, none⟩) (Nat.le_refl _) (.slice pa pl pc)
  have z4 : (v3.setCell ⟨w.heap.size, 0, none⟩ (.slice pa pl pc)).heap.size = v3.heap.size := by simp [World.setCell]
  generalize hv4 : v3.setCell ⟨w.heap.size, 0, none⟩ (.slice pa pl pc) = v4 at *
  have D4 := h.out.below b4
  obtain ⟨-, l1, -, -, -, -⟩ := D4.cells
  obtain ⟨sv', v5, hap2, r5, g5, t5⟩ := append_row D4.safe hb2
  obtain ⟨ua, ul, uc, rfl⟩ := r5.shape
  have hz4 := b4.size
  have hg3 := g3.size
  have q5 : v5.heap[w.heap.size]? = some (.cells #[.slice pa pl pc, .slice sa sl sc, .string G, .int .i64 x.sure, .int .i64 x.life] 60 (0, 0)) := by rw [g5.block _ (by omega) (by simp)]; exact q4
  have b5 : Below w.heap.size w v5 := ⟨g5.os.trans b4.os, g5.tape.trans b4.tape, g5.output.trans b4.output, Nat.le_trans b4.size g5.size, fun k hk => (g5.block k (by omega) (by simp)).trans (b4.block k hk)⟩
  have p0 : v5.cell? ⟨w.heap.size, 1, none⟩ = some (.slice sa sl sc) := by rw [Lib.cell_of_heap q5]; rfl
  have p1 : v5.frozen? ⟨w.heap.size, 1, none⟩ = false := Lib.frozen_of_heap q5 _
  have HD : Hid (devAt w.heap.size (.slice pa pl pc) (.slice ua ul uc) x (v5.setCell ⟨w.heap.size, 1, none⟩ (.slice ua ul uc))) := by
    refine ⟨by rw [hG]; simp [World.setCell, Array.getElem?_modify, q5], (r4.of_block fun k hk => g5.block k (r4.lt hk) (by simp)).of_block fun k hk => Below.heap_setCell _ _ _ _ ?_, r5.of_block fun k hk => Below.heap_setCell _ _ _ _ ?_, ?_, ?_, ?_⟩
    · have := t3 k hk; show k ≠ w.heap.size; omega
    · have := t5 k hk; show k ≠ w.heap.size; omega
    · intro h; have := t3 _ h; omega
    · intro h; have := t5 _ h; omega
    · intro k hk h; have h1 := t5 _ h; have h2 := r4.lt hk; omega
  have HB : Hid (Below w.heap.size w (v5.setCell ⟨w.heap.size, 1, none⟩ (.slice ua ul uc))) := b5.setCell (Nat.le_refl _) _
  have HN : Hid ((∀ k, (Value.slice pa pl pc).ownBlock = some k → w.heap.size ≤ k) ∧ (∀ k, (Value.slice ua ul uc).ownBlock = some k → w.heap.size ≤ k)) := ⟨fun k hk => by have := t3 k hk; omega, fun k hk => by have := t5 k hk; omega⟩
  clear q1 q2 q3 q4 q5 r3 r4 r5 b1 b2 b3 b4 b5 g3 g5 D1 D2 D4 t3 t5 z1 z4 hz2 hN2 hz4 hg3
  go_enter Try.func18, Try.ntmps18
  go_wp2_with (at_builtin; first | (refine wpList_append_eq _ rfl _ _ 34 rfl _ _ rfl rfl hap ?_; clear hap) | refine wpList_append_eq _ rfl _ _ 34 rfl _ _ rfl rfl hap2 ?_)
  go_ret
  exact ⟨_, _, _, rfl, HD.out, HB.out, Nat.le_refl _, HN.out.1, HN.out.2⟩

end Go.Proofs.Ytjjmcnippjpclab
