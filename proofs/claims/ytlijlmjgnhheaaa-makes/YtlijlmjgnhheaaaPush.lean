/-
  The walks of heap.Push and heap.Pop.
-/
import Derived.Test.YtlijlmjgnhheaaaHeap
namespace Go.Proofs.Ytlijlmjgnhheaaa
open Go.RowKit

theorem qlen_any (a : Option Addr) (n c : Nat) (w : World) : Calls Try.prog 99 #[.slice a n c] w fun e w' => e = .returned (.int .i64 n) ∧ w' = w := by
  go_enter Try.func99, Try.ntmps99
  go_wp2
  go_ret
  exact ⟨rfl, rfl⟩

set_option maxRecDepth 100000 in
set_option maxHeartbeats 400000 in
theorem push_any (H B : Nat) (q : List Nat) (x : Nat) (w : World) (hB : B ≤ H) (hq : q.length ≤ 50000) (h : Hid (quAt H B q w)) :
    Calls Try.prog 98 #[.iface 148 (.pointer (some ⟨H, 0, none⟩)), .iface 3 (.int .i64 x)] w fun e w' => e = .returned (.tuple #[]) ∧ ∃ q', q'.Perm (q ++ [x]) ∧ quAt H B q' w' ∧ quKept H B w w' := by
  go_enter Try.func98, Try.ntmps98
  go_wp2_with fail
  refine (pushM_any H B q x w hB (by omega) h).mono ?_
  rintro e v1 ⟨rfl, hq1, hk1⟩
  have HQ1 : Hid (quAt H B (q ++ [x]) v1) := hq1
  have HK1 : Hid (quKept H B w v1) := hk1
  obtain ⟨g, cap, hH, hw⟩ := hq1.open (by simp)
  have c0 : v1.cell? ⟨H, 0, none⟩ = some (.slice (some ⟨g, 0, none⟩) (q ++ [x]).length cap) := by rw [Lib.cell_of_heap hH]; rfl
  have mN := meth_any "Len" 99 m148 v1 H _ c0
  rw [List.length_append] at c0 mN
  clear hq1 hk1 hH hw
  go_wp2_with (go_at_call 99; refine (qlen_any _ _ _ _).mono ?_; rintro e v0 ⟨rfl, h0⟩; rw [h0]; clear h0 v0)
  refine (up_any H B (q ++ [x]) q.length v1 (by simp; omega) (by simp) HQ1).mono ?_
  rintro e v2 ⟨rfl, q2, hp2, hq2, hk2⟩
  have HF : Hid (∃ q', q'.Perm (q ++ [x]) ∧ quAt H B q' v2 ∧ quKept H B w v2) := ⟨q2, hp2, hq2, HK1.out.trans hk2⟩
  clear hp2 hq2 hk2
  go_wp2_with fail
  go_returns
  exact ⟨rfl, HF.out⟩


set_option maxRecDepth 100000 in
set_option maxHeartbeats 400000 in
theorem pop_any (H B : Nat) (q : List Nat) (w : World) (hB : B ≤ H) (hq : q.length ≤ 50000) (h0 : 0 < q.length) (h : Hid (quAt H B q w)) :
    Calls Try.prog 100 #[.iface 148 (.pointer (some ⟨H, 0, none⟩))] w fun e w' => ∃ (x : Nat) (q' : List Nat), e = .returned (.iface 3 (.int .i64 x)) ∧ (x :: q').Perm q ∧ quAt H B q' w' ∧ quKept H B w w' := by
  obtain ⟨n, hn⟩ : ∃ n, q.length = n + 1 := ⟨q.length - 1, by omega⟩
  obtain ⟨g, cap, hH, hw⟩ := h.out.open h0
  have HH : Hid (w.heap[H]? = some (.cells #[.slice (some ⟨g, 0, none⟩) q.length cap] 149 (0, 0))) := hH
  have HW : Hid (w.ownsRow B 3 1 (.slice (some ⟨g, 0, none⟩) q.length cap) q.length (nums q)) := hw
  have c0 : w.cell? ⟨H, 0, none⟩ = some (.slice (some ⟨g, 0, none⟩) q.length cap) := by rw [Lib.cell_of_heap hH]; rfl
  obtain ⟨x, hx⟩ : ∃ x, q[0]? = some x := ⟨q[0], List.getElem?_eq_getElem h0⟩
  obtain ⟨y, hy⟩ : ∃ y, q[n]? = some y := ⟨q[n], List.getElem?_eq_getElem (by omega)⟩
  have cx := quAt.cells hw 0 x hx
  have cy := quAt.cells hw n y hy
  have HX : Hid (q[0]? = some x) := hx
  have HY : Hid (q[n]? = some y) := hy
  have mN := meth_any "Len" 99 m148 w H _ c0
  have mS := meth_any "Swap" 145 m148s w H _ c0
  have HN : Hid (q.length = n + 1) := hn
  have hn5 : n ≤ 50000 := by omega
  rw [hn] at c0 mN mS
  clear hH hw hx hy hn
  go_enter Try.func100, Try.ntmps100
  go_wp2_with (go_at_call 99; refine (qlen_any _ _ _ _).mono ?_; rintro e v0 ⟨rfl, h0⟩; rw [h0]; clear h0 v0)
  refine (swap_any g (n + 1) cap 0 n x y w (by omega) (by omega) cx cy (fun i => HW.out.frozenAt i)).mono ?_
  rintro e v1 ⟨rfl, rfl⟩
  obtain ⟨q2, hp2, hq2, hk2⟩ := quAt.swap (w := w) HH.out HW.out HX.out HY.out
  have HP2 : Hid (q2.Perm q) := hp2
  have hl2 : q2.length = n + 1 := by rw [hp2.length_eq, HN.out]
  have HL2 : Hid (q2.length = n + 1) := hl2
  have HQ2 : Hid (quAt H B q2 ((w.setCell ⟨g, 0, none⟩ (.int .i64 y)).setCell ⟨g, n, none⟩ (.int .i64 x)).drew) := hq2
  have HK2 : Hid (quKept H B w ((w.setCell ⟨g, 0, none⟩ (.int .i64 y)).setCell ⟨g, n, none⟩ (.int .i64 x)).drew) := hk2
  clear hp2 hq2 hk2 cx cy mN mS c0
  generalize ((w.setCell ⟨g, 0, none⟩ (.int .i64 y)).setCell ⟨g, n, none⟩ (.int .i64 x)).drew = v2 at *
  go_wp2_with fail
  refine (down_any H B q2 n v2 (by rw [HL2.out]; have := HN.out; omega) (by rw [HL2.out]; omega) HQ2).mono ?_
  rintro e v3 ⟨⟨b, rfl⟩, q3, hp3, hq3, hk3⟩
  have hl3 : q3.length = n + 1 := by rw [hp3.length_eq, HL2.out]
  obtain ⟨q4, z, h4⟩ : ∃ q4 z, q3 = q4 ++ [z] := by
    have hne : q3 ≠ [] := by intro e; rw [e] at hl3; cases hl3
    exact ⟨q3.dropLast, q3.getLast hne, (List.dropLast_concat_getLast hne).symm⟩
  subst h4
  have HQ3 : Hid (quAt H B (q4 ++ [z]) v3) := hq3
  have HK3 : Hid (quKept H B w v3) := HK2.out.trans hk3
  have HP3 : Hid ((z :: q4).Perm q) := ((List.perm_append_singleton z q4).symm.trans hp3).trans HP2.out
  have hl4 : q4.length ≤ 100000 := by simp at hl3; have := HN.out; omega
  clear hp3 hq3 hk3 hl3
  go_wp2_with fail
  refine (popM_any H B q4 z v3 hB hl4 HQ3).mono ?_
  rintro e v4 ⟨rfl, hq4, hk4⟩
  have HQ4 : Hid (quAt H B q4 v4) := hq4
  have HK4 : Hid (quKept H B w v4) := HK3.out.trans hk4
  clear hq4 hk4
  go_wp2_with fail
  go_ret
  exact ⟨z, q4, rfl, HP3.out, HQ4.out, HK4.out⟩
end Go.Proofs.Ytlijlmjgnhheaaa
