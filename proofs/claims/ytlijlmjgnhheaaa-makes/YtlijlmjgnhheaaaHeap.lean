/-
  The walks of container/heap over the queue of steps: up, down, Push, Pop. Of the order nothing is said: what is in the queue stays in it.
-/
import Derived.Test.YtlijlmjgnhheaaaQueue
namespace Go.Proofs.Ytlijlmjgnhheaaa
open Go.RowKit

theorem quKept.refl (H B : Nat) (w : World) : quKept H B w w := ⟨Below.refl _ _, fun _ _ _ _ h _ _ => h⟩
theorem quKept.trans {H B : Nat} {a b c : World} (h : quKept H B a b) (k : quKept H B b c) : quKept H B a c := ⟨h.1.trans k.1, fun i cs t fz hi hH ht => k.2 i cs t fz (h.2 i cs t fz hi hH ht) hH ht⟩
theorem quKept.drewN {H B : Nat} {a b : World} (h : quKept H B a b) (n : Nat) : quKept H B a (b.drewN n) := ⟨below_drewN h.1 n, h.2⟩
theorem quKept.drew {H B : Nat} {a b : World} (h : quKept H B a b) : quKept H B a b.drew := ⟨h.1.drew, h.2⟩

/-- a queue opened. -/
theorem quAt.open {H B : Nat} {q : List Nat} {w : World} (h : quAt H B q w) (h0 : 0 < q.length) :
    ∃ g cap, w.heap[H]? = some (.cells #[.slice (some ⟨g, 0, none⟩) q.length cap] 149 (0, 0)) ∧ w.ownsRow B 3 1 (.slice (some ⟨g, 0, none⟩) q.length cap) q.length (nums q) := by
  obtain ⟨v, hH, hw⟩ := h
  obtain ⟨g, cap, hv, _⟩ := hw.form h0
  subst hv
  exact ⟨g, cap, hH, hw⟩

theorem quAt.cells {B : Nat} {q : List Nat} {w : World} {g cap : Nat} (h : w.ownsRow B 3 1 (.slice (some ⟨g, 0, none⟩) q.length cap) q.length (nums q)) (i x : Nat) (hx : q[i]? = some x) : w.cell? ⟨g, i, none⟩ = some (.int .i64 x) := by
  have hl := (List.getElem?_eq_some_iff.1 hx).1
  rw [h.cellAt i (by omega), nums, List.getElem?_map, hx]
  rfl

theorem nums_set (q : List Nat) (i x : Nat) : (nums q).set i (.int .i64 x) = nums (q.set i x) := by rw [nums, nums, List.map_set]

/-- two of the queue's numbers change places. -/
theorem quAt.swap {H B : Nat} {q : List Nat} {w : World} {g cap i j x y : Nat} (hH : w.heap[H]? = some (.cells #[.slice (some ⟨g, 0, none⟩) q.length cap] 149 (0, 0)))
    (h : w.ownsRow B 3 1 (.slice (some ⟨g, 0, none⟩) q.length cap) q.length (nums q)) (hx : q[i]? = some x) (hy : q[j]? = some y) :
    ∃ q', q'.Perm q ∧ quAt H B q' ((w.setCell ⟨g, i, none⟩ (.int .i64 y)).setCell ⟨g, j, none⟩ (.int .i64 x)).drew ∧ quKept H B w ((w.setCell ⟨g, i, none⟩ (.int .i64 y)).setCell ⟨g, j, none⟩ (.int .i64 x)).drew := by
  obtain ⟨hi, ex⟩ := List.getElem?_eq_some_iff.1 hx
  obtain ⟨hj, ey⟩ := List.getElem?_eq_some_iff.1 hy
  have hgH : H ≠ g := fun e => by subst e; exact row_other h hH (by decide) rfl
  have hBg : B ≤ g := (h.lt g rfl).1
  refine ⟨(q.set i y).set j x, by have := List.set_set_perm hi hj; rw [ex, ey] at this; exact this, ⟨.slice (some ⟨g, 0, none⟩) q.length cap, ?_, ?_⟩, (((Below.refl B w).setCell hBg _).setCell hBg _).drew, fun k cs t fz hk hkH ht => ?_⟩
  · show ((w.setCell ⟨g, i, none⟩ (.int .i64 y)).setCell ⟨g, j, none⟩ (.int .i64 x)).heap[H]? = _
    rw [Below.heap_setCell _ _ _ _ hgH, Below.heap_setCell _ _ _ _ hgH]
    exact hH
  · have s0 := h.stored i (.int .i64 y)
    have s1 := s0.1.stored j (.int .i64 x)
    have s2 := s1.1
    rw [nums_set, nums_set] at s2
    rw [List.length_set, List.length_set]
    exact s2
  · have hkg : k ≠ g := fun e => by subst e; exact row_other h hk ht rfl
    show ((w.setCell ⟨g, i, none⟩ (.int .i64 y)).setCell ⟨g, j, none⟩ (.int .i64 x)).heap[k]? = _
    rw [Below.heap_setCell _ _ _ _ hkg, Below.heap_setCell _ _ _ _ hkg]
    exact hk

set_option maxRecDepth 100000 in
set_option maxHeartbeats 4000000 in
theorem up_any (H B : Nat) (q : List Nat) (j : Nat) (w : World) (hq : q.length ≤ 100000) (hj : j < q.length) (h : Hid (quAt H B q w)) :
    Calls Try.prog 116 #[.iface 148 (.pointer (some ⟨H, 0, none⟩)), .int .i64 j] w fun e w' => e = .returned (.tuple #[]) ∧ ∃ q', q'.Perm q ∧ quAt H B q' w' ∧ quKept H B w w' := by
  go_enter Try.func116, Try.ntmps116
  go_wp2_with fail
  go_loopw [1] (fun y wr => ∃ (k : Nat) (r : List Nat), y = .int .i64 k ∧ k < r.length ∧ r.length ≤ 100000 ∧ Hid (r.Perm q) ∧ Hid (quAt H B r wr) ∧ Hid (quKept H B w wr)) (fun y _ => (intOf y).toNat)
  case atStart => exact ⟨j, q, rfl, hj, hq, List.Perm.refl _, h, quKept.refl _ _ _⟩
  case round =>
    obtain ⟨k, r, rfl, hk, hr, hp, hqu, hke⟩ := hrel
    obtain ⟨g, cap, hH, hw⟩ := hqu.out.open (by omega)
    have c0 : wr.cell? ⟨H, 0, none⟩ = some (.slice (some ⟨g, 0, none⟩) r.length cap) := by rw [Lib.cell_of_heap hH]; rfl
    have mL := meth_any "Less" 142 m148l wr H _ c0
    rcases Nat.eq_zero_or_pos k with hk0 | hk0
    · subst hk0
      clear hH hw
      go_wp2_with fail
      go_returns
      exact ⟨rfl, r, hp.out, hqu.out, hke.out⟩
    · obtain ⟨p, hpk, hp1, hp2⟩ : ∃ p : Nat, p < k ∧ ((k : Int) - 1) / 2 = (p : Int) ∧ ((p : Int) == (k : Int)) = false := ⟨(k - 1) / 2, by omega, by omega, beq_eq_false_iff_ne.2 (by omega)⟩
      obtain ⟨x, hx⟩ : ∃ x, r[k]? = some x := ⟨r[k], List.getElem?_eq_getElem hk⟩
      obtain ⟨y, hy⟩ : ∃ y, r[p]? = some y := ⟨r[p], List.getElem?_eq_getElem (by omega)⟩
      have HX : Hid (r[k]? = some x) := hx
      have HY : Hid (r[p]? = some y) := hy
      have cx := quAt.cells hw k x hx
      have cy := quAt.cells hw p y hy
      have HH : Hid (wr.heap[H]? = some (.cells #[.slice (some ⟨g, 0, none⟩) r.length cap] 149 (0, 0))) := hH
      have HW : Hid (wr.ownsRow B 3 1 (.slice (some ⟨g, 0, none⟩) r.length cap) r.length (nums r)) := hw
      have mS : ∀ m, (method 284 148 (.pointer (some ⟨H, 0, none⟩)) "Swap").run Try.prog (wr.drewN m) = .ok (145, .slice (some ⟨g, 0, none⟩) r.length cap) (wr.drewN m) := fun m => meth_any "Swap" 145 m148s (wr.drewN m) H _ c0
      clear hH hw hx hy
      go_wp2_with fail
      refine (less_any g r.length cap k p x y _ hk (by omega) cx cy).mono ?_
      rintro e v1 ⟨rfl, m, rfl⟩
      by_cases hxy : x < y
      · rw [decide_eq_true hxy]
        go_wp2_with fail
        refine (swap_any g r.length cap p k y x (wr.drewN m) (by omega) hk (by exact cy) (by exact cx) (fun i => by exact HW.out.frozenAt i)).mono ?_
        rintro e v2 ⟨rfl, rfl⟩
        obtain ⟨q2, hp2, hq2, hk2⟩ := quAt.swap (w := wr.drewN m) HH.out HW.out HY.out HX.out
        have HP2 : Hid (q2.Perm q) := hp2.trans hp.out
        have HL2 : k < q2.length ∧ q2.length ≤ 100000 := by rw [hp2.length_eq]; omega
        have HQ2 : Hid (quAt H B q2 (((wr.drewN m).setCell ⟨g, p, none⟩ (.int .i64 x)).setCell ⟨g, k, none⟩ (.int .i64 y)).drew) := hq2
        have HK2 : Hid (quKept H B w (((wr.drewN m).setCell ⟨g, p, none⟩ (.int .i64 x)).setCell ⟨g, k, none⟩ (.int .i64 y)).drew) := (hke.out.drewN m).trans hk2
        clear hp2 hq2 hk2
        go_wp2_with fail
        exact ⟨⟨p, q2, rfl, by omega, HL2.2, HP2, HQ2, HK2⟩, by simp [intOf]; omega⟩
      · rw [decide_eq_false hxy]
        go_wp2_with fail
        go_returns
        exact ⟨rfl, r, hp.out, hqu.out, hke.out.drewN m⟩

def isBool (e : Ending) : Prop := ∃ b, e = .returned (.bool b)

set_option maxRecDepth 100000 in
set_option maxHeartbeats 4000000 in
theorem down_any (H B : Nat) (q : List Nat) (n : Nat) (w : World) (hq : q.length ≤ 100000) (hn : n < q.length) (h : Hid (quAt H B q w)) :
    Calls Try.prog 117 #[.iface 148 (.pointer (some ⟨H, 0, none⟩)), .int .i64 0, .int .i64 n] w fun e w' => isBool e ∧ ∃ q', q'.Perm q ∧ quAt H B q' w' ∧ quKept H B w w' := by
  go_enter Try.func117, Try.ntmps117
  go_wp2_with fail
  go_loopw [7] (fun y wr => ∃ (k : Nat) (r : List Nat), y = .int .i64 k ∧ k ≤ n ∧ n < r.length ∧ r.length ≤ 100000 ∧ Hid (r.Perm q) ∧ Hid (quAt H B r wr) ∧ Hid (quKept H B w wr)) (fun y _ => n - (intOf y).toNat)
  case atStart => exact ⟨0, q, rfl, Nat.zero_le _, hn, hq, List.Perm.refl _, h, quKept.refl _ _ _⟩
  case round =>
    obtain ⟨k, r, rfl, hk, hnr, hr, hp, hqu, hke⟩ := hrel
    obtain ⟨J, hJ, hJk⟩ : ∃ J : Nat, 2 * (k : Int) + 1 = (J : Int) ∧ k < J := ⟨2 * k + 1, by omega, by omega⟩
    by_cases h1 : J < n
    · have d1 : decide ((n : Int) ≤ (J : Int)) = false := decide_eq_false (by omega)
      have d2 : decide ((J : Int) < 0) = false := decide_eq_false (by omega)
      obtain ⟨g, cap, hH, hw⟩ := hqu.out.open (by omega)
      have c0 : wr.cell? ⟨H, 0, none⟩ = some (.slice (some ⟨g, 0, none⟩) r.length cap) := by rw [Lib.cell_of_heap hH]; rfl
      obtain ⟨x, hx⟩ : ∃ x, r[k]? = some x := ⟨r[k], List.getElem?_eq_getElem (by omega)⟩
      obtain ⟨y, hy⟩ : ∃ y, r[J]? = some y := ⟨r[J], List.getElem?_eq_getElem (by omega)⟩
      have HX : Hid (r[k]? = some x) := hx
      have HY : Hid (r[J]? = some y) := hy
      have cx := quAt.cells hw k x hx
      have cy := quAt.cells hw J y hy
      have HH : Hid (wr.heap[H]? = some (.cells #[.slice (some ⟨g, 0, none⟩) r.length cap] 149 (0, 0))) := hH
      have HW : Hid (wr.ownsRow B 3 1 (.slice (some ⟨g, 0, none⟩) r.length cap) r.length (nums r)) := hw
      have mS : ∀ m, (method 284 148 (.pointer (some ⟨H, 0, none⟩)) "Swap").run Try.prog (wr.drewN m) = .ok (145, .slice (some ⟨g, 0, none⟩) r.length cap) (wr.drewN m) := fun m => meth_any "Swap" 145 m148s (wr.drewN m) H _ c0
      have mL := meth_any "Less" 142 m148l wr H _ c0
      have mL2 : ∀ m, (method 284 148 (.pointer (some ⟨H, 0, none⟩)) "Less").run Try.prog (wr.drewN m) = .ok (142, .slice (some ⟨g, 0, none⟩) r.length cap) (wr.drewN m) := fun m => meth_any "Less" 142 m148l (wr.drewN m) H _ c0
      clear hH hw hx hy
      obtain ⟨J2, hJ2, hJJ⟩ : ∃ J2 : Nat, (J : Int) + 1 = (J2 : Int) ∧ J2 = J + 1 := ⟨J + 1, by omega, rfl⟩
      have hJ2k : k < J2 := by omega
      have HJJ : Hid (J2 = J + 1) := hJJ
      clear hJJ
      by_cases h2 : J2 < n
      · have d3 : decide ((J2 : Int) < (n : Int)) = true := decide_eq_true (by omega)
        obtain ⟨z, hz⟩ : ∃ z, r[J2]? = some z := ⟨r[J2], List.getElem?_eq_getElem (by omega)⟩
        have HZ : Hid (r[J2]? = some z) := hz
        have cz := quAt.cells HW.out J2 z hz
        clear hz
        go_wp2_with fail
        refine (less_any g r.length cap J2 J z y wr (by omega) (by omega) cz cy).mono ?_
        rintro e v1 ⟨rfl, m1, rfl⟩
        by_cases hzy : z < y
        · rw [decide_eq_true hzy]
          go_wp2_with fail
          refine (less_any g r.length cap J2 k z x (wr.drewN m1) (by omega) (by omega) (by exact cz) (by exact cx)).mono ?_
          rintro e v2 ⟨rfl, m2, rfl⟩
          by_cases hzx : z < x
          · rw [decide_eq_true hzx]
            go_wp2_with fail
            refine (swap_any g r.length cap k J2 x z (wr.drewN (m1 + m2)) (by omega) (by omega) (by exact cx) (by exact cz) (fun i => by exact HW.out.frozenAt i)).mono ?_
            rintro e v3 ⟨rfl, rfl⟩
            obtain ⟨q2, hp2, hq2, hk2⟩ := quAt.swap (w := (wr.drewN (m1 + m2))) HH.out HW.out HX.out HZ.out
            have HP2 : Hid (q2.Perm q) := hp2.trans hp.out
            have HL2 : n < q2.length ∧ q2.length ≤ 100000 := by rw [hp2.length_eq]; omega
            have HQ2 : Hid (quAt H B q2 (((wr.drewN (m1 + m2)).setCell ⟨g, k, none⟩ (.int .i64 z)).setCell ⟨g, J2, none⟩ (.int .i64 x)).drew) := hq2
            have HK2 : Hid (quKept H B w (((wr.drewN (m1 + m2)).setCell ⟨g, k, none⟩ (.int .i64 z)).setCell ⟨g, J2, none⟩ (.int .i64 x)).drew) := (hke.out.drewN (m1 + m2)).trans hk2
            clear hp2 hq2 hk2
            go_wp2_with fail
            exact ⟨⟨J2, q2, rfl, by omega, HL2.1, HL2.2, HP2, HQ2, HK2⟩, by simp [intOf]; omega⟩
          · rw [decide_eq_false hzx]
            go_wp2_with fail
            go_ret
            exact ⟨⟨_, rfl⟩, r, hp.out, hqu.out, (hke.out.drewN (m1 + m2))⟩
        · rw [decide_eq_false hzy]
          go_wp2_with fail
          refine (less_any g r.length cap J k y x (wr.drewN m1) (by omega) (by omega) (by exact cy) (by exact cx)).mono ?_
          rintro e v2 ⟨rfl, m2, rfl⟩
          by_cases hzx : y < x
          · rw [decide_eq_true hzx]
            go_wp2_with fail
            refine (swap_any g r.length cap k J x y (wr.drewN (m1 + m2)) (by omega) (by omega) (by exact cx) (by exact cy) (fun i => by exact HW.out.frozenAt i)).mono ?_
            rintro e v3 ⟨rfl, rfl⟩
            obtain ⟨q2, hp2, hq2, hk2⟩ := quAt.swap (w := (wr.drewN (m1 + m2))) HH.out HW.out HX.out HY.out
            have HP2 : Hid (q2.Perm q) := hp2.trans hp.out
            have HL2 : n < q2.length ∧ q2.length ≤ 100000 := by rw [hp2.length_eq]; omega
            have HQ2 : Hid (quAt H B q2 (((wr.drewN (m1 + m2)).setCell ⟨g, k, none⟩ (.int .i64 y)).setCell ⟨g, J, none⟩ (.int .i64 x)).drew) := hq2
            have HK2 : Hid (quKept H B w (((wr.drewN (m1 + m2)).setCell ⟨g, k, none⟩ (.int .i64 y)).setCell ⟨g, J, none⟩ (.int .i64 x)).drew) := (hke.out.drewN (m1 + m2)).trans hk2
            clear hp2 hq2 hk2
            go_wp2_with fail
            exact ⟨⟨J, q2, rfl, by omega, HL2.1, HL2.2, HP2, HQ2, HK2⟩, by simp [intOf]; omega⟩
          · rw [decide_eq_false hzx]
            go_wp2_with fail
            go_ret
            exact ⟨⟨_, rfl⟩, r, hp.out, hqu.out, (hke.out.drewN (m1 + m2))⟩
      · have d3 : decide ((J2 : Int) < (n : Int)) = false := decide_eq_false (by omega)
        go_wp2_with fail
        refine (less_any g r.length cap J k y x wr (by omega) (by omega) (by exact cy) (by exact cx)).mono ?_
        rintro e v2 ⟨rfl, m2, rfl⟩
        by_cases hzx : y < x
        · rw [decide_eq_true hzx]
          go_wp2_with fail
          refine (swap_any g r.length cap k J x y (wr.drewN m2) (by omega) (by omega) (by exact cx) (by exact cy) (fun i => by exact HW.out.frozenAt i)).mono ?_
          rintro e v3 ⟨rfl, rfl⟩
          obtain ⟨q2, hp2, hq2, hk2⟩ := quAt.swap (w := (wr.drewN m2)) HH.out HW.out HX.out HY.out
          have HP2 : Hid (q2.Perm q) := hp2.trans hp.out
          have HL2 : n < q2.length ∧ q2.length ≤ 100000 := by rw [hp2.length_eq]; omega
          have HQ2 : Hid (quAt H B q2 (((wr.drewN m2).setCell ⟨g, k, none⟩ (.int .i64 y)).setCell ⟨g, J, none⟩ (.int .i64 x)).drew) := hq2
          have HK2 : Hid (quKept H B w (((wr.drewN m2).setCell ⟨g, k, none⟩ (.int .i64 y)).setCell ⟨g, J, none⟩ (.int .i64 x)).drew) := (hke.out.drewN m2).trans hk2
          clear hp2 hq2 hk2
          go_wp2_with fail
          exact ⟨⟨J, q2, rfl, by omega, HL2.1, HL2.2, HP2, HQ2, HK2⟩, by simp [intOf]; omega⟩
        · rw [decide_eq_false hzx]
          go_wp2_with fail
          go_ret
          exact ⟨⟨_, rfl⟩, r, hp.out, hqu.out, (hke.out.drewN m2)⟩
    · have d1 : decide ((n : Int) ≤ (J : Int)) = true := decide_eq_true (by omega)
      go_wp2_with fail
      go_ret
      exact ⟨⟨_, rfl⟩, r, hp.out, hqu.out, hke.out⟩

end Go.Proofs.Ytlijlmjgnhheaaa
