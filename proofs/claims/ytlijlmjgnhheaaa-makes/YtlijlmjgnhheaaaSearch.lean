/-
  The walk of the search for the first step that goes beyond a place.
-/
import Derived.Test.YtlijlmjgnhheaaaPush
import Derived.Test.YtlijlmjgnhheaaaRingPlain
namespace Go.Proofs.Ytlijlmjgnhheaaa
open Go.RowKit

set_option maxRecDepth 100000 in
set_option maxHeartbeats 1000000 in
theorem cmp_any (k t n f : Int) (d : ByteArray) (from' : Int) (w : World) (h1 : 0 ≤ t) (h2 : t ≤ 10000) (h3 : 0 ≤ n) (h4 : n ≤ 10000) (h5 : 0 ≤ from') (h6 : from' ≤ 10000) :
    Calls Try.prog 115 #[.agg #[.int .i64 k, .int .i64 t, .int .i64 n, .string d, .int .i64 f], .int .i64 from'] w fun e w' => e = .returned (.int .i64 (t + n - from' - 1)) ∧ Below w.heap.size w w' := by
  go_enter Try.func115, Try.ntmps115
  go_wp2_with fail
  go_ret
  exact ⟨rfl, (Below.refl _ _).alloc (Nat.le_refl _) _⟩

set_option maxRecDepth 100000 in
set_option maxHeartbeats 1000000 in
theorem search_any (nx : ByteArray) (sv : Value) (l : List _root_.Pl.Sp) (c : Nat) (B : Nat) (F : Nat) (w : World) (hl : l.length ≤ 4000) (hc : c ≤ 4000) (hF : F ≤ 4000) (ht : Hid (_root_.Pl.tiles 0 l c)) (hw : Hid (w.ownsRow B 40 5 sv l.length (spCells nx l))) :
    Calls Try.prog 114 #[sv, .int .i64 F, .func (.func 115) #[] #[]] w fun e w' => ∃ (r : Nat) (b : Bool), e = .returned (.tuple #[.int .i64 r, .bool b]) ∧ r ≤ l.length ∧ (∀ j s, l[j]? = some s → j < r → s.t + s.n ≤ F) ∧ (∀ j s, l[j]? = some s → r ≤ j → F < s.t + s.n) ∧ Below w.heap.size w w' := by
  obtain ⟨ao, cp, rfl⟩ : ∃ ao cp, sv = .slice ao l.length cp := by
    rcases hw.out.2 with ⟨hv, hz⟩ | ⟨g, cap, cur, hv, _⟩
    · exact ⟨none, 0, by rw [hv, hz]⟩
    · exact ⟨_, _, hv⟩
  go_enter Try.func114, Try.ntmps114
  go_wp2_with fail
  go_loopw [9, 10] (fun x y wr => ∃ i j : Nat, x = .int .i64 i ∧ y = .int .i64 j ∧ i ≤ j ∧ j ≤ l.length ∧ Hid (∀ m s, l[m]? = some s → m < i → s.t + s.n ≤ F) ∧ Hid (∀ m s, l[m]? = some s → j ≤ m → F < s.t + s.n) ∧ Hid (Below w.heap.size w wr)) (fun x y _ => (intOf y).toNat - (intOf x).toNat)
  case atStart => exact ⟨0, l.length, rfl, rfl, Nat.zero_le _, Nat.le_refl _, fun m s _ hm => absurd hm (Nat.not_lt_zero _), fun m s hs hm => absurd (List.getElem?_eq_some_iff.1 hs).1 (by omega), Below.refl _ _⟩
  case round =>
    obtain ⟨i, j, rfl, rfl, hij, hj, hlo, hhi, hbel⟩ := hrel
    by_cases hlt : i < j
    · obtain ⟨H, hH, hH1, hH2⟩ : ∃ H : Nat, ((i : Int) + (j : Int)) / 2 = (H : Int) ∧ i ≤ H ∧ H < j := ⟨(i + j) / 2, by omega, by omega, by omega⟩
      obtain ⟨s, hs⟩ : ∃ s, l[H]? = some s := ⟨l[H]'(by omega), List.getElem?_eq_getElem (by omega)⟩
      obtain ⟨g, hao⟩ : ∃ g, ao = some ⟨g, 0, none⟩ := by
        obtain ⟨g, cap, hv, _⟩ := hw.out.form (by omega)
        simp only [Value.slice.injEq] at hv
        exact ⟨g, hv.1⟩
      subst hao
      have hk0 : (H : Int) < (l.length : Int) := by omega
      have hgl : g < w.heap.size := (hw.out.lt g rfl).2
      obtain ⟨e0, e1, e2, e3, e4⟩ := spCells_at nx l H s hs
      have hlen5 := spCells_length nx l
      have c0 := (hbel.out.cell (p := ⟨g, H * 5, none⟩) hgl).trans ((hw.out.cellAt (H * 5) (by omega)).trans e0)
      have c1 := (hbel.out.cell (p := ⟨g, H * 5 + 1, none⟩) hgl).trans ((hw.out.cellAt (H * 5 + 1) (by omega)).trans e1)
      have c2 := (hbel.out.cell (p := ⟨g, H * 5 + 2, none⟩) hgl).trans ((hw.out.cellAt (H * 5 + 2) (by omega)).trans e2)
      have c3 := (hbel.out.cell (p := ⟨g, H * 5 + 3, none⟩) hgl).trans ((hw.out.cellAt (H * 5 + 3) (by omega)).trans e3)
      have c4 := (hbel.out.cell (p := ⟨g, H * 5 + 4, none⟩) hgl).trans ((hw.out.cellAt (H * 5 + 4) (by omega)).trans e4)
      clear e0 e1 e2 e3 e4
      obtain ⟨_, b1, b2⟩ := _root_.Pl.tiles_mem l 0 c ht.out s (List.mem_of_getElem? hs)
      have HS : Hid (l[H]? = some s) := hs
      clear hs
      go_wp2_with fail
      refine (cmp_any _ _ _ _ _ _ _ (by omega) (by omega) (by omega) (by omega) (by omega) (by omega)).mono ?_
      rintro e v1 ⟨rfl, bv⟩
      have hb1 : Hid (Below w.heap.size w v1) := hbel.out.trans (bv.mono hbel.out.size)
      clear bv c0 c1 c2 c3 c4
      by_cases hcmp : s.t + s.n ≤ F
      · have d : decide ((s.t : Int) + (s.n : Int) - (F : Int) - 1 < 0) = true := decide_eq_true (by omega)
        go_wp2_with fail
        refine ⟨⟨H + 1, j, by go_num, rfl, by omega, hj, fun m x hx hm => ?_, hhi, hb1⟩, by simp [intOf]; omega⟩
        rcases Nat.lt_succ_iff_lt_or_eq.1 hm with hm | rfl
        · have := _root_.Pl.tiles_lt l 0 c ht.out m H x s hx HS.out hm
          omega
        · rw [HS.out] at hx; cases hx; exact hcmp
      · have d : decide ((s.t : Int) + (s.n : Int) - (F : Int) - 1 < 0) = false := decide_eq_false (by omega)
        go_wp2_with fail
        refine ⟨⟨i, H, rfl, rfl, hH1, by omega, hlo, fun m x hx hm => ?_, hb1⟩, by simp [intOf]; omega⟩
        rcases Nat.lt_or_eq_of_le hm with hm | rfl
        · have h1 := _root_.Pl.tiles_lt l 0 c ht.out H m s x HS.out hx hm
          have h2 := (_root_.Pl.tiles_mem l 0 c ht.out x (List.mem_of_getElem? hx)).2.1
          omega
        · rw [HS.out] at hx; cases hx; omega
    · have hije : i = j := by omega
      subst hije
      by_cases hil : i < l.length
      · have hk0 : decide ((i : Int) < (l.length : Int)) = true := decide_eq_true (by omega)
        have hk1 : (i : Int) < (l.length : Int) := by omega
        obtain ⟨s, hs⟩ : ∃ s, l[i]? = some s := ⟨l[i]'(by omega), List.getElem?_eq_getElem (by omega)⟩
        obtain ⟨g, hao⟩ : ∃ g, ao = some ⟨g, 0, none⟩ := by
          obtain ⟨g, cap, hv, _⟩ := hw.out.form (by omega)
          simp only [Value.slice.injEq] at hv
          exact ⟨g, hv.1⟩
        subst hao
        have hgl : g < w.heap.size := (hw.out.lt g rfl).2
        obtain ⟨e0, e1, e2, e3, e4⟩ := spCells_at nx l i s hs
        have hlen5 := spCells_length nx l
        have c0 := (hbel.out.cell (p := ⟨g, i * 5, none⟩) hgl).trans ((hw.out.cellAt (i * 5) (by omega)).trans e0)
        have c1 := (hbel.out.cell (p := ⟨g, i * 5 + 1, none⟩) hgl).trans ((hw.out.cellAt (i * 5 + 1) (by omega)).trans e1)
        have c2 := (hbel.out.cell (p := ⟨g, i * 5 + 2, none⟩) hgl).trans ((hw.out.cellAt (i * 5 + 2) (by omega)).trans e2)
        have c3 := (hbel.out.cell (p := ⟨g, i * 5 + 3, none⟩) hgl).trans ((hw.out.cellAt (i * 5 + 3) (by omega)).trans e3)
        have c4 := (hbel.out.cell (p := ⟨g, i * 5 + 4, none⟩) hgl).trans ((hw.out.cellAt (i * 5 + 4) (by omega)).trans e4)
        clear e0 e1 e2 e3 e4
        obtain ⟨_, b1, b2⟩ := _root_.Pl.tiles_mem l 0 c ht.out s (List.mem_of_getElem? hs)
        clear hs
        go_wp2_with fail
        refine (cmp_any _ _ _ _ _ _ _ (by omega) (by omega) (by omega) (by omega) (by omega) (by omega)).mono ?_
        rintro e v1 ⟨rfl, bv⟩
        have hb1 : Hid (Below w.heap.size w v1) := hbel.out.trans (bv.mono hbel.out.size)
        clear bv c0 c1 c2 c3 c4
        go_wp2_with fail
        go_ret2
        exact ⟨i, _, rfl, hj, hlo.out, hhi.out, hb1.out⟩
      · have hk0 : decide ((i : Int) < (l.length : Int)) = false := decide_eq_false (by omega)
        go_wp2_with fail
        go_ret2
        exact ⟨i, _, rfl, hj, hlo.out, hhi.out, hbel.out⟩
end Go.Proofs.Ytlijlmjgnhheaaa
