/-
  The law's keptSteps: what was written into lists, and behind them, is still there.
-/
import Derived.Test.YtjjmcnippjpclaaOwnSteps
namespace Go.Proofs.Ytjjmcnippjpclaa

open Go.RowKit

theorem marks_at (m : Int) : ∀ (n q : Nat), q < n → (marks m n)[q * 5]? = some (.int .i64 m) ∧ (marks m n)[q * 5 + 1]? = some (.int .i64 0) ∧ (marks m n)[q * 5 + 2]? = some (.int .i64 0) ∧ (marks m n)[q * 5 + 3]? = some (.string ⟨#[]⟩) ∧ (marks m n)[q * 5 + 4]? = some (.int .i64 0) := by
  intro n q h
  have hs : (List.replicate n (mkMark m))[q]? = some (mkMark m) := by simp [h]
  have := stCells_at (List.replicate n (mkMark m)) q (mkMark m) hs []
  rw [List.append_nil] at this
  exact this

/-- a place in a list of marks. -/
theorem isMarks_cell {m : Int} {w : World} {xa : Option Addr} {n xc q : Nat} (h : isMarks m w (.slice xa n xc) n) (hq : q < n) :
    ∃ g, xa = some ⟨g, 0, none⟩ ∧ g < w.heap.size ∧ w.cell? ⟨g, q * 5, none⟩ = some (.int .i64 m) ∧ w.cell? ⟨g, q * 5 + 1, none⟩ = some (.int .i64 0) ∧ w.cell? ⟨g, q * 5 + 2, none⟩ = some (.int .i64 0) ∧ w.cell? ⟨g, q * 5 + 3, none⟩ = some (.string ⟨#[]⟩) ∧ w.cell? ⟨g, q * 5 + 4, none⟩ = some (.int .i64 0) := by
  rcases h with ⟨_, hz⟩ | ⟨g, cap, cur, hv, hg, ht⟩
  · omega
  · simp only [Value.slice.injEq] at hv
    obtain ⟨rfl, _, rfl⟩ := hv
    have key : ∀ i u, i < n * 5 → (marks m n)[i]? = some u → w.cell? ⟨g, i, none⟩ = some u := fun i u hi hu => by
      rw [Lib.cell_of_heap hg, ← hu, ← ht, List.getElem?_take, if_pos hi]
      simp
    obtain ⟨e0, e1, e2, e3, e4⟩ := marks_at m n q hq
    exact ⟨g, rfl, lt_of_heap hg, key _ _ (by omega) e0, key _ _ (by omega) e1, key _ _ (by omega) e2, key _ _ (by omega) e3, key _ _ (by omega) e4⟩

theorem isMarks_form {m : Int} {w : World} {x : Value} {n : Nat} (h : isMarks m w x n) : ∃ xa xc, x = .slice xa n xc := by
  rcases h with ⟨rfl, rfl⟩ | ⟨g, cap, cur, rfl, _⟩
  · exact ⟨_, _, rfl⟩
  · exact ⟨_, _, rfl⟩

set_option maxRecDepth 100000 in
set_option maxHeartbeats 4000000 in
theorem keptSteps_any (m : Int) (ov : Value) (xs : List Value) (j C : Nat) (w : World) (hj : j ≤ 10) (h : Hid (w.ownsRow C 29 1 ov j xs)) (hx : Hid (∀ x ∈ xs, ∃ n, n ≤ 3000 ∧ isMarks m w x n)) :
    Calls Try.prog 20 #[ov, .int .i64 m] w fun e w' => e = .returned (.bool true) ∧ Below w.heap.size w w' := by
  obtain ⟨ao, cp, rfl⟩ : ∃ ao cp, ov = .slice ao j cp := by
    rcases h.out.2 with ⟨hv, hz⟩ | ⟨g, cap, cur, hv, _⟩
    · exact ⟨none, 0, by rw [hv, hz]⟩
    · exact ⟨_, _, hv⟩
  have hl : xs.length = j := by have := h.out.1; omega
  go_enter Try.func20, Try.ntmps20
  go_wp2_with fail
  go_loopw [5] (fun i wr => ∃ k : Nat, k ≤ j ∧ i = .int .i64 k ∧ Hid (Below w.heap.size w wr)) (fun i _ => j - (intOf i).toNat)
  case atStart => exact ⟨0, Nat.zero_le _, rfl, Below.refl _ _⟩
  case round =>
    obtain ⟨k, hk, rfl, hb⟩ := hrel
    by_cases hlt : k < j
    · obtain ⟨g, cap, hv, _, hgl⟩ := h.out.form (by omega)
      simp only [Value.slice.injEq] at hv
      obtain ⟨rfl, _, rfl⟩ := hv
      obtain ⟨x, hxk⟩ : ∃ x, xs[k]? = some x := ⟨xs[k], List.getElem?_eq_getElem (by omega)⟩
      obtain ⟨n, hn, hM⟩ := hx.out x (List.mem_of_getElem? hxk)
      obtain ⟨xa, xc, rfl⟩ := isMarks_form hM
      have HM : Hid (isMarks m w (.slice xa n xc) n) := hM
      have c0 : w.cell? ⟨g, k, none⟩ = some (.slice xa n xc) := (h.out.cellAt k (by omega)).trans hxk
      have hk0 : (k : Int) < (j : Int) := by omega
      clear hM
      go_wp2_with fail
      go_loopw [6] (fun i wq => ∃ q : Nat, q ≤ n ∧ i = .int .i64 q ∧ Hid (Below w.heap.size w wq)) (fun i _ => n - (intOf i).toNat)
      case atStart => exact ⟨0, Nat.zero_le _, rfl, hb⟩
      case round =>
        obtain ⟨q, hq, rfl, hbq⟩ := hrel
        have cq : wr.cell? ⟨g, k, none⟩ = some (.slice xa n xc) := by rw [hbq.out.cell hgl, c0]
        by_cases hqn : q < n
        · obtain ⟨g2, rfl, hg2, m0, m1, m2, m3, m4⟩ := isMarks_cell HM.out hqn
          rw [← hbq.out.cell hg2] at m0 m1 m2 m3 m4
          have hq0 : (q : Int) < (n : Int) := by omega
          go_wp2_with fail
          exact ⟨⟨q + 1, by omega, by go_num, hbq⟩, by simp [intOf]; omega⟩
        · have hqe : q = n := by omega
          subst hqe
          go_wp2_with fail
          exact ⟨⟨k + 1, by omega, by go_num, hbq⟩, by simp [intOf]; omega⟩
    · have hke : k = j := by omega
      subst hke
      go_wp2_with fail
      go_ret
      exact ⟨rfl, hb.out⟩

end Go.Proofs.Ytjjmcnippjpclaa
