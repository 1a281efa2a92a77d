/-
  A patch that may be is short: its steps' sizes add up to the new length.
-/
import Derived.Test.YtjjmcnippjpclaaReadP
namespace Go.Proofs.Ytjjmcnippjpclaa

theorem rdF_len : ∀ (l : List UInt8) (k n : Nat) (p : Nat × Nat), 128 ^ k ≤ n → Pl.rdF n l = some p → p.2 + k ≤ 4
  | [], k, n, p, _, h => by cases h
  | c :: r, k, n, p, hk, h => by
    rw [Pl.rdF] at h
    by_cases h1 : 16777215 < n
    · rw [if_pos h1] at h; cases h
    · rw [if_neg h1] at h
      have hk3 : k ≤ 3 := by
        refine Nat.le_of_not_lt fun hlt => ?_
        have h2 : 128 ^ 4 ≤ 128 ^ k := Nat.pow_le_pow_right (by omega) hlt
        have h3 : (128 : Nat) ^ 4 = 268435456 := by decide
        omega
      by_cases h2 : c.toNat < 128
      · rw [if_pos h2] at h
        cases h
        show 1 + k ≤ 4
        omega
      · rw [if_neg h2] at h
        obtain ⟨q, hq, rfl⟩ := Option.map_eq_some_iff.1 h
        have h3 := rdF_len r (k + 1) _ q (by rw [Nat.pow_succ]; omega) hq
        show q.2 + 1 + k ≤ 4
        omega

theorem rd_len (l : List UInt8) (p : Nat × Nat) (h : Pl.rd l = some p) : p.2 ≤ 5 := by
  unfold Pl.rd at h
  split at h
  · cases h
  · rename_i h0
    cases l with
    | nil => cases h
    | cons c r =>
      rw [Pl.rdF, if_neg (by omega)] at h
      by_cases h2 : c.toNat < 128
      · rw [if_pos h2] at h
        cases h
        show 1 ≤ 5
        omega
      · rw [if_neg h2] at h
        obtain ⟨q, hq, rfl⟩ := Option.map_eq_some_iff.1 h
        have hc : c.toNat ≠ 128 := fun e => h0 (by
          have : c = 128 := UInt8.toNat_inj.1 e
          rw [this]; rfl)
        have hlt : c.toNat < 256 := c.toNat_lt
        have h3 := rdF_len r 0 _ q (by rw [Nat.pow_zero]; omega) hq
        show q.2 + 1 ≤ 5
        omega

theorem numQ_len {s : ByteArray} {q : Option Nat} {b : Nat} (h : numQ s q = some b) : ∃ a, q = some a ∧ b ≤ a + 5 := by
  cases q with
  | none => cases h
  | some a =>
    refine ⟨a, rfl, ?_⟩
    unfold numQ at h
    dsimp only at h
    split at h
    · cases h
    · rename_i p hp
      have := rd_len _ _ hp
      have := Option.some.inj h
      omega

theorem pieceQ_len {s : ByteArray} {q : Option Nat} {n b : Nat} (h : pieceQ s q n = some b) : ∃ a, q = some a ∧ b = a + n := by
  cases q with
  | none => cases h
  | some a =>
    refine ⟨a, rfl, ?_⟩
    unfold pieceQ at h
    dsimp only at h
    split at h
    · exact (Option.some.inj h).symm
    · cases h

theorem stepQ_len {s : ByteArray} {q : Option Nat} {b : Nat} (h : stepQ s q = some b) : ∃ a : Nat, q = some a ∧ (b : Int) ≤ a + 16 + (stepV s q).n := by
  unfold stepQ at h
  unfold stepV
  dsimp only at h ⊢
  by_cases h3 : byteV s q = 3
  · rw [if_pos h3] at h ⊢
    obtain ⟨c, hc, h1⟩ := numQ_len h
    obtain ⟨d, hd, h2⟩ := numQ_len hc
    obtain ⟨e, he, h4⟩ := numQ_len hd
    obtain ⟨a, ha, h5⟩ := pieceQ_len he
    refine ⟨a, ha, ?_⟩
    show (b : Int) ≤ a + 16 + ((numV s (numQ s (pieceQ s q 1)) : Nat) : Int)
    omega
  · rw [if_neg h3] at h ⊢
    obtain ⟨c, hc, h1⟩ := pieceQ_len h
    obtain ⟨d, hd, h2⟩ := numQ_len hc
    obtain ⟨e, he, h4⟩ := numQ_len hd
    obtain ⟨a, ha, h5⟩ := pieceQ_len he
    refine ⟨a, ha, ?_⟩
    show (b : Int) ≤ a + 16 + ((numV s (numQ s (pieceQ s q 1)) : Nat) : Int)
    omega

theorem stepsQ_len {s : ByteArray} : ∀ (N : Nat) (q : Option Nat) (e : Nat), stepsQ s N q = some e → ∃ a : Nat, q = some a ∧ (e : Int) ≤ a + 16 * N + _root_.Pl.total (stepsV s N q)
  | 0, q, e, h => ⟨e, h, by show (e : Int) ≤ e + 16 * 0 + 0; omega⟩
  | N + 1, q, e, h => by
    obtain ⟨b, hb, h1⟩ := stepsQ_len N (stepQ s q) e h
    obtain ⟨a, ha, h2⟩ := stepQ_len hb
    refine ⟨a, ha, ?_⟩
    have h3 : _root_.Pl.total (stepsV s (N + 1) q) = (stepV s q).n + _root_.Pl.total (stepsV s N (stepQ s q)) := by
      rw [stepsV]; simp [_root_.Pl.total]
    rw [h3]
    omega

theorem form_total {ol nl : Int} : ∀ (r pre : List Pl.St), Pl.form ol nl pre r = true → _root_.Pl.total (pre ++ r) = nl
  | [], pre, h => by
    rw [List.append_nil]
    simpa [Pl.form] using h
  | x :: r, pre, h => by
    simp only [Pl.form, Bool.and_eq_true] at h
    have := form_total r (pre ++ [x]) h.2
    rwa [List.append_assoc] at this

theorem patch_small {s : ByteArray} (hE : pErr s = 0) : s.size ≤ 1048576 := by
  have h1 : pOk s = true ∧ Pl.full (hOL s) (hNL s) (hOS s) (hNS s) (pSt s) = true := by
    unfold pErr at hE
    split at hE
    · rename_i hc; simpa only [Bool.and_eq_true] using hc
    · cases hE
  obtain ⟨h2, h3⟩ := h1
  simp only [Pl.full, Bool.and_eq_true] at h3
  have h4 := form_total _ _ h3.2
  rw [List.nil_append] at h4
  have h5 := h3.1
  simp only [Pl.head, Bool.and_eq_true, decide_eq_true_eq] at h5
  simp only [pOk, Bool.and_eq_true, decide_eq_true_eq] at h2
  obtain ⟨a, ha, h6⟩ := stepsQ_len _ _ _ h2.2
  have hNN : hN s ≤ 2000 := by
    have := h2.1
    simp only [hOk, Bool.and_eq_true, decide_eq_true_eq] at this
    exact this.2
  unfold hq6 at ha
  obtain ⟨b, hb, g1⟩ := numQ_len ha
  unfold hq5 at hb
  obtain ⟨c, hc, g2⟩ := pieceQ_len hb
  unfold hq4 at hc
  obtain ⟨d, hd, g3⟩ := numQ_len hc
  unfold hq3 at hd
  obtain ⟨e, he, g4⟩ := pieceQ_len hd
  unfold hq2 at he
  obtain ⟨f, hf, g5⟩ := numQ_len he
  unfold hq1 at hf
  obtain ⟨g, hg, g6⟩ := pieceQ_len hf
  have hg0 : g = 0 := (Option.some.inj hg).symm
  have h7 : _root_.Pl.total (stepsV s (hN s) (hq6 s)) = hNL s := h4
  rw [h7] at h6
  omega

end Go.Proofs.Ytjjmcnippjpclaa
