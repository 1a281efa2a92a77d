/-
  The walks of the journal: a log is read record by record.
-/
import Derived.Test.YtjjmcnippjpclaaDevPower
import Derived.Test.YtjjmcnippjpclaaReadStep
namespace Go.Proofs.Ytjjmcnippjpclaa

open Go.RowKit

theorem at_any (R : Nat) (s : ByteArray) (a : Nat) (w : World) (h : Hid (rdrAt R s (some a) w)) :
    Calls Try.prog 85 #[.pointer (some ⟨R, 0, none⟩)] w fun e w' => e = .returned (.int .i64 a) ∧ w' = w := by
  obtain ⟨i, h1, h2, h3⟩ := h.out
  obtain rfl := h3 a rfl
  have c1 : w.cell? ⟨R, 1, none⟩ = some (.int .i64 i) := by rw [Lib.cell_of_heap h2]; rfl
  clear h2 h3
  go_enter Try.func85, Try.ntmps85
  go_wp2
  go_ret
  exact ⟨rfl, rfl⟩

theorem more_any (R : Nat) (s : ByteArray) (a : Nat) (w : World) (h : Hid (rdrAt R s (some a) w)) :
    Calls Try.prog 83 #[.pointer (some ⟨R, 0, none⟩)] w fun e w' => e = .returned (.bool (decide (a < s.size))) ∧ ∃ q, w' = w.drewN q := by
  obtain ⟨i, h1, h2, h3⟩ := h.out
  obtain rfl := h3 a rfl
  have c0 : w.cell? ⟨R, 0, none⟩ = some (.string s) := by rw [Lib.cell_of_heap h2]; rfl
  have c1 : w.cell? ⟨R, 1, none⟩ = some (.int .i64 i) := by rw [Lib.cell_of_heap h2]; rfl
  have c2 : w.cell? ⟨R, 2, none⟩ = some (.bool false) := by rw [Lib.cell_of_heap h2]; rfl
  clear h2 h3
  by_cases hl : i < s.size
  · have d1 : decide ((i : Int) < (s.size : Int)) = true := decide_eq_true (by omega)
    rw [decide_eq_true hl]
    go_enter Try.func83, Try.ntmps83
    go_wp2_with fail
    go_quiet (fail)
    go_wp2_with fail
    go_ret
    exact ⟨rfl, _, rfl⟩
  · have d1 : decide ((i : Int) < (s.size : Int)) = false := decide_eq_false (by omega)
    rw [decide_eq_false hl]
    go_enter Try.func83, Try.ntmps83
    go_wp2_with fail
    go_quiet (fail)
    go_wp2_with fail
    go_ret
    exact ⟨rfl, _, rfl⟩

/-- a journal in memory. -/
def jrnAt (J : Nat) (p n : ByteArray) (d : Bool) (wh : Nat) (w : World) : Prop := w.heap[J]? = some (.cells #[.string p, .string n, .bool d, .int .i64 wh] 90 (0, 0))

theorem jrnAt.cells {J : Nat} {p n : ByteArray} {d : Bool} {wh : Nat} {w : World} (h : jrnAt J p n d wh w) :
    w.cell? ⟨J, 0, none⟩ = some (.string p) ∧ w.cell? ⟨J, 1, none⟩ = some (.string n) ∧ w.cell? ⟨J, 2, none⟩ = some (.bool d) ∧ w.cell? ⟨J, 3, none⟩ = some (.int .i64 wh) ∧ ∀ i, w.frozen? ⟨J, i, none⟩ = false := by
  refine ⟨?_, ?_, ?_, ?_, fun i => Lib.frozen_of_heap h _⟩ <;> (rw [Lib.cell_of_heap h]; rfl)

theorem jrnAt.lt {J : Nat} {p n : ByteArray} {d : Bool} {wh : Nat} {w : World} (h : jrnAt J p n d wh w) : J < w.heap.size := (Array.getElem?_eq_some_iff.1 h).1

theorem jrnAt.setDone {J : Nat} {p n : ByteArray} {d : Bool} {wh : Nat} {w : World} (h : jrnAt J p n d wh w) (d' : Bool) : jrnAt J p n d' wh (w.setCell ⟨J, 2, none⟩ (.bool d')) := by
  unfold jrnAt at *; simp [World.setCell, Array.getElem?_modify, h]

theorem jrnAt.setAll {J : Nat} {p n : ByteArray} {d : Bool} {wh : Nat} {w : World} (h : jrnAt J p n d wh w) (p' n' : ByteArray) : jrnAt J p' n' false wh (((w.setCell ⟨J, 0, none⟩ (.string p')).setCell ⟨J, 1, none⟩ (.string n')).setCell ⟨J, 2, none⟩ (.bool false)) := by
  unfold jrnAt at *; simp [World.setCell, Array.getElem?_modify, h]

theorem jrnAt.setWhole {J : Nat} {p n : ByteArray} {d : Bool} {wh : Nat} {w : World} (h : jrnAt J p n d wh w) (k : Nat) : jrnAt J p n d k (w.setCell ⟨J, 3, none⟩ (.int .i64 k)) := by
  unfold jrnAt at *; simp [World.setCell, Array.getElem?_modify, h]

/-- what reading a journal changes: the reader's block and the journal's. -/
def only2 (R J : Nat) (w w' : World) : Prop := w'.os = w.os ∧ w'.tape = w.tape ∧ w'.output = w.output ∧ w.heap.size ≤ w'.heap.size ∧ ∀ k, k < w.heap.size → k ≠ R → k ≠ J → w'.heap[k]? = w.heap[k]?

theorem only2.refl (R J : Nat) (w : World) : only2 R J w w := ⟨rfl, rfl, rfl, Nat.le_refl _, fun _ _ _ _ => rfl⟩

theorem only2.trans {R J : Nat} {a b c : World} (h : only2 R J a b) (k : only2 R J b c) : only2 R J a c :=
  ⟨k.1.trans h.1, k.2.1.trans h.2.1, k.2.2.1.trans h.2.2.1, Nat.le_trans h.2.2.2.1 k.2.2.2.1, fun i hi h1 h2 => (k.2.2.2.2 i (Nat.lt_of_lt_of_le hi h.2.2.2.1) h1 h2).trans (h.2.2.2.2 i hi h1 h2)⟩

theorem only2.of_only {R J : Nat} {a b : World} (h : only R a b) : only2 R J a b := ⟨h.1.os, h.1.tape, h.1.output, h.1.size, fun k hk h1 _ => h.2 k hk h1⟩

theorem only2.setJ {R J : Nat} {a b : World} (h : only2 R J a b) (i : Nat) (v : Value) : only2 R J a (b.setCell ⟨J, i, none⟩ v) :=
  ⟨h.1, h.2.1, h.2.2.1, by simpa [World.setCell] using h.2.2.2.1, fun k hk h1 h2 => by rw [Below.heap_setCell _ _ _ _ h2]; exact h.2.2.2.2 k hk h1 h2⟩

theorem only2.drewN {R J : Nat} {a b : World} (h : only2 R J a b) (n : Nat) : only2 R J a (b.drewN n) := h

theorem rdrAt.setJ {R J : Nat} {s : ByteArray} {q : Option Nat} {w : World} (h : rdrAt R s q w) (hne : R ≠ J) (i : Nat) (v : Value) : rdrAt R s q (w.setCell ⟨J, i, none⟩ v) := by
  obtain ⟨k, h1, h2, h3⟩ := h
  exact ⟨k, h1, by rw [Below.heap_setCell _ _ _ _ hne]; exact h2, h3⟩

theorem jrnAt.only {R J : Nat} {p n : ByteArray} {d : Bool} {wh : Nat} {w v : World} (h : jrnAt J p n d wh w) (hne : J ≠ R) (ho : only R w v) : jrnAt J p n d wh v := by
  unfold jrnAt at *; rw [ho.2 J (jrnAt.lt h) hne]; exact h

/-- the parts of a record of a begun patch, as the reader takes them behind its mark. -/
theorem numQ_ge {s : ByteArray} {q : Option Nat} {b : Nat} (h : numQ s q = some b) : ∃ a, q = some a ∧ a ≤ b := by
  cases q with
  | none => simp [numQ] at h
  | some a =>
    simp only [numQ] at h
    split at h
    · cases h
    · cases h; exact ⟨a, rfl, by omega⟩

theorem pieceQ_ge {s : ByteArray} {q : Option Nat} {n b : Nat} (h : pieceQ s q n = some b) : ∃ a, q = some a ∧ a ≤ b := by
  cases q with
  | none => simp [pieceQ] at h
  | some a =>
    simp only [pieceQ] at h
    split at h
    · cases h; exact ⟨a, rfl, by omega⟩
    · cases h

theorem tkB_parts (s : ByteArray) (a : Nat) (ha : a ≤ s.size) :
    Dp.tkB (s.data.toList.drop a) = match pieceQ s (numQ s (pieceQ s (numQ s (some a)) (numV s (some a)))) (numV s (pieceQ s (numQ s (some a)) (numV s (some a)))) with
      | none => none
      | some e => some (some ((pieceS s (numQ s (some a)) (numV s (some a))).data.toList, (pieceS s (numQ s (pieceQ s (numQ s (some a)) (numV s (some a)))) (numV s (pieceQ s (numQ s (some a)) (numV s (some a))))).data.toList), 1 + (e - a)) := by
  have hl : s.data.toList.length = s.size := by simp
  unfold Dp.tkB
  cases h1 : Pl.rd (s.data.toList.drop a) with
  | none => simp [numQ, h1, pieceQ]
  | some p =>
    obtain ⟨n1, c1⟩ := p
    have b1 := Pl.rd_bd _ _ h1
    rw [List.length_drop, hl] at b1
    have e1 : numQ s (some a) = some (a + c1) := by simp [numQ, h1]
    have e2 : numV s (some a) = n1 := by simp [numV, h1]
    rw [e1, e2]
    simp only [List.length_drop, hl]
    by_cases f1 : c1 + n1 ≤ s.size - a
    · have e3 : pieceQ s (some (a + c1)) n1 = some (a + c1 + n1) := by simp only [pieceQ]; rw [if_pos (by omega)]
      have e4 : pieceS s (some (a + c1)) n1 = s.extract (a + c1) (a + c1 + n1) := by simp only [pieceS]; rw [if_pos (by omega)]
      rw [if_pos f1, e3, e4]
      have e5 : (s.data.toList.drop a).drop (c1 + n1) = s.data.toList.drop (a + c1 + n1) := by rw [List.drop_drop]; congr 1; omega
      rw [e5]
      cases h2 : Pl.rd (s.data.toList.drop (a + c1 + n1)) with
      | none => simp [numQ, h2, pieceQ]
      | some q =>
        obtain ⟨n2, c2⟩ := q
        have b2 := Pl.rd_bd _ _ h2
        rw [List.length_drop, hl] at b2
        have e6 : numQ s (some (a + c1 + n1)) = some (a + c1 + n1 + c2) := by simp [numQ, h2]
        have e7 : numV s (some (a + c1 + n1)) = n2 := by simp [numV, h2]
        rw [e6, e7]
        simp only []
        by_cases f2 : c1 + n1 + c2 + n2 ≤ s.size - a
        · have e8 : pieceQ s (some (a + c1 + n1 + c2)) n2 = some (a + c1 + n1 + c2 + n2) := by simp only [pieceQ]; rw [if_pos (by omega)]
          have e9 : pieceS s (some (a + c1 + n1 + c2)) n2 = s.extract (a + c1 + n1 + c2) (a + c1 + n1 + c2 + n2) := by simp only [pieceS]; rw [if_pos (by omega)]
          rw [if_pos f2, e8, e9]
          simp only [Lib.extract_data, List.drop_drop]
          have g1 : a + c1 + n1 - (a + c1) = n1 := by omega
          have g2 : a + c1 + n1 + c2 + n2 - (a + c1 + n1 + c2) = n2 := by omega
          have g3 : a + (c1 + n1 + c2) = a + c1 + n1 + c2 := by omega
          have g4 : 1 + (c1 + n1 + c2 + n2) = 1 + (a + c1 + n1 + c2 + n2 - a) := by omega
          rw [g1, g2, g3, g4]
        · have e8 : pieceQ s (some (a + c1 + n1 + c2)) n2 = none := by simp only [pieceQ]; rw [if_neg (by omega)]
          rw [if_neg f2, e8]
    · have e3 : pieceQ s (some (a + c1)) n1 = none := by simp only [pieceQ]; rw [if_neg (by omega)]
      rw [if_neg f1, e3]
      simp [numQ, pieceQ]

/-- what the record leaves in the journal. -/
def jTake (r : Dp.Rc) (p n : ByteArray) : ByteArray × ByteArray × Bool := match r with
  | none => (p, n, true)
  | some (p', n') => (⟨p'.toArray⟩, ⟨n'.toArray⟩, false)

set_option maxRecDepth 100000 in
set_option maxHeartbeats 1000000 in
theorem take_any (J R : Nat) (s p n : ByteArray) (d : Bool) (wh a : Nat) (w : World) (hs : s.size ≤ maxLen) (ha : a < s.size) (hJR : J ≠ R) (hj : Hid (jrnAt J p n d wh w)) (h : Hid (rdrAt R s (some a) w)) :
    Calls Try.prog 84 #[.pointer (some ⟨J, 0, none⟩), .pointer (some ⟨R, 0, none⟩)] w fun e w' => only2 R J w w' ∧
      ((Dp.tk (s.data.toList.drop a) = none ∧ e = .returned (.bool false) ∧ jrnAt J p n d wh w') ∨
       (∃ r c, Dp.tk (s.data.toList.drop a) = some (r, c) ∧ e = .returned (.bool true) ∧ jrnAt J (jTake r p n).1 (jTake r p n).2.1 (jTake r p n).2.2 wh w' ∧ rdrAt R s (some (a + c)) w')) := by
  have HP1 := piece_any R s (some a) 1 w hs (by omega) h
  have hp1 : pieceS s (some a) 1 = ⟨#[s[a]]⟩ := by
    simp only [pieceS]
    rw [if_pos (by omega)]
    apply ByteArray.ext
    apply Array.ext'
    rw [Lib.extract_data, show a + 1 - a = 1 by omega, drop_at s a ha]
    rfl
  have hq1 : pieceQ s (some a) 1 = some (a + 1) := by simp only [pieceQ]; rw [if_pos (by omega)]
  rw [hp1, hq1] at HP1
  have htk : Dp.tk (s.data.toList.drop a) = if s[a] = 98 then Dp.tkB (s.data.toList.drop (a + 1)) else if s[a] = 100 then some (none, 1) else none := by
    rw [drop_at s a ha, Dp.tk_cons]
  rw [htk]
  have HT := tkB_parts s (a + 1) (by omega)
  clear htk
  generalize hb : s[a] = b at *
  by_cases h98 : b = 98
  · subst h98
    rw [if_pos rfl]
    have HT' : Hid (∀ P N q5, (pieceS s (numQ s (some (a + 1))) (numV s (some (a + 1)))) = P → (pieceS s (numQ s (pieceQ s (numQ s (some (a + 1))) (numV s (some (a + 1))))) (numV s (pieceQ s (numQ s (some (a + 1))) (numV s (some (a + 1)))))) = N → pieceQ s (numQ s (pieceQ s (numQ s (some (a + 1))) (numV s (some (a + 1))))) (numV s (pieceQ s (numQ s (some (a + 1))) (numV s (some (a + 1))))) = q5 → (q5 = none → Dp.tkB (s.data.toList.drop (a + 1)) = none) ∧ ∀ e, q5 = some e → Dp.tkB (s.data.toList.drop (a + 1)) = some (some (P.data.toList, N.data.toList), 1 + (e - (a + 1))) ∧ a + 1 ≤ e) := by
      show ∀ P N q5, _
      rintro P N q5 rfl rfl rfl
      refine ⟨fun h => by rw [HT, h], fun e h => ⟨by rw [HT, h], ?_⟩⟩
      obtain ⟨b1, h1, l1⟩ := pieceQ_ge h
      obtain ⟨b2, h2, l2⟩ := numQ_ge h1
      obtain ⟨b3, h3, l3⟩ := pieceQ_ge h2
      obtain ⟨b4, h4, l4⟩ := numQ_ge h3
      cases h4
      omega
    clear HT
    generalize Dp.tkB (s.data.toList.drop (a + 1)) = X at *
    have hn1 : numV s (some (a + 1)) ≤ 2147483647 := numV_le _ _
    have hxx : (ByteArray.mk #[98]).toList = [98] := by decide +kernel
    go_enter Try.func84, Try.ntmps84
    go_wp2_with fail
    refine HP1.mono ?_
    rintro e v1 ⟨rfl, r1, o1⟩
    go_wp2_with fail
    refine (rNumber_any R s (some (a + 1)) v1 hs r1).mono ?_
    rintro e v2 ⟨rfl, r2, o2⟩
    generalize numV s (some (a + 1)) = n1 at *
    generalize numQ s (some (a + 1)) = q2 at *
    go_wp2_with fail
    refine (piece_any R s q2 n1 v2 hs hn1 r2).mono ?_
    rintro e v3 ⟨rfl, r3, o3⟩
    generalize pieceS s q2 n1 = P at *
    generalize pieceQ s q2 n1 = q3 at *
    have hn2 : numV s q3 ≤ 2147483647 := numV_le _ _
    go_wp2_with fail
    refine (rNumber_any R s q3 v3 hs r3).mono ?_
    rintro e v4 ⟨rfl, r4, o4⟩
    generalize numV s q3 = n2 at *
    generalize numQ s q3 = q4 at *
    go_wp2_with fail
    refine (piece_any R s q4 n2 v4 hs hn2 r4).mono ?_
    rintro e v5 ⟨rfl, r5, o5⟩
    generalize pieceS s q4 n2 = N at *
    generalize pieceQ s q4 n2 = q5 at *
    have HX := HT'.out P N q5 rfl rfl rfl
    clear HT'
    have O : Hid (only R w v5) := (((o1.trans o2).trans o3).trans o4).trans o5
    have HR5 : Hid (rdrAt R s q5 v5) := r5
    have HJ5 : Hid (jrnAt J p n d wh v5) := hj.out.only hJR O.out
    clear o1 o2 o3 o4 o5 r1 r2 r3 r4 r5 HP1 hp1 hq1 hb
    have HX' : Hid _ := HX
    clear HX
    have HX := HX'
    cases q5 with
    | none =>
      have HF := failed_any R s none v5 HR5
      go_wp2_with fail
      refine HF.mono ?_
      rintro e v6 ⟨rfl, h0⟩
      rw [h0]
      clear h0 v6
      go_wp2_with fail
      go_ret
      exact ⟨only2.of_only O.out, .inl ⟨HX.out.1 (by trivial), rfl, HJ5.out⟩⟩
    | some E =>
      have HF := failed_any R s (some E) v5 HR5
      obtain ⟨k0, k1, k2, k3, fz⟩ := HJ5.out.cells
      have f0 := fz 0
      have f1 := fz 1
      have f2 := fz 2
      clear fz
      have hE : a + 1 ≤ E := (HX.out.2 E rfl).2
      go_wp2_with fail
      refine HF.mono ?_
      rintro e v6 ⟨rfl, h0⟩
      rw [h0]
      clear h0 v6
      go_wp2_with fail
      go_ret
      refine ⟨(((only2.of_only O.out).setJ _ _).setJ _ _).setJ _ _, .inr ⟨_, _, (HX.out.2 E rfl).1, rfl, ?_, ?_⟩⟩
      · exact HJ5.out.setAll P N
      · rw [show a + (1 + (E - (a + 1))) = E by omega]
        exact ((HR5.out.setJ (Ne.symm hJR) _ _).setJ (Ne.symm hJR) _ _).setJ (Ne.symm hJR) _ _
  · rw [if_neg h98]
    clear HT
    have hx1 : (b == 98) = false := by simpa using h98
    by_cases h100 : b = 100
    · subst h100
      rw [if_pos rfl]
      go_enter Try.func84, Try.ntmps84
      go_wp2_with fail
      refine HP1.mono ?_
      rintro e v1 ⟨rfl, r1, o1⟩
      have HJ1 := hj.out.only hJR o1
      obtain ⟨k0, k1, k2, k3, fz⟩ := HJ1.cells
      have f2 := fz 2
      clear fz
      go_wp2_with fail
      go_ret
      exact ⟨(only2.of_only o1).setJ _ _, .inr ⟨_, _, rfl, rfl, HJ1.setDone true, r1.setJ (Ne.symm hJR) _ _⟩⟩
    · rw [if_neg h100]
      have hx4 : (b == 100) = false := by simpa using h100
      go_enter Try.func84, Try.ntmps84
      go_wp2_with fail
      refine HP1.mono ?_
      rintro e v1 ⟨rfl, r1, o1⟩
      have HJ1 := hj.out.only hJR o1
      go_wp2_with fail
      go_ret
      exact ⟨only2.of_only o1, .inl ⟨by trivial, rfl, HJ1⟩⟩

/-- what a log tells, in memory. -/
def jrnOf (J : Nat) (j : Dp.Jn) (w : World) : Prop := jrnAt J ⟨j.patch.toArray⟩ ⟨j.next.toArray⟩ j.done j.whole w

theorem jrnOf_take {J : Nat} {j : Dp.Jn} {w : World} (r : Dp.Rc) (c k : Nat) (hk : k = j.whole + c) (h : jrnAt J (jTake r ⟨j.patch.toArray⟩ ⟨j.next.toArray⟩).1 (jTake r ⟨j.patch.toArray⟩ ⟨j.next.toArray⟩).2.1 (jTake r ⟨j.patch.toArray⟩ ⟨j.next.toArray⟩).2.2 k w) : jrnOf J (j.take r c) w := by
  subst hk
  cases r with
  | none => exact h
  | some pn => exact h

set_option maxRecDepth 100000 in
set_option maxHeartbeats 1000000 in
theorem readJournal_any (s : ByteArray) (w : World) (hs : s.size ≤ maxLen) :
    Calls Try.prog 46 #[.string s] w fun e w' => e = .returned (.pointer (some ⟨w.heap.size, 0, none⟩)) ∧ jrnOf w.heap.size (Dp.jrn s.data.toList) w' ∧ Below w.heap.size w w' := by
  have hs2 : s.size ≤ 9223372036854775807 := by unfold maxLen at hs; omega
  have hsl : s.data.toList.length = s.size := by simp
  go_enter Try.func46, Try.ntmps46
  go_wp2_with fail
  refine (of_any s _).mono ?_
  rintro e v1 ⟨rfl, r1, b1⟩
  have z1 : (w.alloc (Obj.cells #[.string ⟨#[]⟩, .string ⟨#[]⟩, .bool false, .int .i64 0] 90 (0, 0))).heap.size = w.heap.size + 1 := by simp
  have J1 : jrnOf w.heap.size .zero v1 := by
    show v1.heap[w.heap.size]? = _
    rw [b1.block _ (by omega)]; exact heap_alloc_new w _
  have B1 : Below w.heap.size w v1 := ((Below.refl _ _).alloc (Nat.le_refl _) _).trans (b1.mono (by omega))
  rw [z1] at r1
  generalize (w.alloc (Obj.cells #[.string ⟨#[]⟩, .string ⟨#[]⟩, .bool false, .int .i64 0] 90 (0, 0))).heap.size = Z at *
  subst z1
  go_wp2_with fail
  clear b1
  go_loopg [] s.size (fun g wr => ∃ a j, a + g = s.size ∧ Hid (Dp.jn (s.data.toList.drop a).length (s.data.toList.drop a) j = Dp.jrn s.data.toList) ∧ Hid (j.whole = a) ∧ Hid (jrnOf w.heap.size j wr) ∧ Hid (rdrAt (w.heap.size + 1) s (some a) wr) ∧ Hid (Below w.heap.size w wr))
  case atStart => exact ⟨0, .zero, Nat.zero_add _, rfl, rfl, J1, r1, B1⟩
  case round =>
    clear J1 r1 B1
    obtain ⟨a, j, hag, hjn, hwh, hj, hrd, hbel⟩ := hrel
    have HM := more_any _ s a wr hrd
    have hlt : w.heap.size + 1 < wr.heap.size := hrd.out.lt
    by_cases ha : a < s.size
    · rw [decide_eq_true ha] at HM
      go_wp2_with fail
      refine HM.mono ?_
      rintro e v2 ⟨rfl, q, h0⟩
      rw [h0]
      clear h0 v2 HM
      have HT := take_any w.heap.size (w.heap.size + 1) s _ _ _ _ a (wr.drewN q) hs ha (by omega) hj hrd
      go_wp2_with fail
      refine HT.mono ?_
      rintro e v3 ⟨o3, ⟨ht, rfl, hj3⟩ | ⟨r, c, ht, rfl, hj3, hr3⟩⟩
      · have HF : Hid (jrnOf w.heap.size (Dp.jrn s.data.toList) v3) := by
          show jrnOf _ _ _
          rw [← hjn.out, Dp.jn_stop _ _ _ ht]; exact hj3
        have HB3 : Hid (Below w.heap.size w v3) := ⟨o3.1.trans hbel.out.os, o3.2.1.trans hbel.out.tape, o3.2.2.1.trans hbel.out.output, Nat.le_trans hbel.out.size o3.2.2.2.1, fun k hk => (o3.2.2.2.2 k (Nat.lt_of_lt_of_le hk hbel.out.size) (by omega) (by omega)).trans (hbel.out.block k hk)⟩
        clear hj3 o3 ht HT
        go_wp2_with fail
        go_ret
        exact ⟨rfl, HF.out, HB3.out⟩
      · have hpos := Dp.tk_pos ht
        rw [List.length_drop, hsl] at hpos
        have HNX : Hid (Dp.jn (s.data.toList.drop (a + c)).length (s.data.toList.drop (a + c)) (j.take r c) = Dp.jrn s.data.toList) := by
          show _ = _
          rw [← hjn.out, Dp.jn_step ht, List.drop_drop]
        have HB3 : Hid (Below w.heap.size w v3) := ⟨o3.1.trans hbel.out.os, o3.2.1.trans hbel.out.tape, o3.2.2.1.trans hbel.out.output, Nat.le_trans hbel.out.size o3.2.2.2.1, fun k hk => (o3.2.2.2.2 k (Nat.lt_of_lt_of_le hk hbel.out.size) (by omega) (by omega)).trans (hbel.out.block k hk)⟩
        have HR3 : Hid (rdrAt (w.heap.size + 1) s (some (a + c)) v3) := hr3
        have HJ3 : Hid (jrnOf w.heap.size (j.take r c) (v3.setCell ⟨w.heap.size, 3, none⟩ (.int .i64 ((a + c : Nat) : Int)))) := jrnOf_take r c (a + c) (by rw [hwh.out]) (hj3.setWhole (a + c))
        have HWH : Hid ((j.take r c).whole = a + c) := by
          show _ = _
          rw [← hwh.out]; cases r <;> rfl
        obtain ⟨-, -, -, k3, fz⟩ := hj3.cells
        have f3 := fz 3
        have HA := at_any _ s (a + c) v3 HR3
        clear fz hj3 hr3 o3 ht HT
        rw [Int.natCast_add] at HA HJ3
        go_wp2_with fail
        refine HA.mono ?_
        rintro e v4 ⟨rfl, h0⟩
        rw [h0]
        clear h0 v4
        go_wp2_with fail
        go_roundg (gk - c)
        case measure => omega
        case rel => exact ⟨a + c, j.take r c, by omega, HNX, HWH, HJ3, HR3.out.setJ (by omega) _ _, HB3.out.setCell (Nat.le_refl _) _⟩
    · rw [decide_eq_false ha] at HM
      have HF : Hid (jrnOf w.heap.size (Dp.jrn s.data.toList) wr) := by
        show jrnOf _ _ _
        rw [← hjn.out, Dp.jn_stop _ _ _ (by rw [List.drop_eq_nil_of_le (by omega)]; rfl)]; exact hj.out
      go_wp2_with fail
      refine HM.mono ?_
      rintro e v2 ⟨rfl, q, h0⟩
      rw [h0]
      clear h0 v2 HM
      go_wp2_with fail
      go_ret
      exact ⟨rfl, HF.out, below_drewN hbel.out _⟩

end Go.Proofs.Ytjjmcnippjpclaa
