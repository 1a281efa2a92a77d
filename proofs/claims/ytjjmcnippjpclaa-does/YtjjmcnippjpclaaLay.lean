/-
  The walks of the journal's writing: a record is laid behind the log, and made sure of.
-/
import Derived.Test.YtjjmcnippjpclaaJournal
import Derived.Test.YtjjmcnippjpclaaWritePlan
namespace Go.Proofs.Ytjjmcnippjpclaa

open Go.RowKit

theorem lifeOk_on {x : Dp.Dv} (h : lifeOk x) : lifeOk x.on := life_on h

theorem lifeOk_log {x : Dp.Dv} (h : lifeOk x) (s : List UInt8) : lifeOk (Dp.pLog x s).2 := by
  unfold Dp.pLog; split
  · exact h
  · exact life_on h

theorem lifeOk_write {x : Dp.Dv} (h : lifeOk x) (a : Nat) (s : List UInt8) : lifeOk (Dp.pWrite x a s).2 := by
  unfold Dp.pWrite; split
  · exact h
  · split <;> exact life_on h

theorem lifeOk_syncText {x : Dp.Dv} (h : lifeOk x) : lifeOk (Dp.pSyncText x).2 := by
  unfold Dp.pSyncText; split
  · exact h
  · exact life_on h

theorem lifeOk_syncLog {x : Dp.Dv} (h : lifeOk x) : lifeOk (Dp.pSyncLog x).2 := by
  unfold Dp.pSyncLog; split
  · exact h
  · exact life_on h

theorem lifeOk_cut {x : Dp.Dv} (h : lifeOk x) (n : Nat) : lifeOk (Dp.pCut x n).2 := by
  unfold Dp.pCut; split
  · exact h
  · split <;> exact life_on h

theorem lay_any (D : Nat) (tv sv : Value) (x : Dp.Dv) (S : ByteArray) (w : World) (hsz : x.log.length + S.size ≤ 4611686018427387904) (h : Hid (devAt D tv sv x w)) (hl : Hid (lifeOk x)) :
    Calls Try.prog 110 #[.pointer (some ⟨D, 0, none⟩), .string S] w fun e w' => e = .returned (.bool (Dp.pLay x S.data.toList).1) ∧ devAt D tv sv (Dp.pLay x S.data.toList).2 w' ∧ kept3 D tv.ownBlock sv.ownBlock w w' := by
  have HL := log_any D tv sv x S w hsz h hl
  have HO := lifeOk_log hl.out S.data.toList
  have HE : Hid (Dp.pLay x S.data.toList = Dp.andB (Dp.pLog x S.data.toList) Dp.pSyncLog) := rfl
  generalize Dp.pLay x S.data.toList = L at *
  generalize Dp.pLog x S.data.toList = r at *
  obtain ⟨b, y⟩ := r
  cases b with
  | false =>
    have e1 : L = (false, y) := HE.out
    subst e1
    go_enter Try.func110, Try.ntmps110
    go_wp2_with fail
    refine HL.mono ?_
    rintro e v1 ⟨rfl, h1, k1⟩
    go_wp2_with fail
    go_ret
    exact ⟨rfl, h1, k1⟩
  | true =>
    have e1 : L = Dp.pSyncLog y := HE.out
    have HSy : Hid (∀ v, devAt D tv sv y v → Calls Try.prog 123 #[.pointer (some ⟨D, 0, none⟩)] v fun e w' => e = .returned (.bool L.1) ∧ devAt D tv sv L.2 w' ∧ kept3 D tv.ownBlock sv.ownBlock v w') := fun v hv => by
      rw [e1]; exact syncLog_any D tv sv y v hv HO
    clear HE e1
    go_enter Try.func110, Try.ntmps110
    go_wp2_with fail
    refine HL.mono ?_
    rintro e v1 ⟨rfl, h1, k1⟩
    go_wp2_with fail
    refine (HSy.out v1 h1).mono ?_
    rintro e v2 ⟨rfl, h2, k2⟩
    go_wp2_with fail
    go_ret
    exact ⟨rfl, h2, k1.trans k2⟩

theorem secure_any (D : Nat) (tv sv : Value) (x : Dp.Dv) (J : Nat) (p n : ByteArray) (d : Bool) (wh : Nat) (w : World) (hn : wh ≤ x.log.length) (h : Hid (devAt D tv sv x w)) (hl : Hid (lifeOk x)) (hj : Hid (jrnAt J p n d wh w)) :
    Calls Try.prog 47 #[.pointer (some ⟨J, 0, none⟩), .pointer (some ⟨D, 0, none⟩)] w fun e w' => e = .returned (.bool (Dp.pCut x wh).1) ∧ devAt D tv sv (Dp.pCut x wh).2 w' ∧ kept3 D tv.ownBlock sv.ownBlock w w' := by
  obtain ⟨-, -, -, k3, -⟩ := hj.out.cells
  have HC := devCut_any D tv sv x wh w hn h hl
  generalize Dp.pCut x wh = r at *
  go_enter Try.func47, Try.ntmps47
  go_wp2_with fail
  refine HC.mono ?_
  rintro e v1 ⟨rfl, h1, k1⟩
  go_wp2_with fail
  go_ret
  exact ⟨rfl, h1, k1⟩

theorem empty_is' (s : ByteArray) (h : s.size = 0) : s.toList.isEmpty = true := by
  rw [ByteArray.toList_eq]
  have : s.data.toList.length = s.size := by simp
  rw [h] at this
  rw [List.length_eq_zero_iff.1 this]
  rfl

theorem empty_not' (s : ByteArray) (h : ¬ s.size = 0) : s.toList.isEmpty = false := by
  rw [ByteArray.toList_eq]
  have : s.data.toList.length = s.size := by simp
  cases e : s.data.toList with
  | nil => rw [e] at this; simp at this; omega
  | cons _ _ => rfl

theorem begun_any (J : Nat) (p n : ByteArray) (d : Bool) (wh : Nat) (w : World) (hj : Hid (jrnAt J p n d wh w)) :
    Calls Try.prog 48 #[.pointer (some ⟨J, 0, none⟩)] w fun e w' => e = .returned (.bool (decide (p.size ≠ 0) && !d)) ∧ w' = w := by
  obtain ⟨k0, -, k2, -, -⟩ := hj.out.cells
  by_cases h0 : p.size = 0
  · have he := empty_is' p h0
    rw [decide_eq_false (by simpa using h0)]
    go_enter Try.func48, Try.ntmps48
    go_wp2_with fail
    go_ret
    exact ⟨rfl, rfl⟩
  · have he := empty_not' p h0
    rw [decide_eq_true (by simpa using h0)]
    go_enter Try.func48, Try.ntmps48
    go_wp2_with fail
    go_ret
    exact ⟨rfl, rfl⟩

/-- what a call that is handed a journal and a device leaves as it was: all but them. -/
structure kept4 (J D : Nat) (T S : Option Nat) (w w' : World) : Prop where
  os : w'.os = w.os
  tape : w'.tape = w.tape
  output : w'.output = w.output
  size : w.heap.size ≤ w'.heap.size
  block : ∀ k, k < w.heap.size → k ≠ J → k ≠ D → some k ≠ T → some k ≠ S → w'.heap[k]? = w.heap[k]?

theorem kept4.refl (J D : Nat) (T S : Option Nat) (w : World) : kept4 J D T S w w := ⟨rfl, rfl, rfl, Nat.le_refl _, fun _ _ _ _ _ _ => rfl⟩

theorem kept4.trans {J D : Nat} {T S : Option Nat} {a b c : World} (h : kept4 J D T S a b) (k : kept4 J D T S b c) : kept4 J D T S a c :=
  ⟨k.os.trans h.os, k.tape.trans h.tape, k.output.trans h.output, Nat.le_trans h.size k.size, fun i hi h0 h1 h2 h3 => (k.block i (Nat.lt_of_lt_of_le hi h.size) h0 h1 h2 h3).trans (h.block i hi h0 h1 h2 h3)⟩

theorem kept4.of3 {J D : Nat} {T S : Option Nat} {a b : World} (h : kept3 D T S a b) : kept4 J D T S a b := ⟨h.os, h.tape, h.output, h.size, fun k hk _ h1 h2 h3 => h.block k hk h1 h2 h3⟩

theorem kept4.of_below {J D : Nat} {T S : Option Nat} {a b : World} (h : Below a.heap.size a b) : kept4 J D T S a b := .of3 (.of_below h)

theorem kept4.drewN {J D : Nat} {T S : Option Nat} {a b : World} (h : kept4 J D T S a b) (n : Nat) : kept4 J D T S a (b.drewN n) := ⟨h.os, h.tape, h.output, h.size, h.block⟩

theorem kept4.setJ {J D : Nat} {T S : Option Nat} {a b : World} (h : kept4 J D T S a b) (i : Nat) (v : Value) : kept4 J D T S a (b.setCell ⟨J, i, none⟩ v) :=
  ⟨h.os, h.tape, h.output, by simpa [World.setCell] using h.size, fun k hk h0 h1 h2 h3 => by rw [Below.heap_setCell _ _ _ _ h0]; exact h.block k hk h0 h1 h2 h3⟩

/-- a journal's place is none of a device's. -/
def apart (J D : Nat) (tv sv : Value) : Prop := J ≠ D ∧ some J ≠ tv.ownBlock ∧ some J ≠ sv.ownBlock

theorem devAt.setJ {J D : Nat} {tv sv : Value} {x : Dp.Dv} {w : World} (h : devAt D tv sv x w) (ha : apart J D tv sv) (i : Nat) (v : Value) : devAt D tv sv x (w.setCell ⟨J, i, none⟩ v) :=
  h.of_blocks fun k _ hk => Below.heap_setCell _ _ _ _ (by
    rcases hk with rfl | hk | hk
    · exact fun e => ha.1 e.symm
    · exact fun e => ha.2.1 (by rw [← hk]; exact congrArg some e.symm)
    · exact fun e => ha.2.2 (by rw [← hk]; exact congrArg some e.symm))

theorem jrnAt.kept {J D : Nat} {tv sv : Value} {p n : ByteArray} {d : Bool} {wh : Nat} {w v : World} (h : jrnAt J p n d wh w) (ha : apart J D tv sv) (k : kept3 D tv.ownBlock sv.ownBlock w v) : jrnAt J p n d wh v := by
  unfold jrnAt at *; rw [k.block J (jrnAt.lt h) ha.1 ha.2.1 ha.2.2]; exact h

theorem jrnAt.below {J : Nat} {p n : ByteArray} {d : Bool} {wh : Nat} {w v : World} (h : jrnAt J p n d wh w) (hb : Below w.heap.size w v) : jrnAt J p n d wh v := by
  unfold jrnAt at *; rw [hb.block J (jrnAt.lt h)]; exact h

theorem jend_any (D : Nat) (tv sv : Value) (x : Dp.Dv) (J : Nat) (p n : ByteArray) (d : Bool) (wh : Nat) (w : World) (hsz : x.log.length + 1 ≤ 4611686018427387904) (h : Hid (devAt D tv sv x w)) (hl : Hid (lifeOk x)) (hj : Hid (jrnAt J p n d wh w)) (ha : Hid (apart J D tv sv)) :
    Calls Try.prog 91 #[.pointer (some ⟨J, 0, none⟩), .pointer (some ⟨D, 0, none⟩)] w fun e w' => e = .returned (.bool (Dp.pLay x [100]).1) ∧ devAt D tv sv (Dp.pLay x [100]).2 w' ∧ kept4 J D tv.ownBlock sv.ownBlock w w' := by
  have HL := lay_any D tv sv x ⟨#[100]⟩ w hsz h hl
  rw [show (ByteArray.mk #[100]).data.toList = [100] from rfl] at HL
  generalize Dp.pLay x [100] = r at *
  obtain ⟨b, y⟩ := r
  go_enter Try.func91, Try.ntmps91
  go_wp2_with fail
  refine HL.mono ?_
  rintro e v1 ⟨rfl, h1, k1⟩
  have HJ := hj.out.kept ha.out k1
  obtain ⟨-, -, c2, -, fz⟩ := HJ.cells
  have f2 := fz 2
  clear fz
  go_wp2_with fail
  go_ret
  exact ⟨rfl, h1.setJ ha.out _ _, (kept4.of3 k1).setJ _ _⟩

end Go.Proofs.Ytjjmcnippjpclaa

namespace Go.Proofs.Ytjjmcnippjpclaa

open Go.RowKit

set_option maxRecDepth 100000 in
set_option maxHeartbeats 1000000 in
theorem jbegin_any (D : Nat) (tv sv : Value) (x : Dp.Dv) (J : Nat) (p n : ByteArray) (d : Bool) (wh : Nat) (P N : ByteArray) (w : World) (hP : P.size ≤ 40000000) (hN : N.size ≤ 40000000) (hsz : x.log.length ≤ 4611686018000000000) (h : Hid (devAt D tv sv x w)) (hl : Hid (lifeOk x)) (hj : Hid (jrnAt J p n d wh w)) (ha : Hid (apart J D tv sv)) :
    Calls Try.prog 88 #[.pointer (some ⟨J, 0, none⟩), .pointer (some ⟨D, 0, none⟩), .string P, .string N] w fun e w' => e = .returned (.bool (Dp.pLay x (Dp.enc (some (P.data.toList, N.data.toList)))).1) ∧ devAt D tv sv (Dp.pLay x (Dp.enc (some (P.data.toList, N.data.toList)))).2 w' ∧ ((Dp.pLay x (Dp.enc (some (P.data.toList, N.data.toList)))).1 = true → jrnAt J P N false wh w') ∧ kept4 J D tv.ownBlock sv.ownBlock w w' := by
  have l1 := nb_len P.size (by omega)
  have l2 := nb_len N.size (by omega)
  have l3 := data_len P
  have l4 := data_len N
  have hE : [98] ++ nb P.size ++ P.data.toList ++ nb N.size ++ N.data.toList = Dp.enc (some (P.data.toList, N.data.toList)) := by
    simp only [Dp.enc, l3, l4, List.append_assoc, List.cons_append, List.nil_append]; rfl
  have hEl : (Dp.enc (some (P.data.toList, N.data.toList))).length ≤ 90000000 := by rw [← hE]; simp only [List.length_append, List.length_cons, List.length_nil]; omega
  have hEn : Dp.enc (some (P.data.toList, N.data.toList)) ≠ [] := by intro e; cases e
  have HE : Hid _ := hE
  clear hE
  generalize Dp.enc (some (P.data.toList, N.data.toList)) = R at *
  have HR : Hid (∀ v, devAt D tv sv x v → Calls Try.prog 110 #[.pointer (some ⟨D, 0, none⟩), .string ⟨R.toArray⟩] v fun e w' => e = .returned (.bool (Dp.pLay x R).1) ∧ devAt D tv sv (Dp.pLay x R).2 w' ∧ kept3 D tv.ownBlock sv.ownBlock v w') := fun v hv =>
    lay_any D tv sv x ⟨R.toArray⟩ v (by rw [strSize]; omega) hv hl
  generalize Dp.pLay x R = r at *
  obtain ⟨b, y⟩ := r
  have hfresh : Hid (wrAt w.heap.size w.heap.size [] (w.alloc (Obj.cells #[.pointer none, .slice none 0 0] 114))) := Lib.fresh_isBuilder 114 5 w
  go_enter Try.func88, Try.ntmps88
  go_wp2_with fail
  refine (writeString_any w.heap.size w.heap.size (Lib.byteCells []) ⟨#[98]⟩ _ hfresh.out (by decide) (by simp)).mono ?_
  rintro e v1 ⟨rfl, h1, b1, k1⟩
  have H1 : Hid (wrAt w.heap.size w.heap.size [98] v1) := wr_string h1
  have B1 : Hid (Below w.heap.size w v1) := ((Below.refl _ _).alloc (Nat.le_refl _) _).trans b1
  have s1 := B1.out.size
  clear h1 b1 k1 hfresh
  go_wp2_with fail
  refine (wrNumber w.heap.size w.heap.size _ P.size v1 H1 (by omega) (by simp) s1).mono ?_
  rintro e v2 ⟨rfl, h2, b2, k2⟩
  have H2 : Hid (wrAt w.heap.size w.heap.size ([98] ++ nb P.size) v2) := h2
  have B2 : Hid (Below w.heap.size w v2) := B1.out.trans b2
  have s2 := B2.out.size
  clear h2 b2 k2 H1 B1 s1
  go_wp2_with fail
  refine (writeString_any w.heap.size w.heap.size (Lib.byteCells ([98] ++ nb P.size)) P _ H2.out (by rw [Lib.byteCells_length]; simp; omega) s2).mono ?_
  rintro e v3 ⟨rfl, h3, b3, k3⟩
  have H3 : Hid (wrAt w.heap.size w.heap.size ([98] ++ nb P.size ++ P.data.toList) v3) := wr_string h3
  have B3 : Hid (Below w.heap.size w v3) := B2.out.trans b3
  have s3 := B3.out.size
  clear h3 b3 k3 H2 B2 s2
  go_wp2_with fail
  refine (wrNumber w.heap.size w.heap.size _ N.size v3 H3 (by omega) (by simp; omega) s3).mono ?_
  rintro e v4 ⟨rfl, h4, b4, k4⟩
  have H4 : Hid (wrAt w.heap.size w.heap.size ([98] ++ nb P.size ++ P.data.toList ++ nb N.size) v4) := h4
  have B4 : Hid (Below w.heap.size w v4) := B3.out.trans b4
  have s4 := B4.out.size
  clear h4 b4 k4 H3 B3 s3
  go_wp2_with fail
  refine (writeString_any w.heap.size w.heap.size (Lib.byteCells ([98] ++ nb P.size ++ P.data.toList ++ nb N.size)) N _ H4.out (by rw [Lib.byteCells_length]; simp; omega) s4).mono ?_
  rintro e v5 ⟨rfl, h5, b5, k5⟩
  have H5 : Hid (wrAt w.heap.size w.heap.size R v5) := by
    show wrAt _ _ _ _
    rw [← HE.out]; exact wr_string h5
  have B5 : Hid (Below w.heap.size w v5) := B4.out.trans b5
  clear h5 b5 k5 H4 B4 s4
  go_wp2_with fail
  refine (string_any w.heap.size w.heap.size R v5 H5.out hEn).mono ?_
  rintro e v6 ⟨rfl, b6⟩
  have B6 : Hid (Below w.heap.size w v6) := B5.out.trans b6
  clear b6 B5 H5
  go_wp2_with fail
  refine (HR.out v6 (h.out.below B6.out)).mono ?_
  rintro e v7 ⟨rfl, h7, k7⟩
  have K7 : Hid (kept4 J D tv.ownBlock sv.ownBlock w v7) := (kept4.of_below B6.out).trans (.of3 k7)
  have J7 : Hid (jrnAt J p n d wh v7) := (hj.out.below B6.out).kept ha.out k7
  have H7 : Hid (devAt D tv sv y v7) := h7
  clear h7 k7 B6
  cases b with
  | false =>
    go_wp2_with fail
    go_ret
    exact ⟨rfl, H7.out, (fun h => by cases h), K7.out⟩
  | true =>
    obtain ⟨k0, k1, k2, k3, fz⟩ := J7.out.cells
    have f0 := fz 0
    have f1 := fz 1
    have f2 := fz 2
    clear fz
    go_wp2_with fail
    go_ret
    exact ⟨rfl, ((H7.out.setJ ha.out _ _).setJ ha.out _ _).setJ ha.out _ _, J7.out.setAll P N, ((K7.out.setJ _ _).setJ _ _).setJ _ _⟩

end Go.Proofs.Ytjjmcnippjpclaa
