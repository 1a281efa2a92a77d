/-
  The walks of put and of settle: a text is made to stand in its place, and made sure of.
-/
import Derived.Test.YtjjmcnippjpclaaLay
import Derived.Test.YtjjmcnippjpclaaMatches
namespace Go.Proofs.Ytjjmcnippjpclaa

open Go.RowKit

theorem bytes_ne' {a b : ByteArray} (h : a ≠ b) : ¬ a.toList = b.toList := fun e => h (by
  rw [ByteArray.toList_eq, ByteArray.toList_eq] at e
  apply ByteArray.ext
  exact Array.ext' e)

theorem put_any (D : Nat) (tv sv : Value) (x : Dp.Dv) (a : Nat) (A B : ByteArray) (w : World) (hAB : A.size = B.size) (hfit : a + B.size ≤ x.text.length) (hts : x.text.length = x.safe.length) (h : Hid (devAt D tv sv x w)) (hl : Hid (lifeOk x)) :
    Calls Try.prog 112 #[.pointer (some ⟨D, 0, none⟩), .int .i64 a, .string A, .string B] w fun e w' => e = .returned (.bool (Dp.pPut x a A.data.toList B.data.toList).1) ∧ devAt D tv sv (Dp.pPut x a A.data.toList B.data.toList).2 w' ∧ kept3 D tv.ownBlock sv.ownBlock w w' := by
  by_cases he : A = B
  · subst he
    have e1 : Dp.pPut x a A.data.toList A.data.toList = (true, x) := by unfold Dp.pPut; rw [if_pos rfl]
    rw [e1]
    go_enter Try.func112, Try.ntmps112
    go_wp2_with fail
    go_ret
    exact ⟨rfl, h.out, kept3.refl _ _ _ _⟩
  · have hne : A.data.toList ≠ B.data.toList := fun e => he (ByteArray.ext (Array.ext' e))
    have hB : 0 < B.size := by
      rcases Nat.eq_zero_or_pos B.size with h0 | h0
      · have h1 : A.data.toList = [] := List.eq_nil_of_length_eq_zero (by rw [data_len]; omega)
        have h2 : B.data.toList = [] := List.eq_nil_of_length_eq_zero (by rw [data_len]; omega)
        exact absurd (h1.trans h2.symm) hne
      · exact h0
    have hx : (A.toList == B.toList) = false := by simpa using bytes_ne' he
    have HE : Hid (Dp.pPut x a A.data.toList B.data.toList = Dp.andB (Dp.pWrite x a B.data.toList) Dp.pSyncText) := by show _ = _; unfold Dp.pPut; rw [if_neg hne]
    have HW := writeText_any D tv sv x a B w hfit hB h hl
    have HO := lifeOk_write hl.out a B.data.toList
    have HT : (Dp.pWrite x a B.data.toList).2.text.length = (Dp.pWrite x a B.data.toList).2.safe.length := by
      unfold Dp.pWrite; split
      · exact hts
      · split
        · simp [Dp.Dv.on]; omega
        · exact hts
    generalize Dp.pPut x a A.data.toList B.data.toList = L at *
    generalize Dp.pWrite x a B.data.toList = r at *
    obtain ⟨b, y⟩ := r
    cases b with
    | false =>
      have e1 : L = (false, y) := HE.out
      subst e1
      go_enter Try.func112, Try.ntmps112
      go_wp2_with fail
      refine HW.mono ?_
      rintro e v1 ⟨rfl, h1, k1⟩
      go_wp2_with fail
      go_ret
      exact ⟨rfl, h1, k1⟩
    | true =>
      have e1 : L = Dp.pSyncText y := HE.out
      have HSy : Hid (∀ v, devAt D tv sv y v → Calls Try.prog 50 #[.pointer (some ⟨D, 0, none⟩)] v fun e w' => e = .returned (.bool L.1) ∧ devAt D tv sv L.2 w' ∧ kept3 D tv.ownBlock sv.ownBlock v w') := fun v hv => by
        rw [e1]; exact syncText_any D tv sv y v HT hv HO
      clear HE e1
      go_enter Try.func112, Try.ntmps112
      go_wp2_with fail
      refine HW.mono ?_
      rintro e v1 ⟨rfl, h1, k1⟩
      go_wp2_with fail
      refine (HSy.out v1 h1).mono ?_
      rintro e v2 ⟨rfl, h2, k2⟩
      go_wp2_with fail
      go_ret
      exact ⟨rfl, h2, k1.trans k2⟩

theorem endOfBlock_any (k n : Nat) (w : World) (hk : k ≤ 1000000) :
    Calls Try.prog 111 #[.int .i64 k, .int .i64 n] w fun e w' => e = .returned (.int .i64 ((min (k - k % 16 + 16) n : Nat) : Int)) ∧ w' = w := by
  obtain ⟨m, hm⟩ : ∃ m : Nat, min ((k : Int) - (k : Int) % 16 + 16) (n : Int) = (m : Int) := ⟨min (k - k % 16 + 16) n, by omega⟩
  have e1 : min (k - k % 16 + 16) n = m := by omega
  rw [e1]
  go_enter Try.func111, Try.ntmps111
  go_wp2_with fail
  go_ret
  exact ⟨rfl, rfl⟩

/-- a row of the device's stays as long as it is. -/
theorem put_len {x : Dp.Dv} {a : Nat} {A B : List UInt8} (hfit : a + B.length ≤ x.text.length) (hts : x.text.length = x.safe.length) : (Dp.pPut x a A B).2.text.length = x.text.length ∧ (Dp.pPut x a A B).2.safe.length = x.text.length := by
  unfold Dp.pPut
  split
  · exact ⟨rfl, hts.symm⟩
  · unfold Dp.pWrite
    split
    · exact ⟨rfl, hts.symm⟩
    · simp only [Dp.andB, Dp.pSyncText]
      split
      · simp [Dp.Dv.on]; omega
      · simp [Dp.Dv.on]; omega

theorem lifeOk_put {x : Dp.Dv} (h : lifeOk x) (a : Nat) (A B : List UInt8) : lifeOk (Dp.pPut x a A B).2 := by
  unfold Dp.pPut
  split
  · exact h
  · have h1 := lifeOk_write h a B
    generalize Dp.pWrite x a B = r at *
    obtain ⟨b, y⟩ := r
    cases b
    · exact h1
    · exact lifeOk_syncText h1

theorem ext_take (l : List UInt8) (e : Nat) : ((⟨l.toArray⟩ : ByteArray).extract 0 e).data.toList = l.take e := by rw [Lib.extract_data]; simp

theorem ext_drop (s : ByteArray) (e : Nat) : (s.extract e s.size).data.toList = s.data.toList.drop e := by
  rw [Lib.extract_data, List.take_of_length_le (by simp)]

/-- how many bytes two texts open with alike. -/
def frontL : List UInt8 → List UInt8 → Nat
  | a :: p, b :: q => if a = b then frontL p q + 1 else 0
  | _, _ => 0

theorem frontL_spec : ∀ (a b : List UInt8), frontL a b ≤ a.length ∧ frontL a b ≤ b.length ∧ (∀ j, j < frontL a b → a[j]? = b[j]?) ∧ (frontL a b < a.length → frontL a b < b.length → a[frontL a b]? ≠ b[frontL a b]?)
  | [], b => ⟨Nat.le_refl _, Nat.zero_le _, fun j hj => absurd hj (Nat.not_lt_zero _), fun h => absurd h (Nat.not_lt_zero _)⟩
  | a :: p, [] => ⟨Nat.zero_le _, Nat.le_refl _, fun j hj => absurd hj (Nat.not_lt_zero _), fun _ h => absurd h (Nat.not_lt_zero _)⟩
  | a :: p, b :: q => by
    obtain ⟨h1, h2, h3, h4⟩ := frontL_spec p q
    by_cases h : a = b
    · have e : frontL (a :: p) (b :: q) = frontL p q + 1 := by simp [frontL, h]
      rw [e]
      refine ⟨by simp; exact h1, by simp; exact h2, fun j hj => ?_, fun g1 g2 => ?_⟩
      · cases j with
        | zero => simp [h]
        | succ j => simpa using h3 j (by omega)
      · simpa using h4 (by simpa using g1) (by simpa using g2)
    · have e : frontL (a :: p) (b :: q) = 0 := by simp [frontL, h]
      rw [e]
      exact ⟨Nat.zero_le _, Nat.zero_le _, fun j hj => absurd hj (Nat.not_lt_zero _), fun _ _ => by simpa using h⟩

theorem front_is {s t : ByteArray} {k : Nat} (h : isFront s t k) : k = frontL s.data.toList t.data.toList := by
  obtain ⟨h1, h2, h3, h4⟩ := h
  obtain ⟨g1, g2, g3, g4⟩ := frontL_spec s.data.toList t.data.toList
  rw [data_len] at g1 g2 g4
  rw [data_len] at g4
  have e : ∀ (u : ByteArray) (j : Nat), u.data.toList[j]? = u.data[j]? := fun u j => Array.getElem?_toList
  rcases Nat.lt_trichotomy k (frontL s.data.toList t.data.toList) with hl | hl | hl
  · have := g3 k hl
    rw [e, e] at this
    exact absurd this (h4 (by omega) (by omega))
  · exact hl
  · have := h3 _ hl
    have g5 := g4 (by omega) (by omega)
    rw [e, e] at g5
    exact absurd this g5

/-- the end of the first block that changes. -/
def endE (x : Dp.Dv) (n : List UInt8) : Nat := min (frontL (x.text.take n.length) n - frontL (x.text.take n.length) n % 16 + 16) n.length

theorem endE_le (x : Dp.Dv) (n : List UInt8) : endE x n ≤ n.length := by unfold endE; omega

def isE (x : Dp.Dv) (N : ByteArray) (E : Nat) : Prop := E ≤ N.size ∧ E = endE x N.data.toList

set_option maxRecDepth 100000 in
set_option maxHeartbeats 2000000 in
theorem settle_any (D : Nat) (tv sv : Value) (x : Dp.Dv) (N : ByteArray) (w : World) (hN : N.size ≤ 1000000) (hm : x.text.length ≤ 140737488355328) (hts : x.text.length = x.safe.length) (h : Hid (devAt D tv sv x w)) (hl : Hid (lifeOk x)) :
    Calls Try.prog 90 #[.pointer (some ⟨D, 0, none⟩), .string N] w fun e w' => ∃ E, isE x N E ∧ e = .returned (.bool (Dp.pSettle x N.data.toList E).1) ∧ devAt D tv sv (Dp.pSettle x N.data.toList E).2 w' ∧ kept3 D tv.ownBlock sv.ownBlock w w' := by
  have HRd := readText_any D tv sv x N.size w (by omega) (by unfold maxLen; omega) h
  have HST : Hid (∀ E, Dp.pSettle x N.data.toList E = match Dp.pRead x N.size with
    | none => (false, x)
    | some there => Dp.andB (Dp.pPut x 0 (there.take E) (N.data.toList.take E)) fun y => Dp.pPut y E (there.drop E) (N.data.toList.drop E)) := fun E => by
      show Dp.pSettle _ _ _ = _
      unfold Dp.pSettle; rw [data_len]
      cases Dp.pRead x N.size <;> rfl
  cases hrd : Dp.pRead x N.size with
  | none =>
    rw [hrd] at HRd
    dsimp only at HRd
    have HS0 : Hid (∀ E, Dp.pSettle x N.data.toList E = (false, x)) := fun E => by rw [HST.out E, hrd]
    clear HST hrd
    go_enter Try.func90, Try.ntmps90
    go_wp2_with fail
    refine HRd.mono ?_
    rintro e v1 ⟨rfl, h0⟩
    rw [h0]
    clear h0 v1
    go_wp2_with fail
    go_ret
    refine ⟨endE x N.data.toList, ⟨by have := endE_le x N.data.toList; rw [data_len] at this; exact this, rfl⟩, ?_⟩
    rw [HS0.out]
    exact ⟨rfl, h.out, kept3.refl _ _ _ _⟩
  | some th =>
    rw [hrd] at HRd
    dsimp only at HRd
    have hth : th = x.text.take N.size ∧ N.size ≤ x.text.length := by
      unfold Dp.pRead at hrd
      split at hrd
      · cases hrd
      · cases hrd; exact ⟨rfl, by omega⟩
    have hthl : (⟨th.toArray⟩ : ByteArray).size = N.size := by rw [strSize, hth.1, List.length_take]; omega
    have HS0 : Hid (∀ E, Dp.pSettle x N.data.toList E = Dp.andB (Dp.pPut x 0 (((⟨th.toArray⟩ : ByteArray).extract 0 E).data.toList) ((N.extract 0 E).data.toList)) fun y => Dp.pPut y E (((⟨th.toArray⟩ : ByteArray).extract E (⟨th.toArray⟩ : ByteArray).size).data.toList) ((N.extract E N.size).data.toList)) := fun E => by
      rw [HST.out E, hrd, ext_drop, ext_drop, ext_take]
      have e2 : (N.extract 0 E).data.toList = N.data.toList.take E := by rw [Lib.extract_data]; simp
      rw [e2]
    clear HST hrd
    have hfit := hth.2
    have HTL : Hid ((⟨th.toArray⟩ : ByteArray).data.toList = x.text.take N.size) := by show _ = _; rw [hth.1]
    clear hth
    generalize (⟨th.toArray⟩ : ByteArray) = Th at *
    have HF := front_any Th N w (by omega) (by omega)
    go_enter Try.func90, Try.ntmps90
    go_wp2_with fail
    refine HRd.mono ?_
    rintro e v1 ⟨rfl, h0⟩
    rw [h0]
    clear h0 v1
    go_wp2_with fail
    refine HF.mono ?_
    rintro e v2 ⟨k, rfl, hfr, b2⟩
    have HE := endOfBlock_any k N.size v2 (by have := hfr.2.1; omega)
    obtain ⟨E, hE⟩ : ∃ E, min (k - k % 16 + 16) N.size = E := ⟨_, rfl⟩
    have hEN : E ≤ N.size := by omega
    rw [hE] at HE
    have HIE : Hid (isE x N E) := ⟨hEN, by rw [← hE, front_is hfr, HTL.out]; unfold endE; rw [data_len]⟩
    clear HTL
    have H2 : Hid (devAt D tv sv x v2) := h.out.below b2
    have K2 : Hid (kept3 D tv.ownBlock sv.ownBlock w v2) := .of_below b2
    have HSE : Hid _ := HS0.out E
    clear hfr b2 hE HS0
    go_wp2_with fail
    refine HE.mono ?_
    rintro e v3 ⟨rfl, h0⟩
    rw [h0]
    clear h0 v3 HE HF HRd
    have hA1 : (Th.extract 0 E).size = E := by rw [ByteArray.size_extract]; omega
    have hB1 : (N.extract 0 E).size = E := by rw [ByteArray.size_extract]; omega
    have hA2 : (Th.extract E Th.size).size = N.size - E := by rw [ByteArray.size_extract]; omega
    have hB2 : (N.extract E N.size).size = N.size - E := by rw [ByteArray.size_extract]; omega
    have HP1 : Hid (∀ v, devAt D tv sv x v → Calls Try.prog 112 #[.pointer (some ⟨D, 0, none⟩), .int .i64 0, .string (Th.extract 0 E), .string (N.extract 0 E)] v fun e w' => e = .returned (.bool (Dp.pPut x 0 (Th.extract 0 E).data.toList (N.extract 0 E).data.toList).1) ∧ devAt D tv sv (Dp.pPut x 0 (Th.extract 0 E).data.toList (N.extract 0 E).data.toList).2 w' ∧ kept3 D tv.ownBlock sv.ownBlock v w') := fun v hv => put_any D tv sv x 0 _ _ v (by omega) (by omega) hts hv hl
    have hln := put_len (x := x) (a := 0) (A := (Th.extract 0 E).data.toList) (B := (N.extract 0 E).data.toList) (by rw [data_len]; omega) hts
    have hlo := lifeOk_put hl.out 0 (Th.extract 0 E).data.toList (N.extract 0 E).data.toList
    have g1 : (0 : Int) ≤ (E : Int) := by omega
    have g2 : (E : Int) ≤ (Th.size : Int) := by omega
    have g3 : (E : Int) ≤ (N.size : Int) := by omega
    have g4 : (Th.size : Int) ≤ 1000000 := by omega
    clear hthl
    generalize Dp.pPut x 0 (Th.extract 0 E).data.toList (N.extract 0 E).data.toList = r at *
    obtain ⟨b, y⟩ := r
    cases b with
    | false =>
      have e1 : Dp.pSettle x N.data.toList E = (false, y) := HSE.out
      have HR : Hid (∀ v, devAt D tv sv y v → kept3 D tv.ownBlock sv.ownBlock w v → ∃ E, isE x N E ∧ Ending.returned (.bool false) = .returned (.bool (Dp.pSettle x N.data.toList E).1) ∧ devAt D tv sv (Dp.pSettle x N.data.toList E).2 v ∧ kept3 D tv.ownBlock sv.ownBlock w v) := fun v h1 h2 => ⟨E, HIE.out, by rw [e1], by rw [e1]; exact h1, h2⟩
      clear e1 HSE
      go_wp2_with fail
      refine wp_region_noPanic ?_
      refine wp_region_held_drew (S := fun _ => True) (by kernel_rfl) trivial (fun _ => ?_)
      refine wpAnyH_take (i := 0) (v := ?vq1) rfl (by kernel_rfl) (by kernel_rfl) (by kernel_rfl) (fun _ _ _ h => h) (Or.inl ⟨by rfl, ?hq1⟩) trivial ?rq1
      case hq1 =>
        intro w hSw
        go_simp
        try with_reducible rfl
      (try simp only [Act.put, List.setIfInBounds_toArray, List.set_cons_zero, List.set_cons_succ, List.getElem_toArray, List.getElem_cons_zero])
      refine wpAnyH_take (i := 1) (v := ?vq2) rfl (by kernel_rfl) (by kernel_rfl) (by kernel_rfl) (fun _ _ _ h => h) (Or.inl ⟨by rfl, ?hq2⟩) trivial ?rq2
      case hq2 =>
        intro w hSw
        go_simp
        try with_reducible rfl
      (try simp only [Act.put, List.setIfInBounds_toArray, List.set_cons_zero, List.set_cons_succ, List.getElem_toArray, List.getElem_cons_zero, List.getElem_cons_succ])
      refine wpAnyH_take (i := 2) (v := ?vq3) rfl (by kernel_rfl) (by kernel_rfl) (by kernel_rfl) (fun _ _ _ h => h) (Or.inl ⟨by rfl, ?hq3⟩) trivial ?rq3
      case hq3 =>
        intro w hSw
        go_simp
        try with_reducible rfl
      (try simp only [Act.put, List.setIfInBounds_toArray, List.set_cons_zero, List.set_cons_succ, List.getElem_toArray, List.getElem_cons_zero, List.getElem_cons_succ])
      refine wpAnyH_take (i := 3) (v := ?vq4) rfl (by kernel_rfl) (by kernel_rfl) (by kernel_rfl) (fun _ _ _ h => h) (Or.inl ⟨by rfl, ?hq4⟩) trivial ?rq4
      case hq4 =>
        intro w hSw
        go_simp
        try with_reducible rfl
      (try simp only [Act.put, List.setIfInBounds_toArray, List.set_cons_zero, List.set_cons_succ, List.getElem_toArray, List.getElem_cons_zero, List.getElem_cons_succ])
      refine wpAnyH_take (i := 4) (v := ?vq5) rfl (by kernel_rfl) (by kernel_rfl) (by kernel_rfl) (fun _ _ _ h => h) (Or.inl ⟨by rfl, ?hq5⟩) trivial ?rq5
      case hq5 =>
        intro w hSw
        go_simp
        try with_reducible rfl
      (try simp only [Act.put, List.setIfInBounds_toArray, List.set_cons_zero, List.set_cons_succ, List.getElem_toArray, List.getElem_cons_zero, List.getElem_cons_succ])
      refine wpAnyH_take (i := 5) (v := ?vq6) rfl (by kernel_rfl) (by kernel_rfl) (by kernel_rfl) (fun _ _ _ h => h) (Or.inl ⟨by rfl, ?hq6⟩) trivial ?rq6
      case hq6 =>
        intro w hSw
        go_simp
        try with_reducible rfl
      (try simp only [Act.put, List.setIfInBounds_toArray, List.set_cons_zero, List.set_cons_succ, List.getElem_toArray, List.getElem_cons_zero, List.getElem_cons_succ])
      refine wpAnyH_take (i := 6) (v := ?vq7) rfl (by kernel_rfl) (by kernel_rfl) (by kernel_rfl) (fun _ _ _ h => h) (Or.inl ⟨by rfl, ?hq7⟩) trivial ?rq7
      case hq7 =>
        intro w hSw
        go_simp
        try with_reducible rfl
      (try simp only [Act.put, List.setIfInBounds_toArray, List.set_cons_zero, List.set_cons_succ, List.getElem_toArray, List.getElem_cons_zero, List.getElem_cons_succ])
      refine wpAnyH_ready (rs := [7]) (by kernel_rfl) (by simp) ?_
      refine AllReadyH.cons rfl (fun K hK => ?_) AllReadyH.nil
      go_simp
      refine (HP1.out _ (H2.out.drewN 1)).mono ?_
      rintro e v4 ⟨rfl, h4, k4⟩
      (try go_wp2_with fail)
      refine hK.out _ _ trivial (fun _ => ?_)
      clear hK
      (try simp only [Act.put, List.setIfInBounds_toArray, List.set_cons_zero, List.set_cons_succ, List.getElem_toArray, List.getElem_cons_zero, List.getElem_cons_succ])
      refine wpAnyH_take (i := 8) (v := ?vq8) rfl (by kernel_rfl) (by kernel_rfl) (by kernel_rfl) (fun _ _ _ h => h) (Or.inl ⟨by rfl, ?hq8⟩) trivial ?rq8
      case hq8 =>
        intro w hSw
        go_simp
        try with_reducible rfl
      (try simp only [Act.put, List.setIfInBounds_toArray, List.set_cons_zero, List.set_cons_succ, List.getElem_toArray, List.getElem_cons_zero, List.getElem_cons_succ])
      refine wpAnyH_take (i := 9) (v := undef) rfl (by kernel_rfl) (by kernel_rfl) (by kernel_rfl) (fun _ _ _ h => h) (Or.inr ⟨by rfl, rfl⟩) trivial ?_
      (try simp only [Act.put, List.setIfInBounds_toArray, List.set_cons_zero, List.set_cons_succ, List.getElem_toArray, List.getElem_cons_zero, List.getElem_cons_succ])
      refine wpAnyH_take (i := 10) (v := undef) rfl (by kernel_rfl) (by kernel_rfl) (by kernel_rfl) (fun _ _ _ h => h) (Or.inr ⟨by rfl, rfl⟩) trivial ?_
      (try simp only [Act.put, List.setIfInBounds_toArray, List.set_cons_zero, List.set_cons_succ, List.getElem_toArray, List.getElem_cons_zero, List.getElem_cons_succ])
      refine wpAnyH_take (i := 11) (v := undef) rfl (by kernel_rfl) (by kernel_rfl) (by kernel_rfl) (fun _ _ _ h => h) (Or.inr ⟨by rfl, rfl⟩) trivial ?_
      (try simp only [Act.put, List.setIfInBounds_toArray, List.set_cons_zero, List.set_cons_succ, List.getElem_toArray, List.getElem_cons_zero, List.getElem_cons_succ])
      refine wpAnyH_take (i := 12) (v := undef) rfl (by kernel_rfl) (by kernel_rfl) (by kernel_rfl) (fun _ _ _ h => h) (Or.inr ⟨by rfl, rfl⟩) trivial ?_
      (try simp only [Act.put, List.setIfInBounds_toArray, List.set_cons_zero, List.set_cons_succ, List.getElem_toArray, List.getElem_cons_zero, List.getElem_cons_succ])
      refine wpAnyH_take (i := 13) (v := undef) rfl (by kernel_rfl) (by kernel_rfl) (by kernel_rfl) (fun _ _ _ h => h) (Or.inr ⟨by rfl, rfl⟩) trivial ?_
      (try simp only [Act.put, List.setIfInBounds_toArray, List.set_cons_zero, List.set_cons_succ, List.getElem_toArray, List.getElem_cons_zero, List.getElem_cons_succ])
      refine wpAnyH_take (i := 14) (v := undef) rfl (by kernel_rfl) (by kernel_rfl) (by kernel_rfl) (fun _ _ _ h => h) (Or.inr ⟨by rfl, rfl⟩) trivial ?_
      (try simp only [Act.put, List.setIfInBounds_toArray, List.set_cons_zero, List.set_cons_succ, List.getElem_toArray, List.getElem_cons_zero, List.getElem_cons_succ])
      refine wpAnyH_take (i := 15) (v := undef) rfl (by kernel_rfl) (by kernel_rfl) (by kernel_rfl) (fun _ _ _ h => h) (Or.inr ⟨by rfl, rfl⟩) trivial ?_
      (try simp only [Act.put, List.setIfInBounds_toArray, List.set_cons_zero, List.set_cons_succ, List.getElem_toArray, List.getElem_cons_zero, List.getElem_cons_succ])
      refine wpAnyH_take (i := 16) (v := undef) rfl (by kernel_rfl) (by kernel_rfl) (by kernel_rfl) (fun _ _ _ h => h) (Or.inr ⟨by rfl, rfl⟩) trivial ?_
      (try simp only [Act.put, List.setIfInBounds_toArray, List.set_cons_zero, List.set_cons_succ, List.getElem_toArray, List.getElem_cons_zero, List.getElem_cons_succ])
      refine wpAnyH_take (i := 17) (v := undef) rfl (by kernel_rfl) (by kernel_rfl) (by kernel_rfl) (fun _ _ _ h => h) (Or.inr ⟨by rfl, rfl⟩) trivial ?_
      (try simp only [Act.put, List.setIfInBounds_toArray, List.set_cons_zero, List.set_cons_succ, List.getElem_toArray, List.getElem_cons_zero, List.getElem_cons_succ])
      refine wpAnyH_take (i := 18) (v := ?vq18) rfl (by kernel_rfl) (by kernel_rfl) (by kernel_rfl) (fun _ _ _ h => h) (Or.inl ⟨by rfl, ?hq18⟩) trivial ?rq18
      case hq18 =>
        intro w hSw
        go_simp
        try with_reducible rfl
      (try simp only [Act.put, List.setIfInBounds_toArray, List.set_cons_zero, List.set_cons_succ, List.getElem_toArray, List.getElem_cons_zero, List.getElem_cons_succ])
      refine wpAnyH_take (i := 19) (v := ?vq19) rfl (by kernel_rfl) (by kernel_rfl) (by kernel_rfl) (fun _ _ _ h => h) (Or.inl ⟨by rfl, ?hq19⟩) trivial ?rq19
      case hq19 =>
        intro w hSw
        go_simp
        try with_reducible rfl
      (try simp only [Act.put, List.setIfInBounds_toArray, List.set_cons_zero, List.set_cons_succ, List.getElem_toArray, List.getElem_cons_zero, List.getElem_cons_succ])
      refine wpAnyH_done (by kernel_rfl) ?_ _
      refine NoPanic.normal ?_
      go_wp2_with fail
      go_ret
      exact HR.out _ h4 ((K2.out.drewN 1).trans k4)
    | true =>
      have e1 : Dp.pSettle x N.data.toList E = Dp.pPut y E (Th.extract E Th.size).data.toList (N.extract E N.size).data.toList := HSE.out
      have HP2 : Hid (∀ v, devAt D tv sv y v → Calls Try.prog 112 #[.pointer (some ⟨D, 0, none⟩), .int .i64 E, .string (Th.extract E Th.size), .string (N.extract E N.size)] v fun e w' => e = .returned (.bool (Dp.pPut y E (Th.extract E Th.size).data.toList (N.extract E N.size).data.toList).1) ∧ devAt D tv sv (Dp.pPut y E (Th.extract E Th.size).data.toList (N.extract E N.size).data.toList).2 w' ∧ kept3 D tv.ownBlock sv.ownBlock v w') := fun v hv => put_any D tv sv y E _ _ v (by omega) (by have := hln.1; simp only at this; omega) (by have := hln.1; have := hln.2; simp only at *; omega) hv hlo
      have HR : Hid (∀ b v, b = (Dp.pPut y E (Th.extract E Th.size).data.toList (N.extract E N.size).data.toList).1 → devAt D tv sv (Dp.pPut y E (Th.extract E Th.size).data.toList (N.extract E N.size).data.toList).2 v → kept3 D tv.ownBlock sv.ownBlock w v → ∃ E, isE x N E ∧ Ending.returned (.bool b) = .returned (.bool (Dp.pSettle x N.data.toList E).1) ∧ devAt D tv sv (Dp.pSettle x N.data.toList E).2 v ∧ kept3 D tv.ownBlock sv.ownBlock w v) := fun b v hb h1 h2 => ⟨E, HIE.out, by rw [e1, hb], by rw [e1]; exact h1, h2⟩
      clear e1 HSE
      generalize Dp.pPut y E (Th.extract E Th.size).data.toList (N.extract E N.size).data.toList = r2 at *
      go_wp2_with fail
      refine wp_region_noPanic ?_
      refine wp_region_held_drew (S := fun _ => True) (by kernel_rfl) trivial (fun _ => ?_)
      refine wpAnyH_take (i := 0) (v := ?vq20) rfl (by kernel_rfl) (by kernel_rfl) (by kernel_rfl) (fun _ _ _ h => h) (Or.inl ⟨by rfl, ?hq20⟩) trivial ?rq20
      case hq20 =>
        intro w hSw
        go_simp
        try with_reducible rfl
      (try simp only [Act.put, List.setIfInBounds_toArray, List.set_cons_zero, List.set_cons_succ, List.getElem_toArray, List.getElem_cons_zero])
      refine wpAnyH_take (i := 1) (v := ?vq21) rfl (by kernel_rfl) (by kernel_rfl) (by kernel_rfl) (fun _ _ _ h => h) (Or.inl ⟨by rfl, ?hq21⟩) trivial ?rq21
      case hq21 =>
        intro w hSw
        go_simp
        try with_reducible rfl
      (try simp only [Act.put, List.setIfInBounds_toArray, List.set_cons_zero, List.set_cons_succ, List.getElem_toArray, List.getElem_cons_zero, List.getElem_cons_succ])
      refine wpAnyH_take (i := 2) (v := ?vq22) rfl (by kernel_rfl) (by kernel_rfl) (by kernel_rfl) (fun _ _ _ h => h) (Or.inl ⟨by rfl, ?hq22⟩) trivial ?rq22
      case hq22 =>
        intro w hSw
        go_simp
        try with_reducible rfl
      (try simp only [Act.put, List.setIfInBounds_toArray, List.set_cons_zero, List.set_cons_succ, List.getElem_toArray, List.getElem_cons_zero, List.getElem_cons_succ])
      refine wpAnyH_take (i := 3) (v := ?vq23) rfl (by kernel_rfl) (by kernel_rfl) (by kernel_rfl) (fun _ _ _ h => h) (Or.inl ⟨by rfl, ?hq23⟩) trivial ?rq23
      case hq23 =>
        intro w hSw
        go_simp
        try with_reducible rfl
      (try simp only [Act.put, List.setIfInBounds_toArray, List.set_cons_zero, List.set_cons_succ, List.getElem_toArray, List.getElem_cons_zero, List.getElem_cons_succ])
      refine wpAnyH_take (i := 4) (v := ?vq24) rfl (by kernel_rfl) (by kernel_rfl) (by kernel_rfl) (fun _ _ _ h => h) (Or.inl ⟨by rfl, ?hq24⟩) trivial ?rq24
      case hq24 =>
        intro w hSw
        go_simp
        try with_reducible rfl
      (try simp only [Act.put, List.setIfInBounds_toArray, List.set_cons_zero, List.set_cons_succ, List.getElem_toArray, List.getElem_cons_zero, List.getElem_cons_succ])
      refine wpAnyH_take (i := 5) (v := ?vq25) rfl (by kernel_rfl) (by kernel_rfl) (by kernel_rfl) (fun _ _ _ h => h) (Or.inl ⟨by rfl, ?hq25⟩) trivial ?rq25
      case hq25 =>
        intro w hSw
        go_simp
        try with_reducible rfl
      (try simp only [Act.put, List.setIfInBounds_toArray, List.set_cons_zero, List.set_cons_succ, List.getElem_toArray, List.getElem_cons_zero, List.getElem_cons_succ])
      refine wpAnyH_take (i := 6) (v := ?vq26) rfl (by kernel_rfl) (by kernel_rfl) (by kernel_rfl) (fun _ _ _ h => h) (Or.inl ⟨by rfl, ?hq26⟩) trivial ?rq26
      case hq26 =>
        intro w hSw
        go_simp
        try with_reducible rfl
      (try simp only [Act.put, List.setIfInBounds_toArray, List.set_cons_zero, List.set_cons_succ, List.getElem_toArray, List.getElem_cons_zero, List.getElem_cons_succ])
      refine wpAnyH_ready (rs := [7]) (by kernel_rfl) (by simp) ?_
      refine AllReadyH.cons rfl (fun K hK => ?_) AllReadyH.nil
      go_simp
      refine (HP1.out _ (H2.out.drewN 1)).mono ?_
      rintro e v4 ⟨rfl, h4, k4⟩
      (try go_wp2_with fail)
      refine hK.out _ _ trivial (fun _ => ?_)
      clear hK
      (try simp only [Act.put, List.setIfInBounds_toArray, List.set_cons_zero, List.set_cons_succ, List.getElem_toArray, List.getElem_cons_zero, List.getElem_cons_succ])
      refine wpAnyH_take (i := 8) (v := ?vq27) rfl (by kernel_rfl) (by kernel_rfl) (by kernel_rfl) (fun _ _ _ h => h) (Or.inl ⟨by rfl, ?hq27⟩) trivial ?rq27
      case hq27 =>
        intro w hSw
        go_simp
        try with_reducible rfl
      (try simp only [Act.put, List.setIfInBounds_toArray, List.set_cons_zero, List.set_cons_succ, List.getElem_toArray, List.getElem_cons_zero, List.getElem_cons_succ])
      refine wpAnyH_take (i := 9) (v := ?vq28) rfl (by kernel_rfl) (by kernel_rfl) (by kernel_rfl) (fun _ _ _ h => h) (Or.inl ⟨by rfl, ?hq28⟩) trivial ?rq28
      case hq28 =>
        intro w hSw
        go_simp
        try with_reducible rfl
      (try simp only [Act.put, List.setIfInBounds_toArray, List.set_cons_zero, List.set_cons_succ, List.getElem_toArray, List.getElem_cons_zero, List.getElem_cons_succ])
      refine wpAnyH_take (i := 10) (v := ?vq29) rfl (by kernel_rfl) (by kernel_rfl) (by kernel_rfl) (fun _ _ _ h => h) (Or.inl ⟨by rfl, ?hq29⟩) trivial ?rq29
      case hq29 =>
        intro w hSw
        go_simp
        try with_reducible rfl
      (try simp only [Act.put, List.setIfInBounds_toArray, List.set_cons_zero, List.set_cons_succ, List.getElem_toArray, List.getElem_cons_zero, List.getElem_cons_succ])
      refine wpAnyH_take (i := 11) (v := ?vq30) rfl (by kernel_rfl) (by kernel_rfl) (by kernel_rfl) (fun _ _ _ h => h) (Or.inl ⟨by rfl, ?hq30⟩) trivial ?rq30
      case hq30 =>
        intro w hSw
        go_simp
        try with_reducible rfl
      (try simp only [Act.put, List.setIfInBounds_toArray, List.set_cons_zero, List.set_cons_succ, List.getElem_toArray, List.getElem_cons_zero, List.getElem_cons_succ])
      refine wpAnyH_take (i := 12) (v := ?vq31) rfl (by kernel_rfl) (by kernel_rfl) (by kernel_rfl) (fun _ _ _ h => h) (Or.inl ⟨by rfl, ?hq31⟩) trivial ?rq31
      case hq31 =>
        intro w hSw
        go_simp
        try with_reducible rfl
      (try simp only [Act.put, List.setIfInBounds_toArray, List.set_cons_zero, List.set_cons_succ, List.getElem_toArray, List.getElem_cons_zero, List.getElem_cons_succ])
      refine wpAnyH_take (i := 13) (v := ?vq32) rfl (by kernel_rfl) (by kernel_rfl) (by kernel_rfl) (fun _ _ _ h => h) (Or.inl ⟨by rfl, ?hq32⟩) trivial ?rq32
      case hq32 =>
        intro w hSw
        go_simp
        try with_reducible rfl
      (try simp only [Act.put, List.setIfInBounds_toArray, List.set_cons_zero, List.set_cons_succ, List.getElem_toArray, List.getElem_cons_zero, List.getElem_cons_succ])
      refine wpAnyH_take (i := 14) (v := ?vq33) rfl (by kernel_rfl) (by kernel_rfl) (by kernel_rfl) (fun _ _ _ h => h) (Or.inl ⟨by rfl, ?hq33⟩) trivial ?rq33
      case hq33 =>
        intro w hSw
        go_simp
        try with_reducible rfl
      (try simp only [Act.put, List.setIfInBounds_toArray, List.set_cons_zero, List.set_cons_succ, List.getElem_toArray, List.getElem_cons_zero, List.getElem_cons_succ])
      refine wpAnyH_take (i := 15) (v := ?vq34) rfl (by kernel_rfl) (by kernel_rfl) (by kernel_rfl) (fun _ _ _ h => h) (Or.inl ⟨by rfl, ?hq34⟩) trivial ?rq34
      case hq34 =>
        intro w hSw
        go_simp
        try with_reducible rfl
      (try simp only [Act.put, List.setIfInBounds_toArray, List.set_cons_zero, List.set_cons_succ, List.getElem_toArray, List.getElem_cons_zero, List.getElem_cons_succ])
      refine wpAnyH_take (i := 16) (v := ?vq35) rfl (by kernel_rfl) (by kernel_rfl) (by kernel_rfl) (fun _ _ _ h => h) (Or.inl ⟨by rfl, ?hq35⟩) trivial ?rq35
      case hq35 =>
        intro w hSw
        go_simp
        try with_reducible rfl
      (try simp only [Act.put, List.setIfInBounds_toArray, List.set_cons_zero, List.set_cons_succ, List.getElem_toArray, List.getElem_cons_zero, List.getElem_cons_succ])
      refine wpAnyH_ready (rs := [17]) (by kernel_rfl) (by simp) ?_
      refine AllReadyH.cons rfl (fun K hK => ?_) AllReadyH.nil
      go_simp
      refine (HP2.out _ h4).mono ?_
      rintro e v5 ⟨rfl, h5, k5⟩
      (try go_wp2_with fail)
      refine hK.out _ _ trivial (fun _ => ?_)
      clear hK
      (try simp only [Act.put, List.setIfInBounds_toArray, List.set_cons_zero, List.set_cons_succ, List.getElem_toArray, List.getElem_cons_zero, List.getElem_cons_succ])
      refine wpAnyH_take (i := 18) (v := ?vq36) rfl (by kernel_rfl) (by kernel_rfl) (by kernel_rfl) (fun _ _ _ h => h) (Or.inl ⟨by rfl, ?hq36⟩) trivial ?rq36
      case hq36 =>
        intro w hSw
        go_simp
        try with_reducible rfl
      (try simp only [Act.put, List.setIfInBounds_toArray, List.set_cons_zero, List.set_cons_succ, List.getElem_toArray, List.getElem_cons_zero, List.getElem_cons_succ])
      refine wpAnyH_take (i := 19) (v := ?vq37) rfl (by kernel_rfl) (by kernel_rfl) (by kernel_rfl) (fun _ _ _ h => h) (Or.inl ⟨by rfl, ?hq37⟩) trivial ?rq37
      case hq37 =>
        intro w hSw
        go_simp
        try with_reducible rfl
      (try simp only [Act.put, List.setIfInBounds_toArray, List.set_cons_zero, List.set_cons_succ, List.getElem_toArray, List.getElem_cons_zero, List.getElem_cons_succ])
      refine wpAnyH_done (by kernel_rfl) ?_ _
      refine NoPanic.normal ?_
      go_wp2_with fail
      go_ret
      exact HR.out _ _ rfl h5 (((K2.out.drewN 1).trans k4).trans k5)

end Go.Proofs.Ytjjmcnippjpclaa
