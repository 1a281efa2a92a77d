/-
  The walk of Do, for a patch that may be.
-/
import Derived.Test.YtjjmcnippjpclaaGoOn
namespace Go.Proofs.Ytjjmcnippjpclaa

open Go.RowKit

theorem jn_whole : ∀ (f : Nat) (l : List UInt8) (j : Dp.Jn), (Dp.jn f l j).whole ≤ j.whole + l.length := by
  intro f
  induction f with
  | zero => intro l j; simp [Dp.jn]
  | succ f ih =>
    intro l j
    simp only [Dp.jn]
    cases h : Dp.tk l with
    | none => simp
    | some p =>
      obtain ⟨r, c⟩ := p
      have hc := Dp.tk_pos h
      have h1 := ih (l.drop c) (j.take r c)
      have h2 : (j.take r c).whole = j.whole + c := by cases r <;> rfl
      rw [List.length_drop] at h1
      dsimp only
      omega

theorem jrn_whole (l : List UInt8) : (Dp.jrn l).whole ≤ l.length := by
  have := jn_whole l.length l .zero
  have e : Dp.Jn.zero.whole = 0 := rfl
  unfold Dp.jrn
  omega

def isBegun (j : Dp.Jn) : Bool := decide (j.patch ≠ []) && !j.done

/-- a patch that is begun, or begins now, goes on. -/
def pDo2 (z : Dp.Dv) (j : Dp.Jn) (patch : List UInt8) (OL NL : Nat) (OS NS : ByteArray) (st : List Pl.St) (E : Nat) : Int × Dp.Dv :=
  if isBegun j = true then Dp.pGoOn z j.next NL NS (min E j.next.length)
  else if (pBegin z patch OL OS st NL).1 = 0 then Dp.pGoOn (pBegin z patch OL OS st NL).2 (doneB st ⟨(z.text.take OL).toArray⟩ NL) NL NS (min E (doneB st ⟨(z.text.take OL).toArray⟩ NL).length)
  else pBegin z patch OL OS st NL

/-- what Do answers, and what it leaves. -/
def pDo (x : Dp.Dv) (patch : List UInt8) (OL NL : Nat) (OS NS : ByteArray) (st : List Pl.St) (E : Nat) : Int × Dp.Dv :=
  if x.life = 0 then (7, x)
  else match Dp.pCut x (Dp.jrn x.log).whole with
    | (false, y) => (7, y)
    | (true, y) =>
      if (Dp.jrn x.log).patch = patch ∧ (Dp.jrn x.log).done = true then (0, y)
      else if (Dp.jrn x.log).patch ≠ patch ∧ isBegun (Dp.jrn x.log) = true then (4, y)
      else if y.text.length < max OL NL then (4, y)
      else match Dp.pSyncText y with
        | (false, z) => (7, z)
        | (true, z) => pDo2 z (Dp.jrn x.log) patch OL NL OS NS st E

/-- the end of the first block that changes, where Do goes on. -/
def DE (x : Dp.Dv) (patch : List UInt8) (OL NL : Nat) (OS : ByteArray) (st : List Pl.St) : Nat :=
  if isBegun (Dp.jrn x.log) = true then endE (Dp.pSyncText (Dp.pCut x (Dp.jrn x.log).whole).2).2 (Dp.jrn x.log).next
  else endE (pBegin (Dp.pSyncText (Dp.pCut x (Dp.jrn x.log).whole).2).2 patch OL OS st NL).2 (doneB st ⟨((Dp.pSyncText (Dp.pCut x (Dp.jrn x.log).whole).2).2.text.take OL).toArray⟩ NL)

theorem kept4.to3 {J D : Nat} {T S : Option Nat} {a b : World} (h : kept4 J D T S a b) (hJ : a.heap.size ≤ J) : kept3 D T S a b := ⟨h.os, h.tape, h.output, h.size, fun k hk h1 h2 h3 => h.block k hk (by omega) h1 h2 h3⟩

theorem kept4.after {J D : Nat} {T S : Option Nat} {a b c : World} (h : kept3 D T S a b) (hJ : a.heap.size ≤ J) (k : kept4 J D T S b c) : kept3 D T S a c := kept4.to3 ((kept4.of3 (J := J) h).trans k) hJ

theorem own_slice2 {u : World} {B : Nat} {v : Value} {st : List Pl.St} {n : Nat} (h : u.ownsRow B 40 5 v n (stCells st)) (hn : st.length = n) (h0 : 0 < u.heap.size) : ∃ a b o c, v = .slice a st.length c ∧ stepsAt u a b o st ∧ (st = [] ∨ B ≤ b) := by
  obtain ⟨a, b, o, c, h1, h2, h3⟩ := own_slice h hn h0
  refine ⟨a, b, o, c, h1, h2, ?_⟩
  rcases h.2 with ⟨_, hz⟩ | ⟨g, cap, cur, hv, hB, _⟩
  · exact .inl (List.eq_nil_of_length_eq_zero (by omega))
  · rcases h2.1 with hl | ha
    · exact .inl hl
    · rw [h1, ha] at hv
      obtain ⟨rfl, _⟩ : b = g ∧ True := by simp at hv; exact ⟨hv.1.1, trivial⟩
      exact .inr hB

theorem stepsAt_keep {w v : World} {a : Option Addr} {b o : Nat} {st : List Pl.St} (h : stepsAt w a b o st) (hs : w.heap.size ≤ v.heap.size) (hb : st = [] ∨ v.heap[b]? = w.heap[b]?) : stepsAt v a b o st := by
  refine ⟨h.1, Nat.lt_of_lt_of_le h.2.1 hs, fun i s hi => ?_⟩
  rcases hb with rfl | hb
  · simp at hi
  · obtain ⟨c0, c1, c2, c3, c4⟩ := h.2.2 i s hi
    exact ⟨by rw [World.cell?_of_block hb]; exact c0, by rw [World.cell?_of_block hb]; exact c1, by rw [World.cell?_of_block hb]; exact c2, by rw [World.cell?_of_block hb]; exact c3, by rw [World.cell?_of_block hb]; exact c4⟩

theorem nil_iff (l : List UInt8) : decide ((⟨l.toArray⟩ : ByteArray).size ≠ 0) = decide (l ≠ []) := by
  rw [strSize]
  cases l <;> simp

/-- what is held of a plan in memory, behind the calls of a device. -/
structure planAt (X : Nat) (OL NL : Nat) (OS NS : ByteArray) (a : Option Addr) (b o c : Nat) (st : List Pl.St) (w : World) : Prop where
  box : w.heap[X]? = some (.cells #[.int .i64 OL, .int .i64 NL, .string OS, .string NS, .slice a st.length c] 31 (0, 0))
  steps : stepsAt w a b o st

theorem planAt.keep {X OL NL : Nat} {OS NS : ByteArray} {a : Option Addr} {b o c : Nat} {st : List Pl.St} {w v : World} {D : Nat} {T S : Option Nat} (h : planAt X OL NL OS NS a b o c st w) (k : kept3 D T S w v) (hX : X ≠ D ∧ some X ≠ T ∧ some X ≠ S) (hb : st = [] ∨ (b ≠ D ∧ some b ≠ T ∧ some b ≠ S)) : planAt X OL NL OS NS a b o c st v :=
  ⟨by rw [k.block X (Array.getElem?_eq_some_iff.1 h.box).1 hX.1 hX.2.1 hX.2.2]; exact h.box, stepsAt_keep h.steps k.size (hb.imp id fun hb => k.block b h.steps.2.1 hb.1 hb.2.1 hb.2.2)⟩

theorem planAt.below {X OL NL : Nat} {OS NS : ByteArray} {a : Option Addr} {b o c : Nat} {st : List Pl.St} {w v : World} (h : planAt X OL NL OS NS a b o c st w) (k : Below w.heap.size w v) : planAt X OL NL OS NS a b o c st v :=
  ⟨by rw [k.block X (Array.getElem?_eq_some_iff.1 h.box).1]; exact h.box, stepsAt_below h.steps k h.steps.2.1⟩

/-- what begin leaves as it was. -/
theorem begin_keep (z : Dp.Dv) (P : List UInt8) (OL : Nat) (OS : ByteArray) (st : List Pl.St) (NL : Nat) (hP : P.length ≤ 2147483647) (hN : NL ≤ 2147483647) (hts : z.text.length = z.safe.length) (hl : lifeOk z) :
    (pBegin z P OL OS st NL).2.text.length = z.text.length ∧ (pBegin z P OL OS st NL).2.safe.length = z.text.length ∧ (pBegin z P OL OS st NL).2.log.length ≤ z.log.length + (20 + P.length + NL) ∧ lifeOk (pBegin z P OL OS st NL).2 := by
  unfold pBegin
  cases Dp.pRead z OL with
  | none => exact ⟨rfl, hts.symm, Nat.le_add_right _ _, hl⟩
  | some t =>
    dsimp only
    split
    · have h1 : (Dp.enc (some (P, doneB st ⟨t.toArray⟩ NL))).length ≤ 20 + P.length + NL := by
        have hd : (doneB st ⟨t.toArray⟩ NL).length = NL := by simp [doneB]
        have h1 := Pl.num_len5 P.length hP
        have h2 := Pl.num_len5 NL hN
        simp only [Dp.enc, List.length_cons, List.length_append, Dp.nb, hd]
        omega
      generalize Dp.enc (some (P, doneB st ⟨t.toArray⟩ NL)) = R at *
      have h2 : (Dp.pLay z R).2.text.length = z.text.length ∧ (Dp.pLay z R).2.safe.length = z.text.length ∧ (Dp.pLay z R).2.log.length ≤ z.log.length + R.length ∧ lifeOk (Dp.pLay z R).2 := by
        unfold Dp.pLay
        have hlo := lifeOk_log hl R
        unfold Dp.pLog at *
        split
        · exact ⟨rfl, hts.symm, by simp [Dp.andB], hl⟩
        · rename_i h0
          rw [if_neg h0] at hlo
          have hlo2 := lifeOk_syncLog hlo
          refine ⟨?_, ?_, ?_, hlo2⟩ <;> (simp only [Dp.andB, Dp.pSyncLog]; split <;> simp [Dp.Dv.on, hts])
      generalize Dp.pLay z R = r at *
      obtain ⟨b, y⟩ := r
      cases b <;> exact ⟨h2.1, h2.2.1, by have := h2.2.2.1; dsimp only at *; omega, h2.2.2.2⟩
    · exact ⟨rfl, hts.symm, Nat.le_add_right _ _, hl⟩

set_option maxRecDepth 100000 in
set_option maxHeartbeats 4000000 in
theorem do_det (D : Nat) (tv sv : Value) (x : Dp.Dv) (s : ByteArray) (w : World) (hs : s.size ≤ 40000000) (hE : pErr s = 0) (hts : x.text.length = x.safe.length) (hm : x.text.length ≤ 140737488355328) (hsz : x.log.length ≤ 4611686017900000000) (hnx : (Dp.jrn x.log).next.length ≤ 1000000)
    (h : Hid (devAt D tv sv x w)) (hl : Hid (lifeOk x)) :
    Calls Try.prog 27 #[.pointer (some ⟨D, 0, none⟩), .string s] w fun e w' => ∃ E, E = DE x s.data.toList (hOL s) (hNL s) (hOS s) (pSt s) ∧ e = .returned (.int .i64 (pDo x s.data.toList (hOL s) (hNL s) (hOS s) (hNS s) (pSt s) E).1) ∧ devAt D tv sv (pDo x s.data.toList (hOL s) (hNL s) (hOS s) (hNS s) (pSt s) E).2 w' ∧ kept3 D tv.ownBlock sv.ownBlock w w' := by
  have HRP := readP_any s w (by omega)
  have hfull : Pl.full (hOL s) (hNL s) (hOS s) (hNS s) (pSt s) = true := by
    unfold pErr at hE
    split at hE
    · rename_i hc; simp only [Bool.and_eq_true] at hc; exact hc.2
    · cases hE
  obtain ⟨hO4', hN4', hst2, hok⟩ := full_specs hfull
  have hO4 : hOL s ≤ 4000 := by omega
  have hN4 : hNL s ≤ 4000 := by omega
  have HOK : Hid (∀ q ∈ pSt s, Pl.ok (hOL s) (hNL s) q = true) := hok
  have HLen0 : Hid ((pSt s).length = hN s) := stepsV_length _ _ _
  clear hO4' hN4' hok hfull
  generalize hNn : hN s = NN at *
  generalize hOL s = OL at *
  generalize hNL s = NL at *
  generalize hOS s = OS at *
  generalize hNS s = NS at *
  generalize pSt s = st at *
  have hjw := jrn_whole x.log
  have HPD : Hid (∀ E, pDo x s.data.toList OL NL OS NS st E = if x.life = 0 then (7, x)
    else match Dp.pCut x (Dp.jrn x.log).whole with
      | (false, y) => (7, y)
      | (true, y) =>
        if (Dp.jrn x.log).patch = s.data.toList ∧ (Dp.jrn x.log).done = true then (0, y)
        else if (Dp.jrn x.log).patch ≠ s.data.toList ∧ isBegun (Dp.jrn x.log) = true then (4, y)
        else if y.text.length < max OL NL then (4, y)
        else match Dp.pSyncText y with
          | (false, z) => (7, z)
          | (true, z) => pDo2 z (Dp.jrn x.log) s.data.toList OL NL OS NS st E) := fun E => rfl
  obtain ⟨dE, hdE⟩ : ∃ d, d = DE x s.data.toList OL NL OS st := ⟨_, rfl⟩
  have HD1 : Hid (isBegun (Dp.jrn x.log) = true → dE = endE (Dp.pSyncText (Dp.pCut x (Dp.jrn x.log).whole).2).2 (Dp.jrn x.log).next) := fun h => by rw [hdE]; unfold DE; rw [if_pos h]
  have HD2 : Hid (isBegun (Dp.jrn x.log) = false → dE = endE (pBegin (Dp.pSyncText (Dp.pCut x (Dp.jrn x.log).whole).2).2 s.data.toList OL OS st NL).2 (doneB st ⟨((Dp.pSyncText (Dp.pCut x (Dp.jrn x.log).whole).2).2.text.take OL).toArray⟩ NL)) := fun h => by rw [hdE]; unfold DE; rw [if_neg (by rw [h]; decide)]
  rw [← hdE]
  clear hdE
  generalize hFF : (fun E => pDo x s.data.toList OL NL OS NS st E) = F
  have HFa : Hid (∀ E, pDo x s.data.toList OL NL OS NS st E = F E) := fun E => by rw [← hFF]
  have HPD2 : Hid _ := fun E => (HFa.out E).symm.trans (HPD.out E)
  have hgoal : (fun (e : Ending) (w' : World) => ∃ E, E = dE ∧ e = .returned (.int .i64 (pDo x s.data.toList OL NL OS NS st E).1) ∧ devAt D tv sv (pDo x s.data.toList OL NL OS NS st E).2 w' ∧ kept3 D tv.ownBlock sv.ownBlock w w') = fun e w' => ∃ E, E = dE ∧ e = .returned (.int .i64 (F E).1) ∧ devAt D tv sv (F E).2 w' ∧ kept3 D tv.ownBlock sv.ownBlock w w' := by
    rw [← hFF]
  rw [hgoal]
  clear hgoal HPD HFa hFF
  have hD := h.out.lt
  have hTl := fun k hk => h.out.text.lt (k := k) hk
  have hSl := fun k hk => h.out.safe.lt (k := k) hk
  go_enter Try.func27, Try.ntmps27
  go_wp2_with fail
  refine HRP.mono ?_
  rintro e v1 ⟨b1, ⟨hne, _⟩ | ⟨-, sl, rfl, hown⟩⟩
  · exact absurd hE hne
  obtain ⟨a, b, o, c, rfl, hstp, hbB⟩ := own_slice2 hown HLen0.out (by have := b1.size; omega)
  have hs1 := b1.size
  have BX := (Below.refl v1.heap.size v1).alloc (Nat.le_refl _) (Obj.cells #[.int .i64 OL, .int .i64 NL, .string OS, .string NS, .slice a st.length c] 31)
  have PL2 : Hid (planAt v1.heap.size OL NL OS NS a b o c st (v1.alloc (Obj.cells #[.int .i64 OL, .int .i64 NL, .string OS, .string NS, .slice a st.length c] 31))) := ⟨heap_alloc_new v1 _, stepsAt_below hstp BX hstp.2.1⟩
  have B2 : Hid (Below w.heap.size w (v1.alloc (Obj.cells #[.int .i64 OL, .int .i64 NL, .string OS, .string NS, .slice a st.length c] 31))) := b1.alloc hs1 _
  have z2 : (v1.alloc (Obj.cells #[.int .i64 OL, .int .i64 NL, .string OS, .string NS, .slice a st.length c] 31)).heap.size = v1.heap.size + 1 := by simp
  have hbB2 : st = [] ∨ w.heap.size ≤ b := hbB
  clear hown BX hstp hbB b1 HRP
  go_wp2_with fail
  generalize v1.alloc (Obj.cells #[.int .i64 OL, .int .i64 NL, .string OS, .string NS, .slice a st.length c] 31) = v2 at *
  generalize hX : v1.heap.size = X at *
  clear hX
  have H2 : Hid (devAt D tv sv x v2) := h.out.below B2.out
  refine (readLog_any D tv sv x v2 H2).mono ?_
  rintro e v3 ⟨rfl, q, h0⟩
  rw [h0]
  clear h0 v3
  by_cases hlf : x.life = 0
  · have HF : Hid (∀ E, F E = (7, x)) := fun E => by rw [HPD2.out E, if_pos hlf]
    rw [decide_eq_false (by simpa using hlf)]
    go_wp2_with fail
    go_ret
    exact ⟨dE, rfl, by rw [HF.out]; rfl, by rw [HF.out]; exact H2.out.drewN _, (kept3.of_below B2.out).drewN _⟩
  rw [decide_eq_true (by simpa using hlf)]
  have HF0 : Hid _ := fun E => (HPD2.out E).trans (if_neg hlf)
  clear HPD2 hlf
  go_wp2_with fail
  refine (readJournal_any ⟨x.log.toArray⟩ (v2.drewN q) (by rw [strSize]; unfold maxLen; omega)).mono ?_
  rintro e v4 ⟨rfl, j4, b4⟩
  rw [show (ByteArray.mk x.log.toArray).data.toList = x.log by simp] at j4
  have z4 : (v2.drewN q).heap.size = X + 1 := z2
  rw [z4] at j4 b4
  have b4' : Below v2.heap.size v2 v4 := ⟨b4.os, b4.tape, b4.output, b4.size, fun k hk => b4.block k (by omega)⟩
  have H4 : Hid (devAt D tv sv x v4) := H2.out.below b4'
  have PL4 : Hid (planAt X OL NL OS NS a b o c st v4) := PL2.out.below b4'
  have K4 : Hid (kept3 D tv.ownBlock sv.ownBlock w v4) := (kept3.of_below B2.out).trans (.of_below b4')
  generalize hjj : Dp.jrn x.log = j at *
  obtain ⟨PJ, hPJ⟩ : ∃ PJ : ByteArray, PJ = ⟨j.patch.toArray⟩ := ⟨_, rfl⟩
  obtain ⟨NJ, hNJe⟩ : ∃ NJ : ByteArray, NJ = ⟨j.next.toArray⟩ := ⟨_, rfl⟩
  obtain ⟨J, hJe⟩ : ∃ J, J = X + 1 := ⟨_, rfl⟩
  have J4 : Hid (jrnAt J PJ NJ j.done j.whole v4) := by rw [hPJ, hNJe, hJe]; exact j4
  have hNJ : NJ.size ≤ 1000000 := by rw [hNJe, strSize]; exact hnx
  have HNJ : Hid (j.next = NJ.data.toList) := by show _ = _; rw [hNJe]
  have HIB : Hid ((decide (PJ.size ≠ 0) && !j.done) = isBegun j) := by show _ = _; rw [hPJ, nil_iff]; rfl
  have HPE : Hid (PJ = s ↔ j.patch = s.data.toList) := by
    rw [hPJ]
    exact ⟨fun e => by rw [← e], fun e => by rw [e]⟩
  have HXA : Hid (X ≠ D ∧ some X ≠ tv.ownBlock ∧ some X ≠ sv.ownBlock) := ⟨by omega, fun e => by have := hTl _ e.symm; omega, fun e => by have := hSl _ e.symm; omega⟩
  have HBA : Hid (st = [] ∨ (b ≠ D ∧ some b ≠ tv.ownBlock ∧ some b ≠ sv.ownBlock)) := hbB2.imp id fun hb => ⟨by omega, fun e => by have := hTl _ e.symm; omega, fun e => by have := hSl _ e.symm; omega⟩
  have HAP : Hid (apart J D tv sv) := ⟨by omega, fun e => by have := hTl _ e.symm; omega, fun e => by have := hSl _ e.symm; omega⟩
  have HJB : Hid (w.heap.size ≤ J) := by show _ ≤ _; omega
  have HXJ : Hid (X ≠ J) := by show _ ≠ _; omega
  have hptr : Value.pointer (some ⟨(v2.drewN q).heap.size, 0, none⟩) = Value.pointer (some ⟨J, 0, none⟩) := by rw [z4, hJe]
  rw [hptr]
  clear hptr hPJ hNJe hJe hjj j4 b4 b4' H2 PL2 z2 z4 hbB2 B2 hTl hSl hD hs1 hnx
  have HLC := lifeOk_cut hl.out j.whole
  have HSe := secure_any D tv sv x J PJ NJ j.done j.whole v4 hjw H4 hl J4
  have hyk0 : ∀ y, (Dp.pCut x j.whole).2 = y → y.text.length = x.text.length ∧ y.safe.length = x.safe.length ∧ y.log.length ≤ x.log.length := by
    rintro y rfl
    unfold Dp.pCut
    split
    · exact ⟨rfl, rfl, Nat.le_refl _⟩
    · exact ⟨rfl, rfl, by simp; omega⟩
  generalize hwhh : j.whole = wh at *
  generalize hdjj : j.done = dj at *
  generalize Dp.pCut x wh = r at *
  obtain ⟨by1, y⟩ := r
  have hyk := hyk0 y rfl
  have HLY : Hid (lifeOk y) := HLC
  clear hyk0 HLC
  cases by1 with
  | false =>
    have HF : Hid (∀ E, F E = (7, y)) := HF0.out
    go_wp2_with fail
    refine HSe.mono ?_
    rintro e v5 ⟨rfl, h5, k5⟩
    go_wp2_with fail
    go_ret
    exact ⟨dE, rfl, by rw [HF.out]; rfl, by rw [HF.out]; exact h5, K4.out.trans k5⟩
  | true =>
    go_wp2_with fail
    refine HSe.mono ?_
    rintro e v5 ⟨rfl, h5, k5⟩
    have H5 : Hid (devAt D tv sv y v5) := h5
    have K5 : Hid (kept3 D tv.ownBlock sv.ownBlock w v5) := K4.out.trans k5
    have J5 : Hid (jrnAt J PJ NJ dj wh v5) := J4.out.kept HAP.out k5
    have PL5 : Hid (planAt X OL NL OS NS a b o c st v5) := PL4.out.keep k5 HXA.out HBA.out
    clear h5 k5 H4 K4 J4 PL4 HSe
    obtain ⟨j0, -, j2, -, -⟩ := J5.out.cells
    by_cases hpe : PJ = s
    · have hpl := HPE.out.1 hpe
      have hbe : (PJ.toList == s.toList) = true := by rw [hpe]; simp
      clear hpe
      cases dj with
      | true =>
        have HF : Hid (∀ E, F E = (0, y)) := fun E => by
          have := HF0.out E
          simp only [hpl, true_and, if_true] at this
          exact this
        go_wp2_with fail
        go_ret
        exact ⟨dE, rfl, by rw [HF.out]; rfl, by rw [HF.out]; exact H5.out, K5.out⟩
      | false =>
        have HF : Hid (∀ E, F E = if y.text.length < max OL NL then (4, y)
          else match Dp.pSyncText y with
            | (false, z) => (7, z)
            | (true, z) => pDo2 z j s.data.toList OL NL OS NS st E) := fun E => by
          have := HF0.out E
          simpa only [hpl, ne_eq, not_true, false_and, if_false, and_false, Bool.false_eq_true] using this
        clear HF0 hpl
        obtain ⟨dj, hdj⟩ : ∃ d, d = false := ⟨_, rfl⟩
        rw [← hdj] at J5 HIB
        clear hdj
        have HLen := fun v hv => len_any D tv sv y v hv
        have hyl : y.text.length = x.text.length ∧ y.safe.length = x.safe.length ∧ y.log.length ≤ x.log.length := hyk
        have c50 : v5.cell? ⟨X, 0, none⟩ = some (.int .i64 OL) := by rw [Lib.cell_of_heap PL5.out.box]; rfl
        have c51 : v5.cell? ⟨X, 1, none⟩ = some (.int .i64 NL) := by rw [Lib.cell_of_heap PL5.out.box]; rfl
        have HLq : Hid (∀ v, v.heap = v5.heap → Calls Try.prog 49 #[.pointer (some ⟨D, 0, none⟩)] v fun e w' => e = .returned (.int .i64 (y.text.length : Nat)) ∧ w' = v) := fun v hv => len_any D tv sv y v (H5.out.of_blocks fun k _ _ => by rw [hv])
        obtain ⟨M, hM, hM2⟩ : ∃ M : Nat, max (OL : Int) (NL : Int) = (M : Int) ∧ max OL NL = M := ⟨max OL NL, by omega, rfl⟩
        by_cases hlen : y.text.length < M
        · have HF' : Hid (∀ E, F E = (4, y)) := fun E => by rw [HF.out E]; simp only [hM2, if_pos hlen]
          generalize y.text.length = yl at *
          have d1 : decide ((yl : Int) < (M : Int)) = true := decide_eq_true (by omega)
          go_wp2_with fail
          go_quiet ((go_at_call 49; refine Calls.quiet_of_same (HLq.out _ rfl)))
          go_wp2_with fail
          go_ret
          exact ⟨dE, rfl, by rw [HF'.out]; rfl, by rw [HF'.out]; exact H5.out.drewN _, K5.out.drewN _⟩
        · have HF' : Hid (∀ E, F E = match Dp.pSyncText y with
            | (false, z) => (7, z)
            | (true, z) => pDo2 z j s.data.toList OL NL OS NS st E) := fun E => by rw [HF.out E]; simp only [hM2, if_neg hlen]
          have HSy := fun v hv => syncText_any D tv sv y v (by omega) hv HLY
          have hyt := hyl.1
          have hzk : ∀ z, (Dp.pSyncText y).2 = z → z.text.length = y.text.length ∧ z.safe.length = z.text.length ∧ z.log = y.log ∧ lifeOk z ∧ z.text = y.text := by
            rintro z rfl
            have hlo := lifeOk_syncText HLY.out
            refine ⟨?_, ?_, ?_, hlo, ?_⟩ <;> (unfold Dp.pSyncText; split <;> first | rfl | (simp only; omega))
          generalize hyT : y.text.length = yl at *
          have HYT : Hid (y.text.length = yl) := hyT
          clear hyT
          have d1 : decide ((yl : Int) < (M : Int)) = false := decide_eq_false (by omega)
          generalize Dp.pSyncText y = r at *
          obtain ⟨bz, z⟩ := r
          obtain ⟨hz1, hz2, hz3, hz4, hz5⟩ := hzk z rfl
          have HD1' : Hid (isBegun j = true → dE = endE z j.next) := HD1.out
          have HD2' : Hid (isBegun j = false → dE = endE (pBegin z s.data.toList OL OS st NL).2 (doneB st ⟨(z.text.take OL).toArray⟩ NL)) := HD2.out
          clear HD1 HD2
          have hzl : z.log.length = y.log.length := by rw [hz3]
          go_wp2_with fail
          go_quiet ((go_at_call 49; refine Calls.quiet_of_same (HLq.out _ rfl)))
          have H6 : Hid (devAt D tv sv y (v5.drewN nq)) := H5.out.drewN _
          have K6 : Hid (kept3 D tv.ownBlock sv.ownBlock w (v5.drewN nq)) := K5.out.drewN _
          have J6 : Hid (jrnAt J PJ NJ dj wh (v5.drewN nq)) := J5.out
          have PL6 : Hid (planAt X OL NL OS NS a b o c st (v5.drewN nq)) := ⟨PL5.out.box, stepsAt_keep PL5.out.steps (Nat.le_refl _) (.inr rfl)⟩
          clear H5 K5 J5 PL5 HLq HLen c50 c51
          generalize v5.drewN nq = v6 at *
          cases bz with
          | false =>
            go_wp2_with fail
            refine (HSy v6 H6).mono ?_
            rintro e v7 ⟨rfl, h7, k7⟩
            go_wp2_with fail
            go_ret
            exact ⟨dE, rfl, by rw [HF'.out]; rfl, by rw [HF'.out]; exact h7, K6.out.trans k7⟩
          | true =>
            go_wp2_with fail
            refine (HSy v6 H6).mono ?_
            rintro e v7 ⟨rfl, h7, k7⟩
            have H7 : Hid (devAt D tv sv z v7) := h7
            have K7 : Hid (kept3 D tv.ownBlock sv.ownBlock w v7) := K6.out.trans k7
            have J7 : Hid (jrnAt J PJ NJ dj wh v7) := J6.out.kept HAP.out k7
            have PL7 : Hid (planAt X OL NL OS NS a b o c st v7) := PL6.out.keep k7 HXA.out HBA.out
            clear h7 k7 H6 K6 J6 PL6
            have HBg := begun_any J PJ NJ dj wh v7 J7
            have hBB : (decide (PJ.size ≠ 0) && !dj) = isBegun j := HIB.out
            rw [hBB] at HBg
            clear hBB
            have c70 := box31 PL7.out.box
            obtain ⟨p0, p1, p2, p3, p4, _⟩ := c70
            cases hB : isBegun j with
            | true =>
              rw [hB] at HBg
              have HG := goOn_any D tv sv z J PJ NJ dj wh OL NL OS NS (.slice a st.length c) NL v7 rfl hN4 hNJ (by omega) (by omega) (by rw [hz3]; omega) H7 hz4 J7 HAP
              have HF3 : Hid (∀ E, isE z NJ E → F E = Dp.pGoOn z NJ.data.toList NL NS E) := fun E hE => by
                rw [HF'.out E]
                simp only [pDo2, if_pos hB]
                rw [HNJ.out, data_len, Nat.min_eq_left hE.1]
              go_wp2_with fail
              refine HBg.mono ?_
              rintro e v8 ⟨rfl, h0⟩
              rw [h0]
              clear h0 v8
              go_wp2_with fail
              refine HG.mono ?_
              rintro e v9 ⟨E, hE, rfl, h9, k9⟩
              go_wp2_with fail
              go_ret
              exact ⟨E, by rw [HD1'.out hB, HNJ.out]; exact hE.2, by rw [HF3.out E hE]; rfl, by rw [HF3.out E hE]; exact h9, kept4.after K7.out HJB.out k9⟩
            | false =>
              rw [hB] at HBg
              have HBf : Hid (isBegun j = false) := hB
              have HBe := begin_any D tv sv z J PJ NJ dj wh s OL NL OS NS a b o c st v7 hO4 hN4 hst2 hs (by omega) (by rw [hz3]; omega) PL7.out.steps HOK H7 hz4 J7 HAP
              have HF3 : Hid (∀ E, F E = if (pBegin z s.data.toList OL OS st NL).1 = 0 then Dp.pGoOn (pBegin z s.data.toList OL OS st NL).2 (doneB st ⟨(z.text.take OL).toArray⟩ NL) NL NS (min E (doneB st ⟨(z.text.take OL).toArray⟩ NL).length)
                else pBegin z s.data.toList OL OS st NL) := fun E => by
                rw [HF'.out E]
                simp only [pDo2, hB]
                rfl
              have hbk := begin_keep z s.data.toList OL OS st NL (by rw [data_len]; omega) (by omega) (hz2.symm) hz4
              have hdl : (doneB st ⟨(z.text.take OL).toArray⟩ NL).length = NL := by simp [doneB]
              generalize pBegin z s.data.toList OL OS st NL = R at *
              obtain ⟨re, u⟩ := R
              generalize hNX : doneB st ⟨(z.text.take OL).toArray⟩ NL = NXl at *
              dsimp only at hbk HBe
              by_cases hre : re = 0
              · subst hre
                have HG := fun v hv hjj => goOn_any D tv sv u J s ⟨NXl.toArray⟩ false wh OL NL OS NS (.slice a st.length c) NL v rfl hN4 (by rw [strSize]; omega) (by omega) (by omega) (by have := data_len s; have := hbk.2.2.1; omega) hv hbk.2.2.2 hjj HAP
                have HF4 : Hid (∀ E, isE u ⟨NXl.toArray⟩ E → F E = Dp.pGoOn u (⟨NXl.toArray⟩ : ByteArray).data.toList NL NS E) := fun E hE => by
                  have hE1 := hE.1
                  rw [strSize] at hE1
                  rw [HF3.out E]
                  simp only [if_true]
                  rw [Nat.min_eq_left hE1]
                have HGH : Hid _ := HG
                clear HG
                go_wp2_with fail
                refine HBg.mono ?_
                rintro e v8 ⟨rfl, h0⟩
                rw [h0]
                clear h0 v8
                go_wp2_with fail
                refine HBe.mono ?_
                rintro e v8 ⟨rfl, h8, j8, k8⟩
                have PB8 : v8.heap[X]? = some (.cells #[.int .i64 OL, .int .i64 NL, .string OS, .string NS, .slice a st.length c] 31 (0, 0)) := by
                  rw [k8.block X (Array.getElem?_eq_some_iff.1 PL7.out.box).1 HXJ.out HXA.out.1 HXA.out.2.1 HXA.out.2.2]; exact PL7.out.box
                clear p0 p1 p2 p3 p4
                obtain ⟨p0, p1, p2, p3, p4, _⟩ := box31 PB8
                have J8 : Hid (jrnAt J s ⟨NXl.toArray⟩ false wh v8) := j8 trivial
                have H8 : Hid (devAt D tv sv u v8) := h8
                have K8 : Hid (kept3 D tv.ownBlock sv.ownBlock w v8) := kept4.after K7.out HJB.out k8
                clear h8 j8 k8 PB8
                go_wp2_with fail
                refine (HGH.out v8 H8 J8).mono ?_
                rintro e v9 ⟨E, hE, rfl, h9, k9⟩
                go_wp2_with fail
                go_ret
                exact ⟨E, by rw [HD2'.out HBf.out]; exact hE.2, by rw [HF4.out E hE]; rfl, by rw [HF4.out E hE]; exact h9, kept4.after K8.out HJB.out k9⟩
              · have d5 : (re == 0) = false := by simpa using hre
                have d6 : (re != 0) = true := by simpa using hre
                have HF4 : Hid (∀ E, F E = (re, u)) := fun E => by rw [HF3.out E]; simp only [if_neg hre]
                go_wp2_with fail
                refine HBg.mono ?_
                rintro e v8 ⟨rfl, h0⟩
                rw [h0]
                clear h0 v8
                go_wp2_with fail
                refine HBe.mono ?_
                rintro e v8 ⟨rfl, h8, j8, k8⟩
                clear j8
                go_wp2_with fail
                go_ret
                exact ⟨dE, rfl, by rw [HF4.out]; rfl, by rw [HF4.out]; exact h8, kept4.after K7.out HJB.out k8⟩
    · have hpl : ¬ j.patch = s.data.toList := fun e => hpe (HPE.out.2 e)
      have hbn := bne_of hpe
      have HBg := begun_any J PJ NJ dj wh v5 J5
      rw [HIB.out] at HBg
      cases hB : isBegun j with
      | true =>
        have HF : Hid (∀ E, F E = (4, y)) := fun E => by
          have := HF0.out E
          simpa only [hpl, hB, ne_eq, not_false_eq_true, true_and, false_and, if_false, if_true] using this
        rw [hB] at HBg
        go_wp2_with fail
        refine HBg.mono ?_
        rintro e v6 ⟨rfl, h0⟩
        rw [h0]
        clear h0 v6
        go_wp2_with fail
        go_ret
        exact ⟨dE, rfl, by rw [HF.out]; rfl, by rw [HF.out]; exact H5.out, K5.out⟩
      | false =>
        have HF : Hid (∀ E, F E = if y.text.length < max OL NL then (4, y)
          else match Dp.pSyncText y with
            | (false, z) => (7, z)
            | (true, z) => pDo2 z j s.data.toList OL NL OS NS st E) := fun E => by
          have := HF0.out E
          simpa only [hpl, hB, ne_eq, not_false_eq_true, true_and, false_and, if_false, and_false, Bool.false_eq_true] using this
        rw [hB] at HBg
        clear HF0 hpl
        go_wp2_with fail
        refine HBg.mono ?_
        rintro e v6 ⟨rfl, h0⟩
        rw [h0]
        clear h0 v6 HBg
        have HLen := fun v hv => len_any D tv sv y v hv
        have hyl : y.text.length = x.text.length ∧ y.safe.length = x.safe.length ∧ y.log.length ≤ x.log.length := hyk
        have c50 : v5.cell? ⟨X, 0, none⟩ = some (.int .i64 OL) := by rw [Lib.cell_of_heap PL5.out.box]; rfl
        have c51 : v5.cell? ⟨X, 1, none⟩ = some (.int .i64 NL) := by rw [Lib.cell_of_heap PL5.out.box]; rfl
        have HLq : Hid (∀ v, v.heap = v5.heap → Calls Try.prog 49 #[.pointer (some ⟨D, 0, none⟩)] v fun e w' => e = .returned (.int .i64 (y.text.length : Nat)) ∧ w' = v) := fun v hv => len_any D tv sv y v (H5.out.of_blocks fun k _ _ => by rw [hv])
        obtain ⟨M, hM, hM2⟩ : ∃ M : Nat, max (OL : Int) (NL : Int) = (M : Int) ∧ max OL NL = M := ⟨max OL NL, by omega, rfl⟩
        by_cases hlen : y.text.length < M
        · have HF' : Hid (∀ E, F E = (4, y)) := fun E => by rw [HF.out E]; simp only [hM2, if_pos hlen]
          generalize y.text.length = yl at *
          have d1 : decide ((yl : Int) < (M : Int)) = true := decide_eq_true (by omega)
          go_wp2_with fail
          go_quiet ((go_at_call 49; refine Calls.quiet_of_same (HLq.out _ rfl)))
          go_wp2_with fail
          go_ret
          exact ⟨dE, rfl, by rw [HF'.out]; rfl, by rw [HF'.out]; exact H5.out.drewN _, K5.out.drewN _⟩
        · have HF' : Hid (∀ E, F E = match Dp.pSyncText y with
            | (false, z) => (7, z)
            | (true, z) => pDo2 z j s.data.toList OL NL OS NS st E) := fun E => by rw [HF.out E]; simp only [hM2, if_neg hlen]
          have HSy := fun v hv => syncText_any D tv sv y v (by omega) hv HLY
          have hyt := hyl.1
          have hzk : ∀ z, (Dp.pSyncText y).2 = z → z.text.length = y.text.length ∧ z.safe.length = z.text.length ∧ z.log = y.log ∧ lifeOk z ∧ z.text = y.text := by
            rintro z rfl
            have hlo := lifeOk_syncText HLY.out
            refine ⟨?_, ?_, ?_, hlo, ?_⟩ <;> (unfold Dp.pSyncText; split <;> first | rfl | (simp only; omega))
          generalize hyT : y.text.length = yl at *
          have HYT : Hid (y.text.length = yl) := hyT
          clear hyT
          have d1 : decide ((yl : Int) < (M : Int)) = false := decide_eq_false (by omega)
          generalize Dp.pSyncText y = r at *
          obtain ⟨bz, z⟩ := r
          obtain ⟨hz1, hz2, hz3, hz4, hz5⟩ := hzk z rfl
          have HD1' : Hid (isBegun j = true → dE = endE z j.next) := HD1.out
          have HD2' : Hid (isBegun j = false → dE = endE (pBegin z s.data.toList OL OS st NL).2 (doneB st ⟨(z.text.take OL).toArray⟩ NL)) := HD2.out
          clear HD1 HD2
          have hzl : z.log.length = y.log.length := by rw [hz3]
          go_wp2_with fail
          go_quiet ((go_at_call 49; refine Calls.quiet_of_same (HLq.out _ rfl)))
          have H6 : Hid (devAt D tv sv y (v5.drewN nq)) := H5.out.drewN _
          have K6 : Hid (kept3 D tv.ownBlock sv.ownBlock w (v5.drewN nq)) := K5.out.drewN _
          have J6 : Hid (jrnAt J PJ NJ dj wh (v5.drewN nq)) := J5.out
          have PL6 : Hid (planAt X OL NL OS NS a b o c st (v5.drewN nq)) := ⟨PL5.out.box, stepsAt_keep PL5.out.steps (Nat.le_refl _) (.inr rfl)⟩
          clear H5 K5 J5 PL5 HLq HLen c50 c51
          generalize v5.drewN nq = v6 at *
          cases bz with
          | false =>
            go_wp2_with fail
            refine (HSy v6 H6).mono ?_
            rintro e v7 ⟨rfl, h7, k7⟩
            go_wp2_with fail
            go_ret
            exact ⟨dE, rfl, by rw [HF'.out]; rfl, by rw [HF'.out]; exact h7, K6.out.trans k7⟩
          | true =>
            go_wp2_with fail
            refine (HSy v6 H6).mono ?_
            rintro e v7 ⟨rfl, h7, k7⟩
            have H7 : Hid (devAt D tv sv z v7) := h7
            have K7 : Hid (kept3 D tv.ownBlock sv.ownBlock w v7) := K6.out.trans k7
            have J7 : Hid (jrnAt J PJ NJ dj wh v7) := J6.out.kept HAP.out k7
            have PL7 : Hid (planAt X OL NL OS NS a b o c st v7) := PL6.out.keep k7 HXA.out HBA.out
            clear h7 k7 H6 K6 J6 PL6
            have HBg := begun_any J PJ NJ dj wh v7 J7
            have hBB : (decide (PJ.size ≠ 0) && !dj) = isBegun j := HIB.out
            rw [hBB] at HBg
            clear hBB
            have c70 := box31 PL7.out.box
            obtain ⟨p0, p1, p2, p3, p4, _⟩ := c70
            cases hB2 : isBegun j with
            | true => exact absurd hB2 (by rw [hB]; decide)
            | false =>
              rw [hB2] at HBg
              have HBf : Hid (isBegun j = false) := hB2
              have HBe := begin_any D tv sv z J PJ NJ dj wh s OL NL OS NS a b o c st v7 hO4 hN4 hst2 hs (by omega) (by rw [hz3]; omega) PL7.out.steps HOK H7 hz4 J7 HAP
              have HF3 : Hid (∀ E, F E = if (pBegin z s.data.toList OL OS st NL).1 = 0 then Dp.pGoOn (pBegin z s.data.toList OL OS st NL).2 (doneB st ⟨(z.text.take OL).toArray⟩ NL) NL NS (min E (doneB st ⟨(z.text.take OL).toArray⟩ NL).length)
                else pBegin z s.data.toList OL OS st NL) := fun E => by
                rw [HF'.out E]
                simp only [pDo2, hB2]
                rfl
              have hbk := begin_keep z s.data.toList OL OS st NL (by rw [data_len]; omega) (by omega) (hz2.symm) hz4
              have hdl : (doneB st ⟨(z.text.take OL).toArray⟩ NL).length = NL := by simp [doneB]
              generalize pBegin z s.data.toList OL OS st NL = R at *
              obtain ⟨re, u⟩ := R
              generalize hNX : doneB st ⟨(z.text.take OL).toArray⟩ NL = NXl at *
              dsimp only at hbk HBe
              by_cases hre : re = 0
              · subst hre
                have HG := fun v hv hjj => goOn_any D tv sv u J s ⟨NXl.toArray⟩ false wh OL NL OS NS (.slice a st.length c) NL v rfl hN4 (by rw [strSize]; omega) (by omega) (by omega) (by have := data_len s; have := hbk.2.2.1; omega) hv hbk.2.2.2 hjj HAP
                have HF4 : Hid (∀ E, isE u ⟨NXl.toArray⟩ E → F E = Dp.pGoOn u (⟨NXl.toArray⟩ : ByteArray).data.toList NL NS E) := fun E hE => by
                  have hE1 := hE.1
                  rw [strSize] at hE1
                  rw [HF3.out E]
                  simp only [if_true]
                  rw [Nat.min_eq_left hE1]
                have HGH : Hid _ := HG
                clear HG
                go_wp2_with fail
                refine HBg.mono ?_
                rintro e v8 ⟨rfl, h0⟩
                rw [h0]
                clear h0 v8
                go_wp2_with fail
                refine HBe.mono ?_
                rintro e v8 ⟨rfl, h8, j8, k8⟩
                have PB8 : v8.heap[X]? = some (.cells #[.int .i64 OL, .int .i64 NL, .string OS, .string NS, .slice a st.length c] 31 (0, 0)) := by
                  rw [k8.block X (Array.getElem?_eq_some_iff.1 PL7.out.box).1 HXJ.out HXA.out.1 HXA.out.2.1 HXA.out.2.2]; exact PL7.out.box
                clear p0 p1 p2 p3 p4
                obtain ⟨p0, p1, p2, p3, p4, _⟩ := box31 PB8
                have J8 : Hid (jrnAt J s ⟨NXl.toArray⟩ false wh v8) := j8 trivial
                have H8 : Hid (devAt D tv sv u v8) := h8
                have K8 : Hid (kept3 D tv.ownBlock sv.ownBlock w v8) := kept4.after K7.out HJB.out k8
                clear h8 j8 k8 PB8
                go_wp2_with fail
                refine (HGH.out v8 H8 J8).mono ?_
                rintro e v9 ⟨E, hE, rfl, h9, k9⟩
                go_wp2_with fail
                go_ret
                exact ⟨E, by rw [HD2'.out HBf.out]; exact hE.2, by rw [HF4.out E hE]; rfl, by rw [HF4.out E hE]; exact h9, kept4.after K8.out HJB.out k9⟩
              · have d5 : (re == 0) = false := by simpa using hre
                have d6 : (re != 0) = true := by simpa using hre
                have HF4 : Hid (∀ E, F E = (re, u)) := fun E => by rw [HF3.out E]; simp only [if_neg hre]
                go_wp2_with fail
                refine HBg.mono ?_
                rintro e v8 ⟨rfl, h0⟩
                rw [h0]
                clear h0 v8
                go_wp2_with fail
                refine HBe.mono ?_
                rintro e v8 ⟨rfl, h8, j8, k8⟩
                clear j8
                go_wp2_with fail
                go_ret
                exact ⟨dE, rfl, by rw [HF4.out]; rfl, by rw [HF4.out]; exact h8, kept4.after K7.out HJB.out k8⟩

theorem do_any (D : Nat) (tv sv : Value) (x : Dp.Dv) (s : ByteArray) (w : World) (hs : s.size ≤ 40000000) (hE : pErr s = 0) (hts : x.text.length = x.safe.length) (hm : x.text.length ≤ 140737488355328) (hsz : x.log.length ≤ 4611686017900000000) (hnx : (Dp.jrn x.log).next.length ≤ 1000000)
    (h : Hid (devAt D tv sv x w)) (hl : Hid (lifeOk x)) :
    Calls Try.prog 27 #[.pointer (some ⟨D, 0, none⟩), .string s] w fun e w' => ∃ E, e = .returned (.int .i64 (pDo x s.data.toList (hOL s) (hNL s) (hOS s) (hNS s) (pSt s) E).1) ∧ devAt D tv sv (pDo x s.data.toList (hOL s) (hNL s) (hOS s) (hNS s) (pSt s) E).2 w' ∧ kept3 D tv.ownBlock sv.ownBlock w w' :=
  (do_det D tv sv x s w hs hE hts hm hsz hnx h hl).mono fun _ _ ⟨E, _, h⟩ => ⟨E, h⟩

end Go.Proofs.Ytjjmcnippjpclaa
