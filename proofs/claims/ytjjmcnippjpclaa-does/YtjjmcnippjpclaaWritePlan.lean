/-
  The walk of writePlan: a plan that may be is laid down.
-/
import Derived.Test.YtjjmcnippjpclaaWriter
namespace Go.Proofs.Ytjjmcnippjpclaa

open Go.RowKit

def headB (ol nl : Nat) (os ns : ByteArray) (m : Nat) : List UInt8 := [84, 76, 82, 73] ++ nb ol ++ os.data.toList ++ nb nl ++ ns.data.toList ++ nb m

def planB (ol nl : Nat) (os ns : ByteArray) (st : List Pl.St) : List UInt8 := headB ol nl os ns st.length ++ st.flatMap stepB

theorem data_len (s : ByteArray) : s.data.toList.length = s.size := by simp

theorem wr_string {B b : Nat} {l : List UInt8} {s : ByteArray} {v : World} (h : Lib.IsBuilder 114 5 B b (Lib.byteCells l ++ Lib.strCells s) v) : wrAt B b (l ++ s.data.toList) v := by
  show Lib.IsBuilder _ _ _ _ _ _
  rw [Lib.byteCells_append, ← Lib.strCells_eq]; exact h

theorem ok_sizes {ol nl : Int} {s : Pl.St} (h1 : 0 ≤ ol ∧ ol ≤ 4000) (h2 : 0 ≤ nl ∧ nl ≤ 4000) (h : Pl.ok ol nl s = true) :
    (s.k = 1 ∨ s.k = 3) ∧ (0 ≤ s.t ∧ s.t ≤ 4000) ∧ (0 ≤ s.n ∧ s.n ≤ 4000) ∧ (0 ≤ s.f ∧ s.f ≤ 4000) ∧ s.d.size ≤ 4000 := by
  simp only [Pl.ok, decide_eq_true_eq] at h
  omega

theorem stepB_len {s : Pl.St} (ht : 0 ≤ s.t ∧ s.t ≤ 4000) (hn : 0 ≤ s.n ∧ s.n ≤ 4000) (hf : 0 ≤ s.f ∧ s.f ≤ 4000) (hd : s.d.size ≤ 4000) : (stepB s).length ≤ 4100 := by
  have h1 := nb_len s.t.toNat (by omega)
  have h2 := nb_len s.n.toNat (by omega)
  have h3 := nb_len s.f.toNat (by omega)
  have h4 := data_len s.d
  unfold stepB
  split
  · simp only [List.length_append, List.length_cons, List.length_nil]; omega
  · simp only [List.length_append, List.length_cons, List.length_nil]; omega

set_option maxRecDepth 100000 in
set_option maxHeartbeats 4000000 in
theorem writePlan_any (OL NL : Nat) (os ns : ByteArray) (a : Option Addr) (b o c : Nat) (st : List Pl.St) (w : World) (hO : OL ≤ 4000) (hN : NL ≤ 4000) (hos : os.size = 4) (hns : ns.size = 4) (hm : st.length ≤ 2000) (hst : Hid (stepsAt w a b o st)) (hok : Hid (∀ s ∈ st, Pl.ok OL NL s = true)) :
    Calls Try.prog 40 #[.agg #[.int .i64 OL, .int .i64 NL, .string os, .string ns, .slice a st.length c]] w fun e w' => e = .returned (.string ⟨(planB OL NL os ns st).toArray⟩) ∧ Below w.heap.size w w' := by
  have l1 := nb_len OL (by omega)
  have l2 := nb_len NL (by omega)
  have l3 := nb_len st.length (by omega)
  have l4 := data_len os
  have l5 := data_len ns
  have HH : Hid (headB OL NL os ns st.length = [84, 76, 82, 73] ++ nb OL ++ os.data.toList ++ nb NL ++ ns.data.toList ++ nb st.length) := rfl
  have HP : Hid (planB OL NL os ns st = headB OL NL os ns st.length ++ st.flatMap stepB) := rfl
  have hl0 : (headB OL NL os ns st.length).length ≤ 100 := by rw [HH.out]; simp only [List.length_append, List.length_cons, List.length_nil]; omega
  generalize headB OL NL os ns st.length = HB at *
  generalize planB OL NL os ns st = PB at *
  have hfresh : Hid (wrAt (w.heap.size + 1) (w.heap.size + 1) [] ((w.alloc (Obj.cells #[.int .i64 OL, .int .i64 NL, .string os, .string ns, .slice a st.length c] 31)).alloc (Obj.cells #[.pointer none, .slice none 0 0] 114))) := by
    have := Lib.fresh_isBuilder 114 5 (w.alloc (Obj.cells #[.int .i64 OL, .int .i64 NL, .string os, .string ns, .slice a st.length c] 31))
    rw [World.size_alloc] at this
    exact this
  go_enter Try.func40, Try.ntmps40
  go_wp2_with fail
  refine (writeString_any (w.heap.size + 1) (w.heap.size + 1) (Lib.byteCells []) ⟨#[84, 76, 82, 73]⟩ _ hfresh.out (by decide) (by simp)).mono ?_
  rintro e v1 ⟨rfl, h1, b1, k1⟩
  have H1 : Hid (wrAt (w.heap.size + 1) (w.heap.size + 1) [84, 76, 82, 73] v1) := wr_string h1
  have B1 : Hid (Below (w.heap.size + 1) (w.alloc (Obj.cells #[.int .i64 OL, .int .i64 NL, .string os, .string ns, .slice a st.length c] 31)) v1) := ((Below.refl _ _).alloc (by simp) _).trans b1
  have s1 : w.heap.size + 1 ≤ v1.heap.size := by have := B1.out.size; simp at this; omega
  have p0 : v1.cell? ⟨w.heap.size, 0, none⟩ = some (.int .i64 OL) := by rw [B1.out.cell (Nat.lt_succ_self _)]; simp [go_sem]
  clear h1 b1 k1 hfresh
  go_wp2_with fail
  refine (wrNumber (w.heap.size + 1) (w.heap.size + 1) _ OL v1 H1 (by omega) (by simp) s1).mono ?_
  rintro e v2 ⟨rfl, h2, b2, k2⟩
  have H2 : Hid (wrAt (w.heap.size + 1) (w.heap.size + 1) ([84, 76, 82, 73] ++ nb OL) v2.drew) := h2
  have B2 : Hid (Below (w.heap.size + 1) (w.alloc (Obj.cells #[.int .i64 OL, .int .i64 NL, .string os, .string ns, .slice a st.length c] 31)) v2) := B1.out.trans b2
  have s2 : w.heap.size + 1 ≤ v2.heap.size := by have := B2.out.size; simp at this; omega
  clear p0 h2 b2 k2 H1 B1 s1
  have p2 : v2.cell? ⟨w.heap.size, 2, none⟩ = some (.string os) := by rw [B2.out.cell (Nat.lt_succ_self _)]; simp [go_sem]
  go_wp2_with fail
  go_region_with (go_at_call 70; refine (writeString_any (w.heap.size + 1) (w.heap.size + 1) (Lib.byteCells ([84, 76, 82, 73] ++ nb OL)) os _ H2.out (by rw [Lib.byteCells_length]; simp; omega) s2).mono ?_; rintro e v3 ⟨rfl, h3, b3, k3⟩)
  have H3 : Hid (wrAt (w.heap.size + 1) (w.heap.size + 1) ([84, 76, 82, 73] ++ nb OL ++ os.data.toList) v3) := wr_string h3
  have B3 : Hid (Below (w.heap.size + 1) (w.alloc (Obj.cells #[.int .i64 OL, .int .i64 NL, .string os, .string ns, .slice a st.length c] 31)) v3) := B2.out.drew.trans b3
  have s3 : w.heap.size + 1 ≤ v3.heap.size := by have := B3.out.size; simp at this; omega
  clear p2 h3 b3 k3 H2 B2 s2
  have p1 : v3.cell? ⟨w.heap.size, 1, none⟩ = some (.int .i64 NL) := by rw [B3.out.cell (Nat.lt_succ_self _)]; simp [go_sem]
  go_wp2_with fail
  refine (wrNumber (w.heap.size + 1) (w.heap.size + 1) _ NL v3 H3 (by omega) (by simp; omega) s3).mono ?_
  rintro e v4 ⟨rfl, h4, b4, k4⟩
  have H4 : Hid (wrAt (w.heap.size + 1) (w.heap.size + 1) ([84, 76, 82, 73] ++ nb OL ++ os.data.toList ++ nb NL) v4.drew) := h4
  have B4 : Hid (Below (w.heap.size + 1) (w.alloc (Obj.cells #[.int .i64 OL, .int .i64 NL, .string os, .string ns, .slice a st.length c] 31)) v4) := B3.out.trans b4
  have s4 : w.heap.size + 1 ≤ v4.heap.size := by have := B4.out.size; simp at this; omega
  clear p1 h4 b4 k4 H3 B3 s3
  have p3 : v4.cell? ⟨w.heap.size, 3, none⟩ = some (.string ns) := by rw [B4.out.cell (Nat.lt_succ_self _)]; simp [go_sem]
  go_wp2_with fail
  go_region_with (go_at_call 70; refine (writeString_any (w.heap.size + 1) (w.heap.size + 1) (Lib.byteCells ([84, 76, 82, 73] ++ nb OL ++ os.data.toList ++ nb NL)) ns _ H4.out (by rw [Lib.byteCells_length]; simp; omega) s4).mono ?_; rintro e v5 ⟨rfl, h5, b5, k5⟩)
  have H5 : Hid (wrAt (w.heap.size + 1) (w.heap.size + 1) ([84, 76, 82, 73] ++ nb OL ++ os.data.toList ++ nb NL ++ ns.data.toList) v5) := wr_string h5
  have B5 : Hid (Below (w.heap.size + 1) (w.alloc (Obj.cells #[.int .i64 OL, .int .i64 NL, .string os, .string ns, .slice a st.length c] 31)) v5) := B4.out.drew.trans b5
  have s5 : w.heap.size + 1 ≤ v5.heap.size := by have := B5.out.size; simp at this; omega
  clear p3 h5 b5 k5 H4 B4 s4
  have p4 : v5.cell? ⟨w.heap.size, 4, none⟩ = some (.slice a st.length c) := by rw [B5.out.cell (Nat.lt_succ_self _)]; simp [go_sem]
  go_wp2_with fail
  refine (wrNumber (w.heap.size + 1) (w.heap.size + 1) _ st.length v5 H5 (by omega) (by simp; omega) s5).mono ?_
  rintro e v6 ⟨rfl, h6, b6, k6⟩
  have H6 : Hid (wrAt (w.heap.size + 1) (w.heap.size + 1) HB v6) := by
    show wrAt _ _ _ _
    rw [HH.out]; exact h6
  have B6 : Hid (Below (w.heap.size + 1) (w.alloc (Obj.cells #[.int .i64 OL, .int .i64 NL, .string os, .string ns, .slice a st.length c] 31)) v6) := B5.out.trans b6
  clear p4 h6 b6 k6 H5 B5 s5
  have p4 : v6.cell? ⟨w.heap.size, 4, none⟩ = some (.slice a st.length c) := by rw [B6.out.cell (Nat.lt_succ_self _)]; simp [go_sem]
  go_wp2_with fail
  go_loopw [40] (fun i wr => ∃ (k : Nat) (l : List UInt8), k ≤ st.length ∧ i = .int .i64 k ∧ l.length ≤ 100 + 4100 * k ∧ Hid (l = HB ++ (st.take k).flatMap stepB) ∧ Hid (wrAt (w.heap.size + 1) (w.heap.size + 1) l wr) ∧ Hid (Below (w.heap.size + 1) (w.alloc (Obj.cells #[.int .i64 OL, .int .i64 NL, .string os, .string ns, .slice a st.length c] 31)) wr)) (fun i _ => st.length - (intOf i).toNat)
  case atStart => exact ⟨0, HB, Nat.zero_le _, rfl, by omega, by simp [Hid], H6, B6⟩
  case round =>
    obtain ⟨k, l, hk, rfl, hll, hl, hwr, hbel⟩ := hrel
    clear p4 H6 B6
    have sr : w.heap.size + 1 < wr.heap.size := by rcases hwr.out with h | h <;> exact h.lt
    by_cases hlt : k < st.length
    · obtain ⟨s, hs⟩ : ∃ s, st[k]? = some s := ⟨st[k], List.getElem?_eq_getElem hlt⟩
      have ha : a = some ⟨b, o, none⟩ := by
        rcases hst.out.1 with h | h
        · rw [h] at hlt; exact absurd hlt (Nat.not_lt_zero _)
        · exact h
      subst ha
      obtain ⟨c0, c1, c2, c3, c4⟩ := stAt_below (stAt_below (hst.out.2.2 k s hs) ((Below.refl w.heap.size w).alloc (Nat.le_refl _) (Obj.cells #[.int .i64 OL, .int .i64 NL, .string os, .string ns, .slice (some ⟨b, o, none⟩) st.length c] 31)) hst.out.2.1) hbel.out (Nat.lt_succ_of_lt hst.out.2.1)
      obtain ⟨z0, z1, z2, z3, z4⟩ := ok_sizes (by omega) (by omega) (hok.out s (List.mem_of_getElem? hs))
      have Z0 : Hid (s.k = 1 ∨ s.k = 3) := z0
      have hsl := stepB_len z1 z2 z3 z4
      have HW : Hid (wrAt (w.heap.size + 1) (w.heap.size + 1) l (wr.alloc (Obj.cells #[.int .i64 s.k, .int .i64 s.t, .int .i64 s.n, .string s.d, .int .i64 s.f] 40))) := isBuilder_below hwr.out ((Below.refl _ _).alloc (Nat.le_refl _) _)
      clear z0
      go_wp2_with fail
      refine (wrStep (w.heap.size + 1) (w.heap.size + 1) l s _ HW Z0 z1 z2 z3 z4 (by omega) (by simp; omega)).mono ?_
      rintro e v7 ⟨rfl, h7, b7, k7⟩
      have H7 : Hid (wrAt (w.heap.size + 1) (w.heap.size + 1) (l ++ stepB s) v7) := h7
      have B7 : Hid (Below (w.heap.size + 1) (w.alloc (Obj.cells #[.int .i64 OL, .int .i64 NL, .string os, .string ns, .slice (some ⟨b, o, none⟩) st.length c] 31)) v7) := (hbel.out.alloc (by omega) _).trans b7
      have hl7 : Hid (l ++ stepB s = HB ++ (st.take (k + 1)).flatMap stepB) := by
        show _ = _
        rw [hl.out, Pl.take_at hs, List.flatMap_append, List.append_assoc]; simp
      clear h7 b7 k7
      go_wp2_with fail
      exact ⟨⟨k + 1, l ++ stepB s, by omega, by go_num, by rw [List.length_append]; omega, hl7, H7, B7⟩, by simp [intOf]; omega⟩
    · have hke : k = st.length := by omega
      subst hke
      have hlP : Hid (PB = l) := by
        show _ = _
        rw [HP.out, hl.out, List.take_length]
      have hne : Hid (l ≠ []) := by
        intro h
        have := congrArg List.length hl.out
        rw [h, HH.out] at this
        simp at this
      go_wp2_with fail
      refine (string_any (w.heap.size + 1) (w.heap.size + 1) l wr hwr.out hne.out).mono ?_
      rintro e v8 ⟨rfl, b8⟩
      have B8 : Hid (Below w.heap.size w v8) := ((Below.refl w.heap.size w).alloc (Nat.le_refl _) _).trans ((hbel.out.trans b8).mono (by omega))
      clear b8
      go_wp2_with fail
      go_ret
      exact ⟨by rw [hlP.out]; rfl, B8.out⟩

end Go.Proofs.Ytjjmcnippjpclaa
