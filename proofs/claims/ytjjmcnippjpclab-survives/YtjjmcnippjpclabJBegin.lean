/-
  The walk of the journal's begin: the record of a begun patch is laid behind the log.
-/
import Derived.Test.YtjjmcnippjpclabLay
namespace Go.Proofs.Ytjjmcnippjpclab

open Go.RowKit

set_option maxRecDepth 100000 in
set_option maxHeartbeats 1000000 in
theorem jbegin_any (D : Nat) (tv sv : Value) (x : Dp.Dv) (J : Nat) (p n : ByteArray) (d : Bool) (wh : Nat) (P N : ByteArray) (w : World) (hP : P.size ≤ 40000000) (hN : N.size ≤ 40000000) (hsz : x.log.length ≤ 140737300000000) (h : Hid (devAt D tv sv x w)) (hl : Hid (lifeOk x)) (hj : Hid (jrnAt J p n d wh w)) (ha : Hid (apart J D tv sv)) :
    Calls Try.prog 67 #[.pointer (some ⟨J, 0, none⟩), .pointer (some ⟨D, 0, none⟩), .string P, .string N] w fun e w' => e = .returned (.bool (Dp.pLay x (Dp.enc (some (P.data.toList, N.data.toList)))).1) ∧ devAt D tv sv (Dp.pLay x (Dp.enc (some (P.data.toList, N.data.toList)))).2 w' ∧ ((Dp.pLay x (Dp.enc (some (P.data.toList, N.data.toList)))).1 = true → jrnAt J P N false wh w') ∧ kept4 J D tv.ownBlock sv.ownBlock w w' := by
  have l1 := nb_len P.size (by omega)
  have l2 := nb_len N.size (by omega)
  have l3 := data_len P
  have l4 := data_len N
  have hE : [98] ++ nb P.size ++ P.data.toList ++ nb N.size ++ N.data.toList = Dp.enc (some (P.data.toList, N.data.toList)) := by
    simp only [Dp.enc, l3, l4, List.append_assoc, List.cons_append, List.nil_append]; rfl
  have hEl : (Dp.enc (some (P.data.toList, N.data.toList))).length ≤ 90000000 := by rw [← hE]; simp only [List.length_append, List.length_cons, List.length_nil]; omega
  have hEn : Dp.enc (some (P.data.toList, N.data.toList)) ≠ [] := by intro e; cases e
  have HE : Hid _ := hE
  clear hE
  generalize Dp.enc (some (P.data.toList, N.data.toList)) = R at *
  have HR : Hid (∀ v, devAt D tv sv x v → Calls Try.prog 86 #[.pointer (some ⟨D, 0, none⟩), .string ⟨R.toArray⟩] v fun e w' => e = .returned (.bool (Dp.pLay x R).1) ∧ devAt D tv sv (Dp.pLay x R).2 w' ∧ kept3 D tv.ownBlock sv.ownBlock v w') := fun v hv =>
    lay_any D tv sv x ⟨R.toArray⟩ v (by rw [strSize]; omega) hv hl
  generalize Dp.pLay x R = r at *
  obtain ⟨b, y⟩ := r
  have hfresh : Hid (wrAt w.heap.size w.heap.size [] (w.alloc (Obj.cells #[.pointer none, .slice none 0 0] 97))) := Lib.fresh_isBuilder 97 5 w
  go_enter Try.func67, Try.ntmps67
  go_wp2_with fail
  refine (writeString_any w.heap.size w.heap.size (Lib.byteCells []) ⟨#[98]⟩ _ hfresh.out (by decide) (by simp)).mono ?_
  rintro e v1 ⟨rfl, h1, b1, k1⟩
  have H1 : Hid (wrAt w.heap.size w.heap.size [98] v1) := wr_string h1
  have B1 : Hid (Below w.heap.size w v1) := ((Below.refl _ _).alloc (Nat.le_refl _) _).trans b1
  have s1 := B1.out.size
  clear h1 b1 k1 hfresh
  go_wp2_with fail
  refine (wrNumber w.heap.size w.heap.size _ P.size v1 H1 (by omega) (by simp) s1).mono ?_
  rintro e v2 ⟨rfl, h2, b2, k2⟩
  have H2 : Hid (wrAt w.heap.size w.heap.size ([98] ++ nb P.size) v2) := h2
  have B2 : Hid (Below w.heap.size w v2) := B1.out.trans b2
  have s2 := B2.out.size
  clear h2 b2 k2 H1 B1 s1
  go_wp2_with fail
  refine (writeString_any w.heap.size w.heap.size (Lib.byteCells ([98] ++ nb P.size)) P _ H2.out (by rw [Lib.byteCells_length]; simp; omega) s2).mono ?_
  rintro e v3 ⟨rfl, h3, b3, k3⟩
  have H3 : Hid (wrAt w.heap.size w.heap.size ([98] ++ nb P.size ++ P.data.toList) v3) := wr_string h3
  have B3 : Hid (Below w.heap.size w v3) := B2.out.trans b3
  have s3 := B3.out.size
  clear h3 b3 k3 H2 B2 s2
  go_wp2_with fail
  refine (wrNumber w.heap.size w.heap.size _ N.size v3 H3 (by omega) (by simp; omega) s3).mono ?_
  rintro e v4 ⟨rfl, h4, b4, k4⟩
  have H4 : Hid (wrAt w.heap.size w.heap.size ([98] ++ nb P.size ++ P.data.toList ++ nb N.size) v4) := h4
  have B4 : Hid (Below w.heap.size w v4) := B3.out.trans b4
  have s4 := B4.out.size
  clear h4 b4 k4 H3 B3 s3
  go_wp2_with fail
  refine (writeString_any w.heap.size w.heap.size (Lib.byteCells ([98] ++ nb P.size ++ P.data.toList ++ nb N.size)) N _ H4.out (by rw [Lib.byteCells_length]; simp; omega) s4).mono ?_
  rintro e v5 ⟨rfl, h5, b5, k5⟩
  have H5 : Hid (wrAt w.heap.size w.heap.size R v5) := by
    show wrAt _ _ _ _
    rw [← HE.out]; exact wr_string h5
  have B5 : Hid (Below w.heap.size w v5) := B4.out.trans b5
  clear h5 b5 k5 H4 B4 s4
  go_wp2_with fail
  refine (string_any w.heap.size w.heap.size R v5 H5.out hEn).mono ?_
  rintro e v6 ⟨rfl, b6⟩
  have B6 : Hid (Below w.heap.size w v6) := B5.out.trans b6
  clear b6 B5 H5
  go_wp2_with fail
  refine (HR.out v6 (h.out.below B6.out)).mono ?_
  rintro e v7 ⟨rfl, h7, k7⟩
  have K7 : Hid (kept4 J D tv.ownBlock sv.ownBlock w v7) := (kept4.of_below B6.out).trans (.of3 k7)
  have J7 : Hid (jrnAt J p n d wh v7) := (hj.out.below B6.out).kept ha.out k7
  have H7 : Hid (devAt D tv sv y v7) := h7
  clear h7 k7 B6
  cases b with
  | false =>
    go_wp2_with fail
    go_ret
    exact ⟨rfl, H7.out, (fun h => by cases h), K7.out⟩
  | true =>
    obtain ⟨k0, k1, k2, k3, fz⟩ := J7.out.cells
    have f0 := fz 0
    have f1 := fz 1
    have f2 := fz 2
    clear fz
    go_wp2_with fail
    go_ret
    exact ⟨rfl, ((H7.out.setJ ha.out _ _).setJ ha.out _ _).setJ ha.out _ _, J7.out.setAll P N, ((K7.out.setJ _ _).setJ _ _).setJ _ _⟩

end Go.Proofs.Ytjjmcnippjpclab
