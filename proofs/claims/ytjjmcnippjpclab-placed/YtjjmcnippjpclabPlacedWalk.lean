/-
  The walk of the law Placed.
-/
import Derived.Test.YtjjmcnippjpclabPlacedInner
import Derived.Test.YtjjmcnippjpclabLives
namespace Go.Proofs.Ytjjmcnippjpclab

open Go.RowKit

set_option maxRecDepth 1000000 in
set_option maxHeartbeats 8000000 in
theorem placed_walk (old : ByteArray) (rv : Value) (w : World)
    (hraw : Hid (∀ (o : ByteArray) (v : World), o.size ≤ 1500 → Below w.heap.size w v → Calls Try.prog 7 #[.string o, rv] v fun e w' => ∃ t : ByteArray, e = .returned (.string t) ∧ t.size ≤ 3000 ∧ Below v.heap.size v w')) :
    Calls Try.prog 3 #[.string old, rv] w fun e w' => e = .returned (.bool true) ∧ Below w.heap.size w w' := by
  have ho := shortS_size old 1500
  go_enter Try.func3, Try.ntmps3
  go_wp2_with fail
  refine (short_1500 _ _).mono ?_
  rintro e v0 ⟨rfl, h0⟩
  rw [h0]
  clear h0 v0
  generalize shortS old 1500 = o at *
  go_wp2_with fail
  refine (hraw.out o _ ho (Below.refl _ _)).mono ?_
  rintro e v1 ⟨t, rfl, -, b1⟩
  clear hraw
  have hn := shortS_size t 1500
  go_wp2_with fail
  refine (short_1500 _ _).mono ?_
  rintro e v2 ⟨rfl, h0⟩
  rw [h0]
  clear h0 v2
  generalize shortS t 1500 = n at *
  go_wp2_with fail
  refine (make_any o n _ (by omega) (by omega)).mono ?_
  rintro e v3 ⟨⟨l, M, T, rfl, hmade⟩, b3⟩
  obtain ⟨r0, r1, r2, r3, r4, r5, r6⟩ := made_read hmade (by omega) (by omega)
  have hT := (made_size hmade (by omega) (by omega)).1
  go_wp2_with fail
  refine (readP_any T _ (by omega)).mono ?_
  rintro e v4 ⟨b4, ⟨h, _⟩ | ⟨-, v, rfl, hown⟩⟩
  · exact absurd r0 h
  rw [r1, r2, r3, r4]
  rw [r5, r6] at hown
  clear r0 r1 r2 r3 r4 r5 r6
  generalize hst : M.map (_root_.Pl.Sp.st n) = st at *
  obtain ⟨ao, sb, so, cp, rfl, hsteps, _⟩ := own_slice (hown.alloc (Obj.cells #[.int .i64 o.size, .int .i64 n.size, .string (sumB o), .string (sumB n), v] 30)) rfl (by simp)
  clear hown
  have c1 : Below w.heap.size w v4 := (b1.trans (b3.mono b1.size)).trans (b4.mono (Nat.le_trans b1.size b3.size))
  have hs4 := c1.size
  have hX4 := heap_alloc_new v4 (Obj.cells #[.int .i64 o.size, .int .i64 n.size, .string (sumB o), .string (sumB n), .slice ao st.length cp] 30)
  have c2 := c1.alloc hs4 (Obj.cells #[.int .i64 o.size, .int .i64 n.size, .string (sumB o), .string (sumB n), .slice ao st.length cp] 30)
  have hz4 : (v4.alloc (Obj.cells #[.int .i64 o.size, .int .i64 n.size, .string (sumB o), .string (sumB n), .slice ao st.length cp] 30)).heap.size = v4.heap.size + 1 := by simp
  go_wp2_with fail
  generalize v4.alloc (Obj.cells #[.int .i64 o.size, .int .i64 n.size, .string (sumB o), .string (sumB n), .slice ao st.length cp] 30) = W4 at *
  generalize v4.heap.size = Pb at *
  refine (lives_any _).mono ?_
  rintro e v5 ⟨rfl, b5⟩
  have HX : Hid (v5.heap[Pb]? = some (.cells #[.int .i64 o.size, .int .i64 n.size, .string (sumB o), .string (sumB n), .slice ao st.length cp] 30 (0, 0))) := by
    show _ = _
    rw [b5.block _ (by omega)]; exact hX4
  have HST : Hid (stepsAt v5 ao sb so st) := stepsAt_below hsteps b5 hsteps.2.1
  have HB : Hid (Below w.heap.size w v5) := c2.trans (b5.mono c2.size)
  have hPb : Pb < v5.heap.size := by have := b5.size; omega
  clear hX4 hsteps c2 hz4 c1 hs4 b5 b1 b3 b4
  have HMD : Hid (MadeOf o n l M T) := hmade
  clear hmade
  obtain ⟨p0, p1, p2, p3, p4, _⟩ := box31 HX.out
  obtain ⟨L, hL, hLo, hLn, hL4⟩ : ∃ L : Nat, max (o.size : Int) (n.size : Int) = (L : Int) ∧ o.size ≤ L ∧ n.size ≤ L ∧ L ≤ 1500 :=
    ⟨max o.size n.size, by omega, by omega, by omega, by omega⟩
  have hmkb := make_bytes L (by omega)
  have hmkg := make_bools n.size (by omega)
  have hrow := World.rowIs_made v5 (.int .u8 0) L 5
  have hcp := run_copy_string (P := Try.prog) (v5.alloc (.cells (madeCells #[.int .u8 0] L) 5)) 34 9 3 5 v5.heap.size 0 L L o Try.underlying34 sizeU8 hLo (fun j hj => by rw [Nat.zero_add, hrow.cell (by omega)]; rfl) (fun j hj => hrow.frozen _)
  have hrowW := rowIs_setCells (o.data.toList.map fun x => Value.int .u8 (x.toNat : Int)) 0 _ _ hrow
  have hbelW : Below v5.heap.size v5 ((v5.alloc (.cells (madeCells #[.int .u8 0] L) 5)).setCells v5.heap.size 0 (o.data.toList.map fun x => Value.int .u8 (x.toNat : Int))) := below_setCells (Nat.le_refl _) _ _ _ ((Below.refl _ _).alloc (Nat.le_refl _) _)
  generalize (v5.alloc (.cells (madeCells #[.int .u8 0] L) 5)).setCells v5.heap.size 0 (o.data.toList.map fun x => Value.int .u8 (x.toNat : Int)) = W at *
  go_wp2_with fail
  have hlen : M.length = st.length := by rw [← hst, List.length_map]
  have hml2 : st.length ≤ 2000 := by have h1 := good_few HMD.out.good (by omega); have h2 := HMD.out.sorted.perm.length_eq; omega
  have HSM : Hid (M.map (_root_.Pl.Sp.st n) = st) := hst
  clear hst p0 p1 p2 p3 p4 hmkb hmkg hcp hL hrow
  have hBG := hrowW.lt
  have hG := World.rowIs_made W (.bool false) n.size 4
  have hR0 := (hrowW.alloc (.cells (madeCells #[.bool false] n.size) 4)).congr (g := fun j => .int .u8 ((inPl o n (covS (M.take 0) j) j).toNat : Nat)) (fun j _ => row0 o n M j)
  have hb0 := hbelW.alloc (Nat.le_of_lt hBG) (.cells (madeCells #[.bool false] n.size) 4)
  clear hrowW hbelW
  generalize W.alloc (.cells (madeCells #[.bool false] n.size) 4) = W0 at *
  generalize W.heap.size = G at *
  have HG0 : Hid (W0.rowIs G 4 n.size (fun _ => .bool false)) := hG
  have HR0 : Hid (W0.rowIs v5.heap.size 5 L (fun j => .int .u8 ((inPl o n (covS (M.take 0) j) j).toNat : Nat))) := hR0
  have HB0 : Hid (Below v5.heap.size v5 W0) := hb0
  clear hG hR0 hb0
  have hbv := HST.out.2.1
  generalize hBv : v5.heap.size = B at *
  have HBV : Hid (v5.heap.size = B) := hBv
  clear hBv
  go_loopw [14] (fun x wr => ∃ i : Nat, x = .int .i64 i ∧ i ≤ st.length ∧ Hid (wr.rowIs B 5 L (fun j => .int .u8 ((inPl o n (covS (M.take i) j) j).toNat : Nat))) ∧ Hid (wr.rowIs G 4 n.size (fun j => .bool (covS (M.take i) j))) ∧ Hid (Below B v5 wr)) (fun x _ => st.length - (intOf x).toNat)
  case atStart => exact ⟨0, rfl, Nat.zero_le _, HR0, HG0, HB0⟩
  case round =>
    clear HR0 HG0 HB0
    obtain ⟨i, rfl, hi, hrow, hgone, hbel⟩ := hrel
    have p4 : wr.cell? ⟨Pb, 4, none⟩ = some (.slice ao st.length cp) := by rw [hbel.out.cell hPb]; exact (box31 HX.out).2.2.2.2.1
    by_cases hlt : i < st.length
    · obtain ⟨s, hs⟩ : ∃ s, M[i]? = some s := ⟨M[i]'(by omega), List.getElem?_eq_getElem (by omega)⟩
      have hx : st[i]? = some (s.st n) := by rw [← HSM.out, List.getElem?_map, hs]; rfl
      have ha : ao = some ⟨sb, so, none⟩ := by
        rcases HST.out.1 with h | h
        · rw [h] at hlt; exact absurd hlt (Nat.not_lt_zero _)
        · exact h
      subst ha
      obtain ⟨c0, c1, c2, c3, c4⟩ := stAt_below (HST.out.2.2 i _ hx) hbel.out hbv
      obtain ⟨_, t1, t2⟩ := _root_.Pl.tiles_mem l 0 n.size HMD.out.good.tile s (HMD.out.sorted.perm.subset (List.mem_of_getElem? hs))
      rw [_root_.Pl.st_t] at c1
      rw [_root_.Pl.st_n] at c2
      have HS : Hid (M[i]? = some s) := hs
      have HTK : Hid (M.take (i + 1) = M.take i ++ [s]) := take_snoc hs
      have hi0 : (i : Int) < (st.length : Int) := by omega
      have hDs : (n.extract s.t (s.t + s.n)).size = s.n := by rw [ByteArray.size_extract]; omega
      have hw1 := hgone.out.lt
      clear hs hx
      cases hsrc : s.src with
      | none =>
        have e0 : (s.st n).k = 1 := by unfold _root_.Pl.Sp.st; rw [hsrc]; rfl
        have e3 : (s.st n).d = n.extract s.t (s.t + s.n) := by unfold _root_.Pl.Sp.st; rw [hsrc]; rfl
        have e4 : (s.st n).f = 0 := by unfold _root_.Pl.Sp.st; rw [hsrc]; rfl
        rw [e0] at c0
        rw [e3] at c3
        rw [e4] at c4
        clear e0 e3 e4 hsrc
        have hrow1 : Hid ((wr.alloc (Obj.cells #[.int .i64 1, .int .i64 s.t, .int .i64 s.n, .string (n.extract s.t (s.t + s.n)), .int .i64 0] 37)).rowIs B 5 L (fun j => .int .u8 ((inPl o n (covS (M.take i) j) j).toNat : Nat))) := hrow.out.alloc _
        have hgone1 : Hid ((wr.alloc (Obj.cells #[.int .i64 1, .int .i64 s.t, .int .i64 s.n, .string (n.extract s.t (s.t + s.n)), .int .i64 0] 37)).rowIs G 4 n.size (fun j => .bool (covS (M.take i) j))) := hgone.out.alloc _
        have hbox1 : Hid ((wr.alloc (Obj.cells #[.int .i64 1, .int .i64 s.t, .int .i64 s.n, .string (n.extract s.t (s.t + s.n)), .int .i64 0] 37)).heap[wr.heap.size]? = some (.cells #[.int .i64 1, .int .i64 s.t, .int .i64 s.n, .string (n.extract s.t (s.t + s.n)), .int .i64 0] 37 (0, 0))) := heap_alloc_new wr _
        have hbel1 : Hid (Below B v5 (wr.alloc (Obj.cells #[.int .i64 1, .int .i64 s.t, .int .i64 s.n, .string (n.extract s.t (s.t + s.n)), .int .i64 0] 37))) := hbel.out.alloc (by omega) _
        go_wp2_with fail
        clear c0 c1 c2 c3 c4 p4 hrow hgone hbel
        generalize wr.heap.size = X at *
        generalize wr.alloc (Obj.cells #[.int .i64 1, .int .i64 s.t, .int .i64 s.n, .string (n.extract s.t (s.t + s.n)), .int .i64 0] 37) = W1 at *
        refine placed_inner o n l M L B G X i s 1 0 (n.extract s.t (s.t + s.n)) v5 W1 HMD.out.sorted HS HTK hLn hL4 t2 hDs hBG (by omega) hrow1 hgone1 hbox1 hbel1 _ _ _ _ _ _ _ _ _ _ _ _ _ _ _ _ _ _ _ _ _ _ _ _ _ _ _ _ _ _ _ _ _ _ _ _ _ _ _ _ _ _ _ _ _ _ _ _ _ _ _ _ _ _ _ _ _ _ _ _ _ _ _ _ _ _ _ _ _ _ _ _ _ _ _ _ _ _ _ _ _ _ _ _ _ _ _ _ _ _ _ _ _ _ _ _ _ _ _ _ _ _ _ _ _ _ _ _ _ _ _ _ _ _ _ _ _ _ _ _ _ _ _ _ _ _ _ _ _ _ _ _ _ _ _ _ _ _ _ _ _ _ _ _ _ _ _ _ _ _ _ _ _ _ _ _ _ _ _ _ _ _ _ _ _ _ _ _ _ _ _ _ _ _ _ _ _ _ _ _ _ _ _ _ _ _ _ _ _ _ _ _ ?_ _ _ _ _ _ _ _ _ _ _ _ _ _ _ _ _ _ _ _ _ _ _ _ _ _ _ _ _ _
        intro wq u4 u17 u161 u162 u163 u164 u165 u166 u167 u168 u169 u170 u171 u172 u173 u174 u175 u176 u177 u178 u179 u180 u181 u182 u183 u184 u185 u186 u187 u188 hrow2 hgone2 hbel2
        clear hrow1 hgone1 hbox1 hbel1
        go_wp2_with fail
        exact ⟨⟨i + 1, by go_num, by omega, hrow2, hgone2, hbel2⟩, by simp [intOf]; omega⟩
      | some f =>
        have e0 : (s.st n).k = 3 := by unfold _root_.Pl.Sp.st; rw [hsrc]; rfl
        have e3 : (s.st n).d = ⟨#[]⟩ := by unfold _root_.Pl.Sp.st; rw [hsrc]; rfl
        have e4 : (s.st n).f = (f : Int) := by unfold _root_.Pl.Sp.st; rw [hsrc]; rfl
        rw [e0] at c0
        rw [e3] at c3
        rw [e4] at c4
        clear e0 e3 e4
        obtain ⟨_, f1, _⟩ := HMD.out.good.fit s (HMD.out.sorted.perm.subset (List.mem_of_getElem? HS.out)) f hsrc
        have hfr : Hid (∀ k, k < s.n → inPl o n (covS (M.take i) (f + k)) (f + k) = n.data.getD (s.t + k) 0) := fun k hk => copy_brings HMD.out.good HMD.out.sorted HS.out hsrc k hk
        have hcv := conv_part (hrow.out.alloc (Obj.cells #[.int .i64 3, .int .i64 s.t, .int .i64 s.n, .string ⟨#[]⟩, .int .i64 f] 37)) f s.n (L - f) (by omega)
        rw [part_is (x := n) (t := s.t) (m := s.n) (f := f) (g := fun j => inPl o n (covS (M.take i) j) j) hfr.out t2] at hcv
        clear hsrc hfr
        have q1 : IntKind.i64.wrap ((f : Int) + (s.n : Int)) = (f : Int) + (s.n : Int) := by rw [IntKind.wrap_i64]; omega
        have q2 : (f : Int) + (s.n : Int) ≤ (L : Int) := by omega
        have q3 : ((f : Int) + (s.n : Int)).toNat = f + s.n := by omega
        have q4 : (f : Int) ≤ (f : Int) + (s.n : Int) := by omega
        have q5 : f + s.n - f = s.n := by omega
        have hrow1 : Hid ((wr.alloc (Obj.cells #[.int .i64 3, .int .i64 s.t, .int .i64 s.n, .string ⟨#[]⟩, .int .i64 f] 37)).rowIs B 5 L (fun j => .int .u8 ((inPl o n (covS (M.take i) j) j).toNat : Nat))) := hrow.out.alloc _
        have hgone1 : Hid ((wr.alloc (Obj.cells #[.int .i64 3, .int .i64 s.t, .int .i64 s.n, .string ⟨#[]⟩, .int .i64 f] 37)).rowIs G 4 n.size (fun j => .bool (covS (M.take i) j))) := hgone.out.alloc _
        have hbox1 : Hid ((wr.alloc (Obj.cells #[.int .i64 3, .int .i64 s.t, .int .i64 s.n, .string ⟨#[]⟩, .int .i64 f] 37)).heap[wr.heap.size]? = some (.cells #[.int .i64 3, .int .i64 s.t, .int .i64 s.n, .string ⟨#[]⟩, .int .i64 f] 37 (0, 0))) := heap_alloc_new wr _
        have hbel1 : Hid (Below B v5 (wr.alloc (Obj.cells #[.int .i64 3, .int .i64 s.t, .int .i64 s.n, .string ⟨#[]⟩, .int .i64 f] 37))) := hbel.out.alloc (by omega) _
        go_wp2_with fail
        clear c0 c1 c2 c3 c4 p4 hrow hgone hbel
        generalize wr.heap.size = X at *
        generalize wr.alloc (Obj.cells #[.int .i64 3, .int .i64 s.t, .int .i64 s.n, .string ⟨#[]⟩, .int .i64 f] 37) = W1 at *
        refine placed_inner o n l M L B G X i s 3 f ⟨#[]⟩ v5 W1 HMD.out.sorted HS HTK hLn hL4 t2 hDs hBG (by omega) hrow1 hgone1 hbox1 hbel1 _ _ _ _ _ _ _ _ _ _ _ _ _ _ _ _ _ _ _ _ _ _ _ _ _ _ _ _ _ _ _ _ _ _ _ _ _ _ _ _ _ _ _ _ _ _ _ _ _ _ _ _ _ _ _ _ _ _ _ _ _ _ _ _ _ _ _ _ _ _ _ _ _ _ _ _ _ _ _ _ _ _ _ _ _ _ _ _ _ _ _ _ _ _ _ _ _ _ _ _ _ _ _ _ _ _ _ _ _ _ _ _ _ _ _ _ _ _ _ _ _ _ _ _ _ _ _ _ _ _ _ _ _ _ _ _ _ _ _ _ _ _ _ _ _ _ _ _ _ _ _ _ _ _ _ _ _ _ _ _ _ _ _ _ _ _ _ _ _ _ _ _ _ _ _ _ _ _ _ _ _ _ _ _ _ _ _ _ _ _ _ _ ?_ _ _ _ _ _ _ _ _ _ _ _ _ _ _ _ _ _ _ _ _ _ _ _ _ _ _ _ _ _
        intro wq u4 u17 u161 u162 u163 u164 u165 u166 u167 u168 u169 u170 u171 u172 u173 u174 u175 u176 u177 u178 u179 u180 u181 u182 u183 u184 u185 u186 u187 u188 hrow2 hgone2 hbel2
        clear hrow1 hgone1 hbox1 hbel1
        go_wp2_with fail
        exact ⟨⟨i + 1, by go_num, by omega, hrow2, hgone2, hbel2⟩, by simp [intOf]; omega⟩
    · have hie : i = st.length := by omega
      subst hie
      rw [← hlen, List.take_length] at hrow
      have hcv := conv_part hrow.out 0 n.size L (by omega)
      rw [whole_is (x := n) (g := fun j => inPl o n (covS M j) j) (fun k hk => by rw [all_cov HMD.out.good HMD.out.sorted.perm hk]; rfl)] at hcv
      clear hgone
      obtain ⟨p0, p1, p2, p3, p4, _⟩ := box31 (v := wr) (g := Pb) (by rw [hbel.out.block _ hPb]; exact HX.out)
      have hml : st.length ≤ 4611686018427387904 := by omega
      have HWR : Hid (Calls Try.prog 11 #[.agg #[.int .i64 o.size, .int .i64 n.size, .string (sumB o), .string (sumB n), .slice ao st.length cp]] wr fun e w' => e = .returned (.tuple #[.string T, .int .i64 0]) ∧ Below wr.heap.size wr w') := by
        have h := write_any o.size n.size (sumB o) (sumB n) ao sb so cp st wr hml (stepsAt_below HST.out hbel.out hbv)
        obtain ⟨e1, e2⟩ := made_write HMD.out.good HMD.out.sorted (by omega) (by omega)
        rw [HSM.out] at e1 e2
        rw [e1, e2, ← HMD.out.text] at h
        exact h
      have HBW : Hid (Below w.heap.size w wr) := HB.out.trans ((HBV.out ▸ hbel.out).mono HB.out.size)
      go_wp2_with fail
      refine HWR.out.mono ?_
      rintro e v6 ⟨rfl, b6⟩
      go_wp2_with fail
      refine (make_any o o _ (by omega) (by omega)).mono ?_
      rintro e v7 ⟨⟨l7, M7, T7, rfl, hmade7⟩, b7⟩
      have hT7 := (made_size hmade7 (by omega) (by omega)).2 rfl
      clear hmade7
      have d7 : decide ((T7.size : Int) ≤ 60) = true := decide_eq_true (by omega)
      have b67 : Below wr.heap.size wr v7 := b6.trans (b7.mono b6.size)
      have hcv7 := conv_part ((rowIs_below hrow.out b67)) 0 n.size L (by omega)
      rw [whole_is (x := n) (g := fun j => inPl o n (covS M j) j) (fun k hk => by rw [all_cov HMD.out.good HMD.out.sorted.perm hk]; rfl)] at hcv7
      clear hcv hrow
      go_wp2_with fail
      go_ret
      exact ⟨rfl, HBW.out.trans (b67.mono HBW.out.size)⟩

end Go.Proofs.Ytjjmcnippjpclab
