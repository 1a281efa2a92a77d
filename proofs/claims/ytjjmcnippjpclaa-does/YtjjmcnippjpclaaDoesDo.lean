/-
  The walk of does: a Do on a side.
-/
import Derived.Test.YtjjmcnippjpclaaDoesSide
import Derived.Test.YtjjmcnippjpclaaDoesFrom
namespace Go.Proofs.Ytjjmcnippjpclaa

open Go.RowKit

set_option maxRecDepth 100000 in
set_option maxHeartbeats 4000000 in
theorem does_walk (b D : Nat) (tv sv : Value) (x y : Dp.Dv) (lv : Value) (S : List Ls) (kd : Int) (ot : Bool) (P : ByteArray) (ca : Int) (nv : Value) (zs : List Int) (OL NL : Nat) (OS NS : ByteArray) (st : List Pl.St) (f r : Int) (want : ByteArray) (Po : List Ls → Prop) (w : World)
    (hO : OL ≤ 4000) (hW : want.size ≤ 1000000) (hm : x.text.length ≤ 140737488355328) (hts : x.text.length = x.safe.length) (hy1 : y.text.length = y.safe.length) (hym : y.text.length ≤ 140737488355328) (hys : y.sure ≤ y.log.length) (hyl : y.log.length ≤ 4611686018427387904)
    (hlen : Hid (∀ Sl : List Ls, Sl.Nodup → (∀ a ∈ Sl, ∃ s ∈ S, fromNew P.data.toList NS want.data.toList (OL ≤ x.text.length ∧ NL ≤ x.text.length ∧ Dp.sumL (x.text.take OL) = OS) r (y.life = 0 ∨ y.text = x.text) y zs s a) → Sl.length ≤ 4400000000000)) (hS : S.length ≤ 4400000000000) (hwt : Hid (∀ s ∈ S, s.want.length ≤ 4000)) (hz : Hid (numsOk zs)) (hr : Hid (numsAt w nv zs)) (hrb : Hid (zs ≠ [] → ∀ B a n c, nv = .slice (some ⟨B, a, none⟩) n c → B ≠ b)) (h : Hid (sideAt b D tv sv x lv S w))
    (hrp : Hid (∀ v, Calls Try.prog 16 #[.string P] v fun e v' => ∃ slv, e = .returned (.tuple #[.agg #[.int .i64 OL, .int .i64 NL, .string OS, .string NS, slv], .int .i64 f]) ∧ Below v.heap.size v v' ∧ v'.ownsRow v.heap.size 40 5 slv st.length (stCells st)))
    (hdo : Hid (∀ D' tv' sv' v, devAt D' tv' sv' x v → Calls Try.prog 27 #[.pointer (some ⟨D', 0, none⟩), .string P] v fun e v' => e = .returned (.int .i64 r) ∧ devAt D' tv' sv' y v' ∧ kept3 D' tv'.ownBlock sv'.ownBlock v v'))
    (hdone : Hid (∀ u slv B, (x.life ≠ 0 ∧ OL ≤ x.text.length ∧ NL ≤ x.text.length ∧ Dp.sumL (x.text.take OL) = OS) → World.ownsRow u B 40 5 slv st.length (stCells st) → 0 < u.heap.size → Calls Try.prog 25 #[.agg #[.int .i64 OL, .int .i64 NL, .string OS, .string NS, slv], .string ⟨x.text.toArray⟩] u fun e w' => e = .returned (.string want) ∧ Below u.heap.size u w'))
    (hPo1 : Hid (f ≠ 0 ∨ x.life = 0 → Po S)) (hPo2 : Hid (f = 0 → x.life ≠ 0 → ∀ S', (∀ a, a ∈ S' ↔ ∃ s ∈ S, goesOn x.text s ∧ fromNew P.data.toList NS want.data.toList (OL ≤ x.text.length ∧ NL ≤ x.text.length ∧ Dp.sumL (x.text.take OL) = OS) r (y.life = 0 ∨ y.text = x.text) y zs s a) → Po S'))
    (hcase : Hid ((f ≠ 0 ∧ r = f ∧ y = x) ∨ (f = 0 ∧ x.life = 0 ∧ r = 7 ∧ y = x) ∨ (f = 0 ∧ x.life ≠ 0 ∧ (r = 7 → y.life = 0) ∧ ∃ s ∈ S, goesOn x.text s ∧ ∃ a, fromNew P.data.toList NS want.data.toList (OL ≤ x.text.length ∧ NL ≤ x.text.length ∧ Dp.sumL (x.text.take OL) = OS) r (y.life = 0 ∨ y.text = x.text) y zs s a))) :
    Calls Try.prog 53 #[.pointer (some ⟨b, 0, none⟩), .agg #[.int .i64 kd, .bool ot, .string P, .int .i64 ca, nv]] w fun e w' => e = .returned (.bool true) ∧ ∃ D' tv' sv' lv' S', sideAt b D' tv' sv' y lv' S' w' ∧ sideStep (sideBlk b D tv sv lv) (sideBlk b D' tv' sv' lv') w w' ∧ Po S' := by
  obtain ⟨ao, ln, cp, rfl⟩ : ∃ ao ln cp, nv = .slice ao ln cp := by
    rcases hr.out with ⟨_, ao, c, h⟩ | ⟨b, o, c, h, _⟩
    · exact ⟨_, _, _, h⟩
    · exact ⟨_, _, _, h⟩
  obtain ⟨la, lc, rfl⟩ : ∃ a c, lv = .slice a S.length c := by
    rcases h.out.row.form with ⟨h1, rfl⟩ | ⟨g, cap, h1, _⟩
    · exact ⟨_, _, h1⟩
    · exact ⟨_, _, h1⟩
  have q0 := heap_alloc_new w (Obj.cells #[.int .i64 kd, .bool ot, .string P, .int .i64 ca, .slice ao ln cp] 60)
  have b0 := (Below.refl w.heap.size w).alloc (Nat.le_refl _) (Obj.cells #[.int .i64 kd, .bool ot, .string P, .int .i64 ca, .slice ao ln cp] 60)
  generalize hv0 : w.alloc (Obj.cells #[.int .i64 kd, .bool ot, .string P, .int .i64 ca, .slice ao ln cp] 60) = v0 at *
  have B0 : Hid (Below w.heap.size w v0) := b0
  have Q0 : Hid _ := q0
  have hbl := lt_of_heap h.out.blk
  have hsz0 : v0.heap.size = w.heap.size + 1 := by rw [← hv0]; simp
  have K0 : Hid (v0.heap[b]? = some (.cells #[.pointer (some ⟨D, 0, none⟩), .slice la S.length lc] 57 (0, 0))) := by
    show _ = _
    rw [b0.block b hbl]; exact h.out.blk
  have s0 : v0.cell? ⟨b, 0, none⟩ = some (.pointer (some ⟨D, 0, none⟩)) := by rw [Lib.cell_of_heap K0.out]; rfl
  have HC1 := copy_any D tv sv x v0 (by omega) (by omega) (h.out.dev.below b0)
  have HTS : Hid (x.text.length = x.safe.length) := hts
  have HY1 : Hid (y.text.length = y.safe.length) := hy1
  clear q0 b0 hts hy1
  go_enter Try.func53, Try.ntmps53
  go_wp2_with fail
  refine HC1.mono ?_
  rintro e v1 ⟨D1, tv1, sv1, rfl, h1, b1, f1, f2, f3⟩
  have s1 : v1.cell? ⟨b, 0, none⟩ = some (.pointer (some ⟨D, 0, none⟩)) := by rw [b1.cell (lt_of_heap K0.out)]; exact s0
  have z1 : v1.frozen? ⟨b, 0, none⟩ = false := Lib.frozen_of_heap (by rw [b1.block _ (lt_of_heap K0.out)]; exact K0.out) _
  have ID : Hid (inDoes w b D1 tv1 sv1 x (.slice la S.length lc) #[.int .i64 kd, .bool ot, .string P, .int .i64 ca, .slice ao ln cp] (v1.setCell ⟨b, 0, none⟩ (.pointer (some ⟨D1, 0, none⟩)))) := by
    have hk1 : v1.heap[b]? = some (.cells #[.pointer (some ⟨D, 0, none⟩), .slice la S.length lc] 57 (0, 0)) := by rw [b1.block _ (lt_of_heap K0.out)]; exact K0.out
    have hD1 : w.heap.size < D1 := by omega
    refine ⟨((kept3.of_below (B0.out.trans (b1.mono (by omega)))).setD _ _), ?_, ?_, ?_, hbl, hD1, fun k hk => by have := f2 k hk; omega, fun k hk => by have := f3 k hk; omega⟩
    · simp [World.setCell, Array.getElem?_modify, hk1]
    · rw [Below.heap_setCell _ _ _ _ (by show w.heap.size ≠ b; omega), b1.block _ (by omega)]; exact Q0.out
    · exact h1.of_blocks fun k hk hh => Below.heap_setCell _ _ _ _ (by
        show k ≠ b
        rcases hh with h | h | h
        · omega
        · have := f2 k h.symm; omega
        · have := f3 k h.symm; omega)
  clear h1 b1 f1 f2 f3 HC1 K0 s0 B0 Q0
  have hbw : b ≠ w.heap.size := by omega
  obtain ⟨⟨a0, a1⟩, ⟨o0, o1, o2, o3, o4⟩, fz⟩ := ID.out.cells
  go_wp2_with fail
  generalize v1.setCell ⟨b, 0, none⟩ (.pointer (some ⟨D1, 0, none⟩)) = v2 at *
  clear s1 z1 a0 a1 o0 o1 o2 o3 o4 fz
  refine (hrp.out v2).mono ?_
  rintro e v3 ⟨slv, rfl, b3, r3⟩
  obtain ⟨pa, pc, rfl⟩ := ownsRow_slice r3
  have IP3 : Hid (inPlan D1 tv1 sv1 v2.heap.size v3.heap.size (.int .i64 OL) (.int .i64 NL) (.string OS) (.string NS) (.slice pa st.length pc) st (v3.alloc (Obj.cells #[.int .i64 OL, .int .i64 NL, .string OS, .string NS, .slice pa st.length pc] 31))) :=
    ⟨heap_alloc_new v3 _, ownsRow_of_block r3 fun k hk => Below.heap_alloc _ _ _ (r3.lt k hk).2, ID.out.dev.lt, fun k hk => ID.out.dev.text.lt hk, fun k hk => ID.out.dev.safe.lt hk, b3.size⟩
  have ID3 : Hid (inDoes w b D1 tv1 sv1 x (.slice la S.length lc) #[.int .i64 kd, .bool ot, .string P, .int .i64 ca, .slice ao ln cp] (v3.alloc (Obj.cells #[.int .i64 OL, .int .i64 NL, .string OS, .string NS, .slice pa st.length pc] 31))) := ID.out.below (b3.alloc b3.size _)
  clear b3 r3 ID
  go_wp2_with fail
  generalize v3.alloc (Obj.cells #[.int .i64 OL, .int .i64 NL, .string OS, .string NS, .slice pa st.length pc] 31) = v4 at *
  generalize v3.heap.size = Pb at *
  generalize v2.heap.size = M at *
  obtain ⟨was, hwas⟩ : ∃ u, u = tOf x := ⟨_, rfl⟩
  obtain ⟨al, hal⟩ : ∃ u, u = decide (x.life ≠ 0) := ⟨_, rfl⟩
  have HLn : Hid (∀ u, Below v4.heap.size v4 u → Calls Try.prog 49 #[.pointer (some ⟨D1, 0, none⟩)] u fun e w' => e = .returned (.int .i64 x.text.length) ∧ w' = u) := fun u hu => len_any D1 tv1 sv1 x u (ID3.out.dev.below hu)
  have HTx : Hid (∀ u, Below v4.heap.size v4 u → Calls Try.prog 44 #[.pointer (some ⟨D1, 0, none⟩), .int .i64 x.text.length] u fun e w' => e = .returned (.tuple #[.string was, .bool al]) ∧ w' = u) := fun u hu => by rw [hwas, hal]; exact lawTextAll D1 tv1 sv1 x u hm (ID3.out.dev.below hu)
  have HFt : Hid (∀ u, Below v4.heap.size v4 u → Calls Try.prog 93 #[.pointer (some ⟨D1, 0, none⟩), .agg #[.int .i64 OL, .int .i64 NL, .string OS, .string NS, .slice pa st.length pc]] u fun e w' => ∃ B : Bool, e = .returned (.bool B) ∧ (B = true ↔ x.life ≠ 0 ∧ OL ≤ x.text.length ∧ NL ≤ x.text.length ∧ Dp.sumL (x.text.take OL) = OS) ∧ Below u.heap.size u w') := fun u hu => fits_any D1 tv1 sv1 x OL NL OS NS (.slice pa st.length pc) u hO hm (ID3.out.dev.below hu)
  obtain ⟨⟨a0, -⟩, -, -⟩ := ID3.out.cells
  obtain ⟨p0, p1, p2, p3, p4, -⟩ := box31 IP3.out.box
  have HWas : Hid (was = tOf x) := hwas
  have HAl : Hid (al = decide (x.life ≠ 0)) := hal
  clear hwas hal
  have HA0 : Hid (v4.drew.cell? ⟨b, 0, none⟩ = some (.pointer (some ⟨D1, 0, none⟩))) := a0
  have HA5 : Hid (∀ v, Below v4.drew.heap.size v4.drew v → v.cell? ⟨b, 0, none⟩ = some (.pointer (some ⟨D1, 0, none⟩))) := fun v hv => (ID3.out.below ((Below.refl _ _).drew.trans hv)).cells.1.1
  have HA6 : Hid (∀ v u, Below v4.drew.heap.size v4.drew v → Below v.heap.size v u → u.cell? ⟨b, 0, none⟩ = some (.pointer (some ⟨D1, 0, none⟩))) := fun v u hv hu => ((ID3.out.below ((Below.refl _ _).drew.trans hv)).below hu).cells.1.1
  have HLn2 : Hid (Calls Try.prog 49 #[.pointer (some ⟨D1, 0, none⟩)] v4.drew fun e w' => e = .returned (.int .i64 x.text.length) ∧ Below v4.drew.heap.size v4.drew w') := (HLn.out _ (Below.refl _ _).drew).mono (by rintro e w' ⟨h1, rfl⟩; exact ⟨h1, Below.refl _ _⟩)
  have HTx2 : Hid (∀ v, Below v4.drew.heap.size v4.drew v → Calls Try.prog 44 #[.pointer (some ⟨D1, 0, none⟩), .int .i64 x.text.length] v fun e w' => e = .returned (.tuple #[.string was, .bool al]) ∧ Below v.heap.size v w') := fun v hv => (HTx.out _ ((Below.refl _ _).drew.trans hv)).mono (by rintro e w' ⟨h1, rfl⟩; exact ⟨h1, Below.refl _ _⟩)
  clear a0
  go_region_held3 (fun u => u.cell? ⟨b, 0, none⟩ = some (.pointer (some ⟨D1, 0, none⟩))) (first | exact HA0.out | exact HA5.out _ b5 | exact HA6.out _ _ b5 b6) (first | (go_at_call 49; refine HLn2.out.mono ?_; rintro e v5 ⟨rfl, b5⟩) | (go_at_call 44; refine (HTx2.out _ b5).mono ?_; rintro e v6 ⟨rfl, b6⟩))
  have B6 : Below v4.heap.size v4 v6 := ((Below.refl _ _).drew.trans b5).trans (b6.mono b5.size)
  have ID6 : Hid (inDoes w b D1 tv1 sv1 x (.slice la S.length lc) #[.int .i64 kd, .bool ot, .string P, .int .i64 ca, .slice ao ln cp] v6) := ID3.out.below B6
  have IP6 : Hid (inPlan D1 tv1 sv1 M Pb (.int .i64 OL) (.int .i64 NL) (.string OS) (.string NS) (.slice pa st.length pc) st v6) := IP3.out.below B6
  have HQ6 : Hid (∀ u, Below v6.heap.size v6 u → (u.cell? ⟨b, 0, none⟩ = some (.pointer (some ⟨D1, 0, none⟩)) ∧ u.cell? ⟨Pb, 0, none⟩ = some (.int .i64 OL) ∧ u.cell? ⟨Pb, 1, none⟩ = some (.int .i64 NL) ∧ u.cell? ⟨Pb, 2, none⟩ = some (.string OS) ∧ u.cell? ⟨Pb, 3, none⟩ = some (.string NS) ∧ u.cell? ⟨Pb, 4, none⟩ = some (.slice pa st.length pc))) := fun u hu => by
    obtain ⟨p0, p1, p2, p3, p4, -⟩ := box31 (IP6.out.below hu).box
    exact ⟨(ID6.out.below hu).cells.1.1, p0, p1, p2, p3, p4⟩
  have HFt6 : Hid (Calls Try.prog 93 #[.pointer (some ⟨D1, 0, none⟩), .agg #[.int .i64 OL, .int .i64 NL, .string OS, .string NS, .slice pa st.length pc]] v6.drew fun e w' => ∃ B : Bool, e = .returned (.bool B) ∧ (B = true ↔ x.life ≠ 0 ∧ OL ≤ x.text.length ∧ NL ≤ x.text.length ∧ Dp.sumL (x.text.take OL) = OS) ∧ Below v6.drew.heap.size v6.drew w') := HFt.out v6.drew B6.drew
  clear b5 b6 B6 HA0 HA5 HA6 HLn2 HTx2 HLn HTx HFt p0 p1 p2 p3 p4 ID3 IP3
  have HQ60 : Hid _ := HQ6.out v6.drew (Below.refl _ _).drew
  have HQ67 : Hid (∀ u, Below v6.drew.heap.size v6.drew u → _) := fun u hu => HQ6.out u ((Below.refl _ _).drew.trans hu)
  clear HQ6
  go_wp2_with fail
  go_region_held3 (fun u => u.cell? ⟨b, 0, none⟩ = some (.pointer (some ⟨D1, 0, none⟩)) ∧ u.cell? ⟨Pb, 0, none⟩ = some (.int .i64 OL) ∧ u.cell? ⟨Pb, 1, none⟩ = some (.int .i64 NL) ∧ u.cell? ⟨Pb, 2, none⟩ = some (.string OS) ∧ u.cell? ⟨Pb, 3, none⟩ = some (.string NS) ∧ u.cell? ⟨Pb, 4, none⟩ = some (.slice pa st.length pc)) (first | exact HQ60.out | exact HQ67.out _ b7) ((go_at_call 93; refine HFt6.out.mono ?_; rintro e v7 ⟨fit, rfl, hfit, b7⟩))
  have HFit : Hid _ := hfit
  have B7 : Below v6.heap.size v6 v7 := (Below.refl _ _).drew.trans b7
  have ID7 : Hid (inDoes w b D1 tv1 sv1 x (.slice la S.length lc) #[.int .i64 kd, .bool ot, .string P, .int .i64 ca, .slice ao ln cp] v7) := ID6.out.below B7
  have IP7 : Hid (inPlan D1 tv1 sv1 M Pb (.int .i64 OL) (.int .i64 NL) (.string OS) (.string NS) (.slice pa st.length pc) st v7) := IP6.out.below B7
  clear hfit b7 B7 ID6 IP6 HQ60 HQ67 HFt6
  obtain ⟨⟨a0, -⟩, -, -⟩ := ID7.out.cells
  have HCp := copy_any D1 tv1 sv1 x v7 (by omega) (by have := HTS.out; omega) ID7.out.dev
  go_wp2_with fail
  refine HCp.mono ?_
  rintro e v8 ⟨D2, tv2, sv2, rfl, h8, b8, f1, f2, f3⟩
  have o2 := (ID7.out.below b8).cells.2.1.2.2.1
  go_wp2_with fail
  refine (hdo.out D2 tv2 sv2 v8 h8).mono ?_
  rintro e v9 ⟨rfl, h9, k9⟩
  have B9 : Below v7.heap.size v7 v9 := b8.trans (k9.below b8.size f1 f2 f3)
  have ID9 : Hid (inDoes w b D1 tv1 sv1 x (.slice la S.length lc) #[.int .i64 kd, .bool ot, .string P, .int .i64 ca, .slice ao ln cp] v9) := ID7.out.below B9
  have IP9 : Hid (inPlan D1 tv1 sv1 M Pb (.int .i64 OL) (.int .i64 NL) (.string OS) (.string NS) (.slice pa st.length pc) st v9) := IP7.out.below B9
  have AP : Hid (∀ k, k = D2 ∨ some k = tv2.ownBlock ∨ some k = sv2.ownBlock → k ≠ D1 ∧ some k ≠ tv1.ownBlock ∧ some k ≠ sv1.ownBlock) := fun k hk => by
    have hk7 : v7.heap.size ≤ k := by
      rcases hk with h | h | h
      · omega
      · exact f2 k h.symm
      · exact f3 k h.symm
    exact ⟨by have := ID7.out.dev.lt; omega, fun e => by have := ID7.out.dev.text.lt e.symm; omega, fun e => by have := ID7.out.dev.safe.lt e.symm; omega⟩
  have H9 : Hid (devAt D2 tv2 sv2 y v9) := h9
  clear h9 k9 B9 f1 f2 f3 b8 h8 o2 a0 HCp ID7 IP7
  have HQ90 : Hid (v9.drew.cell? ⟨b, 0, none⟩ = some (.pointer (some ⟨D1, 0, none⟩)) ∧ v9.drew.cell? ⟨w.heap.size, 2, none⟩ = some (.string P)) := ⟨ID9.out.cells.1.1, ID9.out.cells.2.1.2.2.1⟩
  have HQ91 : Hid (∀ u, devAt D1 tv1 sv1 y u → kept3 D1 tv1.ownBlock sv1.ownBlock v9.drew u → u.cell? ⟨b, 0, none⟩ = some (.pointer (some ⟨D1, 0, none⟩)) ∧ u.cell? ⟨w.heap.size, 2, none⟩ = some (.string P)) := fun u hu ku => by
    have hq := (ID9.out.below (Below.refl _ _).drew).step ku hu
    exact ⟨hq.cells.1.1, hq.cells.2.1.2.2.1⟩
  have HD9 : Hid (Calls Try.prog 27 #[.pointer (some ⟨D1, 0, none⟩), .string P] v9.drew fun e v' => e = .returned (.int .i64 r) ∧ devAt D1 tv1 sv1 y v' ∧ kept3 D1 tv1.ownBlock sv1.ownBlock v9.drew v') := hdo.out D1 tv1 sv1 v9.drew (ID9.out.below (Below.refl _ _).drew).dev
  go_wp2_with fail
  go_region_held3 (fun u => u.cell? ⟨b, 0, none⟩ = some (.pointer (some ⟨D1, 0, none⟩)) ∧ u.cell? ⟨w.heap.size, 2, none⟩ = some (.string P)) (first | exact HQ90.out | exact HQ91.out _ h10 k10) ((go_at_call 27; refine HD9.out.mono ?_; rintro e v10 ⟨rfl, h10, k10⟩))
  have ID10 : Hid (inDoes w b D1 tv1 sv1 y (.slice la S.length lc) #[.int .i64 kd, .bool ot, .string P, .int .i64 ca, .slice ao ln cp] v10) := (ID9.out.below (Below.refl _ _).drew).step k10 h10
  have IP10 : Hid (inPlan D1 tv1 sv1 M Pb (.int .i64 OL) (.int .i64 NL) (.string OS) (.string NS) (.slice pa st.length pc) st v10) := (IP9.out.below (Below.refl _ _).drew).step k10
  have H10 : Hid (devAt D2 tv2 sv2 y v10) := H9.out.of_blocks fun k hk hh => k10.block k hk (AP.out k hh).1 (AP.out k hh).2.1 (AP.out k hh).2.2
  clear h10 k10 HQ90 HQ91 HD9 ID9 IP9 H9 AP
  go_wp2_with fail
  refine (readLog_any D2 tv2 sv2 y v10 H10).mono ?_
  rintro e v11 ⟨rfl, q1, h11⟩
  have B11 : Below v10.heap.size v10 v11 := by rw [h11]; exact below_drewN (Below.refl _ _) _
  have ID11 : Hid (inDoes w b D1 tv1 sv1 y (.slice la S.length lc) #[.int .i64 kd, .bool ot, .string P, .int .i64 ca, .slice ao ln cp] v11) := ID10.out.below B11
  have IP11 : Hid (inPlan D1 tv1 sv1 M Pb (.int .i64 OL) (.int .i64 NL) (.string OS) (.string NS) (.slice pa st.length pc) st v11) := IP10.out.below B11
  clear h11 B11 ID10 IP10 H10
  obtain ⟨⟨a0, -⟩, -, -⟩ := ID11.out.cells
  go_wp2_with fail
  refine (readLog_any D1 tv1 sv1 y v11 ID11.out.dev).mono ?_
  rintro e v12 ⟨rfl, q2, h12⟩
  have B12 : Below v11.heap.size v11 v12 := by rw [h12]; exact below_drewN (Below.refl _ _) _
  have ID12 : Hid (inDoes w b D1 tv1 sv1 y (.slice la S.length lc) #[.int .i64 kd, .bool ot, .string P, .int .i64 ca, .slice ao ln cp] v12) := ID11.out.below B12
  have IP12 : Hid (inPlan D1 tv1 sv1 M Pb (.int .i64 OL) (.int .i64 NL) (.string OS) (.string NS) (.slice pa st.length pc) st v12) := IP11.out.below B12
  clear h12 B12 ID11 IP11 a0
  obtain ⟨now, hnow⟩ : ∃ u, u = tOf y := ⟨_, rfl⟩
  obtain ⟨still, hstill⟩ : ∃ u, u = decide (y.life ≠ 0) := ⟨_, rfl⟩
  obtain ⟨⟨a0, -⟩, -, -⟩ := ID12.out.cells
  have HA0 : Hid (v12.drew.cell? ⟨b, 0, none⟩ = some (.pointer (some ⟨D1, 0, none⟩))) := a0
  have HA5 : Hid (∀ v, Below v12.drew.heap.size v12.drew v → v.cell? ⟨b, 0, none⟩ = some (.pointer (some ⟨D1, 0, none⟩))) := fun v hv => (ID12.out.below ((Below.refl _ _).drew.trans hv)).cells.1.1
  have HA6 : Hid (∀ v u, Below v12.drew.heap.size v12.drew v → Below v.heap.size v u → u.cell? ⟨b, 0, none⟩ = some (.pointer (some ⟨D1, 0, none⟩))) := fun v u hv hu => ((ID12.out.below ((Below.refl _ _).drew.trans hv)).below hu).cells.1.1
  have HLn2 : Hid (Calls Try.prog 49 #[.pointer (some ⟨D1, 0, none⟩)] v12.drew fun e w' => e = .returned (.int .i64 y.text.length) ∧ Below v12.drew.heap.size v12.drew w') := (len_any D1 tv1 sv1 y v12.drew (ID12.out.below (Below.refl _ _).drew).dev).mono (by rintro e w' ⟨h1, rfl⟩; exact ⟨h1, Below.refl _ _⟩)
  have HTx2 : Hid (∀ v, Below v12.drew.heap.size v12.drew v → Calls Try.prog 44 #[.pointer (some ⟨D1, 0, none⟩), .int .i64 y.text.length] v fun e w' => e = .returned (.tuple #[.string now, .bool still]) ∧ Below v.heap.size v w') := fun v hv => (lawTextAll D1 tv1 sv1 y v hym (ID12.out.below ((Below.refl _ _).drew.trans hv)).dev).mono (by rintro e w' ⟨h1, rfl⟩; rw [hnow, hstill]; exact ⟨h1, Below.refl _ _⟩)
  have HNow : Hid (now = tOf y) := hnow
  have HStill : Hid (still = decide (y.life ≠ 0)) := hstill
  clear a0 hnow hstill
  go_wp2_with fail
  go_region_held3 (fun u => u.cell? ⟨b, 0, none⟩ = some (.pointer (some ⟨D1, 0, none⟩))) (first | exact HA0.out | exact HA5.out _ b5 | exact HA6.out _ _ b5 b6) (first | (go_at_call 49; refine HLn2.out.mono ?_; rintro e v13 ⟨rfl, b5⟩) | (go_at_call 44; refine (HTx2.out _ b5).mono ?_; rintro e v14 ⟨rfl, b6⟩))
  have B14 : Below v12.heap.size v12 v14 := ((Below.refl _ _).drew.trans b5).trans (b6.mono b5.size)
  have ID14 : Hid (inDoes w b D1 tv1 sv1 y (.slice la S.length lc) #[.int .i64 kd, .bool ot, .string P, .int .i64 ca, .slice ao ln cp] v14) := ID12.out.below B14
  have IP14 : Hid (inPlan D1 tv1 sv1 M Pb (.int .i64 OL) (.int .i64 NL) (.string OS) (.string NS) (.slice pa st.length pc) st v14) := IP12.out.below B14
  clear b5 b6 B14 HA0 HA5 HA6 HLn2 HTx2 ID12 IP12
  have HRow : Hid (∀ u, kept3 b none none w u → stRow u (.slice la S.length lc) S) := fun u hu => h.out.row.of_block fun k hk => hu.block k (h.out.row.lt hk) (fun e => h.out.bl (by rw [hk, e])) (fun e => by cases e) (fun e => by cases e)
  have HEnd : Hid (sideAt b D1 tv1 sv1 y (.slice la S.length lc) S v14 ∧ sideStep (sideBlk b D tv sv (.slice la S.length lc)) (sideBlk b D1 tv1 sv1 (.slice la S.length lc)) w v14) :=
    ID14.out.fin (HRow.out _ ID14.out.kept) (.inl rfl) fun k hk => .inl ⟨.inr (.inr (.inr (.inr hk))), h.out.row.lt hk, fun e => h.out.bl (by rw [hk, e])⟩
  rcases hcase.out with ⟨hf, hrf, hyx⟩ | ⟨hf, hl0, hr7, -⟩ | ⟨hf, hl0, h7, hne⟩
  · have hnw : now = was := by rw [HNow.out, HWas.out, hyx]
    have HPo : Hid (Po S) := hPo1.out (.inl hf)
    subst hrf hnw
    have d0 : (r != 0) = true := by simpa using hf
    have d1 : ¬ r = 0 := hf
    clear hyx hf
    cases still with
    | true =>
      go_wp2_with fail
      go_ret
      exact ⟨rfl, D1, tv1, sv1, _, S, HEnd.out.1, HEnd.out.2, HPo.out⟩
    | false =>
      go_wp2_with fail
      go_ret
      exact ⟨rfl, D1, tv1, sv1, _, S, HEnd.out.1, HEnd.out.2, HPo.out⟩
  · have hal : al = false := by rw [HAl.out]; exact decide_eq_false (by simpa using hl0)
    have HPo : Hid (Po S) := hPo1.out (.inr hl0)
    subst hf hr7 hal
    clear hl0
    go_wp2_with fail
    go_ret
    exact ⟨rfl, D1, tv1, sv1, _, S, HEnd.out.1, HEnd.out.2, HPo.out⟩
  · have hal : al = true := by rw [HAl.out]; exact decide_eq_true hl0
    have HL0 : Hid (x.life ≠ 0) := hl0
    have HNe : Hid _ := hne
    have hst7 : r = 7 → still = false := fun e => by rw [HStill.out]; exact decide_eq_false (by simpa using h7 e)
    have d7' : (r = 7 ∧ still = false) ∨ (r == 7) = false := by
      by_cases e : r = 7
      · exact .inl ⟨e, hst7 e⟩
      · exact .inr (by simpa using e)
    have HPo : Hid _ := hPo2.out hf hl0
    subst hf hal
    clear hl0 hne h7 hst7 HEnd
    rcases d7' with ⟨hr7, hs7⟩ | d7
    · subst hr7 hs7
      have ID15 : Hid (inDoes w b D1 tv1 sv1 y (.slice la S.length lc) #[.int .i64 kd, .bool ot, .string P, .int .i64 ca, .slice ao ln cp] (v14.alloc (Obj.cells #[.int .i64 kd, .bool ot, .string P, .int .i64 ca, .slice ao ln cp, .int .i64 OL, .int .i64 NL, .string OS, .string NS, .slice pa st.length pc, .bool fit, .string was, .int .i64 7, .string now, .bool false] 137))) := ID14.out.below ((Below.refl _ _).alloc (Nat.le_refl _) _)
      have IP15 : Hid (inPlan D1 tv1 sv1 M Pb (.int .i64 OL) (.int .i64 NL) (.string OS) (.string NS) (.slice pa st.length pc) st (v14.alloc (Obj.cells #[.int .i64 kd, .bool ot, .string P, .int .i64 ca, .slice ao ln cp, .int .i64 OL, .int .i64 NL, .string OS, .string NS, .slice pa st.length pc, .bool fit, .string was, .int .i64 7, .string now, .bool false] 137))) := IP14.out.below ((Below.refl _ _).alloc (Nat.le_refl _) _)
      have Q15 : Hid ((v14.alloc (Obj.cells #[.int .i64 kd, .bool ot, .string P, .int .i64 ca, .slice ao ln cp, .int .i64 OL, .int .i64 NL, .string OS, .string NS, .slice pa st.length pc, .bool fit, .string was, .int .i64 7, .string now, .bool false] 137)).heap[v14.heap.size]? = some (.cells #[.int .i64 kd, .bool ot, .string P, .int .i64 ca, .slice ao ln cp, .int .i64 OL, .int .i64 NL, .string OS, .string NS, .slice pa st.length pc, .bool fit, .string was, .int .i64 7, .string now, .bool false] 137 (0, 0))) := heap_alloc_new v14 _
      obtain ⟨-, ⟨o0, o1, o2, o3, o4⟩, -⟩ := ID14.out.cells
      obtain ⟨p0, p1, p2, p3, p4, -⟩ := box31 IP14.out.box
      obtain ⟨⟨a0, a1⟩, -, fz⟩ := ID15.out.cells
      have HCw : Hid (w.heap.size ≤ v14.heap.size) := ID14.out.kept.size
      have hC14 : v14.heap.size < (v14.alloc (Obj.cells #[.int .i64 kd, .bool ot, .string P, .int .i64 ca, .slice ao ln cp, .int .i64 OL, .int .i64 NL, .string OS, .string NS, .slice pa st.length pc, .bool fit, .string was, .int .i64 7, .string now, .bool false] 137)).heap.size := by simp
      go_wp2_with fail
      clear o0 o1 o2 o3 o4 p0 p1 p2 p3 p4 a0 a1 fz ID14 IP14
      generalize (v14.alloc (Obj.cells #[.int .i64 kd, .bool ot, .string P, .int .i64 ca, .slice ao ln cp, .int .i64 OL, .int .i64 NL, .string OS, .string NS, .slice pa st.length pc, .bool fit, .string was, .int .i64 7, .string now, .bool false] 137)) = v15 at *
      generalize v14.heap.size = C at *
      refine (likely_any (.slice la S.length lc) S was v15 (by omega) (fun s hs => Nat.le_trans (hwt.out s hs) (by omega)) (HRow.out _ ID15.out.kept)).mono ?_
      rintro e u1 ⟨v1', S1, rfl, row1, mem1, len1, step1⟩
      obtain ⟨b1, c1, rfl⟩ : ∃ a c, v1' = .slice a S1.length c := by
        rcases row1.form with ⟨h1, rfl⟩ | ⟨g, cap, h1, _⟩
        · exact ⟨_, _, h1⟩
        · exact ⟨_, _, h1⟩
      have B16 : Below v15.heap.size v15 u1 := ⟨step1.grown.os, step1.grown.tape, step1.grown.output, step1.grown.size, fun k hk => step1.grown.block k hk (fun e => by cases e)⟩
      have IDu := ID15.out.below B16
      have IDL : Hid (inDoes w b D1 tv1 sv1 y (.slice b1 S1.length c1) #[.int .i64 kd, .bool ot, .string P, .int .i64 ca, .slice ao ln cp] (u1.setCell ⟨b, 1, none⟩ (.slice b1 S1.length c1))) := IDu.setRow _
      have IPL : Hid (inPlan D1 tv1 sv1 M Pb (.int .i64 OL) (.int .i64 NL) (.string OS) (.string NS) (.slice pa st.length pc) st (u1.setCell ⟨b, 1, none⟩ (.slice b1 S1.length c1))) := (IP15.out.below B16).set _ _ (by have := IDu.lb; have := IDu.lD; have := IP15.out.lD; omega)
      have QL : Hid ((u1.setCell ⟨b, 1, none⟩ (.slice b1 S1.length c1)).heap[C]? = some (.cells #[.int .i64 kd, .bool ot, .string P, .int .i64 ca, .slice ao ln cp, .int .i64 OL, .int .i64 NL, .string OS, .string NS, .slice pa st.length pc, .bool fit, .string was, .int .i64 7, .string now, .bool false] 137 (0, 0))) := by
        show _ = _
        rw [Below.heap_setCell _ _ _ _ (by show C ≠ b; have := IDu.lb; have := HCw.out; omega), B16.block C hC14]; exact Q15.out
      have hown1 : ∀ k, (Value.slice b1 S1.length c1).ownBlock = some k → v15.heap.size ≤ k := fun k hk => by
        rcases step1.own with e | ⟨g, e, hg⟩
        · rw [e] at hk; cases hk
        · rw [e] at hk; have := Option.some.inj hk; omega
      have RowL : Hid (stRow (u1.setCell ⟨b, 1, none⟩ (.slice b1 S1.length c1)) (.slice b1 S1.length c1) S1) := row1.of_block fun k hk => Below.heap_setCell _ _ _ _ (by show k ≠ b; have := hown1 k hk; have := IDu.lb; have := ID15.out.kept.size; omega)
      have HMem1 : Hid (∀ a, a ∈ S1 ↔ a ∈ S ∧ goesOn x.text a) := fun a => by rw [mem1 a, HWas.out]; unfold tOf; rw [if_neg HL0.out]
      obtain ⟨⟨a0, a1⟩, -, fz⟩ := IDu.cells
      have fz1 := fz 1
      obtain ⟨⟨l0, l1⟩, -, -⟩ := IDL.out.cells
      clear fz mem1 row1 step1 B16 IDu ID15 IP15 Q15 hC14
      go_wp2_with fail
      clear a0 a1 fz1 l0 l1
      generalize u1.setCell ⟨b, 1, none⟩ (.slice b1 S1.length c1) = wL at *
      obtain ⟨FN, hfn⟩ : ∃ F, F = fromNew P.data.toList NS want.data.toList (fit = true) 7 (false = false ∨ now = was) y zs := ⟨_, rfl⟩
      have HFN : Hid (∀ s a, FN s a ↔ fromNew P.data.toList NS want.data.toList (OL ≤ x.text.length ∧ NL ≤ x.text.length ∧ Dp.sumL (x.text.take OL) = OS) 7 (y.life = 0 ∨ y.text = x.text) y zs s a) := fun s a => by
        rw [hfn]
        have e1 : (fit = true) = (OL ≤ x.text.length ∧ NL ≤ x.text.length ∧ Dp.sumL (x.text.take OL) = OS) := propext (HFit.out.trans ⟨fun h => h.2, fun h => ⟨HL0.out, h⟩⟩)
        have e2 : (false = false ∨ now = was) = (y.life = 0 ∨ y.text = x.text) := propext (same_text HL0.out HStill.out HNow.out HWas.out)
        rw [e1, e2]
      have HFr : Hid (∀ u vl Sl s, Below wL.heap.size wL u → Sl.length ≤ 4400000000000 → stRow u vl Sl → s ∈ S1 → Calls Try.prog 94 #[.agg #[.int .i64 kd, .bool ot, .string P, .int .i64 ca, .slice ao ln cp, .int .i64 OL, .int .i64 NL, .string OS, .string NS, .slice pa st.length pc, .bool fit, .string was, .int .i64 7, .string now, .bool false], .pointer (some ⟨D1, 0, none⟩), .agg #[.string ⟨s.patch.toArray⟩, .string ⟨s.want.toArray⟩, .bool s.done], vl] u fun e' w' => ∃ v' S', e' = .returned v' ∧ stRow w' v' S' ∧ (∀ a, a ∈ S' ↔ a ∈ Sl ∨ FN s a) ∧ S'.length ≤ Sl.length + 3 ∧ rowStep vl v' u w') := fun u vl Sl s hu hSl hrow hs => by
        have hk : kept3 b none none w u := IDL.out.kept.trans (.of_below hu)
        rw [hfn]
        refine from_any kd ot P ca OL NL OS NS (.slice pa st.length pc) fit was 7 now false D1 tv1 sv1 y (.slice ao ln cp) zs ⟨s.patch.toArray⟩ ⟨s.want.toArray⟩ s.done vl Sl want u ?_ hW hSl HY1.out hym hys hyl hz ?_ (IDL.out.dev.below hu) hrow ?_
        · rw [strSize]; exact Nat.le_trans (hwt.out s ((HMem1.out s).1 hs).1) (by omega)
        · exact hr.out.of_blocks2 (fun hne B a n c e hl => hk.block B hl (hrb.out hne B a n c e) (fun e => by cases e) (fun e => by cases e)) hk.size
        · intro hft u' hu'
          have hw : was = ⟨x.text.toArray⟩ := by rw [HWas.out]; unfold tOf; rw [if_neg HL0.out]
          rw [hw]
          exact hdone.out u' _ M (HFit.out.1 hft) ((IPL.out.below hu).below hu').row (Nat.lt_of_le_of_lt (Nat.zero_le _) (lt_of_heap ((IPL.out.below hu).below hu').box))
      have HBx : Hid (∀ u, Below wL.heap.size wL u → u.heap[C]? = some (.cells #[.int .i64 kd, .bool ot, .string P, .int .i64 ca, .slice ao ln cp, .int .i64 OL, .int .i64 NL, .string OS, .string NS, .slice pa st.length pc, .bool fit, .string was, .int .i64 7, .string now, .bool false] 137 (0, 0))) := fun u hu => by rw [hu.block C (lt_of_heap QL.out)]; exact QL.out
      have hS1 : S1.length ≤ 4400000000000 := by omega
      have HM : Hid (∀ Sl : List Ls, (∀ a, a ∈ Sl ↔ ∃ s ∈ S1, FN s a) → Po Sl ∧ 0 < Sl.length) := fun Sl hSl => by
        have hm : ∀ a, a ∈ Sl ↔ ∃ s ∈ S, goesOn x.text s ∧ fromNew P.data.toList NS want.data.toList (OL ≤ x.text.length ∧ NL ≤ x.text.length ∧ Dp.sumL (x.text.take OL) = OS) 7 (y.life = 0 ∨ y.text = x.text) y zs s a := fun a => by
          rw [hSl a]
          constructor
          · rintro ⟨s, h1, h2⟩
            exact ⟨s, ((HMem1.out s).1 h1).1, ((HMem1.out s).1 h1).2, (HFN.out s a).1 h2⟩
          · rintro ⟨s, h1, h2, h3⟩
            exact ⟨s, (HMem1.out s).2 ⟨h1, h2⟩, (HFN.out s a).2 h3⟩
        refine ⟨HPo.out Sl hm, ?_⟩
        obtain ⟨s, h1, h2, a, h3⟩ := HNe.out
        exact List.length_pos_of_mem ((hm a).2 ⟨s, h1, h2, h3⟩)
      have HLn : Hid (∀ Sl : List Ls, Sl.Nodup → (∀ a ∈ Sl, ∃ s ∈ S1, FN s a) → Sl.length ≤ 4400000000000) := fun Sl hnd hSl => hlen.out Sl hnd fun a ha => by
        obtain ⟨s, h1, h2⟩ := hSl a ha
        exact ⟨s, ((HMem1.out s).1 h1).1, (HFN.out s a).1 h2⟩
      clear hfn HFN HPo HNe HMem1 hlen
      clear HStill HNow HWas HAl HFit hwt hdone hrp hdo hr hrb hcase
      go_loopw [20, 21] (fun vl xi wr => ∃ (i : Nat) (Sl : List Ls), xi = .int .i64 i ∧ i ≤ S1.length ∧ Hid (stRow wr vl Sl) ∧ Hid (∀ a, a ∈ Sl ↔ ∃ s ∈ S1.take i, FN s a) ∧ Hid (rowStep (.slice none 0 0) vl wL wr)) (fun _ xi _ => S1.length - (intOf xi).toNat)
      case atStart => exact ⟨0, [], rfl, Nat.zero_le _, stRow_nil _, fun a => by simp, rowStep.refl _ _⟩
      case round =>
        obtain ⟨i, Sl, rfl, hi, hrow, hmem, hkp⟩ := hrel
        have hB : Below wL.heap.size wL wr := ⟨hkp.out.grown.os, hkp.out.grown.tape, hkp.out.grown.output, hkp.out.grown.size, fun k hk => hkp.out.grown.block k hk (fun e => by cases e)⟩
        have HBel : Hid (Below wL.heap.size wL wr) := hB
        obtain ⟨⟨l0, l1⟩, -, fz⟩ := (IDL.out.below hB).cells
        have fz1 := fz 1
        clear fz
        obtain ⟨va, vb, vc, rfl⟩ : ∃ p q r, u20 = .slice p q r := by
          rcases hrow.out.form with ⟨h1, _⟩ | ⟨g, cap, h1, _⟩
          · exact ⟨_, _, _, h1⟩
          · exact ⟨_, _, _, h1⟩
        by_cases hlt : i < S1.length
        · obtain ⟨s, hs⟩ : ∃ s, S1[i]? = some s := ⟨S1[i], List.getElem?_eq_getElem hlt⟩
          obtain ⟨g, hg1, hg, e0⟩ : ∃ g, b1 = some ⟨g, 0, none⟩ ∧ g < wL.heap.size ∧ (wL.cell? ⟨g, i * 3, none⟩ = some (.string ⟨s.patch.toArray⟩) ∧ wL.cell? ⟨g, i * 3 + 1, none⟩ = some (.string ⟨s.want.toArray⟩) ∧ wL.cell? ⟨g, i * 3 + 2, none⟩ = some (.bool s.done)) := by
            rcases RowL.out.form with ⟨h1, rfl⟩ | ⟨g, cap, h1, hg, hc⟩
            · simp at hlt
            · simp at h1
              exact ⟨g, h1.1, hg, hc i s hs⟩
          subst hg1
          have hi0 : (i : Int) < (S1.length : Int) := by omega
          have hi1 : (0 : Int) ≤ (i : Int) := by omega
          have hin : s ∈ S1 := List.mem_of_getElem? hs
          have HTK : Hid (S1.take (i + 1) = S1.take i ++ [s]) := by show _ = _; rw [List.take_add_one, hs]; rfl
          have HCl : Hid (∀ u, Below wL.heap.size wL u → (u.cell? ⟨C, 0, none⟩ = some (.int .i64 kd) ∧ u.cell? ⟨C, 1, none⟩ = some (.bool ot) ∧ u.cell? ⟨C, 2, none⟩ = some (.string P) ∧ u.cell? ⟨C, 3, none⟩ = some (.int .i64 ca) ∧ u.cell? ⟨C, 4, none⟩ = some (.slice ao ln cp) ∧ u.cell? ⟨C, 5, none⟩ = some (.int .i64 OL) ∧ u.cell? ⟨C, 6, none⟩ = some (.int .i64 NL) ∧ u.cell? ⟨C, 7, none⟩ = some (.string OS) ∧ u.cell? ⟨C, 8, none⟩ = some (.string NS) ∧ u.cell? ⟨C, 9, none⟩ = some (.slice pa st.length pc) ∧ u.cell? ⟨C, 10, none⟩ = some (.bool fit) ∧ u.cell? ⟨C, 11, none⟩ = some (.string was) ∧ u.cell? ⟨C, 12, none⟩ = some (.int .i64 7) ∧ u.cell? ⟨C, 13, none⟩ = some (.string now) ∧ u.cell? ⟨C, 14, none⟩ = some (.bool false) ∧ u.cell? ⟨b, 0, none⟩ = some (.pointer (some ⟨D1, 0, none⟩)) ∧ u.cell? ⟨b, 1, none⟩ = some (.slice (some ⟨g, 0, none⟩) S1.length c1) ∧ u.cell? ⟨g, i * 3, none⟩ = some (.string ⟨s.patch.toArray⟩) ∧ u.cell? ⟨g, i * 3 + 1, none⟩ = some (.string ⟨s.want.toArray⟩) ∧ u.cell? ⟨g, i * 3 + 2, none⟩ = some (.bool s.done))) := fun u hu => by
            have hb := HBx.out u hu
            obtain ⟨⟨q0, q1⟩, -, -⟩ := (IDL.out.below hu).cells
            refine ⟨?_, ?_, ?_, ?_, ?_, ?_, ?_, ?_, ?_, ?_, ?_, ?_, ?_, ?_, ?_, q0, q1, by rw [hu.cell hg]; exact e0.1, by rw [hu.cell hg]; exact e0.2.1, by rw [hu.cell hg]; exact e0.2.2⟩
            all_goals (rw [Lib.cell_of_heap hb]; rfl)
          have HC0 : Hid _ := HCl.out wr.drew HBel.out.drew
          have HC1 : Hid (∀ u v', rowStep (.slice va vb vc) v' wr.drew u → (u.cell? ⟨C, 0, none⟩ = some (.int .i64 kd) ∧ u.cell? ⟨C, 1, none⟩ = some (.bool ot) ∧ u.cell? ⟨C, 2, none⟩ = some (.string P) ∧ u.cell? ⟨C, 3, none⟩ = some (.int .i64 ca) ∧ u.cell? ⟨C, 4, none⟩ = some (.slice ao ln cp) ∧ u.cell? ⟨C, 5, none⟩ = some (.int .i64 OL) ∧ u.cell? ⟨C, 6, none⟩ = some (.int .i64 NL) ∧ u.cell? ⟨C, 7, none⟩ = some (.string OS) ∧ u.cell? ⟨C, 8, none⟩ = some (.string NS) ∧ u.cell? ⟨C, 9, none⟩ = some (.slice pa st.length pc) ∧ u.cell? ⟨C, 10, none⟩ = some (.bool fit) ∧ u.cell? ⟨C, 11, none⟩ = some (.string was) ∧ u.cell? ⟨C, 12, none⟩ = some (.int .i64 7) ∧ u.cell? ⟨C, 13, none⟩ = some (.string now) ∧ u.cell? ⟨C, 14, none⟩ = some (.bool false) ∧ u.cell? ⟨b, 0, none⟩ = some (.pointer (some ⟨D1, 0, none⟩)) ∧ u.cell? ⟨b, 1, none⟩ = some (.slice (some ⟨g, 0, none⟩) S1.length c1) ∧ u.cell? ⟨g, i * 3, none⟩ = some (.string ⟨s.patch.toArray⟩) ∧ u.cell? ⟨g, i * 3 + 1, none⟩ = some (.string ⟨s.want.toArray⟩) ∧ u.cell? ⟨g, i * 3 + 2, none⟩ = some (.bool s.done))) := fun u v' hu => by
            refine HCl.out u ⟨hu.grown.os.trans HBel.out.os, hu.grown.tape.trans HBel.out.tape, hu.grown.output.trans HBel.out.output, Nat.le_trans HBel.out.size hu.grown.size, fun k hk => ?_⟩
            rw [hu.grown.block k (Nat.lt_of_lt_of_le hk HBel.out.size) (fun e => ?_)]
            · exact HBel.out.block k hk
            · rcases hkp.out.own with e2 | ⟨g2, e2, hg2⟩
              · rw [e2] at e; cases e
              · rw [e2] at e; have := Option.some.inj e; omega
          have HF0 : Hid (Calls Try.prog 94 #[.agg #[.int .i64 kd, .bool ot, .string P, .int .i64 ca, .slice ao ln cp, .int .i64 OL, .int .i64 NL, .string OS, .string NS, .slice pa st.length pc, .bool fit, .string was, .int .i64 7, .string now, .bool false], .pointer (some ⟨D1, 0, none⟩), .agg #[.string ⟨s.patch.toArray⟩, .string ⟨s.want.toArray⟩, .bool s.done], .slice va vb vc] wr.drew fun e' w' => ∃ v' S', e' = .returned v' ∧ stRow w' v' S' ∧ (∀ a, a ∈ S' ↔ a ∈ Sl ∨ FN s a) ∧ S'.length ≤ Sl.length + 3 ∧ rowStep (.slice va vb vc) v' wr.drew w') := HFr.out wr.drew (.slice va vb vc) Sl s HBel.out.drew (HLn.out Sl hrow.out.2 fun a ha => by obtain ⟨s', h1, h2⟩ := (hmem.out a).1 ha; exact ⟨s', List.mem_of_mem_take h1, h2⟩) (hrow.out.of_block fun k hk => rfl) hin
          have HSt : Hid (rowStep (.slice none 0 0) (.slice va vb vc) wL wr.drew) := ⟨⟨hkp.out.grown.os, hkp.out.grown.tape, hkp.out.grown.output, hkp.out.grown.size, hkp.out.grown.block⟩, hkp.out.own⟩
          clear hs hg e0 hB hin
          go_wp2_with fail
          go_region_held3 (fun u => u.cell? ⟨C, 0, none⟩ = some (.int .i64 kd) ∧ u.cell? ⟨C, 1, none⟩ = some (.bool ot) ∧ u.cell? ⟨C, 2, none⟩ = some (.string P) ∧ u.cell? ⟨C, 3, none⟩ = some (.int .i64 ca) ∧ u.cell? ⟨C, 4, none⟩ = some (.slice ao ln cp) ∧ u.cell? ⟨C, 5, none⟩ = some (.int .i64 OL) ∧ u.cell? ⟨C, 6, none⟩ = some (.int .i64 NL) ∧ u.cell? ⟨C, 7, none⟩ = some (.string OS) ∧ u.cell? ⟨C, 8, none⟩ = some (.string NS) ∧ u.cell? ⟨C, 9, none⟩ = some (.slice pa st.length pc) ∧ u.cell? ⟨C, 10, none⟩ = some (.bool fit) ∧ u.cell? ⟨C, 11, none⟩ = some (.string was) ∧ u.cell? ⟨C, 12, none⟩ = some (.int .i64 7) ∧ u.cell? ⟨C, 13, none⟩ = some (.string now) ∧ u.cell? ⟨C, 14, none⟩ = some (.bool false) ∧ u.cell? ⟨b, 0, none⟩ = some (.pointer (some ⟨D1, 0, none⟩)) ∧ u.cell? ⟨b, 1, none⟩ = some (.slice (some ⟨g, 0, none⟩) S1.length c1) ∧ u.cell? ⟨g, i * 3, none⟩ = some (.string ⟨s.patch.toArray⟩) ∧ u.cell? ⟨g, i * 3 + 1, none⟩ = some (.string ⟨s.want.toArray⟩) ∧ u.cell? ⟨g, i * 3 + 2, none⟩ = some (.bool s.done)) (first | exact HC0.out | exact HC1.out _ _ k8) ((go_at_call 94; refine HF0.out.mono ?_; rintro e' v8 ⟨v', S', rfl, h8, m8, -, k8⟩))
          go_wp2_with fail
          refine ⟨⟨i + 1, S', by go_num, by omega, h8, fun a => ?_, HSt.out.trans k8⟩, by simp [intOf]; omega⟩
          rw [m8 a, hmem.out a, HTK.out]
          simp only [List.mem_append, List.mem_singleton]
          constructor
          · rintro (⟨s', h1, h2⟩ | h2)
            · exact ⟨s', .inl h1, h2⟩
            · exact ⟨s, .inr rfl, h2⟩
          · rintro ⟨s', h1 | h1, h2⟩
            · exact .inl ⟨s', h1, h2⟩
            · exact .inr (h1 ▸ h2)
        · have hi0 : ¬ (i : Int) < (S1.length : Int) := by omega
          have hfin : i = S1.length := by omega
          have HMS := HM.out Sl (fun a => by rw [hmem.out a, hfin, List.take_length])
          have HPS : Hid (Po Sl) := HMS.1
          have hvb : vb = Sl.length := by
            rcases hrow.out.form with ⟨h1, h2⟩ | ⟨g, cap, h1, _⟩
            · rw [h2]; simp at h1; exact h1.2.1
            · simp at h1; exact h1.2.1
          have hv0 : 0 < vb := by rw [hvb]; exact HMS.2
          have hv1 : decide (0 < vb) = true := decide_eq_true hv0
          have IDr := IDL.out.below hB
          have IDe := IDr.setRow (.slice va vb vc)
          have hownv : ∀ k, (Value.slice va vb vc).ownBlock = some k → wL.heap.size ≤ k := fun k hk => by
            rcases hkp.out.own with e | ⟨g, e, hg⟩
            · rw [e] at hk; cases hk
            · rw [e] at hk; have := Option.some.inj hk; omega
          have HEn : Hid _ := IDe.fin (S := Sl) (B := sideBlk b D tv sv (.slice la S.length lc)) (hrow.out.of_block fun k hk => Below.heap_setCell _ _ _ _ (by show k ≠ b; have := hownv k hk; have := IDL.out.lb; have := IDL.out.kept.size; omega)) (.inl rfl) fun k hk => by
            have h1 := hownv k hk
            exact .inr ⟨by have := IDL.out.kept.size; omega, by have := IDL.out.dev.lt; omega, fun e => by have := IDL.out.dev.text.lt e; omega, fun e => by have := IDL.out.dev.safe.lt e; omega⟩
          clear IDr IDe hownv HMS hfin hvb
          go_wp2_with fail
          go_ret
          exact ⟨rfl, D1, tv1, sv1, _, Sl, HEn.out.1, HEn.out.2, HPS.out⟩
    · have d8 : ¬ r = 7 := by simpa using d7
      have ID15 : Hid (inDoes w b D1 tv1 sv1 y (.slice la S.length lc) #[.int .i64 kd, .bool ot, .string P, .int .i64 ca, .slice ao ln cp] (v14.alloc (Obj.cells #[.int .i64 kd, .bool ot, .string P, .int .i64 ca, .slice ao ln cp, .int .i64 OL, .int .i64 NL, .string OS, .string NS, .slice pa st.length pc, .bool fit, .string was, .int .i64 r, .string now, .bool still] 137))) := ID14.out.below ((Below.refl _ _).alloc (Nat.le_refl _) _)
      have IP15 : Hid (inPlan D1 tv1 sv1 M Pb (.int .i64 OL) (.int .i64 NL) (.string OS) (.string NS) (.slice pa st.length pc) st (v14.alloc (Obj.cells #[.int .i64 kd, .bool ot, .string P, .int .i64 ca, .slice ao ln cp, .int .i64 OL, .int .i64 NL, .string OS, .string NS, .slice pa st.length pc, .bool fit, .string was, .int .i64 r, .string now, .bool still] 137))) := IP14.out.below ((Below.refl _ _).alloc (Nat.le_refl _) _)
      have Q15 : Hid ((v14.alloc (Obj.cells #[.int .i64 kd, .bool ot, .string P, .int .i64 ca, .slice ao ln cp, .int .i64 OL, .int .i64 NL, .string OS, .string NS, .slice pa st.length pc, .bool fit, .string was, .int .i64 r, .string now, .bool still] 137)).heap[v14.heap.size]? = some (.cells #[.int .i64 kd, .bool ot, .string P, .int .i64 ca, .slice ao ln cp, .int .i64 OL, .int .i64 NL, .string OS, .string NS, .slice pa st.length pc, .bool fit, .string was, .int .i64 r, .string now, .bool still] 137 (0, 0))) := heap_alloc_new v14 _
      obtain ⟨-, ⟨o0, o1, o2, o3, o4⟩, -⟩ := ID14.out.cells
      obtain ⟨p0, p1, p2, p3, p4, -⟩ := box31 IP14.out.box
      obtain ⟨⟨a0, a1⟩, -, fz⟩ := ID15.out.cells
      have HCw : Hid (w.heap.size ≤ v14.heap.size) := ID14.out.kept.size
      have hC14 : v14.heap.size < (v14.alloc (Obj.cells #[.int .i64 kd, .bool ot, .string P, .int .i64 ca, .slice ao ln cp, .int .i64 OL, .int .i64 NL, .string OS, .string NS, .slice pa st.length pc, .bool fit, .string was, .int .i64 r, .string now, .bool still] 137)).heap.size := by simp
      go_wp2_with fail
      clear o0 o1 o2 o3 o4 p0 p1 p2 p3 p4 a0 a1 fz ID14 IP14
      generalize (v14.alloc (Obj.cells #[.int .i64 kd, .bool ot, .string P, .int .i64 ca, .slice ao ln cp, .int .i64 OL, .int .i64 NL, .string OS, .string NS, .slice pa st.length pc, .bool fit, .string was, .int .i64 r, .string now, .bool still] 137)) = v15 at *
      generalize v14.heap.size = C at *
      refine (likely_any (.slice la S.length lc) S was v15 (by omega) (fun s hs => Nat.le_trans (hwt.out s hs) (by omega)) (HRow.out _ ID15.out.kept)).mono ?_
      rintro e u1 ⟨v1', S1, rfl, row1, mem1, len1, step1⟩
      obtain ⟨b1, c1, rfl⟩ : ∃ a c, v1' = .slice a S1.length c := by
        rcases row1.form with ⟨h1, rfl⟩ | ⟨g, cap, h1, _⟩
        · exact ⟨_, _, h1⟩
        · exact ⟨_, _, h1⟩
      have B16 : Below v15.heap.size v15 u1 := ⟨step1.grown.os, step1.grown.tape, step1.grown.output, step1.grown.size, fun k hk => step1.grown.block k hk (fun e => by cases e)⟩
      have IDu := ID15.out.below B16
      have IDL : Hid (inDoes w b D1 tv1 sv1 y (.slice b1 S1.length c1) #[.int .i64 kd, .bool ot, .string P, .int .i64 ca, .slice ao ln cp] (u1.setCell ⟨b, 1, none⟩ (.slice b1 S1.length c1))) := IDu.setRow _
      have IPL : Hid (inPlan D1 tv1 sv1 M Pb (.int .i64 OL) (.int .i64 NL) (.string OS) (.string NS) (.slice pa st.length pc) st (u1.setCell ⟨b, 1, none⟩ (.slice b1 S1.length c1))) := (IP15.out.below B16).set _ _ (by have := IDu.lb; have := IDu.lD; have := IP15.out.lD; omega)
      have QL : Hid ((u1.setCell ⟨b, 1, none⟩ (.slice b1 S1.length c1)).heap[C]? = some (.cells #[.int .i64 kd, .bool ot, .string P, .int .i64 ca, .slice ao ln cp, .int .i64 OL, .int .i64 NL, .string OS, .string NS, .slice pa st.length pc, .bool fit, .string was, .int .i64 r, .string now, .bool still] 137 (0, 0))) := by
        show _ = _
        rw [Below.heap_setCell _ _ _ _ (by show C ≠ b; have := IDu.lb; have := HCw.out; omega), B16.block C hC14]; exact Q15.out
      have hown1 : ∀ k, (Value.slice b1 S1.length c1).ownBlock = some k → v15.heap.size ≤ k := fun k hk => by
        rcases step1.own with e | ⟨g, e, hg⟩
        · rw [e] at hk; cases hk
        · rw [e] at hk; have := Option.some.inj hk; omega
      have RowL : Hid (stRow (u1.setCell ⟨b, 1, none⟩ (.slice b1 S1.length c1)) (.slice b1 S1.length c1) S1) := row1.of_block fun k hk => Below.heap_setCell _ _ _ _ (by show k ≠ b; have := hown1 k hk; have := IDu.lb; have := ID15.out.kept.size; omega)
      have HMem1 : Hid (∀ a, a ∈ S1 ↔ a ∈ S ∧ goesOn x.text a) := fun a => by rw [mem1 a, HWas.out]; unfold tOf; rw [if_neg HL0.out]
      obtain ⟨⟨a0, a1⟩, -, fz⟩ := IDu.cells
      have fz1 := fz 1
      obtain ⟨⟨l0, l1⟩, -, -⟩ := IDL.out.cells
      clear fz mem1 row1 step1 B16 IDu ID15 IP15 Q15 hC14
      go_wp2_with fail
      clear a0 a1 fz1 l0 l1
      generalize u1.setCell ⟨b, 1, none⟩ (.slice b1 S1.length c1) = wL at *
      obtain ⟨FN, hfn⟩ : ∃ F, F = fromNew P.data.toList NS want.data.toList (fit = true) r (still = false ∨ now = was) y zs := ⟨_, rfl⟩
      have HFN : Hid (∀ s a, FN s a ↔ fromNew P.data.toList NS want.data.toList (OL ≤ x.text.length ∧ NL ≤ x.text.length ∧ Dp.sumL (x.text.take OL) = OS) r (y.life = 0 ∨ y.text = x.text) y zs s a) := fun s a => by
        rw [hfn]
        have e1 : (fit = true) = (OL ≤ x.text.length ∧ NL ≤ x.text.length ∧ Dp.sumL (x.text.take OL) = OS) := propext (HFit.out.trans ⟨fun h => h.2, fun h => ⟨HL0.out, h⟩⟩)
        have e2 : (still = false ∨ now = was) = (y.life = 0 ∨ y.text = x.text) := propext (same_text HL0.out HStill.out HNow.out HWas.out)
        rw [e1, e2]
      have HFr : Hid (∀ u vl Sl s, Below wL.heap.size wL u → Sl.length ≤ 4400000000000 → stRow u vl Sl → s ∈ S1 → Calls Try.prog 94 #[.agg #[.int .i64 kd, .bool ot, .string P, .int .i64 ca, .slice ao ln cp, .int .i64 OL, .int .i64 NL, .string OS, .string NS, .slice pa st.length pc, .bool fit, .string was, .int .i64 r, .string now, .bool still], .pointer (some ⟨D1, 0, none⟩), .agg #[.string ⟨s.patch.toArray⟩, .string ⟨s.want.toArray⟩, .bool s.done], vl] u fun e' w' => ∃ v' S', e' = .returned v' ∧ stRow w' v' S' ∧ (∀ a, a ∈ S' ↔ a ∈ Sl ∨ FN s a) ∧ S'.length ≤ Sl.length + 3 ∧ rowStep vl v' u w') := fun u vl Sl s hu hSl hrow hs => by
        have hk : kept3 b none none w u := IDL.out.kept.trans (.of_below hu)
        rw [hfn]
        refine from_any kd ot P ca OL NL OS NS (.slice pa st.length pc) fit was r now still D1 tv1 sv1 y (.slice ao ln cp) zs ⟨s.patch.toArray⟩ ⟨s.want.toArray⟩ s.done vl Sl want u ?_ hW hSl HY1.out hym hys hyl hz ?_ (IDL.out.dev.below hu) hrow ?_
        · rw [strSize]; exact Nat.le_trans (hwt.out s ((HMem1.out s).1 hs).1) (by omega)
        · exact hr.out.of_blocks2 (fun hne B a n c e hl => hk.block B hl (hrb.out hne B a n c e) (fun e => by cases e) (fun e => by cases e)) hk.size
        · intro hft u' hu'
          have hw : was = ⟨x.text.toArray⟩ := by rw [HWas.out]; unfold tOf; rw [if_neg HL0.out]
          rw [hw]
          exact hdone.out u' _ M (HFit.out.1 hft) ((IPL.out.below hu).below hu').row (Nat.lt_of_le_of_lt (Nat.zero_le _) (lt_of_heap ((IPL.out.below hu).below hu').box))
      have HBx : Hid (∀ u, Below wL.heap.size wL u → u.heap[C]? = some (.cells #[.int .i64 kd, .bool ot, .string P, .int .i64 ca, .slice ao ln cp, .int .i64 OL, .int .i64 NL, .string OS, .string NS, .slice pa st.length pc, .bool fit, .string was, .int .i64 r, .string now, .bool still] 137 (0, 0))) := fun u hu => by rw [hu.block C (lt_of_heap QL.out)]; exact QL.out
      have hS1 : S1.length ≤ 4400000000000 := by omega
      have HM : Hid (∀ Sl : List Ls, (∀ a, a ∈ Sl ↔ ∃ s ∈ S1, FN s a) → Po Sl ∧ 0 < Sl.length) := fun Sl hSl => by
        have hm : ∀ a, a ∈ Sl ↔ ∃ s ∈ S, goesOn x.text s ∧ fromNew P.data.toList NS want.data.toList (OL ≤ x.text.length ∧ NL ≤ x.text.length ∧ Dp.sumL (x.text.take OL) = OS) r (y.life = 0 ∨ y.text = x.text) y zs s a := fun a => by
          rw [hSl a]
          constructor
          · rintro ⟨s, h1, h2⟩
            exact ⟨s, ((HMem1.out s).1 h1).1, ((HMem1.out s).1 h1).2, (HFN.out s a).1 h2⟩
          · rintro ⟨s, h1, h2, h3⟩
            exact ⟨s, (HMem1.out s).2 ⟨h1, h2⟩, (HFN.out s a).2 h3⟩
        refine ⟨HPo.out Sl hm, ?_⟩
        obtain ⟨s, h1, h2, a, h3⟩ := HNe.out
        exact List.length_pos_of_mem ((hm a).2 ⟨s, h1, h2, h3⟩)
      have HLn : Hid (∀ Sl : List Ls, Sl.Nodup → (∀ a ∈ Sl, ∃ s ∈ S1, FN s a) → Sl.length ≤ 4400000000000) := fun Sl hnd hSl => hlen.out Sl hnd fun a ha => by
        obtain ⟨s, h1, h2⟩ := hSl a ha
        exact ⟨s, ((HMem1.out s).1 h1).1, (HFN.out s a).1 h2⟩
      clear hfn HFN HPo HNe HMem1 hlen
      clear HStill HNow HWas HAl HFit hwt hdone hrp hdo hr hrb hcase
      go_loopw [20, 21] (fun vl xi wr => ∃ (i : Nat) (Sl : List Ls), xi = .int .i64 i ∧ i ≤ S1.length ∧ Hid (stRow wr vl Sl) ∧ Hid (∀ a, a ∈ Sl ↔ ∃ s ∈ S1.take i, FN s a) ∧ Hid (rowStep (.slice none 0 0) vl wL wr)) (fun _ xi _ => S1.length - (intOf xi).toNat)
      case atStart => exact ⟨0, [], rfl, Nat.zero_le _, stRow_nil _, fun a => by simp, rowStep.refl _ _⟩
      case round =>
        obtain ⟨i, Sl, rfl, hi, hrow, hmem, hkp⟩ := hrel
        have hB : Below wL.heap.size wL wr := ⟨hkp.out.grown.os, hkp.out.grown.tape, hkp.out.grown.output, hkp.out.grown.size, fun k hk => hkp.out.grown.block k hk (fun e => by cases e)⟩
        have HBel : Hid (Below wL.heap.size wL wr) := hB
        obtain ⟨⟨l0, l1⟩, -, fz⟩ := (IDL.out.below hB).cells
        have fz1 := fz 1
        clear fz
        obtain ⟨va, vb, vc, rfl⟩ : ∃ p q r, u20 = .slice p q r := by
          rcases hrow.out.form with ⟨h1, _⟩ | ⟨g, cap, h1, _⟩
          · exact ⟨_, _, _, h1⟩
          · exact ⟨_, _, _, h1⟩
        by_cases hlt : i < S1.length
        · obtain ⟨s, hs⟩ : ∃ s, S1[i]? = some s := ⟨S1[i], List.getElem?_eq_getElem hlt⟩
          obtain ⟨g, hg1, hg, e0⟩ : ∃ g, b1 = some ⟨g, 0, none⟩ ∧ g < wL.heap.size ∧ (wL.cell? ⟨g, i * 3, none⟩ = some (.string ⟨s.patch.toArray⟩) ∧ wL.cell? ⟨g, i * 3 + 1, none⟩ = some (.string ⟨s.want.toArray⟩) ∧ wL.cell? ⟨g, i * 3 + 2, none⟩ = some (.bool s.done)) := by
            rcases RowL.out.form with ⟨h1, rfl⟩ | ⟨g, cap, h1, hg, hc⟩
            · simp at hlt
            · simp at h1
              exact ⟨g, h1.1, hg, hc i s hs⟩
          subst hg1
          have hi0 : (i : Int) < (S1.length : Int) := by omega
          have hi1 : (0 : Int) ≤ (i : Int) := by omega
          have hin : s ∈ S1 := List.mem_of_getElem? hs
          have HTK : Hid (S1.take (i + 1) = S1.take i ++ [s]) := by show _ = _; rw [List.take_add_one, hs]; rfl
          have HCl : Hid (∀ u, Below wL.heap.size wL u → (u.cell? ⟨C, 0, none⟩ = some (.int .i64 kd) ∧ u.cell? ⟨C, 1, none⟩ = some (.bool ot) ∧ u.cell? ⟨C, 2, none⟩ = some (.string P) ∧ u.cell? ⟨C, 3, none⟩ = some (.int .i64 ca) ∧ u.cell? ⟨C, 4, none⟩ = some (.slice ao ln cp) ∧ u.cell? ⟨C, 5, none⟩ = some (.int .i64 OL) ∧ u.cell? ⟨C, 6, none⟩ = some (.int .i64 NL) ∧ u.cell? ⟨C, 7, none⟩ = some (.string OS) ∧ u.cell? ⟨C, 8, none⟩ = some (.string NS) ∧ u.cell? ⟨C, 9, none⟩ = some (.slice pa st.length pc) ∧ u.cell? ⟨C, 10, none⟩ = some (.bool fit) ∧ u.cell? ⟨C, 11, none⟩ = some (.string was) ∧ u.cell? ⟨C, 12, none⟩ = some (.int .i64 r) ∧ u.cell? ⟨C, 13, none⟩ = some (.string now) ∧ u.cell? ⟨C, 14, none⟩ = some (.bool still) ∧ u.cell? ⟨b, 0, none⟩ = some (.pointer (some ⟨D1, 0, none⟩)) ∧ u.cell? ⟨b, 1, none⟩ = some (.slice (some ⟨g, 0, none⟩) S1.length c1) ∧ u.cell? ⟨g, i * 3, none⟩ = some (.string ⟨s.patch.toArray⟩) ∧ u.cell? ⟨g, i * 3 + 1, none⟩ = some (.string ⟨s.want.toArray⟩) ∧ u.cell? ⟨g, i * 3 + 2, none⟩ = some (.bool s.done))) := fun u hu => by
            have hb := HBx.out u hu
            obtain ⟨⟨q0, q1⟩, -, -⟩ := (IDL.out.below hu).cells
            refine ⟨?_, ?_, ?_, ?_, ?_, ?_, ?_, ?_, ?_, ?_, ?_, ?_, ?_, ?_, ?_, q0, q1, by rw [hu.cell hg]; exact e0.1, by rw [hu.cell hg]; exact e0.2.1, by rw [hu.cell hg]; exact e0.2.2⟩
            all_goals (rw [Lib.cell_of_heap hb]; rfl)
          have HC0 : Hid _ := HCl.out wr.drew HBel.out.drew
          have HC1 : Hid (∀ u v', rowStep (.slice va vb vc) v' wr.drew u → (u.cell? ⟨C, 0, none⟩ = some (.int .i64 kd) ∧ u.cell? ⟨C, 1, none⟩ = some (.bool ot) ∧ u.cell? ⟨C, 2, none⟩ = some (.string P) ∧ u.cell? ⟨C, 3, none⟩ = some (.int .i64 ca) ∧ u.cell? ⟨C, 4, none⟩ = some (.slice ao ln cp) ∧ u.cell? ⟨C, 5, none⟩ = some (.int .i64 OL) ∧ u.cell? ⟨C, 6, none⟩ = some (.int .i64 NL) ∧ u.cell? ⟨C, 7, none⟩ = some (.string OS) ∧ u.cell? ⟨C, 8, none⟩ = some (.string NS) ∧ u.cell? ⟨C, 9, none⟩ = some (.slice pa st.length pc) ∧ u.cell? ⟨C, 10, none⟩ = some (.bool fit) ∧ u.cell? ⟨C, 11, none⟩ = some (.string was) ∧ u.cell? ⟨C, 12, none⟩ = some (.int .i64 r) ∧ u.cell? ⟨C, 13, none⟩ = some (.string now) ∧ u.cell? ⟨C, 14, none⟩ = some (.bool still) ∧ u.cell? ⟨b, 0, none⟩ = some (.pointer (some ⟨D1, 0, none⟩)) ∧ u.cell? ⟨b, 1, none⟩ = some (.slice (some ⟨g, 0, none⟩) S1.length c1) ∧ u.cell? ⟨g, i * 3, none⟩ = some (.string ⟨s.patch.toArray⟩) ∧ u.cell? ⟨g, i * 3 + 1, none⟩ = some (.string ⟨s.want.toArray⟩) ∧ u.cell? ⟨g, i * 3 + 2, none⟩ = some (.bool s.done))) := fun u v' hu => by
            refine HCl.out u ⟨hu.grown.os.trans HBel.out.os, hu.grown.tape.trans HBel.out.tape, hu.grown.output.trans HBel.out.output, Nat.le_trans HBel.out.size hu.grown.size, fun k hk => ?_⟩
            rw [hu.grown.block k (Nat.lt_of_lt_of_le hk HBel.out.size) (fun e => ?_)]
            · exact HBel.out.block k hk
            · rcases hkp.out.own with e2 | ⟨g2, e2, hg2⟩
              · rw [e2] at e; cases e
              · rw [e2] at e; have := Option.some.inj e; omega
          have HF0 : Hid (Calls Try.prog 94 #[.agg #[.int .i64 kd, .bool ot, .string P, .int .i64 ca, .slice ao ln cp, .int .i64 OL, .int .i64 NL, .string OS, .string NS, .slice pa st.length pc, .bool fit, .string was, .int .i64 r, .string now, .bool still], .pointer (some ⟨D1, 0, none⟩), .agg #[.string ⟨s.patch.toArray⟩, .string ⟨s.want.toArray⟩, .bool s.done], .slice va vb vc] wr.drew fun e' w' => ∃ v' S', e' = .returned v' ∧ stRow w' v' S' ∧ (∀ a, a ∈ S' ↔ a ∈ Sl ∨ FN s a) ∧ S'.length ≤ Sl.length + 3 ∧ rowStep (.slice va vb vc) v' wr.drew w') := HFr.out wr.drew (.slice va vb vc) Sl s HBel.out.drew (HLn.out Sl hrow.out.2 fun a ha => by obtain ⟨s', h1, h2⟩ := (hmem.out a).1 ha; exact ⟨s', List.mem_of_mem_take h1, h2⟩) (hrow.out.of_block fun k hk => rfl) hin
          have HSt : Hid (rowStep (.slice none 0 0) (.slice va vb vc) wL wr.drew) := ⟨⟨hkp.out.grown.os, hkp.out.grown.tape, hkp.out.grown.output, hkp.out.grown.size, hkp.out.grown.block⟩, hkp.out.own⟩
          clear hs hg e0 hB hin
          go_wp2_with fail
          go_region_held3 (fun u => u.cell? ⟨C, 0, none⟩ = some (.int .i64 kd) ∧ u.cell? ⟨C, 1, none⟩ = some (.bool ot) ∧ u.cell? ⟨C, 2, none⟩ = some (.string P) ∧ u.cell? ⟨C, 3, none⟩ = some (.int .i64 ca) ∧ u.cell? ⟨C, 4, none⟩ = some (.slice ao ln cp) ∧ u.cell? ⟨C, 5, none⟩ = some (.int .i64 OL) ∧ u.cell? ⟨C, 6, none⟩ = some (.int .i64 NL) ∧ u.cell? ⟨C, 7, none⟩ = some (.string OS) ∧ u.cell? ⟨C, 8, none⟩ = some (.string NS) ∧ u.cell? ⟨C, 9, none⟩ = some (.slice pa st.length pc) ∧ u.cell? ⟨C, 10, none⟩ = some (.bool fit) ∧ u.cell? ⟨C, 11, none⟩ = some (.string was) ∧ u.cell? ⟨C, 12, none⟩ = some (.int .i64 r) ∧ u.cell? ⟨C, 13, none⟩ = some (.string now) ∧ u.cell? ⟨C, 14, none⟩ = some (.bool still) ∧ u.cell? ⟨b, 0, none⟩ = some (.pointer (some ⟨D1, 0, none⟩)) ∧ u.cell? ⟨b, 1, none⟩ = some (.slice (some ⟨g, 0, none⟩) S1.length c1) ∧ u.cell? ⟨g, i * 3, none⟩ = some (.string ⟨s.patch.toArray⟩) ∧ u.cell? ⟨g, i * 3 + 1, none⟩ = some (.string ⟨s.want.toArray⟩) ∧ u.cell? ⟨g, i * 3 + 2, none⟩ = some (.bool s.done)) (first | exact HC0.out | exact HC1.out _ _ k8) ((go_at_call 94; refine HF0.out.mono ?_; rintro e' v8 ⟨v', S', rfl, h8, m8, -, k8⟩))
          go_wp2_with fail
          refine ⟨⟨i + 1, S', by go_num, by omega, h8, fun a => ?_, HSt.out.trans k8⟩, by simp [intOf]; omega⟩
          rw [m8 a, hmem.out a, HTK.out]
          simp only [List.mem_append, List.mem_singleton]
          constructor
          · rintro (⟨s', h1, h2⟩ | h2)
            · exact ⟨s', .inl h1, h2⟩
            · exact ⟨s, .inr rfl, h2⟩
          · rintro ⟨s', h1 | h1, h2⟩
            · exact .inl ⟨s', h1, h2⟩
            · exact .inr (h1 ▸ h2)
        · have hi0 : ¬ (i : Int) < (S1.length : Int) := by omega
          have hfin : i = S1.length := by omega
          have HMS := HM.out Sl (fun a => by rw [hmem.out a, hfin, List.take_length])
          have HPS : Hid (Po Sl) := HMS.1
          have hvb : vb = Sl.length := by
            rcases hrow.out.form with ⟨h1, h2⟩ | ⟨g, cap, h1, _⟩
            · rw [h2]; simp at h1; exact h1.2.1
            · simp at h1; exact h1.2.1
          have hv0 : 0 < vb := by rw [hvb]; exact HMS.2
          have hv1 : decide (0 < vb) = true := decide_eq_true hv0
          have IDr := IDL.out.below hB
          have IDe := IDr.setRow (.slice va vb vc)
          have hownv : ∀ k, (Value.slice va vb vc).ownBlock = some k → wL.heap.size ≤ k := fun k hk => by
            rcases hkp.out.own with e | ⟨g, e, hg⟩
            · rw [e] at hk; cases hk
            · rw [e] at hk; have := Option.some.inj hk; omega
          have HEn : Hid _ := IDe.fin (S := Sl) (B := sideBlk b D tv sv (.slice la S.length lc)) (hrow.out.of_block fun k hk => Below.heap_setCell _ _ _ _ (by show k ≠ b; have := hownv k hk; have := IDL.out.lb; have := IDL.out.kept.size; omega)) (.inl rfl) fun k hk => by
            have h1 := hownv k hk
            exact .inr ⟨by have := IDL.out.kept.size; omega, by have := IDL.out.dev.lt; omega, fun e => by have := IDL.out.dev.text.lt e; omega, fun e => by have := IDL.out.dev.safe.lt e; omega⟩
          clear IDr IDe hownv HMS hfin hvb
          go_wp2_with fail
          go_ret
          exact ⟨rfl, D1, tv1, sv1, _, Sl, HEn.out.1, HEn.out.2, HPS.out⟩

end Go.Proofs.Ytjjmcnippjpclaa
