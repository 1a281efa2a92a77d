/-
  The walk of order: steps are put in an order in which they may be; where copies wait for each other in a ring, one of them becomes an Add.
-/
import Derived.Test.YtjjmcnippjpclabReadP
import Derived.Test.YtjjmcnippjpclabSorted
import Derived.Test.YtjjmcnippjpclabRing
namespace Go.Proofs.Ytjjmcnippjpclab

open Go.RowKit

theorem broken_length (l : List _root_.Pl.Sp) (k : Nat) (s : _root_.Pl.Sp) : (_root_.Pl.broken l k s).length = l.length := by unfold _root_.Pl.broken; rw [List.length_set]

theorem small_perm {l M : List _root_.Pl.Sp} (h : M.Perm l) (hl : l.length ≤ 1) : M = l := by
  match l, hl with
  | [], _ => exact List.perm_nil.1 h
  | [x], _ => exact List.perm_singleton.1 h

/-- where some step waits there are two at least. -/
theorem two_of_ring {l : List _root_.Pl.Sp} {D : List Nat} (h : _root_.Pl.Srt l D []) (hne : D.length ≠ l.length) : 2 ≤ l.length := by
  obtain ⟨i, hi, hw⟩ := srt_some h hne
  obtain ⟨h1, _, h3⟩ := _root_.Pl.hold_spec h hi hw
  have := (_root_.Pl.tied_lt h1).2.2
  omega

set_option maxRecDepth 100000 in
set_option maxHeartbeats 8000000 in
theorem order_any (o nx : ByteArray) (v0 : Value) (l0 : List _root_.Pl.Sp) (B0 : Nat) (w : World) (ho : o.size ≤ 4000) (hn : nx.size ≤ 4000) (hB : B0 ≤ w.heap.size) (hG0 : Hid (_root_.Pl.Good o nx l0)) (hw0 : Hid (w.ownsRow B0 37 5 v0 l0.length (spCells nx l0))) :
    Calls Try.prog 22 #[v0, .string nx] w fun e w' => ∃ v l M, e = .returned v ∧ _root_.Pl.Good o nx l ∧ _root_.Pl.Sorted l M ∧ (l0.length ≤ 1 → l = l0 ∧ M = l0) ∧ w'.ownsRow B0 37 5 v M.length (spCells nx M) ∧ Below B0 w w' ∧ 0 < w'.heap.size := by
  go_enter Try.func22, Try.ntmps22
  go_wp2_with fail
  go_loopg [0] (_root_.Pl.copies l0) (fun g v wr => ∃ l : List _root_.Pl.Sp, _root_.Pl.copies l = g ∧ Hid (_root_.Pl.Good o nx l) ∧ Hid (wr.ownsRow B0 37 5 v l.length (spCells nx l)) ∧ Hid (l0.length ≤ 1 → l = l0) ∧ Hid (Below B0 w wr))
  case atStart => exact ⟨l0, rfl, hG0, hw0, fun _ => rfl, Below.refl _ _⟩
  case round =>
    clear hG0 hw0
    obtain ⟨l, hcop, hG, hw, hone, hbel⟩ := hrel
    have HC : Hid (_root_.Pl.copies l = gk) := hcop
    clear hcop
    have hll := _root_.Pl.good_length hG.out
    have hsz := hbel.out.size
    have hl4 : l.length ≤ 4000 := by omega
    obtain ⟨so, sc, rfl⟩ : ∃ so sc, u0 = .slice so l.length sc := by
      rcases hw.out.2 with ⟨hv, hz⟩ | ⟨g, cap, cur, hv, _⟩
      · exact ⟨none, 0, by rw [hv, hz]⟩
      · exact ⟨_, _, hv⟩
    have hlow : ∀ g, (Value.slice so l.length sc).ownBlock = some g → g < wr.heap.size := fun g hg => (hw.out.lt g hg).2
    go_wp2_with fail
    refine (newWeb_any nx (.slice so l.length sc) l nx.size B0 o.size wr hl4 hn ho hG.out.tile (fun s hs f hf => (hG.out.fit s hs f hf).2.1) hw).mono ?_
    rintro e v1 ⟨Wb, rfl, ⟨ga, gb, gw, V, hin⟩, b1⟩
    have HIN : Hid (WebIn Wb wr.heap.size (.slice so l.length sc) l.length (fun m => if m < l.length then _root_.Pl.aheadOf l m else _root_.Pl.behindOf l (m - l.length)) (_root_.Pl.waitsOf l []) ga gb gw V v1) := hin.congr (fun _ _ => rfl) (fun i _ => _root_.Pl.waits_none l i)
    have HW1 : Hid (v1.ownsRow B0 37 5 (.slice so l.length sc) l.length (spCells nx l)) := own_kept hw.out b1
    have HB1 : Hid (Below B0 w v1) := hbel.out.trans (b1.mono (by omega))
    have hs1 : wr.heap.size ≤ v1.heap.size := b1.size
    clear hin b1
    go_wp2_with fail
    refine (sorted_any nx (.slice so l.length sc) l wr.heap.size B0 Wb ga gb gw _ V v1 hl4 hs1 (fun c _ => by show (if l.length + c < l.length then _ else _) = _; rw [if_neg (by omega), Nat.add_sub_cancel_left]) HW1 hlow HIN).mono ?_
    rintro e v2 ⟨x2, D, rfl, hSrt, hw2, hin2, b2⟩
    have HS : Hid (_root_.Pl.Srt l D []) := hSrt
    have HIN2 : Hid (WebIn Wb wr.heap.size (.slice so l.length sc) l.length (fun m => if m < l.length then _root_.Pl.aheadOf l m else _root_.Pl.behindOf l (m - l.length)) (_root_.Pl.waitsOf l D) ga gb gw V v2) := hin2
    have HW2 : Hid (v2.ownsRow B0 37 5 (.slice so l.length sc) l.length (spCells nx l)) := own_under HW1.out b2 hlow
    have HB2 : Hid (Below B0 w v2) := HB1.out.trans (b2.mono (by omega))
    have HL2 : Hid (v2.ownsRow v1.heap.size 37 5 x2 D.length (spCells nx (_root_.Pl.picked l D))) := hw2
    have hs2 : v1.heap.size ≤ v2.heap.size := b2.size
    clear hSrt hw2 hin2 b2 HIN HW1 HB1
    by_cases hok : D.length = l.length
    · rw [decide_eq_true hok]
      have HF : Hid (∃ l' M, _root_.Pl.Good o nx l' ∧ _root_.Pl.Sorted l' M ∧ (l0.length ≤ 1 → l' = l0 ∧ M = l0) ∧ v2.ownsRow B0 37 5 x2 M.length (spCells nx M)) := by
        have hM := _root_.Pl.sorted_of hG.out.tile HS.out hok
        refine ⟨l, _root_.Pl.picked l D, hG.out, hM, fun h1 => ?_, ?_⟩
        · have e := hone.out h1
          exact ⟨e, by rw [small_perm hM.perm (by rw [e]; exact h1)]; exact e⟩
        · rw [picked_length]
          exact ownsRow_base (by omega) HL2.out
      have hpos : 0 < v2.heap.size := by have := (Array.getElem?_eq_some_iff.1 HIN2.out.box).1; omega
      clear HL2
      go_wp2_with fail
      go_ret
      obtain ⟨l', M, h1, h2, h3, h4⟩ := HF.out
      exact ⟨_, l', M, rfl, h1, h2, h3, h4, HB2.out, hpos⟩
    · rw [decide_eq_false hok]
      have hl2 := two_of_ring HS.out hok
      obtain ⟨g, hso⟩ : ∃ g, so = some ⟨g, 0, none⟩ := by
        obtain ⟨g, cap, hv, _⟩ := HW2.out.form (by omega)
        simp only [Value.slice.injEq] at hv
        exact ⟨g, hv.1⟩
      subst hso
      go_wp2_with fail
      refine (ring_any nx (.slice (some ⟨g, 0, none⟩) l.length sc) l D wr.heap.size B0 Wb ga gb gw _ V v2 hl4 HS hok (fun k hk => by show (if k < l.length then _ else _) = _; rw [if_pos hk]) HW2 HIN2).mono ?_
      rintro e v3 ⟨⟨k, s, f, rfl, hks, hsf⟩, b3⟩
      have HKS : Hid (l[k]? = some s) := hks
      have HSF : Hid (s.src = some f) := hsf
      have HW3 : Hid (v3.ownsRow B0 37 5 (.slice (some ⟨g, 0, none⟩) l.length sc) l.length (spCells nx l)) := own_kept HW2.out b3
      have HB3 : Hid (Below B0 w v3) := HB2.out.trans (b3.mono (by omega))
      have hs3 : v2.heap.size ≤ v3.heap.size := b3.size
      have hkl : k < l.length := (List.getElem?_eq_some_iff.1 hks).1
      obtain ⟨_, ht1, ht2⟩ := _root_.Pl.tiles_mem l 0 nx.size hG.out.tile s (List.mem_of_getElem? hks)
      have hlen5 := spCells_length nx l
      have HF5 : Hid ((spCells nx l)[k * 5]? = some (.int .i64 (s.st nx).k) ∧ (spCells nx l)[k * 5 + 1]? = some (.int .i64 s.t) ∧ (spCells nx l)[k * 5 + 2]? = some (.int .i64 s.n) ∧ (spCells nx l)[k * 5 + 3]? = some (.string (s.st nx).d) ∧ (spCells nx l)[k * 5 + 4]? = some (.int .i64 (s.st nx).f)) := spCells_at nx l k s hks
      have a1 := (HW3.out.cellAt (k * 5 + 1) (by omega)).trans HF5.out.2.1
      have a2 := (HW3.out.cellAt (k * 5 + 2) (by omega)).trans HF5.out.2.2.1
      have hgl : g < v3.heap.size := (HW3.out.lt g rfl).2
      have hk0 : (k : Int) < (l.length : Int) := by omega
      have hk1 : (0 : Int) ≤ (k : Int) := by omega
      clear hks hsf b3 HS HIN2 HW2 HB2 HL2 hlow
      go_wp2_with fail
      refine wp_region_noPanic ?_
      refine wp_region_R (S := fun w' => w'.cell? ⟨g, k * 5 + 1, none⟩ = some (.int .i64 s.t) ∧ w'.cell? ⟨g, k * 5 + 2, none⟩ = some (.int .i64 s.n)) [15] (by kernel_rfl) ⟨a1, a2⟩ (fun hHeld => ?_)
      refine wpAnyR_take (i := 0) (v := ?v0) rfl (by kernel_rfl) (by kernel_rfl) (by kernel_rfl) (by kernel_rfl) (by kernel_rfl) (fun _ _ _ h => h) (Or.inl ⟨by rfl, ?hy0⟩) (by assumption) ?rest0
      case hy0 =>
        intro w hSw
        (try dsimp only at hSw)
        go_simp
        try with_reducible rfl
      simp only [Act.put, List.setIfInBounds_toArray, List.set_cons_zero, List.set_cons_succ, List.getElem_toArray, List.getElem_cons_zero]
      refine wpAnyR_take (i := 1) (v := ?v1) rfl (by kernel_rfl) (by kernel_rfl) (by kernel_rfl) (by kernel_rfl) (by kernel_rfl) (fun _ _ _ h => h) (Or.inl ⟨by rfl, ?hy1⟩) (by assumption) ?rest1
      case hy1 =>
        intro w hSw
        (try dsimp only at hSw)
        go_simp
        try with_reducible rfl
      simp only [Act.put, List.setIfInBounds_toArray, List.set_cons_zero, List.set_cons_succ, List.getElem_toArray, List.getElem_cons_zero, List.getElem_cons_succ]
      refine wpAnyR_take (i := 2) (v := ?v2) rfl (by kernel_rfl) (by kernel_rfl) (by kernel_rfl) (by kernel_rfl) (by kernel_rfl) (fun _ _ _ h => h) (Or.inl ⟨by rfl, ?hy2⟩) (by assumption) ?rest2
      case hy2 =>
        intro w hSw
        (try dsimp only at hSw)
        go_simp
        try with_reducible rfl
      simp only [Act.put, List.setIfInBounds_toArray, List.set_cons_zero, List.set_cons_succ, List.getElem_toArray, List.getElem_cons_zero, List.getElem_cons_succ]
      refine wpAnyR_take (i := 3) (v := ?v3) rfl (by kernel_rfl) (by kernel_rfl) (by kernel_rfl) (by kernel_rfl) (by kernel_rfl) (fun _ _ _ h => h) (Or.inl ⟨by rfl, ?hy3⟩) (by assumption) ?rest3
      case hy3 =>
        intro w hSw
        (try dsimp only at hSw)
        go_simp
        try with_reducible rfl
      simp only [Act.put, List.setIfInBounds_toArray, List.set_cons_zero, List.set_cons_succ, List.getElem_toArray, List.getElem_cons_zero, List.getElem_cons_succ]
      refine wpAnyR_take (i := 4) (v := ?v4) rfl (by kernel_rfl) (by kernel_rfl) (by kernel_rfl) (by kernel_rfl) (by kernel_rfl) (fun _ _ _ h => h) (Or.inl ⟨by rfl, ?hy4⟩) (by assumption) ?rest4
      case hy4 =>
        intro w hSw
        (try dsimp only at hSw)
        go_simp
        try with_reducible rfl
      simp only [Act.put, List.setIfInBounds_toArray, List.set_cons_zero, List.set_cons_succ, List.getElem_toArray, List.getElem_cons_zero, List.getElem_cons_succ]
      refine wpAnyR_take (i := 5) (v := ?v5) rfl (by kernel_rfl) (by kernel_rfl) (by kernel_rfl) (by kernel_rfl) (by kernel_rfl) (fun _ _ _ h => h) (Or.inl ⟨by rfl, ?hy5⟩) (by assumption) ?rest5
      case hy5 =>
        intro w hSw
        (try dsimp only at hSw)
        go_simp
        try with_reducible rfl
      simp only [Act.put, List.setIfInBounds_toArray, List.set_cons_zero, List.set_cons_succ, List.getElem_toArray, List.getElem_cons_zero, List.getElem_cons_succ]
      refine wpAnyR_take (i := 6) (v := ?v6) rfl (by kernel_rfl) (by kernel_rfl) (by kernel_rfl) (by kernel_rfl) (by kernel_rfl) (fun _ _ _ h => h) (Or.inl ⟨by rfl, ?hy6⟩) (by assumption) ?rest6
      case hy6 =>
        intro w hSw
        (try dsimp only at hSw)
        go_simp
        try with_reducible rfl
      simp only [Act.put, List.setIfInBounds_toArray, List.set_cons_zero, List.set_cons_succ, List.getElem_toArray, List.getElem_cons_zero, List.getElem_cons_succ]
      refine wpAnyR_take (i := 7) (v := ?v7) rfl (by kernel_rfl) (by kernel_rfl) (by kernel_rfl) (by kernel_rfl) (by kernel_rfl) (fun _ _ _ h => h) (Or.inl ⟨by rfl, ?hy7⟩) (by assumption) ?rest7
      case hy7 =>
        intro w hSw
        (try dsimp only at hSw)
        go_simp
        try with_reducible rfl
      simp only [Act.put, List.setIfInBounds_toArray, List.set_cons_zero, List.set_cons_succ, List.getElem_toArray, List.getElem_cons_zero, List.getElem_cons_succ]
      refine wpAnyR_take (i := 8) (v := ?v8) rfl (by kernel_rfl) (by kernel_rfl) (by kernel_rfl) (by kernel_rfl) (by kernel_rfl) (fun _ _ _ h => h) (Or.inl ⟨by rfl, ?hy8⟩) (by assumption) ?rest8
      case hy8 =>
        intro w hSw
        (try dsimp only at hSw)
        go_simp
        try with_reducible rfl
      simp only [Act.put, List.setIfInBounds_toArray, List.set_cons_zero, List.set_cons_succ, List.getElem_toArray, List.getElem_cons_zero, List.getElem_cons_succ]
      refine wpAnyR_take (i := 9) (v := ?v9) rfl (by kernel_rfl) (by kernel_rfl) (by kernel_rfl) (by kernel_rfl) (by kernel_rfl) (fun _ _ _ h => h) (Or.inl ⟨by rfl, ?hy9⟩) (by assumption) ?rest9
      case hy9 =>
        intro w hSw
        (try dsimp only at hSw)
        go_simp
        try with_reducible rfl
      simp only [Act.put, List.setIfInBounds_toArray, List.set_cons_zero, List.set_cons_succ, List.getElem_toArray, List.getElem_cons_zero, List.getElem_cons_succ]
      refine wpAnyR_take (i := 10) (v := ?v10) rfl (by kernel_rfl) (by kernel_rfl) (by kernel_rfl) (by kernel_rfl) (by kernel_rfl) (fun _ _ _ h => h) (Or.inl ⟨by rfl, ?hy10⟩) (by assumption) ?rest10
      case hy10 =>
        intro w hSw
        (try dsimp only at hSw)
        go_simp
        try with_reducible rfl
      simp only [Act.put, List.setIfInBounds_toArray, List.set_cons_zero, List.set_cons_succ, List.getElem_toArray, List.getElem_cons_zero, List.getElem_cons_succ]
      refine wpAnyR_take (i := 11) (v := ?v11) rfl (by kernel_rfl) (by kernel_rfl) (by kernel_rfl) (by kernel_rfl) (by kernel_rfl) (fun _ _ _ h => h) (Or.inl ⟨by rfl, ?hy11⟩) (by assumption) ?rest11
      case hy11 =>
        intro w hSw
        (try dsimp only at hSw)
        go_simp
        try with_reducible rfl
      simp only [Act.put, List.setIfInBounds_toArray, List.set_cons_zero, List.set_cons_succ, List.getElem_toArray, List.getElem_cons_zero, List.getElem_cons_succ]
      refine wpAnyR_take (i := 12) (v := ?v12) rfl (by kernel_rfl) (by kernel_rfl) (by kernel_rfl) (by kernel_rfl) (by kernel_rfl) (fun _ _ _ h => h) (Or.inl ⟨by rfl, ?hy12⟩) (by assumption) ?rest12
      case hy12 =>
        intro w hSw
        (try dsimp only at hSw)
        go_simp
        try with_reducible rfl
      simp only [Act.put, List.setIfInBounds_toArray, List.set_cons_zero, List.set_cons_succ, List.getElem_toArray, List.getElem_cons_zero, List.getElem_cons_succ]
      refine wpAnyR_ready (rs := [13]) (by kernel_rfl) (by simp) ?_
      refine AllReadyR.cons rfl (fun K hK => ?_) AllReadyR.nil
      go_simp
      refine (addOf_any nx s.t s.n _ hn ht2).mono ?_
      rintro e x1 ⟨rfl, b4⟩
      have hr1 : Hid (x1.ownsRow B0 37 5 (.slice (some ⟨g, 0, none⟩) l.length sc) l.length (spCells nx l)) := by
        exact own_kept (u := v3.drew) HW3.out b4
      have hb4 : Hid (Below B0 w x1) := HB3.out.drew.trans (b4.mono (by simp; omega))
      have hx1 : x1.cell? ⟨g, k * 5 + 1, none⟩ = some (.int .i64 s.t) ∧ x1.cell? ⟨g, k * 5 + 2, none⟩ = some (.int .i64 s.n) :=
        ⟨by rw [b4.cell (by simp; omega)]; exact hHeld.1, by rw [b4.cell (by simp; omega)]; exact hHeld.2⟩
      (try go_wp2_with fail)
      refine hK.out _ _ ?_ (fun hHeld => ?_)
      · exact hx1
      clear hK
      (try simp only [Act.put, List.setIfInBounds_toArray, List.set_cons_zero, List.set_cons_succ, List.getElem_toArray, List.getElem_cons_zero, List.getElem_cons_succ])
      refine wpAnyR_take (i := 14) (v := ?v14) rfl (by kernel_rfl) (by kernel_rfl) (by kernel_rfl) (by kernel_rfl) (by kernel_rfl) (fun _ _ _ h => h) (Or.inl ⟨by rfl, ?hy14⟩) (by assumption) ?rest14
      case hy14 =>
        intro w hSw
        (try dsimp only at hSw)
        go_simp
        try with_reducible rfl
      simp only [Act.put, List.setIfInBounds_toArray, List.set_cons_zero, List.set_cons_succ, List.getElem_toArray, List.getElem_cons_zero, List.getElem_cons_succ]
      obtain ⟨f0, f1, f2, f3, f4⟩ := HF5.out
      have y0 := (hr1.out.cellAt (k * 5) (by omega)).trans f0
      have y1 := (hr1.out.cellAt (k * 5 + 1) (by omega)).trans f1
      have y2 := (hr1.out.cellAt (k * 5 + 2) (by omega)).trans f2
      have y3 := (hr1.out.cellAt (k * 5 + 3) (by omega)).trans f3
      have y4 := (hr1.out.cellAt (k * 5 + 4) (by omega)).trans f4
      have z0 := hr1.out.frozenAt (k * 5)
      have z1 := hr1.out.frozenAt (k * 5 + 1)
      have z2 := hr1.out.frozenAt (k * 5 + 2)
      have z3 := hr1.out.frozenAt (k * 5 + 3)
      have z4 := hr1.out.frozenAt (k * 5 + 4)
      clear f0 f1 f2 f3 f4
      refine wpAnyR_ready (rs := [15]) (by kernel_rfl) (by simp) ?_
      refine AllReadyR.free rfl (by kernel_rfl) (fun K hK => ?_) AllReadyR.nil
      go_simp
      refine hK.out _ _ ?_
      clear hK
      (try simp only [Act.put, List.setIfInBounds_toArray, List.set_cons_zero, List.set_cons_succ, List.getElem_toArray, List.getElem_cons_zero, List.getElem_cons_succ])
      refine wpAnyR_done (by kernel_rfl) ?_ _
      refine NoPanic.normal ?_
      have hfin := row_set (w := x1) (B := B0) (g := g) (cap := sc) (n := nx) (l := l) k s.t s.n hkl hr1.out
      have HFIN : Hid ((((((x1.setCell ⟨g, k * 5, none⟩ (.int .i64 1)).setCell ⟨g, k * 5 + 1, none⟩ (.int .i64 s.t)).setCell ⟨g, k * 5 + 2, none⟩ (.int .i64 s.n)).setCell ⟨g, k * 5 + 3, none⟩ (.string (nx.extract s.t (s.t + s.n)))).setCell ⟨g, k * 5 + 4, none⟩ (.int .i64 0)).ownsRow B0 37 5 (.slice (some ⟨g, 0, none⟩) l.length sc) (_root_.Pl.broken l k s).length (spCells nx (_root_.Pl.broken l k s))) := hfin.1
      have HBFIN : Hid (Below B0 w (((((x1.setCell ⟨g, k * 5, none⟩ (.int .i64 1)).setCell ⟨g, k * 5 + 1, none⟩ (.int .i64 s.t)).setCell ⟨g, k * 5 + 2, none⟩ (.int .i64 s.n)).setCell ⟨g, k * 5 + 3, none⟩ (.string (nx.extract s.t (s.t + s.n)))).setCell ⟨g, k * 5 + 4, none⟩ (.int .i64 0))) :=
        hb4.out.grown hfin.2 (by have := hb4.out.size; omega) (fun j hj => by simp only [Option.some.injEq] at hj; have := (hr1.out.lt g rfl).1; omega)
      clear hfin y0 y1 y2 y3 y4 z0 z1 z2 z3 z4 hx1 a1 a2 hr1 hb4
      generalize ((((x1.setCell ⟨g, k * 5, none⟩ (.int .i64 1)).setCell ⟨g, k * 5 + 1, none⟩ (.int .i64 s.t)).setCell ⟨g, k * 5 + 2, none⟩ (.int .i64 s.n)).setCell ⟨g, k * 5 + 3, none⟩ (.string (nx.extract s.t (s.t + s.n)))).setCell ⟨g, k * 5 + 4, none⟩ (.int .i64 0) = z at *
      have HG2 : Hid (_root_.Pl.Good o nx (_root_.Pl.joined (_root_.Pl.broken l k s))) := _root_.Pl.good_next hG.out HKS.out
      have HC2 : Hid (_root_.Pl.copies (_root_.Pl.joined (_root_.Pl.broken l k s)) + 1 = gk) := (_root_.Pl.copies_next hG.out HKS.out HSF.out).trans HC.out
      have HT2 : Hid (_root_.Pl.tiles 0 (_root_.Pl.broken l k s) nx.size) := _root_.Pl.broken_tiles l k s 0 nx.size HKS.out hG.out.tile
      have hbl : (_root_.Pl.broken l k s).length = l.length := broken_length l k s
      have HBL : Hid ((_root_.Pl.broken l k s).length ≤ 4000) := by show _ ≤ _; rw [hbl]; omega
      clear hbl
      go_wp2_with fail
      refine (joined_any nx _ (_root_.Pl.broken l k s) B0 _ hn HBL.out HT2 HFIN).mono ?_
      rintro e v5 ⟨x5, rfl, hw5, b5⟩
      have hzs := HBFIN.out.size
      have HW5 : Hid (v5.ownsRow B0 37 5 x5 (_root_.Pl.joined (_root_.Pl.broken l k s)).length (spCells nx (_root_.Pl.joined (_root_.Pl.broken l k s)))) := ownsRow_base (by omega) hw5
      have HB5 : Hid (Below B0 w v5) := HBFIN.out.trans (b5.mono (by omega))
      clear hw5 b5
      go_wp2_with fail
      go_roundg (gk - 1)
      case measure => have := HC2.out; omega
      case rel => exact ⟨_, by have := HC2.out; omega, HG2, HW5, fun h1 => absurd (by rw [← hone.out h1] at h1; exact h1) (by omega), HB5⟩

end Go.Proofs.Ytjjmcnippjpclab
