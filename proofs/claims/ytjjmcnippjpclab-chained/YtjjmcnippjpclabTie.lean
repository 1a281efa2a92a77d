/-
  The walk of tie: the steps that go to where a Copy comes from wait for it.
-/
import Derived.Test.YtjjmcnippjpclabWebs
namespace Go.Proofs.Ytjjmcnippjpclab

open Go.RowKit

set_option maxRecDepth 100000 in
set_option maxHeartbeats 4000000 in
theorem tie_any (nx : ByteArray) (sv : Value) (l : List _root_.Pl.Sp) (c Bs B Wb k f : Nat) (a : _root_.Pl.Sp) (L : Nat → List Nat) (Wt : Nat → Nat) (w : World) (hl : l.length ≤ 4000) (hc : c ≤ 4000) (hf4 : f + a.n ≤ 4000) (hB : B ≤ w.heap.size) (hL : ∀ i, (L i).length ≤ 4000) (hWt : ∀ i, Wt i ≤ 4000)
    (hk : Hid (l[k]? = some a)) (hf : Hid (a.src = some f)) (ht : Hid (_root_.Pl.tiles 0 l c)) (hw : Hid (w.ownsRow Bs 37 5 sv l.length (spCells nx l))) (hlow : ∀ g, sv.ownBlock = some g → g < B) (hweb : Hid (webAt Wb B sv l.length L Wt w)) :
    Calls Try.prog 71 #[.pointer (some ⟨Wb, 0, none⟩), .int .i64 k] w fun e w' => e = .returned (.tuple #[]) ∧ webAt Wb B sv l.length (tieL l k l.length L) (tieW l k l.length Wt) w' ∧ Below B w w' := by
  obtain ⟨i3, hi, hzz⟩ := Option.map_eq_some_iff.1 infoInt
  simp only [Prod.mk.injEq] at hzz
  have hkl : k < l.length := (List.getElem?_eq_some_iff.1 hk.out).1
  obtain ⟨gs, cp, rfl⟩ : ∃ gs cp, sv = .slice (some ⟨gs, 0, none⟩) l.length cp := by
    obtain ⟨g, cap, hv, _⟩ := hw.out.form (by omega)
    exact ⟨g, cap, hv⟩
  have hgs : gs < B := hlow gs rfl
  have hk0 : (k : Int) < (l.length : Int) := by omega
  have hk1 : (0 : Int) ≤ (k : Int) := by omega
  have hf40 : Hid ((a.st nx).f = (f : Int)) := by show _ = _; unfold _root_.Pl.Sp.st; rw [hf.out]; rfl
  have hlen5 := spCells_length nx l
  obtain ⟨e0, e1, e2, e3, e4⟩ := spCells_at nx l k a hk.out
  rw [hf40.out] at e4
  have s2 := (hw.out.cellAt (k * 5 + 2) (by omega)).trans e2
  have s4 := (hw.out.cellAt (k * 5 + 4) (by omega)).trans e4
  obtain ⟨ga0, gb0, gw0, V0, hin0⟩ := hweb.out
  obtain ⟨p0, _, _, _⟩ := hin0.cells
  clear e0 e1 e2 e3 e4 hin0
  have g4 : IntKind.i64.wrap ((f : Int) + (a.n : Int)) = (f : Int) + (a.n : Int) := by rw [IntKind.wrap_i64]; omega
  go_enter Try.func71, Try.ntmps71
  go_wp2_with fail
  go_quiet (fail)
  have p1 : ∀ m, (w.drewN m).cell? ⟨Wb, 0, none⟩ = some (.slice (some ⟨gs, 0, none⟩) l.length cp) := fun m => p0
  go_wp2_with fail
  refine (search_any nx (.slice (some ⟨gs, 0, none⟩) l.length cp) l c Bs f (w.drewN _) hl hc (by omega) ht (by exact hw.out)).mono ?_
  rintro e v1 ⟨r, b, rfl, hr1, hr2, hr3, b1⟩
  have hin1 : Hid (webAt Wb B (.slice (some ⟨gs, 0, none⟩) l.length cp) l.length L Wt v1) := by
    obtain ⟨ga, gb, gw, V, hin⟩ := hweb.out
    exact ⟨ga, gb, gw, V, (WebIn.below (w := w.drewN _) (hin.kept (fun _ _ => rfl) (Nat.le_refl _) rfl rfl rfl) b1)⟩
  have hb1 : Hid (Below B w v1) := (below_drewN (Below.refl B w) _).trans (b1.mono hB)
  have HR2 : Hid (∀ (j : Nat) (s : _root_.Pl.Sp), l[j]? = some s → j < r → s.t + s.n ≤ f) := hr2
  have HR3 : Hid (∀ (j : Nat) (s : _root_.Pl.Sp), l[j]? = some s → r ≤ j → f < s.t + s.n) := hr3
  have hfree : Hid (∀ m, m < r → _root_.Pl.tied l k m = false) := by
    intro m hm
    cases htd : _root_.Pl.tied l k m with
    | false => rfl
    | true =>
      obtain ⟨a', b', f', ha', hb', hf', _, _, h6⟩ := _root_.Pl.tied_spec htd
      rw [hk.out] at ha'; cases ha'
      rw [hf.out] at hf'; cases hf'
      have := HR2.out m b' hb' hm
      omega
  clear hr2 hr3 b1 p0 p1 s2 s4 g4
  have hsz1 : w.heap.size ≤ v1.heap.size := hb1.out.size
  go_wp2_with fail
  go_loopw [8] (fun x wr => ∃ i : Nat, x = .int .i64 i ∧ r ≤ i ∧ i ≤ l.length ∧ Hid (webAt Wb B (.slice (some ⟨gs, 0, none⟩) l.length cp) l.length (tieL l k i L) (tieW l k i Wt) wr) ∧ Hid (Below B w wr)) (fun x _ => l.length - (intOf x).toNat)
  case atStart =>
    refine ⟨r, rfl, Nat.le_refl _, hr1, ?_, hb1⟩
    obtain ⟨ga, gb, gw, V, hin⟩ := hin1.out
    exact ⟨ga, gb, gw, V, hin.congr (fun i _ => tieL_free L hfree.out i) (fun i _ => tieW_free Wt hfree.out i)⟩
  case round =>
    clear hin1 hb1
    obtain ⟨i, rfl, hri, hil, hI, hbel⟩ := hrel
    have hszr := hbel.out.size
    obtain ⟨ga, gb, gw, V, hin⟩ := hI.out
    obtain ⟨q0, q1, q2, q3⟩ := hin.cells
    by_cases hlt : i < l.length
    · obtain ⟨s, hs⟩ : ∃ s, l[i]? = some s := ⟨l[i], List.getElem?_eq_getElem hlt⟩
      have hi0 : (i : Int) < (l.length : Int) := by omega
      obtain ⟨e0, e1, e2, e3, e4⟩ := spCells_at nx l i s hs
      have s1 := (hbel.out.cell (p := ⟨gs, i * 5 + 1, none⟩) hgs).trans ((hw.out.cellAt (i * 5 + 1) (by omega)).trans e1)
      clear e0 e1 e2 e3 e4
      have d1 : decide ((i : Int) < (l.length : Int)) = true := decide_eq_true hi0
      obtain ⟨_, t1, t2⟩ := _root_.Pl.tiles_mem l 0 c ht.out s (List.mem_of_getElem? hs)
      have hs3 := HR3.out i s hs hri
      have htied : Hid (_root_.Pl.tied l k i = decide (i ≠ k ∧ s.t < f + a.n ∧ f < s.t + s.n)) := _root_.Pl.tied_iff hk.out hs hf.out
      have HS : Hid (l[i]? = some s) := hs
      clear hs
      by_cases hend : s.t < f + a.n
      · have d2 : decide ((s.t : Int) < (f : Int) + (a.n : Int)) = true := decide_eq_true (by omega)
        by_cases hik : i = k
        · have d3 : ((i : Int) == (k : Int)) = true := beq_iff_eq.2 (by omega)
          have hno : Hid (_root_.Pl.tied l k i = false) := by show _ = _; rw [htied.out, decide_eq_false]; intro h; exact h.1 hik
          have HW1 : Hid (webAt Wb B (.slice (some ⟨gs, 0, none⟩) l.length cp) l.length (tieL l k (i + 1) L) (tieW l k (i + 1) Wt) wr) := ⟨ga, gb, gw, V, hin.congr (fun m _ => tieL_skip L hno.out m) (fun m _ => tieW_skip Wt hno.out m)⟩
          clear hin hik
          go_wp2_with fail
          exact ⟨⟨i + 1, by go_num, by omega, by omega, HW1, hbel⟩, by simp [intOf]; omega⟩
        · have d3 : ((i : Int) == (k : Int)) = false := beq_eq_false_iff_ne.2 (by omega)
          have hyes : Hid (_root_.Pl.tied l k i = true) := by show _ = _; rw [htied.out, decide_eq_true]; exact ⟨hik, hend, hs3⟩
          have HIN : Hid (WebIn Wb B (.slice (some ⟨gs, 0, none⟩) l.length cp) l.length (tieL l k i L) (tieW l k i Wt) ga gb gw V wr) := hin
          have HBEL6 : Hid (Below B w wr) := hbel.out
          have hlL : ∀ m, (tieL l k i L m).length ≤ 9000 := by
            intro m
            unfold tieL
            have h1 := hL m
            have h2 : ((List.range i).filter (_root_.Pl.tied l k)).length ≤ i := by
              have := List.length_filter_le (_root_.Pl.tied l k) (List.range i)
              rwa [List.length_range] at this
            split
            · split
              · rw [List.length_append]; simp only [List.length_cons, List.length_nil]; omega
              · omega
            · split
              · rw [List.length_append]; omega
              · omega
          have hlW : tieW l k i Wt i = Wt i := by unfold tieW; rw [if_neg (by omega)]
          have hWi := hWt i
          have HLN : Hid (∀ m, tieL l k (i + 1) L m = more1 (more1 (tieL l k i L) i k) (l.length + k) i m) := tieL_next L hyes.out hlt
          have HWN : Hid (∀ m, tieW l k (i + 1) Wt m = if m = i then tieW l k i Wt i + 1 else tieW l k i Wt m) := tieW_next Wt hyes.out
          rw [hlW] at HWN
          generalize tieL l k i L = L0 at *
          generalize tieW l k i Wt = W0 at *
          clear hin hI hbel
          go_wp2_with fail
          obtain ⟨vo6, vn6, vc6, hV6⟩ : ∃ vo vn vc, V i = .slice vo vn vc := by
            rcases (HIN.out.own (i) (by omega)).2 with ⟨hv, _⟩ | ⟨g, cap, cur, hv, _⟩ <;> exact ⟨_, _, _, hv⟩
          have HV6 : Hid (V i = .slice vo6 vn6 vc6) := hV6
          have HO6 : Hid (wr.ownsRow B 3 1 (.slice vo6 vn6 vc6) (L0 i).length (nums (L0 i))) := by
            have h := HIN.out.own (i) (by omega)
            rw [hV6] at h; exact h
          have cX6 : wr.cell? ⟨Wb, 1, none⟩ = some (.slice (some ⟨ga, 0, none⟩) l.length l.length) := HIN.out.cells.2.1
          have cG6 : wr.cell? ⟨ga, i, none⟩ = some (.slice vo6 vn6 vc6) := by
            rw [HIN.out.rowA.cell (i := i) (by omega)]; exact congrArg some hV6
          have lX6 : Wb < wr.heap.size := (Array.getElem?_eq_some_iff.1 HIN.out.box).1
          have lG6 : ga < wr.heap.size := HIN.out.rowA.lt
          have hBz6 : B ≤ wr.heap.size := by have := HBEL6.out.size; omega
          have hll6 : (L0 i).length ≤ 100000 := by have := hlL i; omega
          clear hV6
          refine wp_region_noPanic ?_
          refine wp_region_R (S := fun w' => w'.cell? ⟨Wb, 1, none⟩ = some (.slice (some ⟨ga, 0, none⟩) l.length l.length) ∧ w'.cell? ⟨ga, i, none⟩ = some (.slice vo6 vn6 vc6)) [16] (by kernel_rfl) ⟨cX6, cG6⟩ (fun hHeld => ?_)
          refine wpAnyR_take (i := 0) (v := ?v6_0) rfl (by kernel_rfl) (by kernel_rfl) (by kernel_rfl) (by kernel_rfl) (by kernel_rfl) (fun _ _ _ h => h) (Or.inl ⟨by rfl, ?hy6_0⟩) (by assumption) ?rest6_0
          case hy6_0 =>
            intro w hSw
            (try dsimp only at hSw)
            go_simp
            try with_reducible rfl
          simp only [Act.put, List.setIfInBounds_toArray, List.set_cons_zero, List.set_cons_succ, List.getElem_toArray, List.getElem_cons_zero]
          refine wpAnyR_take (i := 1) (v := ?v6_1) rfl (by kernel_rfl) (by kernel_rfl) (by kernel_rfl) (by kernel_rfl) (by kernel_rfl) (fun _ _ _ h => h) (Or.inl ⟨by rfl, ?hy6_1⟩) (by assumption) ?rest6_1
          case hy6_1 =>
            intro w hSw
            (try dsimp only at hSw)
            go_simp
            try with_reducible rfl
          simp only [Act.put, List.setIfInBounds_toArray, List.set_cons_zero, List.set_cons_succ, List.getElem_toArray, List.getElem_cons_zero, List.getElem_cons_succ]
          refine wpAnyR_take (i := 2) (v := ?v6_2) rfl (by kernel_rfl) (by kernel_rfl) (by kernel_rfl) (by kernel_rfl) (by kernel_rfl) (fun _ _ _ h => h) (Or.inl ⟨by rfl, ?hy6_2⟩) (by assumption) ?rest6_2
          case hy6_2 =>
            intro w hSw
            (try dsimp only at hSw)
            go_simp
            try with_reducible rfl
          simp only [Act.put, List.setIfInBounds_toArray, List.set_cons_zero, List.set_cons_succ, List.getElem_toArray, List.getElem_cons_zero, List.getElem_cons_succ]
          refine wpAnyR_take (i := 3) (v := ?v6_3) rfl (by kernel_rfl) (by kernel_rfl) (by kernel_rfl) (by kernel_rfl) (by kernel_rfl) (fun _ _ _ h => h) (Or.inl ⟨by rfl, ?hy6_3⟩) (by assumption) ?rest6_3
          case hy6_3 =>
            intro w hSw
            (try dsimp only at hSw)
            go_simp
            try with_reducible rfl
          simp only [Act.put, List.setIfInBounds_toArray, List.set_cons_zero, List.set_cons_succ, List.getElem_toArray, List.getElem_cons_zero, List.getElem_cons_succ]
          refine wpAnyR_take (i := 4) (v := ?v6_4) rfl (by kernel_rfl) (by kernel_rfl) (by kernel_rfl) (by kernel_rfl) (by kernel_rfl) (fun _ _ _ h => h) (Or.inl ⟨by rfl, ?hy6_4⟩) (by assumption) ?rest6_4
          case hy6_4 =>
            intro w hSw
            (try dsimp only at hSw)
            go_simp
            try with_reducible rfl
          simp only [Act.put, List.setIfInBounds_toArray, List.set_cons_zero, List.set_cons_succ, List.getElem_toArray, List.getElem_cons_zero, List.getElem_cons_succ]
          refine wpAnyR_take (i := 5) (v := ?v6_5) rfl (by kernel_rfl) (by kernel_rfl) (by kernel_rfl) (by kernel_rfl) (by kernel_rfl) (fun _ _ _ h => h) (Or.inl ⟨by rfl, ?hy6_5⟩) (by assumption) ?rest6_5
          case hy6_5 =>
            intro w hSw
            (try dsimp only at hSw)
            go_simp
            try with_reducible rfl
          simp only [Act.put, List.setIfInBounds_toArray, List.set_cons_zero, List.set_cons_succ, List.getElem_toArray, List.getElem_cons_zero, List.getElem_cons_succ]
          refine wpAnyR_take (i := 6) (v := ?v6_6) rfl (by kernel_rfl) (by kernel_rfl) (by kernel_rfl) (by kernel_rfl) (by kernel_rfl) (fun _ _ _ h => h) (Or.inl ⟨by rfl, ?hy6_6⟩) (by assumption) ?rest6_6
          case hy6_6 =>
            intro w hSw
            (try dsimp only at hSw)
            go_simp
            try with_reducible rfl
          simp only [Act.put, List.setIfInBounds_toArray, List.set_cons_zero, List.set_cons_succ, List.getElem_toArray, List.getElem_cons_zero, List.getElem_cons_succ]
          refine wpAnyR_take (i := 7) (v := ?v6_7) rfl (by kernel_rfl) (by kernel_rfl) (by kernel_rfl) (by kernel_rfl) (by kernel_rfl) (fun _ _ _ h => h) (Or.inl ⟨by rfl, ?hy6_7⟩) (by assumption) ?rest6_7
          case hy6_7 =>
            intro w hSw
            (try dsimp only at hSw)
            go_simp
            try with_reducible rfl
          simp only [Act.put, List.setIfInBounds_toArray, List.set_cons_zero, List.set_cons_succ, List.getElem_toArray, List.getElem_cons_zero, List.getElem_cons_succ]
          refine wpAnyR_take (i := 8) (v := ?v6_8) rfl (by kernel_rfl) (by kernel_rfl) (by kernel_rfl) (by kernel_rfl) (by kernel_rfl) (fun _ _ _ h => h) (Or.inl ⟨by rfl, ?hy6_8⟩) (by assumption) ?rest6_8
          case hy6_8 =>
            intro w hSw
            (try dsimp only at hSw)
            go_simp
            try with_reducible rfl
          simp only [Act.put, List.setIfInBounds_toArray, List.set_cons_zero, List.set_cons_succ, List.getElem_toArray, List.getElem_cons_zero, List.getElem_cons_succ]
          refine wpAnyR_take (i := 9) (v := ?v6_9) rfl (by kernel_rfl) (by kernel_rfl) (by kernel_rfl) (by kernel_rfl) (by kernel_rfl) (fun _ _ _ h => h) (Or.inl ⟨by rfl, ?hy6_9⟩) (by assumption) ?rest6_9
          case hy6_9 =>
            intro w hSw
            (try dsimp only at hSw)
            go_simp
            try with_reducible rfl
          simp only [Act.put, List.setIfInBounds_toArray, List.set_cons_zero, List.set_cons_succ, List.getElem_toArray, List.getElem_cons_zero, List.getElem_cons_succ]
          refine wpAnyR_take (i := 10) (v := ?v6_10) rfl (by kernel_rfl) (by kernel_rfl) (by kernel_rfl) (by kernel_rfl) (by kernel_rfl) (fun _ _ _ h => h) (Or.inl ⟨by rfl, ?hy6_10⟩) (by assumption) ?rest6_10
          case hy6_10 =>
            intro w hSw
            (try dsimp only at hSw)
            go_simp
            try with_reducible rfl
          simp only [Act.put, List.setIfInBounds_toArray, List.set_cons_zero, List.set_cons_succ, List.getElem_toArray, List.getElem_cons_zero, List.getElem_cons_succ]
          refine wpAnyR_take (i := 11) (v := ?v6_11) rfl (by kernel_rfl) (by kernel_rfl) (by kernel_rfl) (by kernel_rfl) (by kernel_rfl) (fun _ _ _ h => h) (Or.inl ⟨by rfl, ?hy6_11⟩) (by assumption) ?rest6_11
          case hy6_11 =>
            intro w hSw
            (try dsimp only at hSw)
            go_simp
            try with_reducible rfl
          simp only [Act.put, List.setIfInBounds_toArray, List.set_cons_zero, List.set_cons_succ, List.getElem_toArray, List.getElem_cons_zero, List.getElem_cons_succ]
          refine wpAnyR_take (i := 12) (v := ?v6_12) rfl (by kernel_rfl) (by kernel_rfl) (by kernel_rfl) (by kernel_rfl) (by kernel_rfl) (fun _ _ _ h => h) (Or.inl ⟨by rfl, ?hy6_12⟩) (by assumption) ?rest6_12
          case hy6_12 =>
            intro w hSw
            (try dsimp only at hSw)
            go_simp
            try with_reducible rfl
          simp only [Act.put, List.setIfInBounds_toArray, List.set_cons_zero, List.set_cons_succ, List.getElem_toArray, List.getElem_cons_zero, List.getElem_cons_succ]
          refine wpAnyR_ready (rs := [13]) (by kernel_rfl) (by simp) ?_
          refine AllReadyR.cons rfl (fun K hK => ?_) AllReadyR.nil
          go_simp
          refine hK.out _ _ ?_ (fun hHeld => ?_)
          · exact ⟨(World.cell?_of_block (Below.heap_alloc wr _ _ lX6)).trans cX6, (World.cell?_of_block (Below.heap_alloc wr _ _ lG6)).trans cG6⟩
          clear hK
          (try simp only [Act.put, List.setIfInBounds_toArray, List.set_cons_zero, List.set_cons_succ, List.getElem_toArray, List.getElem_cons_zero, List.getElem_cons_succ])
          refine wpAnyR_ready (rs := [14]) (by kernel_rfl) (by simp) ?_
          refine AllReadyR.cons rfl (fun K hK => ?_) AllReadyR.nil
          simp only [List.getElem_toArray, List.getElem_cons_succ, List.getElem_cons_zero]
          rw [if_pos (by rfl)]
          refine wp_append_lies _ _ _ 22 (by rfl) B 3 i3 (.int .i64 0) 1 8 Try.underlying22 hi hzz.1 hzz.2.1 hzz.2.2 rfl (by decide) (.slice vo6 vn6 vc6) (L0 i).length (nums (L0 i)) (by rfl) (by exact HO6.out.alloc _) ⟨wr.heap.size, 0, none⟩ 1 1 [.int .i64 (k : Nat)] (by rfl) rfl ?d1 ?d2 (by decide) ?d3 ?d4 ?d5 (wr.heap.size + 1) ?d6 ?_
          case d1 => exact World.news_of_block (cs := #[.int .i64 (k : Nat)]) (heap_alloc_new wr _)
          case d2 => intro u hu; simp at hu; subst hu; rfl
          case d3 => unfold maxLen; omega
          case d4 => omega
          case d5 => simp; omega
          case d6 => simp
          intro g6 cap6 w6 hown6 hgr6 hat6 hlt6
          have hin6a : WebIn Wb B (.slice (some ⟨gs, 0, none⟩) l.length cp) l.length (L0) (W0) ga gb gw (V) (wr.alloc (Obj.cells #[.int .i64 (k : Nat)] 3)).drew := by
            exact HIN.out.below (((Below.refl _ _).alloc (Nat.le_refl _) _).drew)
          have hpush6 := WebIn.push hin6a (m := i) (x := k) (by omega) (v' := .slice (some ⟨g6, 0, none⟩) ((L0 i).length + 1) cap6) (g := g6) (by rw [HV6.out]; exact hgr6) hown6 rfl (by rw [HV6.out]; rcases hat6 with h | h; exact .inl h; exact .inr (by simp; omega)) (G := ga) (c := i) (.inl ⟨rfl, rfl, by omega⟩)
          have hb6w := (row_other (hin6a.own (i) (by omega)) hin6a.box (by decide))
          obtain ⟨cg6, hcg6⟩ := rowIs_block hin6a.rowA
          have hb6g := (row_other (hin6a.own (i) (by omega)) hcg6 (by decide))
          rw [HV6.out] at hb6w hb6g
          have cY6 : w6.cell? ⟨Wb, 1, none⟩ = some (.slice (some ⟨ga, 0, none⟩) l.length l.length) := (World.cell?_of_block (hgr6.block Wb (by simp; omega) hb6w)).trans hin6a.cells.2.1
          have cH6 : w6.cell? ⟨ga, i, none⟩ = some (.slice vo6 vn6 vc6) := by
            rw [World.cell?_of_block (hgr6.block ga (by simp; omega) hb6g), hin6a.rowA.cell (i := i) (by omega)]; exact congrArg some HV6.out
          have fH6 : w6.frozen? ⟨ga, i, none⟩ = false := by
            rw [World.frozen?_of_block (hgr6.block ga (by simp; omega) hb6g)]; exact hin6a.rowA.frozen _
          have HP6 : Hid (WebIn Wb B (.slice (some ⟨gs, 0, none⟩) l.length cp) l.length (more1 (L0) (i) k) (W0) ga gb gw (setV (V) (i) (.slice (some ⟨g6, 0, none⟩) ((L0 i).length + 1) cap6)) (w6.setCell ⟨ga, i, none⟩ (.slice (some ⟨g6, 0, none⟩) ((L0 i).length + 1) cap6))) := hpush6.1
          have HB6 : Hid (Below B w (w6.setCell ⟨ga, i, none⟩ (.slice (some ⟨g6, 0, none⟩) ((L0 i).length + 1) cap6))) := by
            exact ((HBEL6.out.alloc (by have := HBEL6.out.size; omega) _).drew).trans (hpush6.2 (by have := HBEL6.out.size; simp; omega))
          clear hin6a hpush6 hb6w hb6g hown6 hgr6 hcg6
          refine hK.out _ _ ?_ (fun hHeld => ?_)
          · exact ⟨cY6, cH6⟩
          clear hK
          (try simp only [Act.put, List.setIfInBounds_toArray, List.set_cons_zero, List.set_cons_succ])
          refine wpAnyR_take (i := 15) (v := ?v6_15) rfl (by kernel_rfl) (by kernel_rfl) (by kernel_rfl) (by kernel_rfl) (by kernel_rfl) (fun _ _ _ h => h) (Or.inl ⟨by rfl, ?hy6_15⟩) (by assumption) ?rest6_15
          case hy6_15 =>
            intro w hSw
            (try dsimp only at hSw)
            go_simp
            try with_reducible rfl
          simp only [Act.put, List.setIfInBounds_toArray, List.set_cons_zero, List.set_cons_succ, List.getElem_toArray, List.getElem_cons_zero, List.getElem_cons_succ]
          refine wpAnyR_ready (rs := [16]) (by kernel_rfl) (by simp) ?_
          refine AllReadyR.free rfl (by kernel_rfl) (fun K hK => ?_) AllReadyR.nil
          go_simp
          refine hK.out _ _ ?_
          clear hK
          (try simp only [Act.put, List.setIfInBounds_toArray, List.set_cons_zero, List.set_cons_succ, List.getElem_toArray, List.getElem_cons_zero, List.getElem_cons_succ])
          refine wpAnyR_done (by kernel_rfl) ?_ _
          refine NoPanic.normal ?_
          clear cX6 cG6 cY6 cH6 fH6
          generalize w6.setCell ⟨ga, i, none⟩ (.slice (some ⟨g6, 0, none⟩) ((L0 i).length + 1) cap6) = z6 at *
          generalize setV (V) (i) (.slice (some ⟨g6, 0, none⟩) ((L0 i).length + 1) cap6) = V6 at *
          have HBEL7 : Hid (Below B w z6) := HB6
          go_wp2_with fail
          obtain ⟨vo7, vn7, vc7, hV7⟩ : ∃ vo vn vc, V6 (l.length + k) = .slice vo vn vc := by
            rcases (HP6.out.own ((l.length + k)) (by omega)).2 with ⟨hv, _⟩ | ⟨g, cap, cur, hv, _⟩ <;> exact ⟨_, _, _, hv⟩
          have HV7 : Hid (V6 (l.length + k) = .slice vo7 vn7 vc7) := hV7
          have HO7 : Hid (z6.ownsRow B 3 1 (.slice vo7 vn7 vc7) ((more1 L0 i k) (l.length + k)).length (nums ((more1 L0 i k) (l.length + k)))) := by
            have h := HP6.out.own ((l.length + k)) (by omega)
            rw [hV7] at h; exact h
          have cX7 : z6.cell? ⟨Wb, 2, none⟩ = some (.slice (some ⟨gb, 0, none⟩) l.length l.length) := HP6.out.cells.2.2.1
          have cG7 : z6.cell? ⟨gb, k, none⟩ = some (.slice vo7 vn7 vc7) := by
            rw [HP6.out.rowB.cell (i := k) (by omega)]; exact congrArg some hV7
          have lX7 : Wb < z6.heap.size := (Array.getElem?_eq_some_iff.1 HP6.out.box).1
          have lG7 : gb < z6.heap.size := HP6.out.rowB.lt
          have hBz7 : B ≤ z6.heap.size := by have := HBEL7.out.size; omega
          have hll7 : ((more1 L0 i k) (l.length + k)).length ≤ 100000 := by have := hlL (l.length + k); unfold more1; rw [if_neg (by omega)]; omega
          clear hV7
          refine wp_region_noPanic ?_
          refine wp_region_R (S := fun w' => w'.cell? ⟨Wb, 2, none⟩ = some (.slice (some ⟨gb, 0, none⟩) l.length l.length) ∧ w'.cell? ⟨gb, k, none⟩ = some (.slice vo7 vn7 vc7)) [16] (by kernel_rfl) ⟨cX7, cG7⟩ (fun hHeld => ?_)
          refine wpAnyR_take (i := 0) (v := ?v7_0) rfl (by kernel_rfl) (by kernel_rfl) (by kernel_rfl) (by kernel_rfl) (by kernel_rfl) (fun _ _ _ h => h) (Or.inl ⟨by rfl, ?hy7_0⟩) (by assumption) ?rest7_0
          case hy7_0 =>
            intro w hSw
            (try dsimp only at hSw)
            go_simp
            try with_reducible rfl
          simp only [Act.put, List.setIfInBounds_toArray, List.set_cons_zero, List.set_cons_succ, List.getElem_toArray, List.getElem_cons_zero]
          refine wpAnyR_take (i := 1) (v := ?v7_1) rfl (by kernel_rfl) (by kernel_rfl) (by kernel_rfl) (by kernel_rfl) (by kernel_rfl) (fun _ _ _ h => h) (Or.inl ⟨by rfl, ?hy7_1⟩) (by assumption) ?rest7_1
          case hy7_1 =>
            intro w hSw
            (try dsimp only at hSw)
            go_simp
            try with_reducible rfl
          simp only [Act.put, List.setIfInBounds_toArray, List.set_cons_zero, List.set_cons_succ, List.getElem_toArray, List.getElem_cons_zero, List.getElem_cons_succ]
          refine wpAnyR_take (i := 2) (v := ?v7_2) rfl (by kernel_rfl) (by kernel_rfl) (by kernel_rfl) (by kernel_rfl) (by kernel_rfl) (fun _ _ _ h => h) (Or.inl ⟨by rfl, ?hy7_2⟩) (by assumption) ?rest7_2
          case hy7_2 =>
            intro w hSw
            (try dsimp only at hSw)
            go_simp
            try with_reducible rfl
          simp only [Act.put, List.setIfInBounds_toArray, List.set_cons_zero, List.set_cons_succ, List.getElem_toArray, List.getElem_cons_zero, List.getElem_cons_succ]
          refine wpAnyR_take (i := 3) (v := ?v7_3) rfl (by kernel_rfl) (by kernel_rfl) (by kernel_rfl) (by kernel_rfl) (by kernel_rfl) (fun _ _ _ h => h) (Or.inl ⟨by rfl, ?hy7_3⟩) (by assumption) ?rest7_3
          case hy7_3 =>
            intro w hSw
            (try dsimp only at hSw)
            go_simp
            try with_reducible rfl
          simp only [Act.put, List.setIfInBounds_toArray, List.set_cons_zero, List.set_cons_succ, List.getElem_toArray, List.getElem_cons_zero, List.getElem_cons_succ]
          refine wpAnyR_take (i := 4) (v := ?v7_4) rfl (by kernel_rfl) (by kernel_rfl) (by kernel_rfl) (by kernel_rfl) (by kernel_rfl) (fun _ _ _ h => h) (Or.inl ⟨by rfl, ?hy7_4⟩) (by assumption) ?rest7_4
          case hy7_4 =>
            intro w hSw
            (try dsimp only at hSw)
            go_simp
            try with_reducible rfl
          simp only [Act.put, List.setIfInBounds_toArray, List.set_cons_zero, List.set_cons_succ, List.getElem_toArray, List.getElem_cons_zero, List.getElem_cons_succ]
          refine wpAnyR_take (i := 5) (v := ?v7_5) rfl (by kernel_rfl) (by kernel_rfl) (by kernel_rfl) (by kernel_rfl) (by kernel_rfl) (fun _ _ _ h => h) (Or.inl ⟨by rfl, ?hy7_5⟩) (by assumption) ?rest7_5
          case hy7_5 =>
            intro w hSw
            (try dsimp only at hSw)
            go_simp
            try with_reducible rfl
          simp only [Act.put, List.setIfInBounds_toArray, List.set_cons_zero, List.set_cons_succ, List.getElem_toArray, List.getElem_cons_zero, List.getElem_cons_succ]
          refine wpAnyR_take (i := 6) (v := ?v7_6) rfl (by kernel_rfl) (by kernel_rfl) (by kernel_rfl) (by kernel_rfl) (by kernel_rfl) (fun _ _ _ h => h) (Or.inl ⟨by rfl, ?hy7_6⟩) (by assumption) ?rest7_6
          case hy7_6 =>
            intro w hSw
            (try dsimp only at hSw)
            go_simp
            try with_reducible rfl
          simp only [Act.put, List.setIfInBounds_toArray, List.set_cons_zero, List.set_cons_succ, List.getElem_toArray, List.getElem_cons_zero, List.getElem_cons_succ]
          refine wpAnyR_take (i := 7) (v := ?v7_7) rfl (by kernel_rfl) (by kernel_rfl) (by kernel_rfl) (by kernel_rfl) (by kernel_rfl) (fun _ _ _ h => h) (Or.inl ⟨by rfl, ?hy7_7⟩) (by assumption) ?rest7_7
          case hy7_7 =>
            intro w hSw
            (try dsimp only at hSw)
            go_simp
            try with_reducible rfl
          simp only [Act.put, List.setIfInBounds_toArray, List.set_cons_zero, List.set_cons_succ, List.getElem_toArray, List.getElem_cons_zero, List.getElem_cons_succ]
          refine wpAnyR_take (i := 8) (v := ?v7_8) rfl (by kernel_rfl) (by kernel_rfl) (by kernel_rfl) (by kernel_rfl) (by kernel_rfl) (fun _ _ _ h => h) (Or.inl ⟨by rfl, ?hy7_8⟩) (by assumption) ?rest7_8
          case hy7_8 =>
            intro w hSw
            (try dsimp only at hSw)
            go_simp
            try with_reducible rfl
          simp only [Act.put, List.setIfInBounds_toArray, List.set_cons_zero, List.set_cons_succ, List.getElem_toArray, List.getElem_cons_zero, List.getElem_cons_succ]
          refine wpAnyR_take (i := 9) (v := ?v7_9) rfl (by kernel_rfl) (by kernel_rfl) (by kernel_rfl) (by kernel_rfl) (by kernel_rfl) (fun _ _ _ h => h) (Or.inl ⟨by rfl, ?hy7_9⟩) (by assumption) ?rest7_9
          case hy7_9 =>
            intro w hSw
            (try dsimp only at hSw)
            go_simp
            try with_reducible rfl
          simp only [Act.put, List.setIfInBounds_toArray, List.set_cons_zero, List.set_cons_succ, List.getElem_toArray, List.getElem_cons_zero, List.getElem_cons_succ]
          refine wpAnyR_take (i := 10) (v := ?v7_10) rfl (by kernel_rfl) (by kernel_rfl) (by kernel_rfl) (by kernel_rfl) (by kernel_rfl) (fun _ _ _ h => h) (Or.inl ⟨by rfl, ?hy7_10⟩) (by assumption) ?rest7_10
          case hy7_10 =>
            intro w hSw
            (try dsimp only at hSw)
            go_simp
            try with_reducible rfl
          simp only [Act.put, List.setIfInBounds_toArray, List.set_cons_zero, List.set_cons_succ, List.getElem_toArray, List.getElem_cons_zero, List.getElem_cons_succ]
          refine wpAnyR_take (i := 11) (v := ?v7_11) rfl (by kernel_rfl) (by kernel_rfl) (by kernel_rfl) (by kernel_rfl) (by kernel_rfl) (fun _ _ _ h => h) (Or.inl ⟨by rfl, ?hy7_11⟩) (by assumption) ?rest7_11
          case hy7_11 =>
            intro w hSw
            (try dsimp only at hSw)
            go_simp
            try with_reducible rfl
          simp only [Act.put, List.setIfInBounds_toArray, List.set_cons_zero, List.set_cons_succ, List.getElem_toArray, List.getElem_cons_zero, List.getElem_cons_succ]
          refine wpAnyR_take (i := 12) (v := ?v7_12) rfl (by kernel_rfl) (by kernel_rfl) (by kernel_rfl) (by kernel_rfl) (by kernel_rfl) (fun _ _ _ h => h) (Or.inl ⟨by rfl, ?hy7_12⟩) (by assumption) ?rest7_12
          case hy7_12 =>
            intro w hSw
            (try dsimp only at hSw)
            go_simp
            try with_reducible rfl
          simp only [Act.put, List.setIfInBounds_toArray, List.set_cons_zero, List.set_cons_succ, List.getElem_toArray, List.getElem_cons_zero, List.getElem_cons_succ]
          refine wpAnyR_ready (rs := [13]) (by kernel_rfl) (by simp) ?_
          refine AllReadyR.cons rfl (fun K hK => ?_) AllReadyR.nil
          go_simp
          refine hK.out _ _ ?_ (fun hHeld => ?_)
          · exact ⟨(World.cell?_of_block (Below.heap_alloc z6 _ _ lX7)).trans cX7, (World.cell?_of_block (Below.heap_alloc z6 _ _ lG7)).trans cG7⟩
          clear hK
          (try simp only [Act.put, List.setIfInBounds_toArray, List.set_cons_zero, List.set_cons_succ, List.getElem_toArray, List.getElem_cons_zero, List.getElem_cons_succ])
          refine wpAnyR_ready (rs := [14]) (by kernel_rfl) (by simp) ?_
          refine AllReadyR.cons rfl (fun K hK => ?_) AllReadyR.nil
          simp only [List.getElem_toArray, List.getElem_cons_succ, List.getElem_cons_zero]
          rw [if_pos (by rfl)]
          refine wp_append_lies _ _ _ 22 (by rfl) B 3 i3 (.int .i64 0) 1 8 Try.underlying22 hi hzz.1 hzz.2.1 hzz.2.2 rfl (by decide) (.slice vo7 vn7 vc7) ((more1 L0 i k) (l.length + k)).length (nums ((more1 L0 i k) (l.length + k))) (by rfl) (by exact HO7.out.alloc _) ⟨z6.heap.size, 0, none⟩ 1 1 [.int .i64 (i : Nat)] (by rfl) rfl ?d1 ?d2 (by decide) ?d3 ?d4 ?d5 (z6.heap.size + 1) ?d6 ?_
          case d1 => exact World.news_of_block (cs := #[.int .i64 (i : Nat)]) (heap_alloc_new z6 _)
          case d2 => intro u hu; simp at hu; subst hu; rfl
          case d3 => unfold maxLen; omega
          case d4 => omega
          case d5 => simp; omega
          case d6 => simp
          intro g7 cap7 w7 hown7 hgr7 hat7 hlt7
          have hin7a : WebIn Wb B (.slice (some ⟨gs, 0, none⟩) l.length cp) l.length ((more1 L0 i k)) (W0) ga gb gw (V6) (z6.alloc (Obj.cells #[.int .i64 (i : Nat)] 3)).drew := by
            exact HP6.out.below (((Below.refl _ _).alloc (Nat.le_refl _) _).drew)
          have hpush7 := WebIn.push hin7a (m := (l.length + k)) (x := i) (by omega) (v' := .slice (some ⟨g7, 0, none⟩) (((more1 L0 i k) (l.length + k)).length + 1) cap7) (g := g7) (by rw [HV7.out]; exact hgr7) hown7 rfl (by rw [HV7.out]; rcases hat7 with h | h; exact .inl h; exact .inr (by simp; omega)) (G := gb) (c := k) (.inr ⟨rfl, rfl, by omega⟩)
          have hb7w := (row_other (hin7a.own ((l.length + k)) (by omega)) hin7a.box (by decide))
          obtain ⟨cg7, hcg7⟩ := rowIs_block hin7a.rowB
          have hb7g := (row_other (hin7a.own ((l.length + k)) (by omega)) hcg7 (by decide))
          rw [HV7.out] at hb7w hb7g
          have cY7 : w7.cell? ⟨Wb, 2, none⟩ = some (.slice (some ⟨gb, 0, none⟩) l.length l.length) := (World.cell?_of_block (hgr7.block Wb (by simp; omega) hb7w)).trans hin7a.cells.2.2.1
          have cH7 : w7.cell? ⟨gb, k, none⟩ = some (.slice vo7 vn7 vc7) := by
            rw [World.cell?_of_block (hgr7.block gb (by simp; omega) hb7g), hin7a.rowB.cell (i := k) (by omega)]; exact congrArg some HV7.out
          have fH7 : w7.frozen? ⟨gb, k, none⟩ = false := by
            rw [World.frozen?_of_block (hgr7.block gb (by simp; omega) hb7g)]; exact hin7a.rowB.frozen _
          have HP7 : Hid (WebIn Wb B (.slice (some ⟨gs, 0, none⟩) l.length cp) l.length (more1 ((more1 L0 i k)) ((l.length + k)) i) (W0) ga gb gw (setV (V6) ((l.length + k)) (.slice (some ⟨g7, 0, none⟩) (((more1 L0 i k) (l.length + k)).length + 1) cap7)) (w7.setCell ⟨gb, k, none⟩ (.slice (some ⟨g7, 0, none⟩) (((more1 L0 i k) (l.length + k)).length + 1) cap7))) := hpush7.1
          have HB7 : Hid (Below B w (w7.setCell ⟨gb, k, none⟩ (.slice (some ⟨g7, 0, none⟩) (((more1 L0 i k) (l.length + k)).length + 1) cap7))) := by
            exact ((HBEL7.out.alloc (by have := HBEL7.out.size; omega) _).drew).trans (hpush7.2 (by have := HBEL7.out.size; simp; omega))
          clear hin7a hpush7 hb7w hb7g hown7 hgr7 hcg7
          refine hK.out _ _ ?_ (fun hHeld => ?_)
          · exact ⟨cY7, cH7⟩
          clear hK
          (try simp only [Act.put, List.setIfInBounds_toArray, List.set_cons_zero, List.set_cons_succ])
          refine wpAnyR_take (i := 15) (v := ?v7_15) rfl (by kernel_rfl) (by kernel_rfl) (by kernel_rfl) (by kernel_rfl) (by kernel_rfl) (fun _ _ _ h => h) (Or.inl ⟨by rfl, ?hy7_15⟩) (by assumption) ?rest7_15
          case hy7_15 =>
            intro w hSw
            (try dsimp only at hSw)
            go_simp
            try with_reducible rfl
          simp only [Act.put, List.setIfInBounds_toArray, List.set_cons_zero, List.set_cons_succ, List.getElem_toArray, List.getElem_cons_zero, List.getElem_cons_succ]
          refine wpAnyR_ready (rs := [16]) (by kernel_rfl) (by simp) ?_
          refine AllReadyR.free rfl (by kernel_rfl) (fun K hK => ?_) AllReadyR.nil
          go_simp
          refine hK.out _ _ ?_
          clear hK
          (try simp only [Act.put, List.setIfInBounds_toArray, List.set_cons_zero, List.set_cons_succ, List.getElem_toArray, List.getElem_cons_zero, List.getElem_cons_succ])
          refine wpAnyR_done (by kernel_rfl) ?_ _
          refine NoPanic.normal ?_
          clear cX7 cG7 cY7 cH7 fH7
          generalize w7.setCell ⟨gb, k, none⟩ (.slice (some ⟨g7, 0, none⟩) (((more1 L0 i k) (l.length + k)).length + 1) cap7) = z7 at *
          generalize setV (V6) ((l.length + k)) (.slice (some ⟨g7, 0, none⟩) (((more1 L0 i k) (l.length + k)).length + 1) cap7) = V7 at *
          obtain ⟨_, _, _, q3'⟩ := HP7.out.cells
          have cW := HP7.out.rowW.cell (i := i) hlt
          have fW := HP7.out.rowW.frozen i
          rw [hlW] at cW
          have HFIN : Hid (WebIn Wb B (.slice (some ⟨gs, 0, none⟩) l.length cp) l.length (more1 (more1 L0 i k) (l.length + k) i) (fun m => if m = i then Wt i + 1 else W0 m) ga gb gw V7 (z7.setCell ⟨gw, i, none⟩ (.int .i64 ((Wt i : Nat) + 1 : Nat)))) := HP7.out.wait i (Wt i + 1)
          have HBF : Hid (Below B w (z7.setCell ⟨gw, i, none⟩ (.int .i64 ((Wt i : Nat) + 1 : Nat)))) := HB7.out.setCell HP7.out.low.2.2.2 _
          rw [show (((Wt i) + 1 : Nat) : Int) = ((Wt i : Nat) : Int) + 1 by omega] at HFIN HBF
          clear q0 q1 q2 q3
          go_wp2_with fail
          refine ⟨⟨i + 1, by go_num, by omega, by omega, ⟨ga, gb, gw, V7, HFIN.out.congr (fun m _ => HLN.out m) (fun m _ => HWN.out m)⟩, HBF⟩, by simp [intOf]; omega⟩
      · have d2 : decide ((s.t : Int) < (f : Int) + (a.n : Int)) = false := decide_eq_false (by omega)
        clear hin
        go_wp2_with fail
        go_returns
        refine ⟨rfl, ?_, hbel.out⟩
        obtain ⟨ga, gb, gw, V, hin⟩ := hI.out
        have hrest : ∀ m, i ≤ m → _root_.Pl.tied l k m = false := fun m hm => by
          cases htd : _root_.Pl.tied l k m with
          | false => rfl
          | true =>
            obtain ⟨a', b', f', ha', hb', hf', _, h5, _⟩ := _root_.Pl.tied_spec htd
            rw [hk.out] at ha'; cases ha'
            rw [hf.out] at hf'; cases hf'
            rcases Nat.lt_or_eq_of_le hm with hm | rfl
            · have := _root_.Pl.tiles_lt l 0 c ht.out i m s b' HS.out hb' hm
              omega
            · rw [HS.out] at hb'; cases hb'; omega
        exact ⟨ga, gb, gw, V, hin.congr (fun m _ => (tie_rest L Wt hil hrest m).1) (fun m _ => (tie_rest L Wt hil hrest m).2)⟩
    · have hie : i = l.length := by omega
      subst hie
      have d1 : decide ((l.length : Int) < (l.length : Int)) = false := decide_eq_false (by omega)
      clear hin
      go_wp2_with fail
      go_returns
      exact ⟨rfl, hI.out, hbel.out⟩

end Go.Proofs.Ytjjmcnippjpclab
