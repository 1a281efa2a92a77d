/-
  The walk of sorted: the steps are done one by one, each of those that wait for none.
-/
import Derived.Test.YtjjmcnippjpclabNewWebs
namespace Go.Proofs.Ytjjmcnippjpclab

open Go.RowKit

/-- what holds between the rounds: the steps done, the queue, the list and the web. -/
structure SrtMem (nx : ByteArray) (l : List _root_.Pl.Sp) (Z B Wb : Nat) (sv : Value) (L : Nat → List Nat) (ga gb gw : Nat) (V : Nat → Value) (D : List Nat) (q : List Nat) (Wt : Nat → Nat) (v : Value) (w wr : World) : Prop where
  qu : quAt (Z + 1) Z q wr
  list : wr.ownsRow Z 37 5 v D.length (spCells nx (_root_.Pl.picked l D))
  web : WebIn Wb B sv l.length L Wt ga gb gw V wr
  below : Below B w wr
  size : Z ≤ wr.heap.size

theorem SrtMem.queue {nx : ByteArray} {l : List _root_.Pl.Sp} {Z B Wb : Nat} {sv : Value} {L : Nat → List Nat} {ga gb gw : Nat} {V : Nat → Value} {D q q' : List Nat} {Wt : Nat → Nat} {v : Value} {w wr wq : World} (h : SrtMem nx l Z B Wb sv L ga gb gw V D q Wt v w wr)
    (hq : quAt (Z + 1) Z q' wq) (hk : quKept (Z + 1) Z wr wq) (hu : webUnder Z Wb l.length ga gb gw V) (hB : B ≤ Z) : SrtMem nx l Z B Wb sv L ga gb gw V D q' Wt v w wq :=
  ⟨hq, own_quKept h.list h.qu.box hk, h.web.under hu hk.1, h.below.trans (hk.1.mono hB), Nat.le_trans h.size hk.1.size⟩

theorem SrtMem.wait {nx : ByteArray} {l : List _root_.Pl.Sp} {Z B Wb : Nat} {sv : Value} {L : Nat → List Nat} {ga gb gw : Nat} {V : Nat → Value} {D q : List Nat} {Wt : Nat → Nat} {v : Value} {w wr : World} (h : SrtMem nx l Z B Wb sv L ga gb gw V D q Wt v w wr)
    (hu : webUnder Z Wb l.length ga gb gw V) (m x : Nat) : SrtMem nx l Z B Wb sv L ga gb gw V D q (fun i => if i = m then x else Wt i) v w (wr.setCell ⟨gw, m, none⟩ (.int .i64 (x : Nat))) :=
  ⟨h.qu.set hu.1.2.2.2 (by omega) _ _, own_set h.list hu.1.2.2.2 _ _, h.web.wait m x, h.below.setCell h.web.low.2.2.2 _, by rw [World.size_setCell]; exact h.size⟩

theorem SrtMem.waits {nx : ByteArray} {l : List _root_.Pl.Sp} {Z B Wb : Nat} {sv : Value} {L : Nat → List Nat} {ga gb gw : Nat} {V : Nat → Value} {D q : List Nat} {Wt Wt' : Nat → Nat} {v : Value} {w wr : World} (h : SrtMem nx l Z B Wb sv L ga gb gw V D q Wt v w wr)
    (he : ∀ i, i < l.length → Wt' i = Wt i) : SrtMem nx l Z B Wb sv L ga gb gw V D q Wt' v w wr := ⟨h.qu, h.list, h.web.congr (fun _ _ => rfl) he, h.below, h.size⟩

theorem SrtMem.step {nx : ByteArray} {l : List _root_.Pl.Sp} {Z B Wb : Nat} {sv : Value} {L : Nat → List Nat} {ga gb gw : Nat} {V : Nat → Value} {D q : List Nat} {Wt : Nat → Nat} {v v' : Value} {w wr wq : World} {k : Nat} {s : _root_.Pl.Sp} {ob : Obj} (h : SrtMem nx l Z B Wb sv L ga gb gw V D q Wt v w wr)
    (hk : l[k]? = some s) (hu : webUnder Z Wb l.length ga gb gw V) (hB : B ≤ Z) (hw : wq.ownsRow Z 37 5 v' (D.length + 1) (spCells nx (_root_.Pl.picked l D) ++ [.int .i64 (s.st nx).k, .int .i64 (s.t : Nat), .int .i64 (s.n : Nat), .string (s.st nx).d, .int .i64 (s.st nx).f])) (hg : (wr.alloc ob).grownBy wq v.ownBlock) :
    SrtMem nx l Z B Wb sv L ga gb gw V (D ++ [k]) q Wt v' w wq := by
  have hz := h.size
  have b1 : Below Z wr wq := ((Below.refl Z wr).alloc hz ob).grown hg (by simp; omega) (fun j hj => (h.list.lt j hj).1)
  refine ⟨(h.qu.below ((Below.refl _ _).alloc (Nat.le_refl _) ob)).grown (h.list.alloc ob) hg, ?_, h.web.under hu b1, h.below.trans (b1.mono hB), Nat.le_trans hz b1.size⟩
  rw [picked_snoc l D k s hk, List.length_append]
  have := row_step (s := s) (l := _root_.Pl.picked l D) (by rw [picked_length]; exact hw)
  rw [List.length_append, picked_length] at this
  exact this

theorem SrtMem.queueCell {nx : ByteArray} {l : List _root_.Pl.Sp} {Z B Wb : Nat} {sv : Value} {L : Nat → List Nat} {ga gb gw : Nat} {V : Nat → Value} {D q : List Nat} {Wt : Nat → Nat} {v : Value} {w wr : World} (h : SrtMem nx l Z B Wb sv L ga gb gw V D q Wt v w wr) : ∃ qo qc, wr.cell? ⟨Z + 1, 0, none⟩ = some (.slice qo q.length qc) := by
  obtain ⟨x, hH, hx⟩ := h.qu
  rcases hx.2 with ⟨e, hz⟩ | ⟨g, cap, cur, e, _⟩
  · exact ⟨none, 0, by rw [Lib.cell_of_heap hH, e, hz]; rfl⟩
  · exact ⟨_, _, by rw [Lib.cell_of_heap hH, e]; rfl⟩

theorem srt_len {l : List _root_.Pl.Sp} {D Q : List Nat} (h : _root_.Pl.Srt l D Q) : D.length + Q.length ≤ l.length := by
  have := _root_.Pl.nodup_le l.length (D ++ Q) h.nd h.lt
  rwa [List.length_append] at this

theorem srt2_len {l : List _root_.Pl.Sp} {D Q : List Nat} {k j : Nat} (h : _root_.Pl.Srt2 l D k Q j) : D.length + 1 + Q.length ≤ l.length := by
  have := _root_.Pl.nodup_le l.length (D ++ [k] ++ Q) h.nd h.lt
  simp only [List.length_append, List.length_cons, List.length_nil] at this
  omega

set_option maxRecDepth 100000 in
set_option maxHeartbeats 8000000 in
theorem sorted_any (nx : ByteArray) (sv : Value) (l : List _root_.Pl.Sp) (B Bs Wb ga gb gw : Nat) (L : Nat → List Nat) (V : Nat → Value) (w : World) (hl : l.length ≤ 4000) (hB : B ≤ w.heap.size)
    (hLb : Hid (∀ c, c < l.length → L (l.length + c) = _root_.Pl.behindOf l c)) (hw : Hid (w.ownsRow Bs 37 5 sv l.length (spCells nx l))) (hlow : ∀ g, sv.ownBlock = some g → g < B) (hin : Hid (WebIn Wb B sv l.length L (_root_.Pl.waitsOf l []) ga gb gw V w)) :
    Calls Try.prog 40 #[.pointer (some ⟨Wb, 0, none⟩)] w fun e w' => ∃ v D, e = .returned (.tuple #[v, .bool (decide (D.length = l.length))]) ∧ _root_.Pl.Srt l D [] ∧ w'.ownsRow w.heap.size 37 5 v D.length (spCells nx (_root_.Pl.picked l D)) ∧ WebIn Wb B sv l.length L (_root_.Pl.waitsOf l D) ga gb gw V w' ∧ Below B w w' := by
  obtain ⟨i40, hi, hzz⟩ := Option.map_eq_some_iff.1 info40
  simp only [Prod.mk.injEq] at hzz
  obtain ⟨so, sc, rfl⟩ : ∃ so sc, sv = .slice so l.length sc := by
    rcases hw.out.2 with ⟨hv, hz⟩ | ⟨g, cap, cur, hv, _⟩
    · exact ⟨none, 0, by rw [hv, hz]⟩
    · exact ⟨_, _, hv⟩
  have hun : Hid (webUnder w.heap.size Wb l.length ga gb gw V) := webUnder_of hin.out
  have hgwZ : gw < w.heap.size := hun.out.1.2.2.2
  obtain ⟨q0, q1, q2, q3⟩ := hin.out.cells
  have lX : Wb < w.heap.size := hun.out.1.1
  go_enter Try.func40, Try.ntmps40
  go_wp2_with fail
  have hqn : Hid (quAt (w.heap.size + 1) w.heap.size [] ((w.alloc (Obj.cells #[] 3)).alloc (Obj.cells #[.slice (some ⟨w.heap.size, 0, none⟩) 0 0] 111))) := quAt_new w _ (Nat.le_refl _)
  have hbn : Hid (Below w.heap.size w ((w.alloc (Obj.cells #[] 3)).alloc (Obj.cells #[.slice (some ⟨w.heap.size, 0, none⟩) 0 0] 111))) := ((Below.refl _ _).alloc (Nat.le_refl _) _).alloc (by simp) _
  go_loopw [18] (fun x wr => ∃ (k : Nat) (q : List Nat), x = .int .i64 k ∧ k ≤ l.length ∧ q.length ≤ k ∧ Hid (q.Perm ((List.range k).filter fun i => decide (_root_.Pl.waitsOf l [] i = 0))) ∧ Hid (quAt (w.heap.size + 1) w.heap.size q wr) ∧ Hid (Below w.heap.size w wr)) (fun x _ => l.length - (intOf x).toNat)
  case atStart => exact ⟨0, [], rfl, Nat.zero_le _, Nat.zero_le _, List.Perm.refl _, hqn, hbn⟩
  case round =>
    clear hqn hbn
    obtain ⟨k, q, rfl, hk, hql, hp, hqu, hbel⟩ := hrel
    by_cases hlt : k < l.length
    · have hk0 : (k : Int) < (l.length : Int) := by omega
      have cW := (hbel.out.cell (p := ⟨gw, k, none⟩) hgwZ).trans (hin.out.rowW.cell (i := k) hlt)
      by_cases hz : _root_.Pl.waitsOf l [] k = 0
      · rw [hz] at cW
        have HF : Hid (∀ q' : List Nat, q'.Perm (q ++ [k]) → q'.Perm ((List.range (k + 1)).filter fun i => decide (_root_.Pl.waitsOf l [] i = 0))) := by
          intro q' hq'
          rw [filter_snoc, if_pos (by simpa using hz)]
          exact hq'.trans (hp.out.append_right [k])
        clear hz
        go_wp2_with fail
        refine (push_any (w.heap.size + 1) w.heap.size q k wr (by omega) (by omega) hqu).mono ?_
        rintro e v2 ⟨rfl, q', hp', hq', hk'⟩
        have HP' : Hid (q'.Perm ((List.range (k + 1)).filter fun i => decide (_root_.Pl.waitsOf l [] i = 0))) := HF.out q' hp'
        have hl' : q'.length ≤ k + 1 := by rw [hp'.length_eq]; simp; omega
        have HQ' : Hid (quAt (w.heap.size + 1) w.heap.size q' v2) := hq'
        have HB' : Hid (Below w.heap.size w v2) := hbel.out.trans hk'.1
        clear hp' hq' hk'
        go_wp2_with fail
        exact ⟨⟨k + 1, q', by go_num, by omega, hl', HP', HQ', HB'⟩, by simp [intOf]; omega⟩
      · have d1 : (((_root_.Pl.waitsOf l [] k : Nat) : Int) == 0) = false := beq_eq_false_iff_ne.2 (by omega)
        have HF : Hid (q.Perm ((List.range (k + 1)).filter fun i => decide (_root_.Pl.waitsOf l [] i = 0))) := by
          show _
          rw [filter_snoc, if_neg (by simpa using hz), List.append_nil]
          exact hp.out
        go_wp2_with fail
        exact ⟨⟨k + 1, q, by go_num, by omega, by omega, HF, hqu, hbel⟩, by simp [intOf]; omega⟩
    · have hke : k = l.length := by omega
      subst hke
      have HS0 : Hid (_root_.Pl.Srt l [] q) := _root_.Pl.srt_start hp.out
      have HM0 : Hid (SrtMem nx l w.heap.size B Wb (.slice so l.length sc) L ga gb gw V [] q (_root_.Pl.waitsOf l []) (.slice none 0 0) w wr) :=
        ⟨hqu.out, World.ownsRow_nil _ _ _ _, hin.out.under hun.out hbel.out, hbel.out.mono hB, hbel.out.size⟩
      clear hp hqu hbel q0 q1 q2 q3 hin
      have ta := fun x : Nat => assert_int (x : Int)
      go_wp2_with fail
      go_loopg [7] l.length (fun g v wr => ∃ D q : List Nat, D.length + g = l.length ∧ Hid (_root_.Pl.Srt l D q) ∧ Hid (SrtMem nx l w.heap.size B Wb (.slice so l.length sc) L ga gb gw V D q (_root_.Pl.waitsOf l D) v w wr))
      case atStart => exact ⟨[], q, by simp, HS0, HM0⟩
      case round =>
        clear HS0 HM0
        obtain ⟨D, q, hDg, hS, hM⟩ := hrel
        obtain ⟨lo, ln, lc, rfl⟩ : ∃ lo ln lc, u7 = .slice lo ln lc := by
          rcases hM.out.list.2 with ⟨hv, _⟩ | ⟨g, cap, cur, hv, _⟩ <;> exact ⟨_, _, _, hv⟩
        obtain ⟨qo, qc, cQ⟩ := hM.out.queueCell
        have hlens := srt_len hS.out
        rcases Nat.eq_zero_or_pos q.length with hq0 | hq1
        · have e0 : q = [] := List.eq_nil_of_length_eq_zero hq0
          subst e0
          obtain ⟨p0, _, _, _⟩ := hM.out.web.cells
          have hln : ln = D.length := by
            rcases hM.out.list.2 with ⟨hv, hz⟩ | ⟨g, cap, cur, hv, _⟩
            · simp only [Value.slice.injEq] at hv; omega
            · simp only [Value.slice.injEq] at hv; omega
          subst hln
          have HD : Hid (decide (D.length = l.length) = (((D.length : Nat) : Int) == ((l.length : Nat) : Int))) := by
            show _ = _
            rw [Bool.eq_iff_iff, decide_eq_true_eq, beq_iff_eq]; omega
          go_wp2_with (go_at_call 73; refine (qlen_any _ _ _ _).mono ?_; rintro e v0 ⟨rfl, h0⟩; rw [h0]; clear h0 v0)
          go_quiet (fail)
          go_wp2_with fail
          go_ret2
          refine ⟨_, D, by rw [HD.out]; rfl, hS.out, ?_, ?_, ?_⟩
          · exact hM.out.list
          · exact hM.out.web.kept (fun _ _ => rfl) (Nat.le_refl _) rfl rfl rfl
          · exact below_drewN hM.out.below _
        · have hq1' : (0 : Int) < (q.length : Int) := by omega
          go_wp2_with (go_at_call 73; refine (qlen_any _ _ _ _).mono ?_; rintro e v0 ⟨rfl, h0⟩; rw [h0]; clear h0 v0)
          refine (pop_any (w.heap.size + 1) w.heap.size q wr (by omega) (by omega) hq1 hM.out.qu).mono ?_
          rintro e v1 ⟨k, q1, rfl, hp1, hqq1, hk1⟩
          have HS1 : Hid (_root_.Pl.Srt2 l D k q1 0) := _root_.Pl.srt_pop hS.out hp1
          have HM1 : Hid (SrtMem nx l w.heap.size B Wb (.slice so l.length sc) L ga gb gw V D q1 (_root_.Pl.waitsOf l D) (.slice lo ln lc) w v1) := hM.out.queue hqq1 hk1 hun.out hB
          have hkl : k < l.length := HS1.out.klt
          clear hp1 hqq1 hk1 hM cQ
          obtain ⟨s, hs⟩ : ∃ s, l[k]? = some s := ⟨l[k], List.getElem?_eq_getElem hkl⟩
          obtain ⟨g, hso⟩ : ∃ g, so = some ⟨g, 0, none⟩ := by
            obtain ⟨g, cap, hv, _⟩ := hw.out.form (by omega)
            simp only [Value.slice.injEq] at hv
            exact ⟨g, hv.1⟩
          subst hso
          have hk0 : (k : Int) < (l.length : Int) := by omega
          have hgB : g < B := hlow g rfl
          obtain ⟨e0, e1, e2, e3, e4⟩ := spCells_at nx l k s hs
          have hlen5 := spCells_length nx l
          have c0 := (HM1.out.below.cell (p := ⟨g, k * 5, none⟩) hgB).trans ((hw.out.cellAt (k * 5) (by omega)).trans e0)
          have c1 := (HM1.out.below.cell (p := ⟨g, k * 5 + 1, none⟩) hgB).trans ((hw.out.cellAt (k * 5 + 1) (by omega)).trans e1)
          have c2 := (HM1.out.below.cell (p := ⟨g, k * 5 + 2, none⟩) hgB).trans ((hw.out.cellAt (k * 5 + 2) (by omega)).trans e2)
          have c3 := (HM1.out.below.cell (p := ⟨g, k * 5 + 3, none⟩) hgB).trans ((hw.out.cellAt (k * 5 + 3) (by omega)).trans e3)
          have c4 := (HM1.out.below.cell (p := ⟨g, k * 5 + 4, none⟩) hgB).trans ((hw.out.cellAt (k * 5 + 4) (by omega)).trans e4)
          clear e0 e1 e2 e3 e4
          have HS : Hid (l[k]? = some s) := hs
          clear hs
          obtain ⟨p0, _, _, _⟩ := HM1.out.web.cells
          have hsz1 := HM1.out.size
          go_wp2_with (at_builtin; refine wpList_append_keep _ rfl _ _ 28 rfl w.heap.size 37 i40 (.agg zero5.toArray) 5 48 Try.underlying28 hi hzz.1 hzz.2.1 hzz.2.2 rfl (by decide) _ D.length (spCells nx (_root_.Pl.picked l D)) rfl (HM1.out.list.alloc _) ⟨v1.heap.size, 0, none⟩ 1 1 [.int .i64 (s.st nx).k, .int .i64 (s.t : Nat), .int .i64 (s.n : Nat), .string (s.st nx).d, .int .i64 (s.st nx).f] rfl rfl ?c1 ?c2 (by decide) ?c3 ?c4 ?c5 ?_)
          case c1 => exact World.news_of_block (cs := #[.int .i64 (s.st nx).k, .int .i64 (s.t : Nat), .int .i64 (s.n : Nat), .string (s.st nx).d, .int .i64 (s.st nx).f]) (heap_alloc_new v1 _)
          case c2 =>
            intro u hu
            simp at hu
            rcases hu with rfl | rfl | rfl | rfl | rfl <;> rfl
          case c3 => unfold maxLen; omega
          case c4 => omega
          case c5 => simp; omega
          intro v2 q2 hw2 hg2 _
          have HM2 : Hid (SrtMem nx l w.heap.size B Wb (.slice (some ⟨g, 0, none⟩) l.length sc) L ga gb gw V (D ++ [k]) q1 (_root_.Pl.waitsOf l D) v2 w q2) := HM1.out.step HS.out hun.out hB hw2 hg2
          clear hw2 hg2 HM1 c0 c1 c2 c3 c4 p0
          obtain ⟨vo, vc, hV⟩ : ∃ vo vc, V (l.length + k) = .slice vo (_root_.Pl.behindOf l k).length vc := by
            have h := HM2.out.web.own (l.length + k) (by omega)
            rw [hLb.out k hkl] at h
            rcases h.2 with ⟨hv, hz⟩ | ⟨g, cap, cur, hv, _⟩
            · exact ⟨none, 0, by rw [hv, hz]⟩
            · exact ⟨_, _, hv⟩
          have HV : Hid (V (l.length + k) = .slice vo (_root_.Pl.behindOf l k).length vc) := hV
          have cB := HM2.out.web.rowB.cell (i := k) hkl
          rw [hV] at cB
          obtain ⟨_, _, p2, _⟩ := HM2.out.web.cells
          have hbl : (_root_.Pl.behindOf l k).length ≤ 4000 := by
            have := List.length_filter_le (fun i => _root_.Pl.tied l k i) (List.range l.length)
            rw [List.length_range] at this
            exact Nat.le_trans this hl
          have HOb : Hid (∀ (u : World) (Wt : Nat → Nat), WebIn Wb B (.slice (some ⟨g, 0, none⟩) l.length sc) l.length L Wt ga gb gw V u → u.ownsRow B 3 1 (.slice vo (_root_.Pl.behindOf l k).length vc) (_root_.Pl.behindOf l k).length (nums (_root_.Pl.behindOf l k))) := fun u Wt hu => by
            have h := hu.own (l.length + k) (by omega)
            rw [hLb.out k hkl, HV.out] at h
            exact h
          have HM3 : Hid (SrtMem nx l w.heap.size B Wb (.slice (some ⟨g, 0, none⟩) l.length sc) L ga gb gw V (D ++ [k]) q1 (_root_.Pl.waitsAt l D k 0) v2 w q2) := HM2.out.waits (fun i _ => by simp [_root_.Pl.waitsAt])
          clear hV
          go_wp2_with fail
          clear HM2 cB p2
          obtain ⟨BH, hBH⟩ : ∃ BH, _root_.Pl.behindOf l k = BH := ⟨_, rfl⟩
          have HBH : Hid (_root_.Pl.behindOf l k = BH) := hBH
          rw [hBH] at hbl HOb HV
          rw [hBH]
          clear hBH
          go_loopw [58] (fun x wr => ∃ (j : Nat) (q' : List Nat), x = .int .i64 j ∧ j ≤ BH.length ∧ Hid (_root_.Pl.Srt2 l D k q' j) ∧ Hid (SrtMem nx l w.heap.size B Wb (.slice (some ⟨g, 0, none⟩) l.length sc) L ga gb gw V (D ++ [k]) q' (_root_.Pl.waitsAt l D k j) v2 w wr)) (fun x _ => BH.length - (intOf x).toNat)
          case atStart => exact ⟨0, q1, rfl, Nat.zero_le _, HS1, HM3⟩
          case round =>
            clear HS1 HM3
            obtain ⟨j, q', rfl, hj, hS2, hM2⟩ := hrel
            have hl2 := srt2_len hS2.out
            by_cases hjlt : j < BH.length
            · obtain ⟨i, hi'⟩ : ∃ i, BH[j]? = some i := ⟨BH[j], List.getElem?_eq_getElem hjlt⟩
              have HI : Hid ((_root_.Pl.behindOf l k)[j]? = some i) := by show _ = _; rw [HBH.out]; exact hi'
              obtain ⟨hw1, hw2, hil, hgo, hpu⟩ := _root_.Pl.srt_step hS2.out HI.out
              obtain ⟨W', hW'⟩ : ∃ W', _root_.Pl.waitsOf l D i = W' + 1 := ⟨_root_.Pl.waitsOf l D i - 1, by omega⟩
              obtain ⟨gv, hvo⟩ : ∃ gv, vo = some ⟨gv, 0, none⟩ := by
                obtain ⟨g, cap, hv, _⟩ := (HOb.out wr _ hM2.out.web).form (by omega)
                simp only [Value.slice.injEq] at hv
                exact ⟨g, hv.1⟩
              subst hvo
              have cV : wr.cell? ⟨gv, j, none⟩ = some (.int .i64 (i : Nat)) := quAt.cells (HOb.out wr _ hM2.out.web) j i hi'
              have cW := hM2.out.web.rowW.cell (i := i) hil
              have fW := hM2.out.web.rowW.frozen i
              rw [hw1, hW'] at cW
              obtain ⟨_, _, _, p3⟩ := hM2.out.web.cells
              have hj0 : (j : Int) < (BH.length : Int) := by omega
              have hi0 : (i : Int) < (l.length : Int) := by omega
              have hgX : Wb ≠ gw := by
                obtain ⟨cw, hcw⟩ := rowIs_block hM2.out.web.rowW
                exact block_ne hM2.out.web.box hcw (by decide)
              have p3' : ∀ u, (wr.setCell ⟨gw, i, none⟩ u).cell? ⟨Wb, 3, none⟩ = some (.slice (some ⟨gw, 0, none⟩) l.length l.length) := fun u => by
                rw [World.cell?_setCell_far _ _ _ _ (fun e => hgX e.symm)]; exact p3
              have cW' : ∀ u, (wr.setCell ⟨gw, i, none⟩ u).cell? ⟨gw, i, none⟩ = some u := fun u => World.cell?_setCell_same _ _ _ cW
              have HM4 : Hid (SrtMem nx l w.heap.size B Wb (.slice (some ⟨g, 0, none⟩) l.length sc) L ga gb gw V (D ++ [k]) q' (_root_.Pl.waitsAt l D k (j + 1)) v2 w (wr.setCell ⟨gw, i, none⟩ (.int .i64 (W' : Nat)))) := by
                refine (hM2.out.wait hun.out i W').waits (fun m _ => ?_)
                rw [_root_.Pl.waitsAt_next HI.out]
                by_cases hmi : m = i
                · rw [if_pos hmi, if_pos hmi, hW']; rfl
                · rw [if_neg hmi, if_neg hmi]
              have HGO : Hid (1 < W' + 1 → _root_.Pl.Srt2 l D k q' (j + 1)) := by rw [← hW']; exact hgo
              have HPU : Hid (W' + 1 = 1 → ∀ Q', List.Perm Q' (q' ++ [i]) → _root_.Pl.Srt2 l D k Q' (j + 1)) := by rw [← hW']; exact hpu
              have hWl : W' ≤ 4000 := by
                have h1 : _root_.Pl.waitsOf l D i ≤ (_root_.Pl.aheadOf l i).length := List.countP_le_length
                have h2 := List.length_filter_le (fun c => _root_.Pl.tied l c i) (List.range l.length)
                rw [List.length_range] at h2
                have h3 : (_root_.Pl.aheadOf l i).length ≤ l.length := h2
                omega
              clear hw1 hw2 hgo hpu hW' hi'
              rcases Nat.eq_zero_or_pos W' with hW0 | hW1
              · subst hW0
                have HS3 : Hid (∀ Q', List.Perm Q' (q' ++ [i]) → _root_.Pl.Srt2 l D k Q' (j + 1)) := HPU.out rfl
                clear HGO HPU
                go_wp2_with fail
                refine (push_any (w.heap.size + 1) w.heap.size q' i (wr.setCell ⟨gw, i, none⟩ (.int .i64 ((0 : Nat) : Int))) (by omega) (by omega) HM4.out.qu).mono ?_
                rintro e v3 ⟨rfl, q3, hp3, hq3, hk3⟩
                have HS4 : Hid (_root_.Pl.Srt2 l D k q3 (j + 1)) := HS3.out q3 hp3
                have HM5 : Hid (SrtMem nx l w.heap.size B Wb (.slice (some ⟨g, 0, none⟩) l.length sc) L ga gb gw V (D ++ [k]) q3 (_root_.Pl.waitsAt l D k (j + 1)) v2 w v3) := HM4.out.queue hq3 hk3 hun.out hB
                clear hp3 hq3 hk3 HM4 p3' cW' cV cW fW p3
                go_wp2_with fail
                exact ⟨⟨j + 1, q3, by go_num, by omega, HS4, HM5⟩, by simp [intOf]; omega⟩
              · have d0 : ((W' : Int) == 0) = false := beq_eq_false_iff_ne.2 (by omega)
                have HS4 : Hid (_root_.Pl.Srt2 l D k q' (j + 1)) := HGO.out (by omega)
                clear HGO HPU
                go_wp2_with fail
                exact ⟨⟨j + 1, q', by go_num, by omega, HS4, HM4⟩, by simp [intOf]; omega⟩
            · have hje : j = BH.length := by omega
              subst hje
              have HS5 : Hid (_root_.Pl.Srt l (D ++ [k]) q') := _root_.Pl.srt_end (by rw [HBH.out]; exact hS2.out)
              have HM5 : Hid (SrtMem nx l w.heap.size B Wb (.slice (some ⟨g, 0, none⟩) l.length sc) L ga gb gw V (D ++ [k]) q' (_root_.Pl.waitsOf l (D ++ [k])) v2 w wr) := hM2.out.waits (fun i _ => by rw [← HBH.out, _root_.Pl.waitsAt_end hS2.out.knew])
              clear hM2 hS2
              go_wp2_with fail
              go_roundg (gk - 1)
              case measure => omega
              case rel => exact ⟨D ++ [k], q', by rw [List.length_append]; simp only [List.length_cons, List.length_nil]; omega, HS5, HM5⟩

end Go.Proofs.Ytjjmcnippjpclab
