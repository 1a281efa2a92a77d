/-
  The law's ownSteps: a list is written into, and behind.
-/
import Derived.Test.YtjjmcnippjpclaaKeep
namespace Go.Proofs.Ytjjmcnippjpclaa

open Go.RowKit

/-- a step that is nothing but its mark. -/
def mkMark (m : Int) : Pl.St := mkSt m 0 0 ⟨#[]⟩ 0

/-- so many of them. -/
def marks (m : Int) (n : Nat) : List Value := stCells (List.replicate n (mkMark m))

theorem marks_length (m : Int) (n : Nat) : (marks m n).length = n * 5 := by rw [marks, stCells_length, List.length_replicate]

theorem marks_snoc (m : Int) (n : Nat) : marks m (n + 1) = marks m n ++ [.int .i64 m, .int .i64 0, .int .i64 0, .string ⟨#[]⟩, .int .i64 0] := by
  rw [marks, marks, List.replicate_succ', stCells_snoc]; rfl

/-- a slice that holds marks alone. -/
def isMarks (m : Int) (w : World) (x : Value) (n : Nat) : Prop :=
  (x = .slice none 0 0 ∧ n = 0) ∨ ∃ g cap cur, x = .slice (some ⟨g, 0, none⟩) n cap ∧ w.heap[g]? = some (.cells cur 40 (0, 0)) ∧ cur.toList.take (n * 5) = marks m n

theorem isMarks_of {m : Int} {w : World} {B : Nat} {v : Value} {n : Nat} (h : w.ownsRow B 40 5 v n (marks m n)) : isMarks m w v n := by
  rcases h.2 with h | ⟨g, cap, cur, hv, _, hg, _, _, _, ht⟩
  · exact .inl h
  · exact .inr ⟨g, cap, cur, hv, hg, ht⟩

theorem isMarks_same {m : Int} {w w' : World} {x : Value} {n : Nat} (h : isMarks m w x n) (hk : ∀ g, x.ownBlock = some g → w'.heap[g]? = w.heap[g]?) : isMarks m w' x n := by
  rcases h with h | ⟨g, cap, cur, rfl, hg, ht⟩
  · exact .inl h
  · exact .inr ⟨g, cap, cur, rfl, by rw [hk g rfl]; exact hg, ht⟩

theorem isMarks_lt {m : Int} {w : World} {x : Value} {n : Nat} (h : isMarks m w x n) : ∀ g, x.ownBlock = some g → g < w.heap.size := by
  rcases h with ⟨rfl, _⟩ | ⟨g, cap, cur, rfl, hg, _⟩
  · intro g h; simp [Value.ownBlock] at h
  · intro g' h
    simp only [Value.ownBlock, Option.some.injEq] at h
    subst h
    exact lt_of_heap hg

theorem marks_take (m : Int) (k n : Nat) (h : k ≤ n) : (marks m n).take (k * 5) = marks m k := by
  obtain ⟨d, rfl⟩ : ∃ d, n = k + d := ⟨n - k, by omega⟩
  have : marks m (k + d) = marks m k ++ marks m d := by
    rw [marks, ← List.replicate_append_replicate]; exact List.flatMap_append
  rw [this, ← marks_length m k, List.take_left']
  rfl

/-- in the row of a longer one, a shorter one still holds marks. -/
theorem isMarks_in {m : Int} {w w' : World} {B : Nat} {x v : Value} {k n : Nat} (h : isMarks m w x k) (hkn : k ≤ n) (hw : w'.ownsRow B 40 5 v n (marks m n)) (hx : x.ownBlock = v.ownBlock) : isMarks m w' x k := by
  rcases h with h | ⟨g, cap, cur, rfl, hg, ht⟩
  · exact .inl h
  · rcases hw.2 with ⟨rfl, _⟩ | ⟨g', cap', cur', rfl, _, hg', _, _, _, ht'⟩
    · simp [Value.ownBlock] at hx
    · simp only [Value.ownBlock, Option.some.injEq] at hx
      subst hx
      refine .inr ⟨g, cap, cur', rfl, hg', ?_⟩
      rw [← marks_take m k n hkn, ← ht', List.take_take, Nat.min_eq_left (by omega)]

theorem info29 : (Try.prog.info? 29).map (fun i => (i.zero, i.size, i.bytes)) = some (some (.slice none 0 0), 1, 24) := by kernel_rfl

/-- one more step of the row is marked. -/
def half (m : Int) (st : List Pl.St) (k : Nat) : List Value := marks m k ++ stCells (st.drop k)

theorem half_zero (m : Int) (st : List Pl.St) : half m st 0 = stCells st := by simp [half, marks, stCells]

theorem half_all (m : Int) (st : List Pl.St) : half m st st.length = marks m st.length := by simp [half, stCells]

theorem half_set (m : Int) (st : List Pl.St) (k : Nat) (h : k < st.length) :
    (((((half m st k).set (k * 5) (.int .i64 m)).set (k * 5 + 1) (.int .i64 0)).set (k * 5 + 2) (.int .i64 0)).set (k * 5 + 3) (.string ⟨#[]⟩)).set (k * 5 + 4) (.int .i64 0) = half m st (k + 1) := by
  have hd : st.drop k = st[k] :: st.drop (k + 1) := List.drop_eq_getElem_cons h
  have hc : stCells (st.drop k) = .int .i64 (st[k]).k :: .int .i64 (st[k]).t :: .int .i64 (st[k]).n :: .string (st[k]).d :: .int .i64 (st[k]).f :: stCells (st.drop (k + 1)) := by
    have g : ∀ (x : Pl.St) (r : List Pl.St), stCells (x :: r) = .int .i64 x.k :: .int .i64 x.t :: .int .i64 x.n :: .string x.d :: .int .i64 x.f :: stCells r := fun x r => by simp [stCells]
    rw [hd, g]
  have hl : (marks m k).length = k * 5 := marks_length m k
  rw [half, hc, half, marks_snoc]
  have e : ∀ (i : Nat) (l : List Value) (u : Value), (marks m k ++ l).set (k * 5 + i) u = marks m k ++ l.set i u := fun i l u => by
    rw [List.set_append_right _ _ (by omega), hl, Nat.add_sub_cancel_left]
  have e0 : ∀ (l : List Value) (u : Value), (marks m k ++ l).set (k * 5) u = marks m k ++ l.set 0 u := fun l u => e 0 l u
  rw [e0, e, e, e, e]
  simp

theorem half_at (m : Int) (st : List Pl.St) (k : Nat) (h : k < st.length) : (half m st k)[k * 5]? = some (.int .i64 (st[k]).k) ∧ (half m st k)[k * 5 + 1]? = some (.int .i64 (st[k]).t) ∧ (half m st k)[k * 5 + 2]? = some (.int .i64 (st[k]).n) ∧ (half m st k)[k * 5 + 3]? = some (.string (st[k]).d) ∧ (half m st k)[k * 5 + 4]? = some (.int .i64 (st[k]).f) := by
  have hd : st.drop k = st[k] :: st.drop (k + 1) := List.drop_eq_getElem_cons h
  have g : ∀ (x : Pl.St) (r : List Pl.St), stCells (x :: r) = .int .i64 x.k :: .int .i64 x.t :: .int .i64 x.n :: .string x.d :: .int .i64 x.f :: stCells r := fun x r => by simp [stCells]
  have hl : (marks m k).length = k * 5 := marks_length m k
  rw [half, hd, g]
  refine ⟨?_, ?_, ?_, ?_, ?_⟩ <;> rw [List.getElem?_append_right (by omega), hl] <;> simp

/-- what holds ahead of a round of the second loop; and between its two statements. -/
def many (m : Int) (B L : Nat) (vb : Option Nat) (w wq : World) (j k : Nat) (ov gv : Value) (xs : List Value) : Prop :=
  wq.ownsRow w.heap.size 29 1 ov j xs ∧ wq.ownsRow B 40 5 gv (L + k) (marks m (L + k)) ∧ (∀ x ∈ xs, ∃ n, n ≤ L + k ∧ isMarks m wq x n) ∧ w.grownBy wq vb ∧ (gv.ownBlock = vb ∨ ∀ g, gv.ownBlock = some g → w.heap.size ≤ g)

theorem row_type {w : World} {B C : Nat} {v u : Value} {n k s r : Nat} {t t' : TypeId} {xs ys : List Value} (h : w.ownsRow B t s v n xs) (h' : w.ownsRow C t' r u k ys) (ht : t ≠ t') : v.ownBlock = none ∨ v.ownBlock ≠ u.ownBlock := by
  rcases h.2 with ⟨rfl, _⟩ | ⟨g, _, _, rfl, _, hg, _⟩
  · exact .inl rfl
  · right
    rcases h'.2 with ⟨rfl, _⟩ | ⟨g', _, _, rfl, _, hg', _⟩
    · simp [Value.ownBlock]
    · intro e
      simp only [Value.ownBlock, Option.some.injEq] at e
      subst e
      rw [hg] at hg'
      simp only [Option.some.injEq, Obj.cells.injEq] at hg'
      exact ht hg'.2.1

theorem marks_type {m : Int} {w : World} {C : Nat} {x u : Value} {n k r : Nat} {t' : TypeId} {ys : List Value} (h : isMarks m w x n) (h' : w.ownsRow C t' r u k ys) (ht : 40 ≠ t') : x.ownBlock = none ∨ x.ownBlock ≠ u.ownBlock := by
  rcases h with ⟨rfl, _⟩ | ⟨g, _, _, rfl, hg, _⟩
  · exact .inl rfl
  · right
    rcases h'.2 with ⟨rfl, _⟩ | ⟨g', _, _, rfl, _, hg', _⟩
    · simp [Value.ownBlock]
    · intro e
      simp only [Value.ownBlock, Option.some.injEq] at e
      subst e
      rw [hg] at hg'
      simp only [Option.some.injEq, Obj.cells.injEq] at hg'
      exact ht hg'.2.1

theorem many_alloc {m : Int} {B L : Nat} {vb : Option Nat} {w wq : World} {j k : Nat} {ov gv : Value} {xs : List Value} (h : many m B L vb w wq j k ov gv xs) (o : Obj) : many m B L vb w (wq.alloc o) j k ov gv xs := by
  obtain ⟨h1, h2, h3, h4, h5⟩ := h
  refine ⟨h1.alloc _, h2.alloc _, fun x hx => ?_, ⟨h4.os, h4.tape, h4.output, by have := h4.size; simp; omega, fun i hi hr => ?_⟩, h5⟩
  · obtain ⟨n, hn, hm⟩ := h3 x hx
    exact ⟨n, hn, isMarks_same hm fun g hg => Below.heap_alloc _ _ _ (isMarks_lt hm g hg)⟩
  · rw [Below.heap_alloc _ _ _ (Nat.lt_of_lt_of_le hi h4.size)]; exact h4.block i hi hr

theorem many_mark {m : Int} {B L : Nat} {vb : Option Nat} {w wq q : World} {j k : Nat} {ov gv gv' : Value} {xs : List Value} (h : many m B L vb w wq j k ov gv xs)
    (hw : q.ownsRow B 40 5 gv' (L + k + 1) (marks m (L + k) ++ [.int .i64 m, .int .i64 0, .int .i64 0, .string ⟨#[]⟩, .int .i64 0])) (hg : wq.grownBy q gv.ownBlock)
    {H : Nat} (hH : wq.heap.size = H) (hd : ((∀ i, i < H → q.heap[i]? = wq.heap[i]?) ∧ gv'.ownBlock = some H) ∨ ∃ g, gv.ownBlock = some g ∧ gv'.ownBlock = some g) : many m B L vb w q j (k + 1) ov gv' xs := by
  subst hH
  obtain ⟨h1, h2, h3, h4, h5⟩ := h
  rw [← marks_snoc] at hw
  have hsz := h4.size
  refine ⟨h1.kept hg (row_type h1 h2 (by decide)), hw, fun x hx => ?_, ⟨hg.os.trans h4.os, hg.tape.trans h4.tape, hg.output.trans h4.output, Nat.le_trans h4.size hg.size, fun i hi hr => ?_⟩, ?_⟩
  · obtain ⟨n, hn, hm⟩ := h3 x hx
    refine ⟨n, by omega, ?_⟩
    rcases hd with ⟨hs, _⟩ | ⟨g, hg1, hg2⟩
    · exact isMarks_same hm fun g hg => hs g (isMarks_lt hm g hg)
    · by_cases hx : x.ownBlock = gv.ownBlock
      · exact isMarks_in hm (by omega : n ≤ L + k + 1) hw (by rw [hx, hg1, hg2])
      · exact isMarks_same hm fun g hg' => hg.block g (isMarks_lt hm g hg') (fun e => hx (by rw [hg', e]))
  · rcases hd with ⟨hs, _⟩ | ⟨g, hg1, hg2⟩
    · rw [hs i (by omega)]; exact h4.block i hi hr
    · rw [hg.block i (by omega) ?_]
      · exact h4.block i hi hr
      · intro e
        rcases h5 with h5 | h5
        · exact hr (by rw [e, h5])
        · have := h5 i e.symm; omega
  · rcases hd with ⟨_, hs⟩ | ⟨g, hg1, hg2⟩
    · right; intro g hg'; rw [hs] at hg'; simp only [Option.some.injEq] at hg'; omega
    · rw [hg2, ← hg1]; exact h5

theorem many_out {m : Int} {B L : Nat} {vb : Option Nat} {w wq q : World} {j k : Nat} {ov ov' gv : Value} {xs : List Value} (h : many m B L vb w wq j k ov gv xs)
    (hw : q.ownsRow w.heap.size 29 1 ov' (j + 1) (xs ++ [gv])) (hg : wq.grownBy q ov.ownBlock) : many m B L vb w q (j + 1) k ov' gv (xs ++ [gv]) := by
  obtain ⟨h1, h2, h3, h4, h5⟩ := h
  have hsz := h4.size
  have hgm : isMarks m wq gv (L + k) := isMarks_of h2
  have keep : ∀ x n, isMarks m wq x n → isMarks m q x n := fun x n hm => isMarks_same hm fun g hg' => hg.block g (isMarks_lt hm g hg') (fun e => by
    rcases marks_type hm h1 (by decide) with h | h
    · rw [hg'] at h; cases h
    · exact h (by rw [hg', e]))
  refine ⟨hw, h2.kept hg (row_type h2 h1 (by decide)), fun x hx => ?_, ⟨hg.os.trans h4.os, hg.tape.trans h4.tape, hg.output.trans h4.output, Nat.le_trans h4.size hg.size, fun i hi hr => ?_⟩, h5⟩
  · rcases List.mem_append.1 hx with hx | hx
    · obtain ⟨n, hn, hm⟩ := h3 x hx
      exact ⟨n, hn, keep x n hm⟩
    · simp only [List.mem_singleton] at hx
      subst hx
      exact ⟨L + k, Nat.le_refl _, keep _ _ hgm⟩
  · rw [hg.block i (by omega) ?_]
    · exact h4.block i hi hr
    · intro e
      have := (h1.lt i e.symm).1
      omega

set_option maxRecDepth 100000 in
set_option maxHeartbeats 4000000 in
theorem ownSteps_any (m : Int) (v : Value) (st : List Pl.St) (B : Nat) (w : World) (hB : B ≤ w.heap.size) (hn : st.length ≤ 2000) (h : Hid (w.ownsRow B 40 5 v st.length (stCells st))) :
    Calls Try.prog 19 #[v, .int .i64 m] w fun e w' => ∃ ov xs, e = .returned ov ∧ w'.ownsRow w.heap.size 29 1 ov 4 xs ∧ (∀ x ∈ xs, ∃ n, n ≤ 3000 ∧ isMarks m w' x n) ∧ w.grownBy w' v.ownBlock := by
  obtain ⟨ao, cp, rfl⟩ : ∃ ao cp, v = .slice ao st.length cp := by
    rcases h.out.2 with ⟨hv, hz⟩ | ⟨g, cap, cur, hv, _⟩
    · exact ⟨none, 0, by rw [hv, hz]⟩
    · exact ⟨_, _, hv⟩
  go_enter Try.func19, Try.ntmps19
  go_wp2_with fail
  go_loopw [5] (fun i wr => ∃ k : Nat, k ≤ st.length ∧ i = .int .i64 k ∧ Hid (wr.ownsRow B 40 5 (.slice ao st.length cp) st.length (half m st k)) ∧ Hid (w.grownBy wr (Value.slice ao st.length cp).ownBlock)) (fun i _ => st.length - (intOf i).toNat)
  case atStart => exact ⟨0, Nat.zero_le _, rfl, by rw [half_zero]; exact h, grown_refl _ _⟩
  case round =>
    obtain ⟨k, hk, rfl, hw, hg⟩ := hrel
    by_cases hlt : k < st.length
    · obtain ⟨g, hao⟩ : ∃ g, ao = some ⟨g, 0, none⟩ := by
        obtain ⟨g, cap, hv, _⟩ := hw.out.form (by omega)
        simp only [Value.slice.injEq] at hv
        exact ⟨g, hv.1⟩
      subst hao
      have hk0 : (k : Int) < (st.length : Int) := by omega
      obtain ⟨e0, e1, e2, e3, e4⟩ := half_at m st k hlt
      have c0 := (hw.out.cellAt (k * 5) (by omega)).trans e0
      have c1 := (hw.out.cellAt (k * 5 + 1) (by omega)).trans e1
      have c2 := (hw.out.cellAt (k * 5 + 2) (by omega)).trans e2
      have c3 := (hw.out.cellAt (k * 5 + 3) (by omega)).trans e3
      have c4 := (hw.out.cellAt (k * 5 + 4) (by omega)).trans e4
      have f0 := hw.out.frozenAt (k * 5)
      have f1 := hw.out.frozenAt (k * 5 + 1)
      have f2 := hw.out.frozenAt (k * 5 + 2)
      have f3 := hw.out.frozenAt (k * 5 + 3)
      have f4 := hw.out.frozenAt (k * 5 + 4)
      clear e0 e1 e2 e3 e4
      go_wp2_with fail
      have s0 := hw.out.stored (k * 5) (.int .i64 m)
      have s1 := s0.1.stored (k * 5 + 1) (.int .i64 0)
      have s2 := s1.1.stored (k * 5 + 2) (.int .i64 0)
      have s3 := s2.1.stored (k * 5 + 3) (.string ⟨#[]⟩)
      have s4 := s3.1.stored (k * 5 + 4) (.int .i64 0)
      exact ⟨⟨k + 1, by omega, by go_num, by rw [← half_set m st k hlt]; exact s4.1, grown_trans hg.out (grown_trans s0.2 (grown_trans s1.2 (grown_trans s2.2 (grown_trans s3.2 s4.2))))⟩, by simp [intOf]; omega⟩
    · have hke : k = st.length := by omega
      subst hke
      rw [half_all] at hw
      obtain ⟨i40, hi, hzz⟩ := Option.map_eq_some_iff.1 info40
      simp only [Prod.mk.injEq] at hzz
      obtain ⟨i29, hi9, hz9⟩ := Option.map_eq_some_iff.1 info29
      simp only [Prod.mk.injEq] at hz9
      have M0 : Hid (many m B st.length (Value.slice ao st.length cp).ownBlock w (wr.alloc (Obj.cells #[.slice ao st.length cp] 29)) 1 0 (.slice (some ⟨wr.heap.size, 0, none⟩) 1 1) (.slice ao st.length cp) [.slice ao st.length cp]) := by
        have hm := isMarks_of hw.out
        refine ⟨World.ownsRow_lit wr #[.slice ao st.length cp] 1 hg.out.size (by unfold maxLen; omega) rfl, hw.out.alloc _, fun x hx => ?_, ⟨hg.out.os, hg.out.tape, hg.out.output, by have := hg.out.size; simp; omega, fun i hi hr => ?_⟩, .inl rfl⟩
        · simp only [List.mem_singleton] at hx
          subst hx
          exact ⟨_, Nat.le_refl _, isMarks_same hm fun g hg => Below.heap_alloc _ _ _ (isMarks_lt hm g hg)⟩
        · rw [Below.heap_alloc _ _ _ (Nat.lt_of_lt_of_le hi hg.out.size)]; exact hg.out.block i hi hr
      clear hw hg h
      go_wp2_with fail
      go_loopw [6, 7, 8] (fun ov gv i wq => ∃ (k : Nat) (xs : List Value), k ≤ 3 ∧ i = .int .i64 k ∧ Hid (many m B st.length (Value.slice ao st.length cp).ownBlock w wq (k + 1) k ov gv xs)) (fun _ _ i _ => 3 - (intOf i).toNat)
      case atStart => exact ⟨0, _, by omega, rfl, M0⟩
      case round =>
        obtain ⟨k, xs, hk, rfl, hM⟩ := hrel
        by_cases h3 : k < 3
        · obtain ⟨ga, gn, gc, rfl⟩ : ∃ ao n' cp, u7 = .slice ao n' cp := by
            rcases hM.out.2.1.2 with ⟨hv, _⟩ | ⟨g, cap, cur, hv, _⟩ <;> exact ⟨_, _, _, hv⟩
          obtain ⟨oa, on, oc, rfl⟩ : ∃ ao n' cp, u6 = .slice ao n' cp := by
            rcases hM.out.1.2 with ⟨hv, _⟩ | ⟨g, cap, cur, hv, _⟩ <;> exact ⟨_, _, _, hv⟩
          have hsz := hM.out.2.2.2.1.size
          have hk3 : (k : Int) < 3 := by omega
          clear M0
          go_wp2_with (at_builtin; refine wpList_append_keep _ rfl _ _ 29 rfl B 40 i40 (.agg zero5.toArray) 5 48 Try.underlying29 hi hzz.1 hzz.2.1 hzz.2.2 rfl (by decide) _ (st.length + k) (marks m (st.length + k)) rfl (many_alloc hM.out _).2.1 ⟨wr.heap.size, 0, none⟩ 1 1 [.int .i64 m, .int .i64 0, .int .i64 0, .string ⟨#[]⟩, .int .i64 0] rfl rfl ?c1 ?c2 (by decide) ?c3 ?c4 ?c5 ?_)
          case c1 => exact World.news_of_block (cs := #[.int .i64 m, .int .i64 0, .int .i64 0, .string ⟨#[]⟩, .int .i64 0]) (heap_alloc_new wr _)
          case c2 =>
            intro u hu
            simp at hu
            rcases hu with rfl | rfl | rfl | rfl | rfl <;> rfl
          case c3 => unfold maxLen; omega
          case c4 => omega
          case c5 => simp; omega
          intro v1 q1 hw1 hg1 hd1
          have M1 : Hid (many m B st.length (Value.slice ao st.length cp).ownBlock w q1 (k + 1) (k + 1) (.slice oa on oc) v1 xs) := many_mark (many_alloc hM.out _) hw1 hg1 (by simp) hd1
          clear hw1 hg1 hd1 hM
          obtain ⟨va, vn, vc, rfl⟩ : ∃ ao n' cp, v1 = .slice ao n' cp := by
            rcases M1.out.2.1.2 with ⟨hv, _⟩ | ⟨g, cap, cur, hv, _⟩ <;> exact ⟨_, _, _, hv⟩
          have hsz1 := M1.out.2.2.2.1.size
          go_wp2_with (at_builtin; refine wpList_append_keep _ rfl _ _ 35 rfl w.heap.size 29 i29 (.slice none 0 0) 1 24 Try.underlying35 hi9 hz9.1 hz9.2.1 hz9.2.2 rfl (by decide) _ (k + 1) xs rfl (many_alloc M1.out _).1 ⟨q1.heap.size, 0, none⟩ 1 1 [.slice va vn vc] rfl rfl ?d1 ?d2 (by decide) ?d3 ?d4 ?d5 ?_)
          case d1 => exact World.news_of_block (cs := #[.slice va vn vc]) (heap_alloc_new q1 _)
          case d2 =>
            intro u hu
            simp at hu
            subst hu; rfl
          case d3 => unfold maxLen; omega
          case d4 => omega
          case d5 => simp; omega
          intro v2 q2 hw2 hg2 _
          have M2 : Hid (many m B st.length (Value.slice ao st.length cp).ownBlock w q2 (k + 1 + 1) (k + 1) v2 (.slice va vn vc) (xs ++ [.slice va vn vc])) := many_out (many_alloc M1.out _) hw2 hg2
          clear hw2 hg2 M1
          go_wp2_with fail
          exact ⟨⟨k + 1, _, by omega, by go_num, M2⟩, by simp [intOf]; omega⟩
        · have hk3 : k = 3 := by omega
          subst hk3
          go_wp2_with fail
          go_ret
          exact ⟨_, xs, rfl, hM.out.1, fun x hx => (hM.out.2.2.1 x hx).imp fun n hn => ⟨by omega, hn.2⟩, hM.out.2.2.2.1⟩

end Go.Proofs.Ytjjmcnippjpclaa
