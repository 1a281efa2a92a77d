/-
  The walks of a device's calls that read and write its text.
-/
import Derived.Test.YtjjmcnippjpclabDevs
import Derived.Test.YtjjmcnippjpclabDonePlain
import Derived.Lib.SlBytesRow
namespace Go.Proofs.Ytjjmcnippjpclab

open Go.RowKit

theorem row_cell {w : World} {g : Nat} {cur : Array Value} {l : List UInt8} (hb : w.heap[g]? = some (.cells cur 5 (0, 0))) (ht : cur.toList.take l.length = Lib.byteCells l) (j : Nat) (hj : j < l.length) : w.cell? ⟨g, j, none⟩ = some (.int .u8 ((l[j]).toNat : Nat)) := by
  rw [Lib.cell_of_heap hb]
  have h1 : (cur.toList.take l.length)[j]? = some (.int .u8 ((l[j]).toNat : Nat)) := by rw [ht]; simp [Lib.byteCells, List.getElem?_eq_getElem hj]
  rw [List.getElem?_take_of_lt hj] at h1
  simpa using h1

/-- 'string(b[:n])'. -/
theorem conv_front {w : World} {g : Nat} {cur : Array Value} {l : List UInt8} (hb : w.heap[g]? = some (.cells cur 5 (0, 0))) (ht : cur.toList.take l.length = Lib.byteCells l) (n c : Nat) (hn : n ≤ l.length) :
    (convert 34 9 (.slice (some ⟨g, 0, none⟩) n c)).run Try.prog w = .ok (.string ⟨(l.take n).toArray⟩) w := by
  have e := run_convert_bytes_back (P := Try.prog) w 34 9 5 ⟨g, 0, none⟩ c (l.take n) Try.underlying34 Try.underlying5 Try.underlying9 (fun j hj => by
    have hj' : j < n := by simp at hj; omega
    have hadd : (⟨g, 0, none⟩ : Addr).add j = ⟨g, j, none⟩ := by unfold Addr.add; split <;> simp_all
    rw [hadd, row_cell hb ht j (by omega)]
    simp)
  rw [List.length_take, Nat.min_eq_left hn] at e
  exact e

theorem conv_nil (w : World) : (convert 34 9 (.slice none 0 0)).run Try.prog w = .ok (.string ⟨#[]⟩) w := by
  rw [run_convert_bytes_string w 34 9 5 none 0 0 Try.underlying34 Try.underlying5 Try.underlying9]
  rfl

set_option maxRecDepth 100000 in
/-- a reading of the text from its beginning on. -/
theorem readText_any (D : Nat) (tv sv : Value) (x : Dp.Dv) (n : Nat) (w : World) (hn : n ≤ 1000000) (hx : x.text.length ≤ maxLen) (h : Hid (devAt D tv sv x w)) :
    Calls Try.prog 38 #[.pointer (some ⟨D, 0, none⟩), .int .i64 0, .int .i64 n] w fun e w' =>
      e = .returned (match Dp.pRead x n with
        | none => .tuple #[.string ⟨#[]⟩, .bool false]
        | some t => .tuple #[.string ⟨t.toArray⟩, .bool true]) ∧ w' = w := by
  unfold maxLen at hx
  obtain ⟨c0, -, -, -, c4, -⟩ := h.out.cells
  by_cases h0 : x.life = 0
  · have HP : Hid (Dp.pRead x n = none) := by show _ = _; unfold Dp.pRead; rw [if_pos (.inl h0)]
    rw [h0] at c4
    rw [HP.out]
    clear c0 h0
    go_enter Try.func38, Try.ntmps38
    go_wp2_with fail
    go_ret2
    exact ⟨rfl, rfl⟩
  · have d0 : (x.life == 0) = false := by simpa using h0
    have d1 : decide ((n : Int) < 0) = false := decide_eq_false (by omega)
    by_cases hf : x.text.length < n
    · have HP : Hid (Dp.pRead x n = none) := by show _ = _; unfold Dp.pRead; rw [if_pos (.inr hf)]
      rw [HP.out]
      generalize x.life = L at *
      rcases h.out.text.form with ⟨rfl, h2⟩ | ⟨g, cap, cur, rfl, -, -, -, -, -⟩
      · rw [h2] at hf
        have d2 : decide ((0 : Int) < (n : Int)) = true := decide_eq_true (by simp at hf; omega)
        go_enter Try.func38, Try.ntmps38
        go_wp2_with fail
        go_ret2
        exact ⟨rfl, rfl⟩
      · generalize x.text.length = m at *
        have d2 : decide ((m : Int) < (0 : Int)) = false := decide_eq_false (by omega)
        have d3 : decide ((m : Int) < (n : Int)) = true := decide_eq_true (by omega)
        go_enter Try.func38, Try.ntmps38
        go_wp2_with fail
        go_ret2
        exact ⟨rfl, rfl⟩
    · have HP : Hid (Dp.pRead x n = some (x.text.take n)) := by show _ = _; unfold Dp.pRead; rw [if_neg (by omega)]
      rw [HP.out]
      generalize x.life = L at *
      rcases h.out.text.form with ⟨rfl, h2⟩ | ⟨g, cap, cur, rfl, hb, hc1, hc2, hc3, hc4⟩
      · rw [h2] at hf ⊢
        obtain rfl : n = 0 := by simp at hf; omega
        have hcv := conv_nil w
        go_enter Try.func38, Try.ntmps38
        go_wp2_with fail
        go_ret2
        exact ⟨rfl, rfl⟩
      · have hcv := fun c => conv_front hb hc4 n c (by omega)
        generalize x.text.length = m at *
        generalize x.text.take n = t at *
        unfold maxLen at hc2
        have d2 : decide ((m : Int) < (0 : Int)) = false := decide_eq_false (by omega)
        have d3 : decide ((m : Int) < (n : Int)) = false := decide_eq_false (by omega)
        have d4 : (n : Int) ≤ (cap : Int) := by omega
        go_enter Try.func38, Try.ntmps38
        go_wp2_with fail
        go_ret2
        exact ⟨rfl, rfl⟩

theorem byteCells_one (l : List UInt8) : ∀ v ∈ Lib.byteCells l, v.oneCell' = true := by
  intro v hv
  simp only [Lib.byteCells, List.mem_map] at hv
  obtain ⟨x, _, rfl⟩ := hv
  rfl

theorem sizeU8' : (Try.prog.info? 5).map (·.size) = some 1 := by kernel_rfl

theorem setRow_at (w : World) (g : Nat) (c : Array Value) {cur : Array Value} {t : TypeId} {fz : Nat × Nat} (h : w.heap[g]? = some (.cells cur t fz)) : (w.setRow g c).heap[g]? = some (.cells c t fz) := setRow_heap w g cur c t fz h

/-- a row in the place of another of the same length. -/
theorem row_new {w : World} {v : Value} {l : List UInt8} (h : rowOf w v l) (m : List UInt8) (hm : m.length = l.length) {w' : World} (hb : ∀ g cap cur, v = .slice (some ⟨g, 0, none⟩) l.length cap → w.heap[g]? = some (.cells cur 5 (0, 0)) → cur.size = cap → w'.heap[g]? = some (.cells (Lib.byteCells m ++ cur.toList.drop l.length).toArray 5 (0, 0))) : rowOf w' v m := by
  refine ⟨by rw [Lib.byteCells_length, Nat.mul_one], ?_⟩
  rcases h.2 with ⟨h1, h2⟩ | ⟨g, cap, cur, h1, h0, h2, h3, h4, h5, h6⟩
  · exact .inl ⟨h1, by omega⟩
  · refine .inr ⟨g, cap, _, by rw [hm]; exact h1, h0, hb g cap cur h1 h2 (by omega), by omega, h4, ?_, ?_⟩
    · simp [Lib.byteCells_length]; omega
    · rw [Nat.mul_one]
      simp only []
      rw [List.take_left' (Lib.byteCells_length m)]

/-- 'copy(a, b)' of two rows of the same length. -/
theorem copy_rows {w : World} {tv sv : Value} {t s : List UInt8} (ht : rowOf w tv t) (hs : rowOf w sv s) (hl : t.length = s.length) :
    ∃ w', (Builtin.copy_ #[34, 34] 3 #[sv, tv]).run Try.prog w = .ok (goInt t.length) w' ∧ rowOf w' sv t ∧ w.grownBy w' sv.ownBlock := by
  by_cases h0 : t.length = 0
  · have hr : rowOf w sv t := by
      have e : t = s := by rw [List.eq_nil_of_length_eq_zero h0, List.eq_nil_of_length_eq_zero (l := s) (by omega)]
      rw [e]; exact hs
    obtain ⟨a, c, rfl⟩ : ∃ a c, tv = .slice a t.length c := by
      rcases ht.form with ⟨h1, h2⟩ | ⟨g, cap, cur, h1, _⟩
      · exact ⟨none, 0, by rw [h1, h0]⟩
      · exact ⟨_, _, h1⟩
    obtain ⟨a', c', rfl⟩ : ∃ a c, sv = .slice a s.length c := by
      rcases hs.form with ⟨h1, h2⟩ | ⟨g, cap, cur, h1, _⟩
      · exact ⟨none, 0, by rw [h1, ← hl, h0]⟩
      · exact ⟨_, _, h1⟩
    refine ⟨w, ?_, hr, ⟨rfl, rfl, rfl, Nat.le_refl _, fun _ _ _ => rfl⟩⟩
    have := run_copy_none (P := Try.prog) w 34 34 3 5 a' a s.length c' t.length c Try.underlying34 sizeU8' (by rw [h0]; exact Nat.zero_min _)
    rw [this, h0]; rfl
  · rcases ht.form with ⟨h1, h2⟩ | ⟨g, cap, cur, rfl, k1, k2, k3, k4, k5⟩
    · rw [h2] at h0; exact absurd rfl h0
    rcases hs.form with ⟨h1, h2⟩ | ⟨g', cap', cur', hsv, m1, m2, m3, m4, m5⟩
    · rw [h2] at hl; exact absurd hl h0
    have hr := run_copy_row (P := Try.prog) w 34 34 3 5 g' 0 s.length cap' ⟨g, 0, none⟩ t.length cap cur' 5 (Lib.byteCells t) Try.underlying34 sizeU8' m1
      (by rw [Lib.byteCells_length, hl]; exact (Nat.min_self _).symm)
      (fun j v hj => by
        have hj' : j < t.length := by have := (List.getElem?_eq_some_iff.1 hj).1; rwa [Lib.byteCells_length] at this
        have hadd : (⟨g, 0, none⟩ : Addr).add j = ⟨g, j, none⟩ := by unfold Addr.add; split <;> simp_all
        rw [hadd, row_cell k1 k5 j hj', ← hj]
        simp [Lib.byteCells, List.getElem?_eq_getElem hj'])
      (by rw [Lib.byteCells_length]; omega) (byteCells_one t)
    rw [Lib.byteCells_length] at hr
    refine ⟨_, by rw [hsv]; exact hr, row_new hs t hl ?_, ?_⟩
    · intro G C c0 e1 e2 e3
      rw [hsv] at e1
      obtain ⟨rfl, rfl⟩ : g' = G ∧ cap' = C := by simpa using e1
      rw [m1] at e2
      obtain rfl : cur' = c0 := by simpa using e2
      rw [setRow_at w g' _ m1]
      simp [hl]
    · rw [hsv]
      refine ⟨rfl, rfl, rfl, by simp [World.setRow], fun k _ hk => ?_⟩
      show (w.setRow g' _).heap[k]? = _
      have : k ≠ g' := fun e => hk (by rw [e]; rfl)
      simp [World.setRow, Array.getElem?_modify, this.symm]

theorem kept3.grown {D : Nat} {T S : Option Nat} {a b c : World} (h : kept3 D T S a b) (g : b.grownBy c S) : kept3 D T S a c :=
  ⟨g.os.trans h.os, g.tape.trans h.tape, g.output.trans h.output, Nat.le_trans h.size g.size, fun k hk h1 h2 h3 => (g.block k (Nat.lt_of_lt_of_le hk h.size) h3).trans (h.block k hk h1 h2 h3)⟩

theorem kept3.grownT {D : Nat} {T S : Option Nat} {a b c : World} (h : kept3 D T S a b) (g : b.grownBy c T) : kept3 D T S a c :=
  ⟨g.os.trans h.os, g.tape.trans h.tape, g.output.trans h.output, Nat.le_trans h.size g.size, fun k hk h1 h2 h3 => (g.block k (Nat.lt_of_lt_of_le hk h.size) h2).trans (h.block k hk h1 h2 h3)⟩

theorem devAt.newSafe {D : Nat} {tv sv : Value} {x : Dp.Dv} {w v : World} (h : devAt D tv sv x w) (g : w.grownBy v sv.ownBlock) {l : List UInt8} (hr : rowOf v sv l) : devAt D tv sv { x with safe := l } v :=
  ⟨by rw [g.block D h.lt (fun e => h.sD e.symm)]; exact h.blk, h.text.of_block fun k hk => g.block k (h.text.lt hk) (fun e => h.ts k hk e.symm), hr, h.tD, h.sD, h.ts⟩

theorem devAt.newText {D : Nat} {tv sv : Value} {x : Dp.Dv} {w v : World} (h : devAt D tv sv x w) (g : w.grownBy v tv.ownBlock) {l : List UInt8} (hr : rowOf v tv l) : devAt D tv sv { x with text := l } v :=
  ⟨by rw [g.block D h.lt (fun e => h.tD e.symm)]; exact h.blk, hr, h.safe.of_block fun k hk => g.block k (h.safe.lt hk) (fun e => h.ts k e.symm hk), h.tD, h.sD, h.ts⟩

set_option maxRecDepth 100000 in
theorem syncText_any (D : Nat) (tv sv : Value) (x : Dp.Dv) (w : World) (hts : x.text.length = x.safe.length) (h : Hid (devAt D tv sv x w)) (hl : Hid (lifeOk x)) :
    Calls Try.prog 34 #[.pointer (some ⟨D, 0, none⟩)] w fun e w' => e = .returned (.bool (Dp.pSyncText x).1) ∧ devAt D tv sv (Dp.pSyncText x).2 w' ∧ kept3 D tv.ownBlock sv.ownBlock w w' := by
  have HW := works_any D tv sv x w h hl.out
  by_cases h0 : x.life = 0
  · have HP : Hid (Dp.pSyncText x = (false, x)) := by show _ = _; unfold Dp.pSyncText; rw [if_pos h0]
    rw [decide_eq_false (by simpa using h0), on_dead h0] at HW
    clear h0
    go_enter Try.func34, Try.ntmps34
    go_wp2_with fail
    refine HW.mono ?_
    rintro e v1 ⟨rfl, h1, k1⟩
    go_wp2_with fail
    go_ret
    rw [HP.out]
    exact ⟨rfl, h1, k1⟩
  · have HP : Hid (Dp.pSyncText x = (true, { x.on with safe := x.text })) := by show _ = _; unfold Dp.pSyncText; rw [if_neg h0]
    rw [decide_eq_true (by simpa using h0)] at HW
    clear h0
    go_enter Try.func34, Try.ntmps34
    go_wp2_with fail
    refine HW.mono ?_
    rintro e v1 ⟨rfl, h1, k1⟩
    obtain ⟨v2, hcp, hrow, hg⟩ := copy_rows (h1.drewN 1).text (h1.drewN 1).safe hts
    rw [show v1.drewN 1 = v1.drew from rfl] at hcp hg
    have HS : Hid (devAt D tv sv { x.on with safe := x.text } v2) := (h1.drewN 1).newSafe hg hrow
    have HK : Hid (kept3 D tv.ownBlock sv.ownBlock w v2) := (k1.drewN 1).grown hg
    obtain ⟨c0, c1, -, -, -, -⟩ := h1.cells
    clear h1 k1 hrow hg
    go_wp2_with fail
    go_region
    go_wp2_with fail
    go_ret
    rw [HP.out]
    exact ⟨rfl, HS.out, HK.out⟩

end Go.Proofs.Ytjjmcnippjpclab
