/-
  Plainly, for Chained: of one patch for two pairs of texts; what the first patch answers behind the second.
-/
import Derived.Test.YtjjmcnippjpclabKeepDev
import Derived.Test.YtjjmcnippjpclabRaws
import Derived.Test.YtjjmcnippjpclabLives
namespace Go.Proofs.Ytjjmcnippjpclab

open Go.RowKit

theorem byte_add {n : ByteArray} {s : _root_.Pl.Sp} (hs : s.src = none) : (s.st n).k = 1 ∧ (s.st n).d = n.extract s.t (s.t + s.n) := by
  unfold _root_.Pl.Sp.st
  rw [hs]
  exact ⟨rfl, rfl⟩

theorem src_add {n : ByteArray} {s : _root_.Pl.Sp} (h : (s.st n).k = 1) : s.src = none := by
  cases hs : s.src with
  | none => rfl
  | some f =>
    unfold _root_.Pl.Sp.st at h
    rw [hs] at h
    cases h

/-- two texts of one length that are not the same differ somewhere for the first time. -/
theorem first_diff {a b : ByteArray} (hl : a.size = b.size) (h : a ≠ b) : ∃ k : Nat, k < a.size ∧ (∀ j, j < k → a.data[j]? = b.data[j]?) ∧ a.data[k]? ≠ b.data[k]? := by
  have hex : ∃ k : Nat, a.data[k]? ≠ b.data[k]? := by
    refine Classical.byContradiction fun hn => h ?_
    apply ByteArray.ext
    apply Array.ext_getElem?
    intro i
    exact Classical.byContradiction fun hi => hn ⟨i, hi⟩
  obtain ⟨k, hk, hmin⟩ : ∃ k : Nat, a.data[k]? ≠ b.data[k]? ∧ ∀ j, j < k → a.data[j]? = b.data[j]? := by
    obtain ⟨k, hk⟩ := hex
    induction k using Nat.strongRecOn with
    | ind k ih =>
      by_cases hh : ∃ j : Nat, j < k ∧ a.data[j]? ≠ b.data[j]?
      · obtain ⟨j, hj, hd⟩ := hh
        exact ih j hj hd
      · exact ⟨k, hk, fun j hj => Classical.byContradiction fun hd => hh ⟨j, hj, hd⟩⟩
  refine ⟨k, ?_, hmin, hk⟩
  refine Classical.byContradiction fun hn => hk ?_
  have h1 : a.data.size = a.size := rfl
  have h2 : b.data.size = b.size := rfl
  rw [Array.getElem?_eq_none (by omega), Array.getElem?_eq_none (by omega)]

theorem same_patch {o n m T : ByteArray} {l M l' M' : List _root_.Pl.Sp} (h1 : MadeOf o n l M T) (h2 : MadeOf n m l' M' T) (ho : o.size ≤ 4000) (hn : n.size ≤ 4000) (hm : m.size ≤ 4000) : n = m ∧ o.size = n.size ∧ sumB o = sumB n := by
  obtain ⟨_, a1, a2, a3, a4, a5, _⟩ := made_read h1 ho hn
  obtain ⟨_, b1, b2, b3, b4, b5, _⟩ := made_read h2 hn hm
  have hst : M.map (_root_.Pl.Sp.st n) = M'.map (_root_.Pl.Sp.st m) := a5.symm.trans b5
  have hnm : n.size = m.size := a2.symm.trans b2
  refine ⟨?_, a1.symm.trans b1, a3.symm.trans b3⟩
  refine Classical.byContradiction fun hne => ?_
  obtain ⟨k, hk, hp, hd⟩ := first_diff hnm hne
  obtain ⟨s, hs, hsrc, t1, t2⟩ := h2.good.first k hk (by omega) hp hd
  have hsM : s ∈ M' := h2.sorted.perm.symm.subset hs
  have hmem : s.st m ∈ M.map (_root_.Pl.Sp.st n) := by rw [hst]; exact List.mem_map.2 ⟨s, hsM, rfl⟩
  obtain ⟨s', hs', he⟩ := List.mem_map.1 hmem
  obtain ⟨k1, d1⟩ := byte_add (n := m) hsrc
  have hsrc' : s'.src = none := src_add (n := n) (by rw [he]; exact k1)
  obtain ⟨k2, d2⟩ := byte_add (n := n) hsrc'
  have ht : s'.t = s.t := by
    have := congrArg (fun x : Pl.St => x.t) he
    simp only [_root_.Pl.st_t] at this
    omega
  have hn' : s'.n = s.n := by
    have := congrArg (fun x : Pl.St => x.n) he
    simp only [_root_.Pl.st_n] at this
    omega
  have hdd : n.extract s.t (s.t + s.n) = m.extract s.t (s.t + s.n) := by
    rw [← d1, ← he, d2, ht, hn']
  obtain ⟨_, _, hb⟩ := _root_.Pl.tiles_mem l' 0 m.size h2.good.tile s hs
  have e1 := extract_at n s.t (s.t + s.n) (k - s.t) (by omega) (by omega)
  have e2 := extract_at m s.t (s.t + s.n) (k - s.t) (by omega) hb
  rw [hdd, e2, Nat.add_sub_cancel' t1] at e1
  exact hd e1.symm

open Dp in
/-- another patch, whose old text is not there, behind a patch that is done. -/
theorem old_spec (c : Cx) (hc : c.ok) (x : Dv) (h : kDone c x) (hl : x.life = -1) (P : List UInt8) (hP : c.s ≠ P) (OL NL : Nat) (OS NS : ByteArray) (st : List Pl.St) (E : Nat) (hO : OL ≤ c.O.length) (hN : NL ≤ c.O.length) (hs : sumL (x.text.take OL) ≠ OS) : (pDo x P OL NL OS NS st E).1 = 4 := by
  unfold pDo
  have h0 : x.life ≠ 0 := by rw [hl]; decide
  rw [if_neg h0]
  have hj : jrn x.log = fold c.r2 := by rw [h.log]; exact jrn_all _ hc.wf2
  obtain ⟨f1, f2, f3⟩ := fold_r2 c
  obtain ⟨y, hy, y1, y2, y3, y4, y5⟩ := cut_spec x (Dp.E c.r2) [] (by rw [h.log, List.append_nil]) h0
  have hib : isBegun (fold c.r2) = false := by unfold isBegun; rw [f3]; simp
  rw [hj, fold_whole, hy]
  dsimp only
  rw [if_neg (fun h => hP (by rw [← f1]; exact h.1)), if_neg (fun h => by rw [hib] at h; exact absurd h.2 (by decide)), if_neg (by rw [y3, h.text]; omega)]
  rcases sync_spec y with ⟨y0, _⟩ | ⟨z, hs', z1, z2, z3, z4, z5⟩
  · rw [y5 hl] at y0; exact absurd y0 (by decide)
  · rw [hs']
    dsimp only
    unfold pDo2
    rw [if_neg (by rw [hib]; decide)]
    have zl : z.life = -1 := z5 (y5 hl)
    have hb : pBegin z P OL OS st NL = (4, z) := by
      unfold pBegin pRead
      rw [if_neg (fun h1 => by rcases h1 with h1 | h1; rw [zl] at h1; exact absurd h1 (by decide); rw [z1, y3, h.text] at h1; omega)]
      dsimp only
      rw [if_neg (by rw [z1, y3]; exact hs)]
    rw [hb, if_neg (show ¬ (4 : Int) = 0 by decide)]

end Go.Proofs.Ytjjmcnippjpclab

namespace Go.Proofs.Ytjjmcnippjpclab

open Go.RowKit

def zeros (n : Nat) : ByteArray := ⟨(List.replicate n (0 : UInt8)).toArray⟩

theorem zeros_list (n : Nat) : (zeros n).data.toList = List.replicate n 0 := by simp [zeros]

theorem sumB_list (s : ByteArray) : sumB s = Dp.sumL s.data.toList := rfl

theorem short_list (m : ByteArray) (k : Nat) (hk : k ≤ 500) : (shortS (m ++ zeros 500) k).data.toList = (m.data.toList ++ List.replicate 500 0).take k := by
  have hz : (zeros 500).size = 500 := by unfold zeros; rw [strSize, List.length_replicate]
  have e : (m ++ zeros 500).data.toList = m.data.toList ++ List.replicate 500 0 := by rw [ByteArray.data_append, Array.toList_append, zeros_list]
  unfold shortS
  split
  · rw [Lib.extract_data, List.drop_zero, Nat.sub_zero, e]
  · rename_i hn
    rw [ByteArray.size_append, hz] at hn
    have hm0 : m.data.toList = [] := List.eq_nil_of_length_eq_zero (by rw [data_len]; omega)
    rw [e, hm0, List.nil_append, List.take_of_length_le (by rw [List.length_replicate]; omega)]

/-- behind the first patch: what the second one is about. -/
theorem chain_next {o n m T1 T2 : ByteArray} {l M l' M' : List _root_.Pl.Sp} (h1 : MadeOf o n l M T1) (h2 : MadeOf n m l' M' T2) (ho : o.size ≤ 300) (hn : n.size ≤ 400) (hm : m.size ≤ 401) {O : List UInt8} (hO : O.length = 500) (hOt : O.take o.size = o.data.toList) {y : Dp.Dv} (hy : kDone (cxOf [] o n T1 M O) y) (pk : Int) :
    ∃ c, patchOf c T2 ∧ c.n = m.data.toList ∧ kSure c { y with life := pk } ∧ c.O.length = 500 ∧ ∀ z E, kDone c z → z.life = -1 → sumB (shortS (m ++ zeros 500) o.size) ≠ sumB o → ¬ m.size < o.size → (pDo z T1.data.toList (hOL T1) (hNL T1) (hOS T1) (hNS T1) (pSt T1) E).1 = 4 := by
  have P1 : patchOf (cxOf [] o n T1 M O) T1 := patch_made h1 (by omega) (by omega) (by simp) (fun e => by
      have : T1.data.toList ≠ [] := by rw [h1.text]; unfold madeB; simp [headB, planB]
      exact this e.symm) rfl hOt (by omega) (by omega) (by omega) (by simp [Dp.E]) (by simp [Dp.fold, Dp.Jn.zero])
  obtain ⟨_, a1, a2, a3, a4, a5, _⟩ := made_read h1 (by omega) (by omega)
  by_cases hT : T1 = T2
  · subst hT
    obtain ⟨e1, e2, e3⟩ := same_patch h1 h2 (by omega) (by omega) (by omega)
    refine ⟨cxOf [] o n T1 M O, P1, by rw [← e1]; rfl, .inr (.inr (kDone_life hy pk)), hO, fun z E _ _ hs _ => absurd ?_ hs⟩
    rw [sumB_list, short_list m o.size (by omega), ← e1, e2, List.take_append_of_le_length (by rw [data_len]; exact Nat.le_refl _), List.take_of_length_le (by rw [data_len]; exact Nat.le_refl _), e3]
    rfl
  · obtain ⟨f1, f2, f3⟩ := fold_r2 (cxOf [] o n T1 M O)
    have hib : isBegun (Dp.fold (cxOf [] o n T1 M O).r2) = false := by unfold isBegun; rw [f3]; simp
    have hyt : y.text.length = 500 := by rw [hy.text]; exact hO
    have hnew : y.text.take n.size = n.data.toList := by
      obtain ⟨q, hq⟩ := hy.new
      rw [← hq]
      show (n.data.toList ++ q).take n.size = _
      rw [← data_len n, List.take_left]
    have hpl := (made_size h1 (by omega) (by omega)).1
    have hEl : (Dp.E (cxOf [] o n T1 M O).r2).length ≤ 20000 := by
      show (Dp.E ([] ++ [some (T1.data.toList, n.data.toList)] ++ [none])).length ≤ _
      rw [Dp.E_snoc, Dp.E_snoc, List.length_append, List.length_append]
      have := enc_len T1.data.toList n.data.toList (by rw [data_len]; omega) (by rw [data_len]; omega)
      rw [data_len, data_len] at this
      have e : (Dp.enc none).length = 1 := rfl
      have e0 : (Dp.E []).length = 0 := rfl
      omega
    have hne : T1.data.toList ≠ T2.data.toList := fun e => hT (ByteArray.ext (Array.ext' e))
    have P2 : patchOf (cxOf (cxOf [] o n T1 M O).r2 n m T2 M' y.text) T2 := patch_made h2 (by omega) (by omega) P1.ok.wf2 (by rw [f1]; exact hne) hib hnew (by omega) (by omega) (by omega) hEl (by rw [f2]; show n.data.toList.length ≤ _; rw [data_len]; omega)
    refine ⟨_, P2, rfl, .inl ⟨⟨0, by simp [Cx.rc, Dp.enc], ?_⟩, hy.sure, rfl, hy.same.symm⟩, hyt, fun z E hz hzl hs hlt => ?_⟩
    · rw [List.take_zero, List.append_nil]; exact hy.log
    · refine old_spec _ P2.ok z hz hzl _ (fun e => hne e.symm) _ _ _ _ _ _ (by rw [a1]; show o.size ≤ y.text.length; omega) (by rw [a2]; show n.size ≤ y.text.length; omega) ?_
      rw [a1, a3]
      obtain ⟨q, hq⟩ := hz.new
      have hq' : m.data.toList ++ q = z.text := hq
      rw [sumB_list, short_list m o.size (by omega), List.take_append_of_le_length (by rw [data_len]; omega)] at hs
      rw [← hq', List.take_append_of_le_length (by rw [data_len]; omega)]
      exact hs

/-- a device that was made behind a world. -/
structure newDev (B D : Nat) (tv sv : Value) : Prop where
  D : B ≤ D
  T : ∀ k, tv.ownBlock = some k → B ≤ k
  S : ∀ k, sv.ownBlock = some k → B ≤ k

theorem newDev.below {B D : Nat} {tv sv : Value} {a b w : World} (h : newDev B D tv sv) (hw : Below B w a) (hB : B = w.heap.size) (k : kept3 D tv.ownBlock sv.ownBlock a b) : Below B w b :=
  hw.trans (k.below (by rw [hB]; exact hw.size) h.D h.T h.S)

theorem numsAt_below {w v : World} {rv : Value} {zs : List Int} (h : numsAt w rv zs) (hb : Below w.heap.size w v) : numsAt v rv zs := h.of_blocks (fun b _ _ _ _ hl => hb.block b hl) hb.size

theorem pick_bd (z n : Int) (h : 0 < n) : 0 ≤ pickN z n ∧ pickN z n < n := ⟨Int.emod_nonneg _ (by omega), Int.emod_lt_of_pos _ h⟩

/-- a Do that can't lack power. -/
theorem ok_of {c : Cx} {x y : Dp.Dv} {e : Ending} (h : (e = .returned (.int .i64 0) ∧ kDone c y) ∨ (e = .returned (.int .i64 7) ∧ y.life = 0 ∧ kAny c y)) (hl : lives x y) (hx : x.life = -1) : e = .returned (.int .i64 0) ∧ kDone c y ∧ y.life = -1 := by
  have := hl hx
  rcases h with h | ⟨_, h, _⟩
  · exact ⟨h.1, h.2, this⟩
  · rw [h] at this; exact absurd this (by decide)

theorem short_300 (s : ByteArray) (w : World) : Calls Try.prog 6 #[.string s, .int .i64 300] w fun e w' => e = .returned (.string (shortS s 300)) ∧ w' = w := short_any s 300 w (by omega)

theorem short_4 (s : ByteArray) (w : World) : Calls Try.prog 6 #[.string s, .int .i64 400] w fun e w' => e = .returned (.string (shortS s 400)) ∧ w' = w := short_any s 400 w (by omega)

theorem pick_60 (c : Int) (w : World) (h1 : -9223372036854775808 ≤ c) (h2 : c ≤ 9223372036854775807) : Calls Try.prog 14 #[.int .i64 c, .int .i64 60] w fun e w' => e = .returned (.int .i64 (pickN c 60)) ∧ w' = w := pick_any c 60 w h1 h2 (by omega) (by omega)

theorem pad_any (n : Nat) (w : World) (hn : n ≤ 100000) : Calls Try.prog 21 #[.int .i64 n] w fun e w' => e = .returned (.string (zeros n)) ∧ Below w.heap.size w w' := by
  have hmk := make_row n (by omega) w
  have hrow := newRow w n (by unfold maxLen; omega)
  have hB := (Below.refl w.heap.size w).alloc (Nat.le_refl _) (.cells (madeCells #[.int .u8 0] n) 5)
  have hcv : ∀ c, (convert 34 9 (.slice (some ⟨w.heap.size, 0, none⟩) n c)).run Try.prog (w.alloc (.cells (madeCells #[.int .u8 0] n) 5)) = .ok (.string (zeros n)) (w.alloc (.cells (madeCells #[.int .u8 0] n) 5)) := fun c => by
    rcases hrow.form with ⟨h, _⟩ | ⟨g, cap, cur, h, hb, h1, h2, h3, h4⟩
    · simp at h
    · obtain rfl : w.heap.size = g := by simp at h; exact h.1
      have := conv_front hb h4 n c (by rw [List.length_replicate]; exact Nat.le_refl _)
      rwa [List.take_of_length_le (by rw [List.length_replicate]; exact Nat.le_refl _)] at this
  generalize w.alloc (.cells (madeCells #[.int .u8 0] n) 5) = W at *
  clear hrow
  go_enter Try.func21, Try.ntmps21
  go_wp2_with fail
  go_ret
  exact ⟨rfl, hB⟩

theorem pad_500 (w : World) : Calls Try.prog 21 #[.int .i64 500] w fun e w' => e = .returned (.string (zeros 500)) ∧ Below w.heap.size w w' := pad_any 500 w (by omega)

theorem zeros_size : (zeros 500).size = 500 := by unfold zeros; rw [strSize, List.length_replicate]

set_option maxRecDepth 1000000 in
set_option maxHeartbeats 8000000 in
theorem chained_walk (old : ByteArray) (rv rv2 : Value) (dz : Int) (rv4 : Value) (zs4 : List Int) (w : World)
    (hraw : Hid (∀ (o : ByteArray) (v : World), o.size ≤ 400 → Below w.heap.size w v → Calls Try.prog 7 #[.string o, rv] v fun e w' => ∃ t : ByteArray, e = .returned (.string t) ∧ t.size ≤ 3000 ∧ Below v.heap.size v w'))
    (hraw2 : Hid (∀ (o : ByteArray) (v : World), o.size ≤ 400 → Below w.heap.size w v → Calls Try.prog 7 #[.string o, rv2] v fun e w' => ∃ t : ByteArray, e = .returned (.string t) ∧ t.size ≤ 3000 ∧ Below v.heap.size v w'))
    (hd1 : -9223372036854775808 ≤ dz) (hd2 : dz ≤ 9223372036854775807) (h4 : Hid (numsAt w rv4 zs4)) (ok4 : Hid (numsOk zs4)) :
    Calls Try.prog 5 #[.string old, rv, rv2, .int .i64 dz, rv4] w fun e w' => e = .returned (.bool true) ∧ Below w.heap.size w w' := by
  have ho := shortS_size old 300
  have hpk := pick_bd dz 60 (by omega)
  have HPk := pick_60 dz
  go_enter Try.func5, Try.ntmps5
  go_wp2_with fail
  refine (short_300 _ _).mono ?_
  rintro e v0 ⟨rfl, h0⟩
  rw [h0]
  clear h0 v0
  generalize shortS old 300 = o at *
  go_wp2_with fail
  refine (hraw.out o _ (by omega) (Below.refl _ _)).mono ?_
  rintro e v1 ⟨t, rfl, -, b1⟩
  clear hraw
  have hn := shortS_size t 400
  go_wp2_with fail
  refine (short_4 _ _).mono ?_
  rintro e v2 ⟨rfl, h0⟩
  rw [h0]
  clear h0 v2
  generalize shortS t 400 = n at *
  go_wp2_with fail
  refine (hraw2.out n _ (by omega) b1).mono ?_
  rintro e v2 ⟨t2, rfl, -, b2⟩
  have B2 : Below w.heap.size w v2 := b1.trans (b2.mono b1.size)
  clear hraw2 b1 b2
  have hm0 := shortS_size t2 400
  go_wp2_with fail
  refine (short_4 _ _).mono ?_
  rintro e v3 ⟨rfl, h0⟩
  rw [h0]
  clear h0 v3
  generalize shortS t2 400 = m0 at *
  obtain ⟨m, hmm, hm⟩ : ∃ m : ByteArray, m0 ++ ⟨#[33]⟩ = m ∧ m.size ≤ 401 := ⟨_, rfl, by rw [ByteArray.size_append]; have : (ByteArray.mk #[33]).size = 1 := rfl; omega⟩
  have hmx : m0.size + 1 ≤ maxLen := by unfold maxLen; omega
  go_wp2_with fail
  refine (make_any o n _ (by omega) (by omega)).mono ?_
  rintro e v4 ⟨⟨l, M, T1, rfl, hmade1⟩, b4⟩
  have B4 : Below w.heap.size w v4 := B2.trans (b4.mono B2.size)
  clear B2 b4
  go_wp2_with fail
  refine (make_any n m _ (by omega) (by omega)).mono ?_
  rintro e v5 ⟨⟨l', M', T2, rfl, hmade2⟩, b5⟩
  have B5 : Below w.heap.size w v5 := B4.trans (b5.mono B4.size)
  clear B4 b5
  go_wp2_with fail
  refine (lives_any _).mono ?_
  rintro e v6 ⟨rfl, b6⟩
  have B6 : Below w.heap.size w v6 := B5.trans (b6.mono B5.size)
  clear B5 b6
  have HNew : Calls Try.prog 12 #[.int .i64 500, .string o] v6 fun e w' => ∃ D tv sv, e = .returned (.pointer (some ⟨D, 0, none⟩)) ∧ devAt D tv sv ⟨padded o.data.toList 500, padded o.data.toList 500, [], 0, -1⟩ w' ∧ Below v6.heap.size v6 w' ∧ v6.heap.size ≤ D ∧ (∀ k, tv.ownBlock = some k → v6.heap.size ≤ k) ∧ (∀ k, sv.ownBlock = some k → v6.heap.size ≤ k) := new_any 500 o 500 v6 (by omega) (by omega)
  have hpl : (padded o.data.toList 500).length = 500 := padded_length _ _ (by rw [data_len]; omega)
  have hpt : (padded o.data.toList 500).take o.size = o.data.toList := by unfold padded; rw [← data_len o, List.take_left]
  have HC1 : Hid (patchOf (cxOf [] o n T1 M (padded o.data.toList 500)) T1) := patch_made hmade1 (by omega) (by omega) (by simp) (fun e => by
      have : T1.data.toList ≠ [] := by rw [hmade1.text]; unfold madeB; simp [headB, planB]
      exact this e.symm) rfl hpt (by omega) (by omega) (by omega) (by simp [Dp.E]) (by simp [Dp.fold, Dp.Jn.zero])
  have HCn : Hid ((cxOf [] o n T1 M (padded o.data.toList 500)).n = n.data.toList) := rfl
  have hpos : 0 < (Dp.enc (cxOf [] o n T1 M (padded o.data.toList 500)).rc).length := by simp [Cx.rc, Dp.enc]
  have HK0 : kSure (cxOf [] o n T1 M (padded o.data.toList 500)) ⟨padded o.data.toList 500, padded o.data.toList 500, [], 0, -1⟩ := .inl ⟨⟨0, hpos, by simp [cxOf, Dp.E]⟩, rfl, rfl, rfl⟩
  have HNX : Hid (∀ y pk, kDone (cxOf [] o n T1 M (padded o.data.toList 500)) y → ∃ c, patchOf c T2 ∧ c.n = m.data.toList ∧ kSure c { y with life := pk } ∧ c.O.length = 500 ∧ ∀ z E, kDone c z → z.life = -1 → sumB (shortS (m ++ zeros 500) o.size) ≠ sumB o → ¬ m.size < o.size → (pDo z T1.data.toList (hOL T1) (hNL T1) (hOS T1) (hNS T1) (pSt T1) E).1 = 4) := fun y pk hy => chain_next hmade1 hmade2 ho hn hm hpl hpt hy pk
  have HOl : Hid ((cxOf [] o n T1 M (padded o.data.toList 500)).O.length = 500) := hpl
  generalize padded o.data.toList 500 = PO at *
  generalize cxOf [] o n T1 M PO = c1 at *
  clear hmade1 hmade2 hpt hpl hpos
  have HT1 := HC1.out.size
  have HE1 := HC1.out.err
  go_wp2_with fail
  refine HNew.mono ?_
  rintro e v7 ⟨D, tv, sv, rfl, h7, b7, f1, f2, f3⟩
  have HFr : Hid (newDev w.heap.size D tv sv) := ⟨Nat.le_trans B6.size f1, fun k hk => Nat.le_trans B6.size (f2 k hk), fun k hk => Nat.le_trans B6.size (f3 k hk)⟩
  have B7 : Hid (Below w.heap.size w v7) := B6.trans (b7.mono B6.size)
  have HDo1 := doK_any c1 T1 D tv sv _ v7 HC1.out HK0 h7 ⟨by show (-9223372036854775808 : Int) ≤ -1; decide, by show (-1 : Int) ≤ 9223372036854775807; decide⟩
  clear b7 f1 f2 f3 HNew B6 HK0 h7
  go_wp2_with fail
  refine HDo1.mono ?_
  rintro e v8 ⟨y, hy, ly, -, h8', k8⟩
  obtain ⟨rfl, hkd, hyl⟩ := ok_of hy ly rfl
  have h8 : Hid (devAt D tv sv y v8) := h8'
  have B8 : Hid (Below w.heap.size w v8) := HFr.out.below B7.out rfl k8
  clear h8' k8 HDo1 ly hy B7
  have hsz := kAny_sizes (.inl (.inr (.inr hkd)) : kAny c1 y)
  have hO1 := HOl.out
  have HSt := stands_any n D tv sv y v8 (by omega) (by omega) h8
  have hrdz : decide (Dp.pRead y n.size = some n.data.toList) = true := by
    have hq := kDone_reads hkd (by rw [hyl]; decide)
    rw [HCn.out, data_len] at hq
    exact decide_eq_true hq
  rw [hrdz] at HSt
  clear hrdz
  go_wp2_with fail
  refine HSt.mono ?_
  rintro e v9 ⟨rfl, h0⟩
  rw [h0]
  clear h0 v9 HSt
  obtain ⟨c, hc, hcn, hks, hcO, hbad⟩ := HNX.out y (pickN dz 60) hkd
  have HC : Hid (patchOf c T2) := hc
  have HCn2 : Hid (c.n = m.data.toList) := hcn
  have HBad : Hid _ := hbad
  have HKS : Hid (kSure c { y with life := pickN dz 60 }) := hks
  clear hc hcn hbad hks HNX hkd hyl HCn HC1 HOl hsz hO1
  have HDi := die_any D tv sv y (pickN dz 60) v8 h8
  rw [show max (pickN dz 60) 0 = pickN dz 60 by omega] at HDi
  have HPk' := HPk v8 hd1 hd2
  clear HPk
  generalize pickN dz 60 = pk at *
  go_wp2_with fail
  refine HPk'.mono ?_
  rintro e v9 ⟨rfl, h0⟩
  rw [h0]
  clear h0 v9 HPk'
  go_wp2_with fail
  refine HDi.mono ?_
  rintro e v9 ⟨rfl, h9', k9⟩
  have B9 : Hid (Below w.heap.size w v9) := HFr.out.below B8.out rfl k9
  have HDo2 := doK_any c T2 D tv sv _ v9 HC.out HKS.out h9' ⟨by show -9223372036854775808 ≤ pk; omega, by show pk ≤ 9223372036854775807; omega⟩
  clear h9' k9 HDi B8 h8 HKS
  go_wp2_with fail
  refine HDo2.mono ?_
  rintro e v10 ⟨y2, hy2, -, -, h10', k10⟩
  have h10 : Hid (devAt D tv sv y2 v10) := h10'
  have B10 : Hid (Below w.heap.size w v10) := HFr.out.below B9.out rfl k10
  clear h10' k10 HDo2 B9
  rcases hy2 with ⟨rfl, hkd2⟩ | ⟨rfl, -, hka⟩
  · have hka : kAny c y2 := .inl (.inr (.inr hkd2))
    clear hkd2
    have HKA : Hid (kAny c y2) := hka
    have hsz := kAny_sizes HKA.out
    have HE2 : (Dp.E c.r2).length ≤ 100000 := HC.out.log
    have HP := power_any D tv sv y2 rv4 zs4 v10 (by omega) (by omega) hsz.2.2.1 (by omega) ok4 h10.out (fun v k => numsAt_below h4.out (HFr.out.below B10.out rfl k))
    obtain ⟨P1, -, P3⟩ := power_spec c y2 HKA.out zs4
    have hpz := kAny_sizes (.inl P1 : kAny c (pPower y2 zs4))
    generalize pPower y2 zs4 = z at *
    have HPZ : Hid (kSure c z ∧ z.life = -1) := ⟨P1, P3⟩
    clear P1 P3 hka hsz
    go_wp2_with fail
    refine HP.mono ?_
    rintro e v11 ⟨rfl, h11, k11⟩
    have B11 : Hid (Below w.heap.size w v11) := HFr.out.below B10.out rfl k11
    clear k11 HP
    go_wp2_with fail
    refine (copy_any D tv sv z v11 (by omega) (by omega) h11).mono ?_
    rintro e v12 ⟨D', tv', sv', rfl, h12, b12, f1, f2, f3⟩
    have HFr2 : Hid (newDev w.heap.size D' tv' sv') := ⟨Nat.le_trans B11.out.size f1, fun k hk => Nat.le_trans B11.out.size (f2 k hk), fun k hk => Nat.le_trans B11.out.size (f3 k hk)⟩
    have B12 : Hid (Below w.heap.size w v12) := B11.out.trans (b12.mono B11.out.size)
    have HDo3 := doK_any c T2 D' tv' sv' z v12 HC.out HPZ.out.1 h12 (by have := HPZ.out.2; exact ⟨by omega, by omega⟩)
    clear h12 b12 f1 f2 f3 h11 B11 B10 h10
    go_wp2_with fail
    refine HDo3.mono ?_
    rintro e v13 ⟨y3, hy3, ly3, -, h13', k13⟩
    obtain ⟨rfl, hkd3, hyl3⟩ := ok_of hy3 ly3 HPZ.out.2
    have h13 : Hid (devAt D' tv' sv' y3 v13) := h13'
    have B13 : Hid (Below w.heap.size w v13) := HFr2.out.below B12.out rfl k13
    have hsz3 := kAny_sizes (.inl (.inr (.inr hkd3)) : kAny c y3)
    have HSt := stands_any m D' tv' sv' y3 v13 (by omega) (by omega) h13
    have hrdz : decide (Dp.pRead y3 m.size = some m.data.toList) = true := by
      have hq := kDone_reads hkd3 (by rw [hyl3]; decide)
      rw [HCn2.out, data_len] at hq
      exact decide_eq_true hq
    rw [hrdz] at HSt
    clear hrdz h13' k13 HDo3 ly3 hy3 B12
    go_wp2_with fail
    refine HSt.mono ?_
    rintro e v14 ⟨rfl, h0⟩
    rw [h0]
    clear h0 v14 HSt
    have HDo4 := doK_any c T2 D' tv' sv' y3 v13 HC.out (.inr (.inr hkd3)) h13 ⟨by omega, by omega⟩
    go_wp2_with fail
    refine HDo4.mono ?_
    rintro e v14 ⟨y4, hy4, ly4, -, h14', k14⟩
    obtain ⟨rfl, hkd4, hyl4⟩ := ok_of hy4 ly4 hyl3
    have h14 : Hid (devAt D' tv' sv' y4 v14) := h14'
    have B14 : Hid (Below w.heap.size w v14) := HFr2.out.below B13.out rfl k14
    have hsz4 := kAny_sizes (.inl (.inr (.inr hkd4)) : kAny c y4)
    clear h14' k14 HDo4 ly4 hy4 B13 h13 hkd3 hyl3 hsz3
    have hnx4 : (Dp.jrn y4.log).next.length ≤ 1000000 := by
      have h1 := HC.out.nxt
      have h2 := HC.out.n
      rcases kSure_next HC.out.ok (.inr (.inr hkd4) : kSure c y4) with e | e <;> (rw [e]; omega)
    have HDo5 := do_any D' tv' sv' y4 T1 v14 (by omega) HE1 (by omega) (by omega) (by omega) hnx4 h14 ⟨by omega, by omega⟩
    have HBd : Hid (∀ E, sumB (shortS (m ++ zeros 500) o.size) ≠ sumB o → ¬ m.size < o.size → (pDo y4 T1.data.toList (hOL T1) (hNL T1) (hOS T1) (hNS T1) (pSt T1) E).1 = 4) := fun E => HBad.out y4 E hkd4 hyl4
    clear hkd4 hyl4 HBad
    go_wp2_with fail
    refine HDo5.mono ?_
    rintro e v15 ⟨E, rfl, -, k15⟩
    have B15 : Hid (Below w.heap.size w v15) := HFr2.out.below B14.out rfl k15
    have hbd := HBd.out E
    clear k15 HDo5 HBd B14 h14
    generalize (pDo y4 T1.data.toList (hOL T1) (hNL T1) (hOS T1) (hNS T1) (pSt T1) E).1 = bad at *
    have d500 : decide ((o.size : Int) ≤ 500) = true := decide_eq_true (by omega)
    have hzs := zeros_size
    have hcat : m.size + (zeros 500).size ≤ maxLen := by rw [hzs]; unfold maxLen; omega
    generalize hZZ : zeros 500 = ZZ at *
    have HPad := pad_500 v15
    rw [hZZ] at HPad
    clear hZZ
    go_wp2_with fail
    refine HPad.mono ?_
    rintro e v16 ⟨rfl, b16⟩
    have B16 : Hid (Below w.heap.size w v16) := B15.out.trans (b16.mono B15.out.size)
    clear b16 HPad B15
    have hcs : (m ++ ZZ).size ≤ 1000 := by rw [ByteArray.size_append]; omega
    have HSh := short_any (m ++ ZZ) o.size v16 (by omega)
    have hss : (shortS (m ++ ZZ) o.size).size ≤ 1000 := by have := shortS_size (m ++ ZZ) o.size; omega
    generalize hMZ : m ++ ZZ = MZ at *
    have HMZ : Hid (m ++ ZZ = MZ) := hMZ
    go_wp2_with fail
    refine HSh.mono ?_
    rintro e v17 ⟨rfl, h0⟩
    rw [h0]
    clear h0 v17 HSh
    generalize shortS MZ o.size = SH at *
    go_wp2_with fail
    refine (sum_any SH v16 (by unfold maxLen; omega)).mono ?_
    rintro e v17 ⟨rfl, b17⟩
    have B17 : Hid (Below w.heap.size w v17) := B16.out.trans (b17.mono B16.out.size)
    clear b17 B16
    go_wp2_with fail
    refine (sum_any o v17 (by unfold maxLen; omega)).mono ?_
    rintro e v18 ⟨rfl, b18⟩
    have B18 : Hid (Below w.heap.size w v18) := B17.out.trans (b18.mono B17.out.size)
    clear b18 B17
    rw [show Pl.sumOf (Pl.ad SH.data.toList).1 (Pl.ad SH.data.toList).2 = sumB SH from rfl, show Pl.sumOf (Pl.ad o.data.toList).1 (Pl.ad o.data.toList).2 = sumB o from rfl]
    generalize sumB SH = S1 at *
    generalize sumB o = S2 at *
    by_cases hS : S1 = S2
    · subst hS
      go_wp2_with fail
      go_ret
      exact ⟨rfl, B18.out⟩
    · have hbn := bne_of hS
      by_cases hlt : m.size < o.size
      · have dl : decide ((m.size : Int) < (o.size : Int)) = true := decide_eq_true (by omega)
        go_wp2_with fail
        go_ret
        exact ⟨rfl, B18.out⟩
      · have dl : decide ((m.size : Int) < (o.size : Int)) = false := decide_eq_false (by omega)
        obtain rfl := hbd hS hlt
        go_wp2_with fail
        go_ret
        exact ⟨rfl, B18.out⟩
  · have HKA : Hid (kAny c y2) := hka
    have hsz := kAny_sizes HKA.out
    have HE2 : (Dp.E c.r2).length ≤ 100000 := HC.out.log
    have HP := power_any D tv sv y2 rv4 zs4 v10 (by omega) (by omega) hsz.2.2.1 (by omega) ok4 h10.out (fun v k => numsAt_below h4.out (HFr.out.below B10.out rfl k))
    obtain ⟨P1, -, P3⟩ := power_spec c y2 HKA.out zs4
    have hpz := kAny_sizes (.inl P1 : kAny c (pPower y2 zs4))
    generalize pPower y2 zs4 = z at *
    have HPZ : Hid (kSure c z ∧ z.life = -1) := ⟨P1, P3⟩
    clear P1 P3 hka hsz
    go_wp2_with fail
    refine HP.mono ?_
    rintro e v11 ⟨rfl, h11, k11⟩
    have B11 : Hid (Below w.heap.size w v11) := HFr.out.below B10.out rfl k11
    clear k11 HP
    go_wp2_with fail
    refine (copy_any D tv sv z v11 (by omega) (by omega) h11).mono ?_
    rintro e v12 ⟨D', tv', sv', rfl, h12, b12, f1, f2, f3⟩
    have HFr2 : Hid (newDev w.heap.size D' tv' sv') := ⟨Nat.le_trans B11.out.size f1, fun k hk => Nat.le_trans B11.out.size (f2 k hk), fun k hk => Nat.le_trans B11.out.size (f3 k hk)⟩
    have B12 : Hid (Below w.heap.size w v12) := B11.out.trans (b12.mono B11.out.size)
    have HDo3 := doK_any c T2 D' tv' sv' z v12 HC.out HPZ.out.1 h12 (by have := HPZ.out.2; exact ⟨by omega, by omega⟩)
    clear h12 b12 f1 f2 f3 h11 B11 B10 h10
    go_wp2_with fail
    refine HDo3.mono ?_
    rintro e v13 ⟨y3, hy3, ly3, -, h13', k13⟩
    obtain ⟨rfl, hkd3, hyl3⟩ := ok_of hy3 ly3 HPZ.out.2
    have h13 : Hid (devAt D' tv' sv' y3 v13) := h13'
    have B13 : Hid (Below w.heap.size w v13) := HFr2.out.below B12.out rfl k13
    have hsz3 := kAny_sizes (.inl (.inr (.inr hkd3)) : kAny c y3)
    have HSt := stands_any m D' tv' sv' y3 v13 (by omega) (by omega) h13
    have hrdz : decide (Dp.pRead y3 m.size = some m.data.toList) = true := by
      have hq := kDone_reads hkd3 (by rw [hyl3]; decide)
      rw [HCn2.out, data_len] at hq
      exact decide_eq_true hq
    rw [hrdz] at HSt
    clear hrdz h13' k13 HDo3 ly3 hy3 B12
    go_wp2_with fail
    refine HSt.mono ?_
    rintro e v14 ⟨rfl, h0⟩
    rw [h0]
    clear h0 v14 HSt
    have HDo4 := doK_any c T2 D' tv' sv' y3 v13 HC.out (.inr (.inr hkd3)) h13 ⟨by omega, by omega⟩
    go_wp2_with fail
    refine HDo4.mono ?_
    rintro e v14 ⟨y4, hy4, ly4, -, h14', k14⟩
    obtain ⟨rfl, hkd4, hyl4⟩ := ok_of hy4 ly4 hyl3
    have h14 : Hid (devAt D' tv' sv' y4 v14) := h14'
    have B14 : Hid (Below w.heap.size w v14) := HFr2.out.below B13.out rfl k14
    have hsz4 := kAny_sizes (.inl (.inr (.inr hkd4)) : kAny c y4)
    clear h14' k14 HDo4 ly4 hy4 B13 h13 hkd3 hyl3 hsz3
    have hnx4 : (Dp.jrn y4.log).next.length ≤ 1000000 := by
      have h1 := HC.out.nxt
      have h2 := HC.out.n
      rcases kSure_next HC.out.ok (.inr (.inr hkd4) : kSure c y4) with e | e <;> (rw [e]; omega)
    have HDo5 := do_any D' tv' sv' y4 T1 v14 (by omega) HE1 (by omega) (by omega) (by omega) hnx4 h14 ⟨by omega, by omega⟩
    have HBd : Hid (∀ E, sumB (shortS (m ++ zeros 500) o.size) ≠ sumB o → ¬ m.size < o.size → (pDo y4 T1.data.toList (hOL T1) (hNL T1) (hOS T1) (hNS T1) (pSt T1) E).1 = 4) := fun E => HBad.out y4 E hkd4 hyl4
    clear hkd4 hyl4 HBad
    go_wp2_with fail
    refine HDo5.mono ?_
    rintro e v15 ⟨E, rfl, -, k15⟩
    have B15 : Hid (Below w.heap.size w v15) := HFr2.out.below B14.out rfl k15
    have hbd := HBd.out E
    clear k15 HDo5 HBd B14 h14
    generalize (pDo y4 T1.data.toList (hOL T1) (hNL T1) (hOS T1) (hNS T1) (pSt T1) E).1 = bad at *
    have d500 : decide ((o.size : Int) ≤ 500) = true := decide_eq_true (by omega)
    have hzs := zeros_size
    have hcat : m.size + (zeros 500).size ≤ maxLen := by rw [hzs]; unfold maxLen; omega
    generalize hZZ : zeros 500 = ZZ at *
    have HPad := pad_500 v15
    rw [hZZ] at HPad
    clear hZZ
    go_wp2_with fail
    refine HPad.mono ?_
    rintro e v16 ⟨rfl, b16⟩
    have B16 : Hid (Below w.heap.size w v16) := B15.out.trans (b16.mono B15.out.size)
    clear b16 HPad B15
    have hcs : (m ++ ZZ).size ≤ 1000 := by rw [ByteArray.size_append]; omega
    have HSh := short_any (m ++ ZZ) o.size v16 (by omega)
    have hss : (shortS (m ++ ZZ) o.size).size ≤ 1000 := by have := shortS_size (m ++ ZZ) o.size; omega
    generalize hMZ : m ++ ZZ = MZ at *
    have HMZ : Hid (m ++ ZZ = MZ) := hMZ
    go_wp2_with fail
    refine HSh.mono ?_
    rintro e v17 ⟨rfl, h0⟩
    rw [h0]
    clear h0 v17 HSh
    generalize shortS MZ o.size = SH at *
    go_wp2_with fail
    refine (sum_any SH v16 (by unfold maxLen; omega)).mono ?_
    rintro e v17 ⟨rfl, b17⟩
    have B17 : Hid (Below w.heap.size w v17) := B16.out.trans (b17.mono B16.out.size)
    clear b17 B16
    go_wp2_with fail
    refine (sum_any o v17 (by unfold maxLen; omega)).mono ?_
    rintro e v18 ⟨rfl, b18⟩
    have B18 : Hid (Below w.heap.size w v18) := B17.out.trans (b18.mono B17.out.size)
    clear b18 B17
    rw [show Pl.sumOf (Pl.ad SH.data.toList).1 (Pl.ad SH.data.toList).2 = sumB SH from rfl, show Pl.sumOf (Pl.ad o.data.toList).1 (Pl.ad o.data.toList).2 = sumB o from rfl]
    generalize sumB SH = S1 at *
    generalize sumB o = S2 at *
    by_cases hS : S1 = S2
    · subst hS
      go_wp2_with fail
      go_ret
      exact ⟨rfl, B18.out⟩
    · have hbn := bne_of hS
      by_cases hlt : m.size < o.size
      · have dl : decide ((m.size : Int) < (o.size : Int)) = true := decide_eq_true (by omega)
        go_wp2_with fail
        go_ret
        exact ⟨rfl, B18.out⟩
      · have dl : decide ((m.size : Int) < (o.size : Int)) = false := decide_eq_false (by omega)
        obtain rfl := hbd hS hlt
        go_wp2_with fail
        go_ret
        exact ⟨rfl, B18.out⟩

end Go.Proofs.Ytjjmcnippjpclab
