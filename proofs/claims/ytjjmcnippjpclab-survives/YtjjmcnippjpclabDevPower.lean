/-
  The walk of Power: of what was not sure some stays.
-/
import Derived.Test.YtjjmcnippjpclabDevCopy
namespace Go.Proofs.Ytjjmcnippjpclab

open Go.RowKit

/-- a list of numbers: empty, or its cells lie in a block. -/
def numsAt (w : World) (rv : Value) (zs : List Int) : Prop :=
  (zs = [] ∧ ∃ ao c, rv = .slice ao 0 c) ∨ ∃ b o c, rv = .slice (some ⟨b, o, none⟩) zs.length c ∧ b < w.heap.size ∧ ∀ i, i < zs.length → w.cell? ⟨b, o + i, none⟩ = some (.int .i64 (zs.getD i 0))

def numsOk (zs : List Int) : Prop := zs.length ≤ 9223372036854775807 ∧ ∀ i, -9223372036854775808 ≤ zs.getD i 0 ∧ zs.getD i 0 ≤ 9223372036854775807

theorem numsAt.of_blocks {w v : World} {rv : Value} {zs : List Int} (h : numsAt w rv zs) (hb : ∀ b a n c, rv = .slice (some ⟨b, a, none⟩) n c → b < w.heap.size → v.heap[b]? = w.heap[b]?) (hs : w.heap.size ≤ v.heap.size) : numsAt v rv zs := by
  rcases h with h | ⟨b, o, c, rfl, hl, hc⟩
  · exact .inl h
  · exact .inr ⟨b, o, c, rfl, by omega, fun i hi => by rw [World.cell?_of_block (hb b o _ _ rfl hl)]; exact hc i hi⟩

def pickB (zs : List Int) (k : Nat) (n : Int) : Int := if zs.length ≤ k then 0 else pickN (zs.getD k 0) n

theorem pickB_bd (zs : List Int) (k : Nat) (n : Int) (h : 0 < n) : 0 ≤ pickB zs k n ∧ pickB zs k n < n := by
  unfold pickB pickN
  split
  · omega
  · exact ⟨Int.emod_nonneg _ (by omega), Int.emod_lt_of_pos _ h⟩

theorem bpick_any (rv : Value) (zs : List Int) (k : Nat) (n : Int) (w : World) (h : Hid (numsAt w rv zs)) (hz : numsOk zs) (hn : 0 < n) (hn2 : n ≤ 9223372036854775807) :
    Calls Try.prog 37 #[rv, .int .i64 k, .int .i64 n] w fun e w' => e = .returned (.int .i64 (pickB zs k n)) ∧ w' = w := by
  by_cases hk : zs.length ≤ k
  · have hp : pickB zs k n = 0 := by unfold pickB; rw [if_pos hk]
    rw [hp]
    obtain ⟨ao, c, rfl⟩ : ∃ ao c, rv = .slice ao zs.length c := by
      rcases h.out with ⟨rfl, ao, c, rfl⟩ | ⟨b, o, c, rfl, _⟩
      · exact ⟨_, _, rfl⟩
      · exact ⟨_, _, rfl⟩
    generalize zs.length = m at *
    have d1 : decide ((m : Int) ≤ (k : Int)) = true := decide_eq_true (by omega)
    go_enter Try.func37, Try.ntmps37
    go_wp2_with fail
    go_ret
    exact ⟨rfl, rfl⟩
  · have hp : pickB zs k n = pickN (zs.getD k 0) n := by unfold pickB; rw [if_neg hk]
    rw [hp]
    rcases h.out with ⟨rfl, ao, c, rfl⟩ | ⟨b, o, c, rfl, _, hc⟩
    · exact absurd (Nat.zero_le k) hk
    have h1 := hc k (by omega)
    obtain ⟨hz1, hz2⟩ := hz.2 k
    generalize zs.getD k 0 = z at *
    have hml := hz.1
    generalize zs.length = m at *
    have d1 : decide ((m : Int) ≤ (k : Int)) = false := decide_eq_false (by omega)
    have d2 : (k : Int) < (m : Int) := by omega
    clear hc hz
    by_cases hc : z < 0
    · go_enter Try.func37, Try.ntmps37
      go_wp2
      go_ret
      exact ⟨ret_int (by unfold pickN; rw [if_pos hc, ← Int.neg_tmod]; exact Int.tmod_eq_emod_of_nonneg (by omega)), rfl⟩
    · go_enter Try.func37, Try.ntmps37
      go_wp2
      go_ret
      exact ⟨ret_int (by unfold pickN; rw [if_neg (by omega)]), rfl⟩

/-- 'copy(a[p:p+k], b[p:p+k])' of two rows. -/
theorem copy_piece {w : World} {tv sv : Value} {t s : List UInt8} {g cap G C p k : Nat} (ht : rowOf w tv t) (hs : rowOf w sv s) (htv : tv = .slice (some ⟨g, 0, none⟩) t.length cap) (hsv : sv = .slice (some ⟨G, 0, none⟩) s.length C) (hl : t.length = s.length) (hpk : p + k ≤ t.length) :
    ∃ w', (Builtin.copy_ #[34, 34] 3 #[.slice (some ⟨G, p, none⟩) k (C - p), .slice (some ⟨g, p, none⟩) k (cap - p)]).run Try.prog w = .ok (goInt k) w' ∧ rowOf w' sv (s.take p ++ (t.drop p).take k ++ s.drop (p + k)) ∧ w.grownBy w' sv.ownBlock := by
  rcases ht.form with ⟨h1, h2⟩ | ⟨g0, cap0, cur, e1, k1, k2, k3, k4, k5⟩
  · rw [htv] at h1; simp at h1
  rcases hs.form with ⟨h1, h2⟩ | ⟨g', cap', cur', e2, m1, m2, m3, m4, m5⟩
  · rw [hsv] at h1; simp at h1
  obtain ⟨rfl, rfl⟩ : g = g0 ∧ cap = cap0 := by rw [htv] at e1; simpa using e1
  obtain ⟨rfl, rfl⟩ : G = g' ∧ C = cap' := by rw [hsv] at e2; simpa using e2
  have hlen : (Lib.byteCells ((t.drop p).take k)).length = k := by rw [Lib.byteCells_length, List.length_take, List.length_drop]; omega
  have hr := run_copy_row (P := Try.prog) w 34 34 3 5 G p k (C - p) ⟨g, p, none⟩ k (cap - p) cur' 5 (Lib.byteCells ((t.drop p).take k)) Try.underlying34 sizeU8' m1
    (by rw [hlen]; exact (Nat.min_self _).symm)
    (fun j v hj => by
      have hj' : j < k := by have := (List.getElem?_eq_some_iff.1 hj).1; rwa [hlen] at this
      have hadd : (⟨g, p, none⟩ : Addr).add j = ⟨g, p + j, none⟩ := by unfold Addr.add; split <;> simp_all
      rw [hadd, row_cell k1 k5 (p + j) (by omega), ← hj]
      simp [Lib.byteCells, List.getElem?_take_of_lt hj', List.getElem?_drop, List.getElem?_eq_getElem (show p + j < t.length by omega)])
    (by rw [hlen]; omega) (byteCells_one _)
  rw [hlen] at hr
  refine ⟨_, hr, row_new hs _ (by simp; omega) ?_, ?_⟩
  · intro G0 C0 c0 e1 e2 e3
    rw [hsv] at e1
    obtain ⟨rfl, rfl⟩ : G = G0 ∧ C = C0 := by simpa using e1
    rw [m1] at e2
    obtain rfl : cur' = c0 := by simpa using e2
    rw [setRow_at w G _ m1]
    have e4 : cur'.toList = Lib.byteCells s ++ cur'.toList.drop s.length := by rw [← m5, List.take_append_drop]
    have e5 : (Lib.byteCells s).length = s.length := Lib.byteCells_length s
    refine congrArg (fun z => some (Obj.cells z 5 (0, 0))) (congrArg List.toArray ?_)
    generalize cur'.toList.drop s.length = R at *
    rw [e4]
    rw [List.take_append_of_le_length (by omega), List.drop_append_of_le_length (by omega)]
    simp [Lib.byteCells, List.map_take, List.map_drop]
  · rw [hsv]
    refine ⟨rfl, rfl, rfl, by simp [World.setRow], fun j _ hk => ?_⟩
    show (w.setRow G _).heap[j]? = _
    have : j ≠ G := fun e => hk (by rw [e]; rfl)
    simp [World.setRow, Array.getElem?_modify, this.symm]

/-- what stays of a text: block by block what was written last, or what was sure. -/
def mix (ks : List Int) (t s : List UInt8) : List UInt8 := (List.range t.length).map fun j => if pickB ks (1 + j / 16) 2 = 1 then t.getD j 0 else s.getD j 0

theorem mix_length (ks : List Int) (t s : List UInt8) : (mix ks t s).length = t.length := by simp [mix]

def pPower (x : Dp.Dv) (ks : List Int) : Dp.Dv :=
  ⟨mix ks x.text x.safe, mix ks x.text x.safe, x.log.take (x.sure + (pickB ks 0 ((x.log.length : Int) - (x.sure : Int) + 1)).toNat), x.sure + (pickB ks 0 ((x.log.length : Int) - (x.sure : Int) + 1)).toNat, -1⟩

/-- while it is under way. -/
def mixT (ks : List Int) (t s : List UInt8) (a : Nat) : List UInt8 := (mix ks t s).take a ++ t.drop a

def mixS (ks : List Int) (t s : List UInt8) (a : Nat) : List UInt8 := (mix ks t s).take a ++ s.drop a

theorem mixT_length (ks : List Int) (t s : List UInt8) (a : Nat) : (mixT ks t s a).length = t.length := by simp [mixT, mix_length]; omega

theorem mixS_length (ks : List Int) (t s : List UInt8) (a : Nat) (h : t.length = s.length) : (mixS ks t s a).length = t.length := by simp [mixS, mix_length]; omega

theorem mix_block (ks : List Int) (t s : List UInt8) (i k : Nat) (h : t.length = s.length) (hk : k ≤ 16) (hpk : 16 * i + k ≤ t.length) :
    ((mix ks t s).drop (16 * i)).take k = if pickB ks (1 + i) 2 = 1 then (t.drop (16 * i)).take k else (s.drop (16 * i)).take k := by
  apply List.ext_getElem?
  intro j
  by_cases hj : j < k
  · have hd : (16 * i + j) / 16 = i := by omega
    have e : ((mix ks t s).drop (16 * i)).take k = ((mix ks t s).drop (16 * i)).take k := rfl
    rw [List.getElem?_take_of_lt hj, List.getElem?_drop]
    have hm : (mix ks t s)[16 * i + j]? = some (if pickB ks (1 + i) 2 = 1 then t.getD (16 * i + j) 0 else s.getD (16 * i + j) 0) := by
      unfold mix
      rw [List.getElem?_map, List.getElem?_range (by omega)]
      simp only [Option.map_some, hd]
    rw [hm]
    split
    · rw [List.getElem?_take_of_lt hj, List.getElem?_drop, List.getElem?_eq_getElem (by omega)]
      simp [List.getD, List.getElem?_eq_getElem (show 16 * i + j < t.length by omega)]
    · rw [List.getElem?_take_of_lt hj, List.getElem?_drop, List.getElem?_eq_getElem (by omega)]
      simp [List.getD, List.getElem?_eq_getElem (show 16 * i + j < s.length by omega)]
  · rw [List.getElem?_eq_none (by simp; omega), List.getElem?_eq_none (by split <;> simp <;> omega)]

theorem seg_next (l m : List UInt8) (a k : Nat) (ha : a + k ≤ l.length) (hm : m.length = l.length) : m.take (a + k) ++ l.drop (a + k) = (m.take a ++ l.drop a).take a ++ (m.drop a).take k ++ (m.take a ++ l.drop a).drop (a + k) := by
  have h1 : (m.take a).length = a := by simp; omega
  have e0 : (m.take a).drop (a + k) = [] := List.drop_eq_nil_of_le (by omega)
  rw [List.take_left' h1, List.drop_append, h1, e0, List.nil_append, List.drop_drop, List.take_add, show a + (a + k - a) = a + k by omega]

theorem mix_over (m l : List UInt8) (a b : Nat) (ha : l.length ≤ a) (hb : l.length ≤ b) (hm : m.length = l.length) : m.take a ++ l.drop a = m.take b ++ l.drop b := by
  rw [List.take_of_length_le (by omega), List.take_of_length_le (by omega), List.drop_eq_nil_of_le ha, List.drop_eq_nil_of_le hb]

/-- a block of what was written last stays: the rows then. -/
theorem mix_last (ks : List Int) (t s : List UInt8) (i k : Nat) (h : t.length = s.length) (hk : k ≤ 16) (hpk : 16 * i + k ≤ t.length) (hend : k = 16 ∨ 16 * i + k = t.length) (hp : pickB ks (1 + i) 2 = 1) :
    (mixS ks t s (16 * i)).take (16 * i) ++ ((mixT ks t s (16 * i)).drop (16 * i)).take k ++ (mixS ks t s (16 * i)).drop (16 * i + k) = mixS ks t s (16 * i + 16) ∧ mixT ks t s (16 * i) = mixT ks t s (16 * i + 16) := by
  have hb := mix_block ks t s i k h hk hpk
  rw [if_pos hp] at hb
  have hml := mix_length ks t s
  have h1 : ((mix ks t s).take (16 * i)).length = 16 * i := by simp; omega
  have hd : (mixT ks t s (16 * i)).drop (16 * i) = t.drop (16 * i) := by unfold mixT; rw [List.drop_left' h1]
  have e1 : mixS ks t s (16 * i + 16) = mixS ks t s (16 * i + k) := by
    rcases hend with rfl | he
    · rfl
    · exact mix_over _ _ _ _ (by omega) (by omega) (by omega)
  have e2 : mixT ks t s (16 * i + 16) = mixT ks t s (16 * i + k) := by
    rcases hend with rfl | he
    · rfl
    · exact mix_over _ _ _ _ (by omega) (by omega) (by omega)
  rw [hd, e1, e2, ← hb]
  refine ⟨(seg_next s (mix ks t s) (16 * i) k (by omega) (by omega)).symm, ?_⟩
  show _ = (mix ks t s).take (16 * i + k) ++ t.drop (16 * i + k)
  rw [seg_next t (mix ks t s) (16 * i) k (by omega) (by omega), hb]
  show mixT ks t s (16 * i) = (mixT ks t s (16 * i)).take (16 * i) ++ _ ++ (mixT ks t s (16 * i)).drop (16 * i + k)
  rw [← hd, ← List.take_add, List.take_append_drop]

/-- a block of what was sure stays. -/
theorem mix_sure (ks : List Int) (t s : List UInt8) (i k : Nat) (h : t.length = s.length) (hk : k ≤ 16) (hpk : 16 * i + k ≤ t.length) (hend : k = 16 ∨ 16 * i + k = t.length) (hp : pickB ks (1 + i) 2 ≠ 1) :
    (mixT ks t s (16 * i)).take (16 * i) ++ ((mixS ks t s (16 * i)).drop (16 * i)).take k ++ (mixT ks t s (16 * i)).drop (16 * i + k) = mixT ks t s (16 * i + 16) ∧ mixS ks t s (16 * i) = mixS ks t s (16 * i + 16) := by
  have hb := mix_block ks t s i k h hk hpk
  rw [if_neg hp] at hb
  have hml := mix_length ks t s
  have h1 : ((mix ks t s).take (16 * i)).length = 16 * i := by simp; omega
  have hd : (mixS ks t s (16 * i)).drop (16 * i) = s.drop (16 * i) := by unfold mixS; rw [List.drop_left' h1]
  have e1 : mixS ks t s (16 * i + 16) = mixS ks t s (16 * i + k) := by
    rcases hend with rfl | he
    · rfl
    · exact mix_over _ _ _ _ (by omega) (by omega) (by omega)
  have e2 : mixT ks t s (16 * i + 16) = mixT ks t s (16 * i + k) := by
    rcases hend with rfl | he
    · rfl
    · exact mix_over _ _ _ _ (by omega) (by omega) (by omega)
  rw [hd, e1, e2, ← hb]
  refine ⟨(seg_next t (mix ks t s) (16 * i) k (by omega) (by omega)).symm, ?_⟩
  show _ = (mix ks t s).take (16 * i + k) ++ s.drop (16 * i + k)
  rw [seg_next s (mix ks t s) (16 * i) k (by omega) (by omega), hb]
  show mixS ks t s (16 * i) = (mixS ks t s (16 * i)).take (16 * i) ++ _ ++ (mixS ks t s (16 * i)).drop (16 * i + k)
  rw [← hd, ← List.take_add, List.take_append_drop]

end Go.Proofs.Ytjjmcnippjpclab
