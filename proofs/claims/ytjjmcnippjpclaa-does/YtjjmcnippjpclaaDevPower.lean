/-
  The walk of Power: of what was not sure some stays.
-/
import Derived.Test.YtjjmcnippjpclaaDevNew
namespace Go.Proofs.Ytjjmcnippjpclaa

open Go.RowKit

/-- a list of numbers: empty, or its cells lie in a block. -/
def numsAt (w : World) (rv : Value) (zs : List Int) : Prop :=
  (zs = [] ∧ ∃ ao c, rv = .slice ao 0 c) ∨ ∃ b o c, rv = .slice (some ⟨b, o, none⟩) zs.length c ∧ b < w.heap.size ∧ ∀ i, i < zs.length → w.cell? ⟨b, o + i, none⟩ = some (.int .i64 (zs.getD i 0))

def numsOk (zs : List Int) : Prop := zs.length ≤ 9223372036854775807 ∧ ∀ i, -9223372036854775808 ≤ zs.getD i 0 ∧ zs.getD i 0 ≤ 9223372036854775807

theorem numsAt.of_blocks {w v : World} {rv : Value} {zs : List Int} (h : numsAt w rv zs) (hb : ∀ b a n c, rv = .slice (some ⟨b, a, none⟩) n c → b < w.heap.size → v.heap[b]? = w.heap[b]?) (hs : w.heap.size ≤ v.heap.size) : numsAt v rv zs := by
  rcases h with h | ⟨b, o, c, rfl, hl, hc⟩
  · exact .inl h
  · exact .inr ⟨b, o, c, rfl, by omega, fun i hi => by rw [World.cell?_of_block (hb b o _ _ rfl hl)]; exact hc i hi⟩

def pickB (zs : List Int) (k : Nat) (n : Int) : Int := if zs.length ≤ k then 0 else pickN (zs.getD k 0) n

theorem pickB_bd (zs : List Int) (k : Nat) (n : Int) (h : 0 < n) : 0 ≤ pickB zs k n ∧ pickB zs k n < n := by
  unfold pickB pickN
  split
  · omega
  · exact ⟨Int.emod_nonneg _ (by omega), Int.emod_lt_of_pos _ h⟩

theorem bpick_any (rv : Value) (zs : List Int) (k : Nat) (n : Int) (w : World) (h : Hid (numsAt w rv zs)) (hz : numsOk zs) (hn : 0 < n) (hn2 : n ≤ 9223372036854775807) :
    Calls Try.prog 95 #[rv, .int .i64 k, .int .i64 n] w fun e w' => e = .returned (.int .i64 (pickB zs k n)) ∧ w' = w := by
  by_cases hk : zs.length ≤ k
  · have hp : pickB zs k n = 0 := by unfold pickB; rw [if_pos hk]
    rw [hp]
    obtain ⟨ao, c, rfl⟩ : ∃ ao c, rv = .slice ao zs.length c := by
      rcases h.out with ⟨rfl, ao, c, rfl⟩ | ⟨b, o, c, rfl, _⟩
      · exact ⟨_, _, rfl⟩
      · exact ⟨_, _, rfl⟩
    generalize zs.length = m at *
    have d1 : decide ((m : Int) ≤ (k : Int)) = true := decide_eq_true (by omega)
    go_enter Try.func95, Try.ntmps95
    go_wp2_with fail
    go_ret
    exact ⟨rfl, rfl⟩
  · have hp : pickB zs k n = pickN (zs.getD k 0) n := by unfold pickB; rw [if_neg hk]
    rw [hp]
    rcases h.out with ⟨rfl, ao, c, rfl⟩ | ⟨b, o, c, rfl, _, hc⟩
    · exact absurd (Nat.zero_le k) hk
    have h1 := hc k (by omega)
    obtain ⟨hz1, hz2⟩ := hz.2 k
    generalize zs.getD k 0 = z at *
    have hml := hz.1
    generalize zs.length = m at *
    have d1 : decide ((m : Int) ≤ (k : Int)) = false := decide_eq_false (by omega)
    have d2 : (k : Int) < (m : Int) := by omega
    clear hc hz
    by_cases hc : z < 0
    · go_enter Try.func95, Try.ntmps95
      go_wp2
      go_ret
      exact ⟨ret_int (by unfold pickN; rw [if_pos hc, ← Int.neg_tmod]; exact Int.tmod_eq_emod_of_nonneg (by omega)), rfl⟩
    · go_enter Try.func95, Try.ntmps95
      go_wp2
      go_ret
      exact ⟨ret_int (by unfold pickN; rw [if_neg (by omega)]), rfl⟩

/-- 'copy(a[p:p+k], b[p:p+k])' of two rows. -/
theorem copy_piece {w : World} {tv sv : Value} {t s : List UInt8} {g cap G C p k : Nat} (ht : rowOf w tv t) (hs : rowOf w sv s) (htv : tv = .slice (some ⟨g, 0, none⟩) t.length cap) (hsv : sv = .slice (some ⟨G, 0, none⟩) s.length C) (hl : t.length = s.length) (hpk : p + k ≤ t.length) :
    ∃ w', (Builtin.copy_ #[65, 65] 3 #[.slice (some ⟨G, p, none⟩) k (C - p), .slice (some ⟨g, p, none⟩) k (cap - p)]).run Try.prog w = .ok (goInt k) w' ∧ rowOf w' sv (s.take p ++ (t.drop p).take k ++ s.drop (p + k)) ∧ w.grownBy w' sv.ownBlock := by
  rcases ht.form with ⟨h1, h2⟩ | ⟨g0, cap0, cur, e1, k1, k2, k3, k4, k5⟩
  · rw [htv] at h1; simp at h1
  rcases hs.form with ⟨h1, h2⟩ | ⟨g', cap', cur', e2, m1, m2, m3, m4, m5⟩
  · rw [hsv] at h1; simp at h1
  obtain ⟨rfl, rfl⟩ : g = g0 ∧ cap = cap0 := by rw [htv] at e1; simpa using e1
  obtain ⟨rfl, rfl⟩ : G = g' ∧ C = cap' := by rw [hsv] at e2; simpa using e2
  have hlen : (Lib.byteCells ((t.drop p).take k)).length = k := by rw [Lib.byteCells_length, List.length_take, List.length_drop]; omega
  have hr := run_copy_row (P := Try.prog) w 65 65 3 5 G p k (C - p) ⟨g, p, none⟩ k (cap - p) cur' 5 (Lib.byteCells ((t.drop p).take k)) Try.underlying65 sizeU8' m1
    (by rw [hlen]; exact (Nat.min_self _).symm)
    (fun j v hj => by
      have hj' : j < k := by have := (List.getElem?_eq_some_iff.1 hj).1; rwa [hlen] at this
      have hadd : (⟨g, p, none⟩ : Addr).add j = ⟨g, p + j, none⟩ := by unfold Addr.add; split <;> simp_all
      rw [hadd, row_cell k1 k5 (p + j) (by omega), ← hj]
      simp [Lib.byteCells, List.getElem?_take_of_lt hj', List.getElem?_drop, List.getElem?_eq_getElem (show p + j < t.length by omega)])
    (by rw [hlen]; omega) (byteCells_one _)
  rw [hlen] at hr
  refine ⟨_, hr, row_new hs _ (by simp; omega) ?_, ?_⟩
  · intro G0 C0 c0 e1 e2 e3
    rw [hsv] at e1
    obtain ⟨rfl, rfl⟩ : G = G0 ∧ C = C0 := by simpa using e1
    rw [m1] at e2
    obtain rfl : cur' = c0 := by simpa using e2
    rw [setRow_at w G _ m1]
    have e4 : cur'.toList = Lib.byteCells s ++ cur'.toList.drop s.length := by rw [← m5, List.take_append_drop]
    have e5 : (Lib.byteCells s).length = s.length := Lib.byteCells_length s
    refine congrArg (fun z => some (Obj.cells z 5 (0, 0))) (congrArg List.toArray ?_)
    generalize cur'.toList.drop s.length = R at *
    rw [e4]
    rw [List.take_append_of_le_length (by omega), List.drop_append_of_le_length (by omega)]
    simp [Lib.byteCells, List.map_take, List.map_drop]
  · rw [hsv]
    refine ⟨rfl, rfl, rfl, by simp [World.setRow], fun j _ hk => ?_⟩
    show (w.setRow G _).heap[j]? = _
    have : j ≠ G := fun e => hk (by rw [e]; rfl)
    simp [World.setRow, Array.getElem?_modify, this.symm]

/-- what stays of a text: block by block what was written last, or what was sure. -/
def mix (ks : List Int) (t s : List UInt8) : List UInt8 := (List.range t.length).map fun j => if pickB ks (1 + j / 16) 2 = 1 then t.getD j 0 else s.getD j 0

theorem mix_length (ks : List Int) (t s : List UInt8) : (mix ks t s).length = t.length := by simp [mix]

def pPower (x : Dp.Dv) (ks : List Int) : Dp.Dv :=
  ⟨mix ks x.text x.safe, mix ks x.text x.safe, x.log.take (x.sure + (pickB ks 0 ((x.log.length : Int) - (x.sure : Int) + 1)).toNat), x.sure + (pickB ks 0 ((x.log.length : Int) - (x.sure : Int) + 1)).toNat, -1⟩

/-- while it is under way. -/
def mixT (ks : List Int) (t s : List UInt8) (a : Nat) : List UInt8 := (mix ks t s).take a ++ t.drop a

def mixS (ks : List Int) (t s : List UInt8) (a : Nat) : List UInt8 := (mix ks t s).take a ++ s.drop a

theorem mixT_length (ks : List Int) (t s : List UInt8) (a : Nat) : (mixT ks t s a).length = t.length := by simp [mixT, mix_length]; omega

theorem mixS_length (ks : List Int) (t s : List UInt8) (a : Nat) (h : t.length = s.length) : (mixS ks t s a).length = t.length := by simp [mixS, mix_length]; omega

theorem mix_block (ks : List Int) (t s : List UInt8) (i k : Nat) (h : t.length = s.length) (hk : k ≤ 16) (hpk : 16 * i + k ≤ t.length) :
    ((mix ks t s).drop (16 * i)).take k = if pickB ks (1 + i) 2 = 1 then (t.drop (16 * i)).take k else (s.drop (16 * i)).take k := by
  apply List.ext_getElem?
  intro j
  by_cases hj : j < k
  · have hd : (16 * i + j) / 16 = i := by omega
    have e : ((mix ks t s).drop (16 * i)).take k = ((mix ks t s).drop (16 * i)).take k := rfl
    rw [List.getElem?_take_of_lt hj, List.getElem?_drop]
    have hm : (mix ks t s)[16 * i + j]? = some (if pickB ks (1 + i) 2 = 1 then t.getD (16 * i + j) 0 else s.getD (16 * i + j) 0) := by
      unfold mix
      rw [List.getElem?_map, List.getElem?_range (by omega)]
      simp only [Option.map_some, hd]
    rw [hm]
    split
    · rw [List.getElem?_take_of_lt hj, List.getElem?_drop, List.getElem?_eq_getElem (by omega)]
      simp [List.getD, List.getElem?_eq_getElem (show 16 * i + j < t.length by omega)]
    · rw [List.getElem?_take_of_lt hj, List.getElem?_drop, List.getElem?_eq_getElem (by omega)]
      simp [List.getD, List.getElem?_eq_getElem (show 16 * i + j < s.length by omega)]
  · rw [List.getElem?_eq_none (by simp; omega), List.getElem?_eq_none (by split <;> simp <;> omega)]

theorem seg_next (l m : List UInt8) (a k : Nat) (ha : a + k ≤ l.length) (hm : m.length = l.length) : m.take (a + k) ++ l.drop (a + k) = (m.take a ++ l.drop a).take a ++ (m.drop a).take k ++ (m.take a ++ l.drop a).drop (a + k) := by
  have h1 : (m.take a).length = a := by simp; omega
  have e0 : (m.take a).drop (a + k) = [] := List.drop_eq_nil_of_le (by omega)
  rw [List.take_left' h1, List.drop_append, h1, e0, List.nil_append, List.drop_drop, List.take_add, show a + (a + k - a) = a + k by omega]

theorem mix_over (m l : List UInt8) (a b : Nat) (ha : l.length ≤ a) (hb : l.length ≤ b) (hm : m.length = l.length) : m.take a ++ l.drop a = m.take b ++ l.drop b := by
  rw [List.take_of_length_le (by omega), List.take_of_length_le (by omega), List.drop_eq_nil_of_le ha, List.drop_eq_nil_of_le hb]

/-- a block of what was written last stays: the rows then. -/
theorem mix_last (ks : List Int) (t s : List UInt8) (i k : Nat) (h : t.length = s.length) (hk : k ≤ 16) (hpk : 16 * i + k ≤ t.length) (hend : k = 16 ∨ 16 * i + k = t.length) (hp : pickB ks (1 + i) 2 = 1) :
    (mixS ks t s (16 * i)).take (16 * i) ++ ((mixT ks t s (16 * i)).drop (16 * i)).take k ++ (mixS ks t s (16 * i)).drop (16 * i + k) = mixS ks t s (16 * i + 16) ∧ mixT ks t s (16 * i) = mixT ks t s (16 * i + 16) := by
  have hb := mix_block ks t s i k h hk hpk
  rw [if_pos hp] at hb
  have hml := mix_length ks t s
  have h1 : ((mix ks t s).take (16 * i)).length = 16 * i := by simp; omega
  have hd : (mixT ks t s (16 * i)).drop (16 * i) = t.drop (16 * i) := by unfold mixT; rw [List.drop_left' h1]
  have e1 : mixS ks t s (16 * i + 16) = mixS ks t s (16 * i + k) := by
    rcases hend with rfl | he
    · rfl
    · exact mix_over _ _ _ _ (by omega) (by omega) (by omega)
  have e2 : mixT ks t s (16 * i + 16) = mixT ks t s (16 * i + k) := by
    rcases hend with rfl | he
    · rfl
    · exact mix_over _ _ _ _ (by omega) (by omega) (by omega)
  rw [hd, e1, e2, ← hb]
  refine ⟨(seg_next s (mix ks t s) (16 * i) k (by omega) (by omega)).symm, ?_⟩
  show _ = (mix ks t s).take (16 * i + k) ++ t.drop (16 * i + k)
  rw [seg_next t (mix ks t s) (16 * i) k (by omega) (by omega), hb]
  show mixT ks t s (16 * i) = (mixT ks t s (16 * i)).take (16 * i) ++ _ ++ (mixT ks t s (16 * i)).drop (16 * i + k)
  rw [← hd, ← List.take_add, List.take_append_drop]

/-- a block of what was sure stays. -/
theorem mix_sure (ks : List Int) (t s : List UInt8) (i k : Nat) (h : t.length = s.length) (hk : k ≤ 16) (hpk : 16 * i + k ≤ t.length) (hend : k = 16 ∨ 16 * i + k = t.length) (hp : pickB ks (1 + i) 2 ≠ 1) :
    (mixT ks t s (16 * i)).take (16 * i) ++ ((mixS ks t s (16 * i)).drop (16 * i)).take k ++ (mixT ks t s (16 * i)).drop (16 * i + k) = mixT ks t s (16 * i + 16) ∧ mixS ks t s (16 * i) = mixS ks t s (16 * i + 16) := by
  have hb := mix_block ks t s i k h hk hpk
  rw [if_neg hp] at hb
  have hml := mix_length ks t s
  have h1 : ((mix ks t s).take (16 * i)).length = 16 * i := by simp; omega
  have hd : (mixS ks t s (16 * i)).drop (16 * i) = s.drop (16 * i) := by unfold mixS; rw [List.drop_left' h1]
  have e1 : mixS ks t s (16 * i + 16) = mixS ks t s (16 * i + k) := by
    rcases hend with rfl | he
    · rfl
    · exact mix_over _ _ _ _ (by omega) (by omega) (by omega)
  have e2 : mixT ks t s (16 * i + 16) = mixT ks t s (16 * i + k) := by
    rcases hend with rfl | he
    · rfl
    · exact mix_over _ _ _ _ (by omega) (by omega) (by omega)
  rw [hd, e1, e2, ← hb]
  refine ⟨(seg_next t (mix ks t s) (16 * i) k (by omega) (by omega)).symm, ?_⟩
  show _ = (mix ks t s).take (16 * i + k) ++ s.drop (16 * i + k)
  rw [seg_next s (mix ks t s) (16 * i) k (by omega) (by omega), hb]
  show mixS ks t s (16 * i) = (mixS ks t s (16 * i)).take (16 * i) ++ _ ++ (mixS ks t s (16 * i)).drop (16 * i + k)
  rw [← hd, ← List.take_add, List.take_append_drop]

end Go.Proofs.Ytjjmcnippjpclaa

namespace Go.Proofs.Ytjjmcnippjpclaa

open Go.RowKit

theorem bpick0 (rv : Value) (zs : List Int) (n : Int) (w : World) (h : Hid (numsAt w rv zs)) (hz : numsOk zs) (hn : 0 < n) (hn2 : n ≤ 9223372036854775807) :
    Calls Try.prog 95 #[rv, .int .i64 0, .int .i64 n] w fun e w' => e = .returned (.int .i64 (pickB zs 0 n)) ∧ w' = w := bpick_any rv zs 0 n w h hz hn hn2

set_option maxRecDepth 100000 in
set_option maxHeartbeats 2000000 in
theorem power_any (D : Nat) (tv sv : Value) (x : Dp.Dv) (rv : Value) (zs : List Int) (w : World) (hts : x.text.length = x.safe.length) (hb : x.text.length ≤ 140737488355328) (hsl : x.sure ≤ x.log.length) (hll : x.log.length ≤ 4611686018427387904)
    (hz : Hid (numsOk zs)) (h : Hid (devAt D tv sv x w)) (hr : Hid (∀ v, kept3 D tv.ownBlock sv.ownBlock w v → numsAt v rv zs)) :
    Calls Try.prog 55 #[.pointer (some ⟨D, 0, none⟩), rv] w fun e w' => e = .returned (.tuple #[]) ∧ devAt D tv sv (pPower x zs) w' ∧ kept3 D tv.ownBlock sv.ownBlock w w' := by
  obtain ⟨-, -, c2, c3, -, fz⟩ := h.out.cells
  have f2 := fz 2
  have f3 := fz 3
  clear fz
  obtain ⟨ao, ln, cp, rfl⟩ : ∃ ao ln cp, rv = .slice ao ln cp := by
    rcases hr.out w (kept3.refl _ _ _ _) with ⟨_, ao, c, h⟩ | ⟨b, o, c, h, _⟩
    · exact ⟨_, _, _, h⟩
    · exact ⟨_, _, _, h⟩
  have hp0 := pickB_bd zs 0 ((x.log.length : Int) - (x.sure : Int) + 1) (by omega)
  have HP : Hid (∀ v, v.heap = w.heap → Calls Try.prog 95 #[.slice ao ln cp, .int .i64 0, .int .i64 ((x.log.length : Int) - (x.sure : Int) + 1)] v fun e w' => e = .returned (.int .i64 (pickB zs 0 ((x.log.length : Int) - (x.sure : Int) + 1))) ∧ w' = v) := fun v hv => bpick0 _ zs _ _ ((hr.out w (kept3.refl _ _ _ _)).of_blocks (fun b _ _ _ _ _ => by rw [hv]) (by rw [hv]; exact Nat.le_refl _)) hz.out (by omega) (by omega)
  obtain ⟨P, hP⟩ : ∃ P : Nat, pickB zs 0 ((x.log.length : Int) - (x.sure : Int) + 1) = (P : Int) := ⟨_, (Int.toNat_of_nonneg hp0.1).symm⟩
  have hpow : Hid (pPower x zs = ⟨mix zs x.text x.safe, mix zs x.text x.safe, x.log.take (x.sure + P), x.sure + P, -1⟩) := by show _ = _; unfold pPower; rw [hP]; rfl
  rw [hP] at hp0
  have HP' : Hid (∀ v, v.heap = w.heap → Calls Try.prog 95 #[.slice ao ln cp, .int .i64 0, .int .i64 ((x.log.length : Int) - (x.sure : Int) + 1)] v fun e w' => e = .returned (.int .i64 (P : Int)) ∧ w' = v) := by
    show ∀ v, _
    intro v hv
    have := HP.out v hv
    rwa [hP] at this
  clear HP hP
  have hG : (⟨x.log.toArray⟩ : ByteArray).size = x.log.length := strSize _
  have HS : Hid (∀ q, devAt D tv sv { x with log := x.log.take (x.sure + P), sure := x.sure + P } (((w.drewN q).setCell ⟨D, 2, none⟩ (.string ((⟨x.log.toArray⟩ : ByteArray).extract 0 (x.sure + P)))).setCell ⟨D, 3, none⟩ (.int .i64 ((x.sure + P : Nat) : Int)))) := by
    show ∀ q, _
    intro q
    rw [str_take]
    exact ((h.out.drewN q).setLog (x.log.take (x.sure + P))).setSure (x.sure + P)
  generalize (⟨x.log.toArray⟩ : ByteArray) = G at *
  rw [← hG] at hll hsl hp0 HP'
  clear hG
  generalize x.sure = U at *
  have e1 : IntKind.i64.wrap ((G.size : Int) - (U : Int)) = (G.size : Int) - (U : Int) := by rw [IntKind.wrap_i64]; omega
  have e2 : IntKind.i64.wrap ((G.size : Int) - (U : Int) + 1) = (G.size : Int) - (U : Int) + 1 := by rw [IntKind.wrap_i64]; omega
  have e3 : IntKind.i64.wrap ((U : Int) + (P : Int)) = (U : Int) + (P : Int) := by rw [IntKind.wrap_i64]; omega
  go_enter Try.func55, Try.ntmps55
  go_wp2_with fail
  go_quiet ((go_at_call 95; refine Calls.quiet_of_same (HP'.out _ rfl)))
  go_wp2_with fail
  have HS0 := HS.out nq
  have HK0 : kept3 D tv.ownBlock sv.ownBlock w (((w.drewN nq).setCell ⟨D, 2, none⟩ (.string (G.extract 0 (U + P)))).setCell ⟨D, 3, none⟩ (.int .i64 ((U + P : Nat) : Int))) := (((kept3.refl _ _ _ _).drewN nq).setD _ _).setD _ _
  rw [Int.natCast_add] at HS0 HK0
  clear HS HP' c2 c3 f2 f3 e1 e2 e3 hll hsl hp0
  generalize ((w.drewN nq).setCell ⟨D, 2, none⟩ (.string (G.extract 0 (U + P)))).setCell ⟨D, 3, none⟩ (.int .i64 ((U : Int) + (P : Int))) = v0 at *
  clear h
  generalize x.log.take (U + P) = Lg at *
  generalize U + P = UP at *
  have hT := fun i => mixT_length zs x.text x.safe i
  have hSl := fun i => mixS_length zs x.text x.safe i hts
  have HTS : Hid (x.text.length = x.safe.length) := hts
  have HM : Hid (∃ m, x.text.length = m) := ⟨_, rfl⟩
  clear hts
  obtain ⟨m, hm⟩ := HM.out
  rw [hm] at hT hSl hb
  have HM2 : Hid (x.text.length = m) := hm
  clear HM hm
  go_loopw [5] (fun y wr => ∃ i : Nat, y = .int .i64 ((16 * i : Nat) : Int) ∧ 16 * i ≤ m + 15 ∧ Hid (devAt D tv sv ⟨mixT zs x.text x.safe (16 * i), mixS zs x.text x.safe (16 * i), Lg, UP, x.life⟩ wr) ∧ Hid (kept3 D tv.ownBlock sv.ownBlock w wr)) (fun y _ => m + 16 - (intOf y).toNat)
  case atStart =>
    refine ⟨0, rfl, by omega, ?_, HK0⟩
    show devAt _ _ _ _ _
    have e1 : mixT zs x.text x.safe (16 * 0) = x.text := by simp [mixT]
    have e2 : mixS zs x.text x.safe (16 * 0) = x.safe := by simp [mixS]
    rw [e1, e2]
    exact HS0
  case round =>
    clear HS0 HK0
    obtain ⟨i, rfl, hi, hdev, hkep⟩ := hrel
    obtain ⟨k0, k1, -, -, k4, fz⟩ := hdev.out.cells
    have f4 := fz 4
    clear fz
    by_cases hlt : 16 * i < m
    · have hnil : ∀ l : List UInt8, l.length = m → l ≠ [] := fun l hl e => by rw [e] at hl; simp at hl; omega
      obtain ⟨g, cap, ht1, ht2, ht3⟩ : ∃ g cap, tv = .slice (some ⟨g, 0, none⟩) m cap ∧ m ≤ cap ∧ cap ≤ 9223372036854775807 := by
        rcases hdev.out.text.form with ⟨_, h2⟩ | ⟨g, cap, cur, h1, -, h2, h3, -⟩
        · exact absurd h2 (hnil _ (hT _))
        · exact ⟨g, cap, by rw [h1]; simp [hT], by simpa [hT] using h2, by unfold maxLen at h3; omega⟩
      obtain ⟨g', cap', hs1, hs2, hs3⟩ : ∃ g cap, sv = .slice (some ⟨g, 0, none⟩) m cap ∧ m ≤ cap ∧ cap ≤ 9223372036854775807 := by
        rcases hdev.out.safe.form with ⟨_, h2⟩ | ⟨g, cap, cur, h1, -, h2, h3, -⟩
        · exact absurd h2 (hnil _ (hSl _))
        · exact ⟨g, cap, by rw [h1]; simp [hSl], by simpa [hSl] using h2, by unfold maxLen at h3; omega⟩
      obtain ⟨k, hk1, hk2, hk3, hk4⟩ : ∃ k : Nat, min (((16 * i : Nat) : Int) + 16) (m : Int) = ((16 * i + k : Nat) : Int) ∧ 1 ≤ k ∧ k ≤ 16 ∧ (k = 16 ∨ 16 * i + k = m) := ⟨min (16 * i + 16) m - 16 * i, by omega, by omega, by omega, by omega⟩
      rw [ht1] at k0
      rw [hs1] at k1
      have HPk : Calls Try.prog 95 #[.slice ao ln cp, .int .i64 (1 + (i : Int)), .int .i64 2] wr fun e w' => e = .returned (.int .i64 (pickB zs (1 + i) 2)) ∧ w' = wr := by
        have := bpick_any (.slice ao ln cp) zs (1 + i) 2 wr (hr.out wr hkep.out) hz.out (by omega) (by omega)
        rw [Int.natCast_add] at this
        exact this
      have hpb := pickB_bd zs (1 + i) 2 (by omega)
      have HL : Hid (pickB zs (1 + i) 2 = 1 → _) := mix_last zs x.text x.safe i k HTS.out hk3 (by rw [HM2.out]; omega) (by rw [HM2.out]; exact hk4)
      have HSu : Hid (pickB zs (1 + i) 2 ≠ 1 → _) := mix_sure zs x.text x.safe i k HTS.out hk3 (by rw [HM2.out]; omega) (by rw [HM2.out]; exact hk4)
      have hdv : (((16 * i : Nat) : Int)) / 16 = (i : Int) := by omega
      obtain ⟨w1, hcp1, hrow1, hg1⟩ := copy_piece (p := 16 * i) (k := k) (hdev.out.drewN 1).text (hdev.out.drewN 1).safe (by rw [hT]; exact ht1) (by rw [hSl]; exact hs1) (by rw [hT, hSl]) (by rw [hT]; omega)
      obtain ⟨w2, hcp2, hrow2, hg2⟩ := copy_piece (p := 16 * i) (k := k) (hdev.out.drewN 1).safe (hdev.out.drewN 1).text (by rw [hSl]; exact hs1) (by rw [hT]; exact ht1) (by rw [hT, hSl]) (by rw [hSl]; omega)
      rw [show wr.drewN 1 = wr.drew from rfl] at hcp1 hcp2 hg1 hg2
      have HD1 : Hid (pickB zs (1 + i) 2 = 1 → devAt D tv sv ⟨mixT zs x.text x.safe (16 * (i + 1)), mixS zs x.text x.safe (16 * (i + 1)), Lg, UP, x.life⟩ w1) := fun hp => by
        obtain ⟨h1, h2⟩ := HL.out hp
        rw [show 16 * (i + 1) = 16 * i + 16 by omega, ← h2, ← h1]
        exact (hdev.out.drewN 1).newSafe hg1 hrow1
      have HD2 : Hid (pickB zs (1 + i) 2 ≠ 1 → devAt D tv sv ⟨mixT zs x.text x.safe (16 * (i + 1)), mixS zs x.text x.safe (16 * (i + 1)), Lg, UP, x.life⟩ w2) := fun hp => by
        obtain ⟨h1, h2⟩ := HSu.out hp
        rw [show 16 * (i + 1) = 16 * i + 16 by omega, ← h2, ← h1]
        exact (hdev.out.drewN 1).newText hg2 hrow2
      have HK1 : Hid (kept3 D tv.ownBlock sv.ownBlock w w1) := (hkep.out.drewN 1).grown hg1
      have HK2 : Hid (kept3 D tv.ownBlock sv.ownBlock w w2) := (hkep.out.drewN 1).grownT hg2
      clear hrow1 hrow2 hg1 hg2 HL HSu
      have HA2 : Hid (16 * (i + 1) = 16 * i + 16) := by show _ = _; omega
      generalize hpp : pickB zs (1 + i) 2 = pb at *
      generalize hA : 16 * i = A at *
      have d1 : decide ((A : Int) < (m : Int)) = true := decide_eq_true (by omega)
      have e1 : wrap64 ((A : Int) + 16) = (A : Int) + 16 := by unfold wrap64; omega
      have e2 : wrap64 (1 + (i : Int)) = 1 + (i : Int) := by unfold wrap64; omega
      have HAA : Hid (16 * i = A) := hA
      clear hA hpp
      have g1 : (0 : Int) ≤ (A : Int) := by omega
      have g2 : (A : Int) ≤ (A : Int) + (k : Int) := by omega
      have g3 : (A : Int) + (k : Int) ≤ (cap : Int) := by omega
      have g4 : (A : Int) + (k : Int) ≤ (cap' : Int) := by omega
      have g5 : ((A : Int) + (k : Int)).toNat = A + k := by omega
      have g6 : IntKind.i64.wrap ((A : Int) + (k : Int)) = (A : Int) + (k : Int) := by rw [IntKind.wrap_i64]; omega
      clear ht1 hs1
      by_cases hp : pb = 1
      · subst hp
        go_wp2_with fail
        refine HPk.mono ?_
        rintro e v1 ⟨rfl, h0⟩
        rw [h0]
        clear h0 v1
        clear hcp2
        go_wp2_with fail
        go_region
        go_wp2_with fail
        exact ⟨⟨i + 1, by rw [HA2.out]; go_num, by rw [HA2.out]; omega, HD1.out (by trivial), HK1⟩, by simp [intOf]; omega⟩
      · obtain rfl : pb = 0 := by omega
        clear hp
        go_wp2_with fail
        refine HPk.mono ?_
        rintro e v1 ⟨rfl, h0⟩
        rw [h0]
        clear h0 v1
        clear hcp1
        go_wp2_with fail
        go_region
        go_wp2_with fail
        exact ⟨⟨i + 1, by rw [HA2.out]; go_num, by rw [HA2.out]; omega, HD2.out (by decide), HK2⟩, by simp [intOf]; omega⟩
    · have d1 : decide (((16 * i : Nat) : Int) < (m : Int)) = false := decide_eq_false (by omega)
      obtain ⟨ta, tc, ht⟩ : ∃ a c, tv = .slice a m c := by
        rcases hdev.out.text.form with ⟨h1, h2⟩ | ⟨g, cap, cur, h1, -⟩
        · have := hT (16 * i); simp only at h2; rw [h2] at this
          exact ⟨none, 0, by rw [h1, ← this]; rfl⟩
        · exact ⟨some ⟨g, 0, none⟩, cap, by rw [h1]; simp [hT]⟩
      rw [ht] at k0
      clear ht
      have HF : Hid (devAt D tv sv (pPower x zs) (wr.setCell ⟨D, 4, none⟩ (.int .i64 (-1)))) := by
        show devAt _ _ _ _ _
        have h1 := hdev.out.setLife (-1)
        have e1 : mixT zs x.text x.safe (16 * i) = mix zs x.text x.safe := by unfold mixT; rw [List.take_of_length_le (by rw [mix_length, HM2.out]; omega), List.drop_eq_nil_of_le (by rw [HM2.out]; omega), List.append_nil]
        have e2 : mixS zs x.text x.safe (16 * i) = mix zs x.text x.safe := by unfold mixS; rw [List.take_of_length_le (by rw [mix_length, HM2.out]; omega), List.drop_eq_nil_of_le (by rw [← HTS.out, HM2.out]; omega), List.append_nil]
        rw [hpow.out]
        rw [e1, e2] at h1
        exact h1
      go_wp2_with fail
      go_returns
      exact ⟨rfl, HF.out, hkep.out.setD _ _⟩

end Go.Proofs.Ytjjmcnippjpclaa
