/-
  The walk of Does.
-/
import Derived.Test.YtjjmcnippjpclaaDoesTwo
import Derived.Test.YtjjmcnippjpclaaDoesLives
namespace Go.Proofs.Ytjjmcnippjpclaa

open Go.RowKit

set_option maxRecDepth 100000 in
set_option maxHeartbeats 4000000 in
theorem doesAll_walk (size : Int) (old other : ByteArray) (a : Option Addr) (c : Nat) (ops : List Opv) (w : World) (hold : old.size ≤ 140737488355328) (hoth : other.size ≤ 140737488355328) (hops : ops.length ≤ 2199023255552) (hP : Hid (∀ q ∈ ops, q.P.size ≤ 140737488355328)) (hst : Hid (opsOld w a ops)) :
    Calls Try.prog 7 #[.int .i64 size, .string old, .string other, .slice a ops.length c] w fun e w' => e = .returned (.bool true) ∧ Below w.heap.size w w' := by
  have HLv := livesD_any w
  obtain ⟨N1, hN1⟩ : ∃ N : Nat, max (min size 9000) (old.size : Int) = (N : Int) := ⟨(max (min size 9000) (old.size : Int)).toNat, by omega⟩
  have hN1b : N1 ≤ 140737488355328 := by omega
  have hN1o : old.size ≤ N1 := by omega
  have HNew1 : Hid (∀ v, Calls Try.prog 28 #[.int .i64 (min size 9000), .string old] v fun e w' => ∃ D tv sv, e = .returned (.pointer (some ⟨D, 0, none⟩)) ∧ devAt D tv sv ⟨padded old.data.toList N1, padded old.data.toList N1, [], 0, -1⟩ w' ∧ Below v.heap.size v w' ∧ v.heap.size ≤ D ∧ (∀ k, tv.ownBlock = some k → v.heap.size ≤ k) ∧ (∀ k, sv.ownBlock = some k → v.heap.size ≤ k)) := fun v => new_any (min size 9000) old N1 v hN1 (by omega)
  have HNew2 : Hid (∀ v, Calls Try.prog 28 #[.int .i64 0, .string other] v fun e w' => ∃ D tv sv, e = .returned (.pointer (some ⟨D, 0, none⟩)) ∧ devAt D tv sv ⟨padded other.data.toList other.size, padded other.data.toList other.size, [], 0, -1⟩ w' ∧ Below v.heap.size v w' ∧ v.heap.size ≤ D ∧ (∀ k, tv.ownBlock = some k → v.heap.size ≤ k) ∧ (∀ k, sv.ownBlock = some k → v.heap.size ≤ k)) := fun v => new_any 0 other other.size v (by omega) (by omega)
  have l1 : (padded old.data.toList N1).length = N1 := padded_length _ _ (by rw [data_len]; exact hN1o)
  have l2 : (padded other.data.toList other.size).length = other.size := padded_length _ _ (by rw [data_len]; exact Nat.le_refl _)
  have O1 : Hid (okSide N1 1 0 ⟨padded old.data.toList N1, padded old.data.toList N1, [], 0, -1⟩ [⟨[], [], false⟩]) := by have := ok_new (padded old.data.toList N1); rw [l1] at this; exact this
  have O2 : Hid (okSide other.size 1 0 ⟨padded other.data.toList other.size, padded other.data.toList other.size, [], 0, -1⟩ [⟨[], [], false⟩]) := by have := ok_new (padded other.data.toList other.size); rw [l2] at this; exact this
  generalize (⟨padded old.data.toList N1, padded old.data.toList N1, [], 0, -1⟩ : Dp.Dv) = y1 at *
  generalize (⟨padded other.data.toList other.size, padded other.data.toList other.size, [], 0, -1⟩ : Dp.Dv) = y2 at *
  clear l1 l2 hN1 hN1o
  go_enter Try.func7, Try.ntmps7
  go_wp2_with fail
  refine HLv.mono ?_
  rintro e v1 ⟨rfl, b1⟩
  go_wp2_with fail
  refine (do_nil v1).mono ?_
  rintro e v2 ⟨rfl, h2⟩
  rw [h2]
  clear h2 v2
  go_wp2_with fail
  refine (HNew1.out v1).mono ?_
  rintro e v3 ⟨D1, tv1, sv1, rfl, h3, b3, f1, f2, f3⟩
  obtain ⟨n3, c3⟩ := side_new h3 _ rfl
  have N3 : Hid _ := n3
  have C3 : Hid _ := c3
  have HA3 : Hid (∀ k, sideBlk (v3.heap.size + 1) D1 tv1 sv1 (.slice (some ⟨v3.heap.size, 0, none⟩) 1 1) k → w.heap.size ≤ k) := fun k hk => by
    have s1 := b1.size
    have s3 := b3.size
    rcases hk with g | g | g | g | g
    · omega
    · omega
    · have := f2 k g; omega
    · have := f3 k g; omega
    · have := Option.some.inj g; simp at this; omega
  have HB3 : Hid (Below w.heap.size w ((v3.alloc (Obj.cells #[.string ⟨#[]⟩, .string ⟨#[]⟩, .bool false] 54)).alloc (Obj.cells #[.pointer (some ⟨D1, 0, none⟩), .slice (some ⟨v3.heap.size, 0, none⟩) 1 1] 57))) := (b1.trans (b3.mono b1.size)).trans (c3.mono (by have := b1.size; have := b3.size; omega))
  clear n3 c3 h3 b1 b3 f1 f2 f3
  go_wp2_with fail
  generalize ((v3.alloc (Obj.cells #[.string ⟨#[]⟩, .string ⟨#[]⟩, .bool false] 54)).alloc (Obj.cells #[.pointer (some ⟨D1, 0, none⟩), .slice (some ⟨v3.heap.size, 0, none⟩) 1 1] 57)) = v4 at *
  generalize hsa : v3.heap.size + 1 = sa at *
  refine (HNew2.out v4).mono ?_
  rintro e v5 ⟨D2, tv2, sv2, rfl, h5, b5, f1, f2, f3⟩
  obtain ⟨n5, c5⟩ := side_new h5 _ rfl
  have N5 : Hid _ := n5
  have HT5 : Hid (twoAt w sa D1 tv1 sv1 y1 (.slice (some ⟨v3.heap.size, 0, none⟩) 1 1) [⟨[], [], false⟩] (v5.heap.size + 1) D2 tv2 sv2 y2 (.slice (some ⟨v5.heap.size, 0, none⟩) 1 1) [⟨[], [], false⟩] N1 other.size 1 0 ((v5.alloc (Obj.cells #[.string ⟨#[]⟩, .string ⟨#[]⟩, .bool false] 54)).alloc (Obj.cells #[.pointer (some ⟨D2, 0, none⟩), .slice (some ⟨v5.heap.size, 0, none⟩) 1 1] 57))) := by
    have s4 := HB3.out.size
    have s5 := b5.size
    have hb : ∀ k, sideBlk (v5.heap.size + 1) D2 tv2 sv2 (.slice (some ⟨v5.heap.size, 0, none⟩) 1 1) k → v4.heap.size ≤ k := fun k hk => by
      rcases hk with g | g | g | g | g
      · omega
      · omega
      · exact f2 k g
      · exact f3 k g
      · have := Option.some.inj g; simp at this; omega
    have hbb : Below v4.heap.size v4 ((v5.alloc (Obj.cells #[.string ⟨#[]⟩, .string ⟨#[]⟩, .bool false] 54)).alloc (Obj.cells #[.pointer (some ⟨D2, 0, none⟩), .slice (some ⟨v5.heap.size, 0, none⟩) 1 1] 57)) := b5.trans (c5.mono s5)
    exact ⟨N3.out.below hbb, n5, O1.out, O2.out, fun k h1 h2 => by have := N3.out.lt_all h1; have := hb k h2; omega, HA3.out, fun k hk => by have := hb k hk; omega, HB3.out.trans (hbb.mono s4)⟩
  clear n5 c5 h5 b5 f1 f2 f3 N3 C3 N5 HA3 HB3 O1 O2 HNew1 HNew2
  go_wp2_with fail
  generalize ((v5.alloc (Obj.cells #[.string ⟨#[]⟩, .string ⟨#[]⟩, .bool false] 54)).alloc (Obj.cells #[.pointer (some ⟨D2, 0, none⟩), .slice (some ⟨v5.heap.size, 0, none⟩) 1 1] 57)) = v6 at *
  generalize v5.heap.size + 1 = sb at *
  have HT0 : Hid (twoEx w sa sb N1 other.size (0 + 1) (0 * 1100000) v6) := ⟨_, _, _, _, _, _, _, _, _, _, _, _, HT5.out⟩
  clear HT5 hsa
  go_loopw [13] (fun xi wr => ∃ i : Nat, xi = .int .i64 i ∧ i ≤ ops.length ∧ Hid (twoEx w sa sb N1 other.size (i + 1) (i * 1100000) wr)) (fun xi _ => ops.length - (intOf xi).toNat)
  case atStart => exact ⟨0, rfl, Nat.zero_le _, HT0.out⟩
  case round =>
    obtain ⟨i, rfl, hi, htw⟩ := hrel
    by_cases hlt : i < ops.length
    · obtain ⟨q, hq⟩ : ∃ q, ops[i]? = some q := ⟨ops[i], List.getElem?_eq_getElem hlt⟩
      have hin : q ∈ ops := List.mem_of_getElem? hq
      obtain ⟨D1, tv1, sv1, x1, lv1, S1, D2, tv2, sv2, x2, lv2, S2, tw⟩ := htw.out
      have TW : Hid _ := tw
      have HBel : Hid (Below w.heap.size w wr) := tw.below
      obtain ⟨b, o, ha, hbl, hop⟩ : ∃ b o, a = some ⟨b, o, none⟩ ∧ b < w.heap.size ∧ opAt w b (o + i * 5) q := by
        rcases hst.out with h | ⟨b, o, h1, h2, h3⟩
        · rw [h] at hlt; simp at hlt
        · exact ⟨b, o, h1, h2, h3 i q hq⟩
      subst ha
      have hcl : ∀ m v, w.cell? ⟨b, m, none⟩ = some v → wr.cell? ⟨b, m, none⟩ = some v := fun m v hv => by rw [HBel.out.cell hbl]; exact hv
      have k0 := hcl _ _ hop.k
      have k1 := hcl _ _ hop.t
      have k2 := hcl _ _ hop.p
      have k3 := hcl _ _ hop.a
      have k4 := hcl _ _ hop.n
      have hi0 : (i : Int) < (ops.length : Int) := by omega
      have hPq := hP.out q hin
      have HNm : Hid (numsAt wr q.nv q.zs) := hop.nums.of_blocks (fun B _ _ _ _ hl => HBel.out.block B hl) HBel.out.size
      have HNo : Hid (numsOk q.zs) := hop.ok
      have hca := hop.ca
      have HFar : Hid (q.zs ≠ [] → ∀ B a n c, q.nv = .slice (some ⟨B, a, none⟩) n c → B < w.heap.size) := fun hne B a n c e => by
        rcases hop.nums with ⟨h1, _⟩ | ⟨b', o', c', h1, h2, _⟩
        · exact absurd h1 hne
        · rw [h1] at e; simp at e; omega
      have HStA : Hid (Calls Try.prog 29 #[.pointer (some ⟨sa, 0, none⟩), .agg #[.int .i64 q.kd, .bool q.ot, .string q.P, .int .i64 q.ca, q.nv]] wr fun e w' => e = .returned (.bool true) ∧ twoEx w sa sb N1 other.size (i + 1 + 1) ((i + 1) * 1100000) w') := by
        refine (step_any sa D1 tv1 sv1 x1 lv1 S1 q.kd q.ot q.P q.ca q.nv q.zs N1 (i + 1) (i * 1100000) wr hPq (by omega) (by omega) (by omega) hca HNo HNm (fun hne B a n c e hs => by have := HFar.out hne B a n c e; have := TW.out.na B hs; omega) TW.out.a TW.out.oa).mono ?_
        rintro e w' ⟨h1, h2⟩
        refine ⟨h1, ?_⟩
        rw [show (i + 1) * 1100000 = i * 1100000 + 1100000 by omega]
        exact TW.out.stepA h2
      have HStB : Hid (Calls Try.prog 29 #[.pointer (some ⟨sb, 0, none⟩), .agg #[.int .i64 q.kd, .bool q.ot, .string q.P, .int .i64 q.ca, q.nv]] wr fun e w' => e = .returned (.bool true) ∧ twoEx w sa sb N1 other.size (i + 1 + 1) ((i + 1) * 1100000) w') := by
        refine (step_any sb D2 tv2 sv2 x2 lv2 S2 q.kd q.ot q.P q.ca q.nv q.zs other.size (i + 1) (i * 1100000) wr hPq (by omega) (by omega) (by omega) hca HNo HNm (fun hne B a n c e hs => by have := HFar.out hne B a n c e; have := TW.out.nb B hs; omega) TW.out.b TW.out.ob).mono ?_
        rintro e w' ⟨h1, h2⟩
        refine ⟨h1, ?_⟩
        rw [show (i + 1) * 1100000 = i * 1100000 + 1100000 by omega]
        exact TW.out.stepB h2
      obtain ⟨na, nl, nc, hnv⟩ : ∃ p l c, q.nv = .slice p l c := by
        rcases hop.nums with ⟨_, ao, c, h⟩ | ⟨b, o, c, h, _⟩
        · exact ⟨_, _, _, h⟩
        · exact ⟨_, _, _, h⟩
      obtain ⟨kd, ot, P, ca, nv, zs⟩ := q
      dsimp only at *
      subst hnv
      clear hcl hop hq hin tw hca hPq HFar HNm HNo TW HBel
      cases ot with
      | true =>
        go_wp2_with fail
        refine HStB.out.mono ?_
        rintro e w7 ⟨rfl, h7⟩
        have H7 : Hid _ := h7
        clear h7
        go_wp2_with fail
        exact ⟨⟨i + 1, by go_num, by omega, H7.out⟩, by simp [intOf]; omega⟩
      | false =>
        go_wp2_with fail
        refine HStA.out.mono ?_
        rintro e w7 ⟨rfl, h7⟩
        have H7 : Hid _ := h7
        clear h7
        go_wp2_with fail
        exact ⟨⟨i + 1, by go_num, by omega, H7.out⟩, by simp [intOf]; omega⟩
    · have hi0 : ¬ (i : Int) < (ops.length : Int) := by omega
      obtain ⟨D1, tv1, sv1, x1, lv1, S1, D2, tv2, sv2, x2, lv2, S2, tw⟩ := htw.out
      have HBel : Hid (Below w.heap.size w wr) := tw.below
      clear tw
      go_wp2_with fail
      go_ret
      exact ⟨rfl, HBel.out⟩

end Go.Proofs.Ytjjmcnippjpclaa
