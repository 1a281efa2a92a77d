/-
  The walk of cut: a new text is said by steps.
-/
import Derived.Test.YtlijlmjgnhheaaaCutPlain
namespace Go.Proofs.Ytlijlmjgnhheaaa
open Go.RowKit

theorem row_copy {q : World} {B : Nat} {v : Value} {n : ByteArray} {l : List _root_.Pl.Sp} {t z f : Nat} (h : q.ownsRow B 40 5 v (l.length + 1) (spCells n l ++ [.int .i64 3, .int .i64 t, .int .i64 z, .string ⟨#[]⟩, .int .i64 f])) :
    q.ownsRow B 40 5 v (l ++ [(⟨t, z, some f⟩ : _root_.Pl.Sp)]).length (spCells n (l ++ [⟨t, z, some f⟩])) := by
  rw [spCells_copy, List.length_append]; exact h

/-- a list that says the new text up to a place. -/
def cutAt (o n : ByteArray) (K : Nat) (w : World) (v : Value) (left here : Nat) (q : World) : Prop :=
  ∃ l, CutInv o n K l left here ∧ q.ownsRow w.heap.size 40 5 v l.length (spCells n l) ∧ Below w.heap.size w q

theorem cutAt_slice {o n : ByteArray} {K : Nat} {w : World} {v : Value} {left here : Nat} {q : World} (h : cutAt o n K w v left here q) : ∃ ao cn cp, v = .slice ao cn cp := by
  obtain ⟨l, _, hw, _⟩ := h
  rcases hw.2 with ⟨hv, hz⟩ | ⟨g, cap, cur, hv, _⟩
  · exact ⟨none, 0, 0, hv⟩
  · exact ⟨_, _, _, hv⟩

theorem below_grown {w u u' : World} {v : Value} {n k : Nat} {t : TypeId} {xs : List Value} (h : u.ownsRow w.heap.size t n v k xs) (hb : Below w.heap.size w u) (hg : u.grownBy u' v.ownBlock) : Below w.heap.size w u' :=
  hb.grown hg hb.size (fun j hj => (h.lt j hj).1)

set_option maxRecDepth 100000 in
set_option maxHeartbeats 4000000 in
theorem cutM_any (o n : ByteArray) (w : World) (ho : o.size ≤ 4000) (hn : n.size ≤ 4000) :
    Calls Try.prog 43 #[.string o, .string n] w fun e w' => ∃ v l, e = .returned v ∧ IsCut o n l ∧ w'.ownsRow w.heap.size 40 5 v l.length (spCells n l) ∧ Below w.heap.size w w' := by
  obtain ⟨i40, hi, hzz⟩ := Option.map_eq_some_iff.1 info40
  simp only [Prod.mk.injEq] at hzz
  go_enter Try.func43, Try.ntmps43
  go_wp2_with fail
  refine (front_any o n _ (by omega) (by omega)).mono ?_
  rintro e v1 ⟨K, rfl, hK, b1⟩
  have HK : Hid (isFront o n K) := hK
  have hK1 := hK.1
  have hK2 := hK.2.1
  have hs1 := b1.size
  clear hK
  by_cases h12 : 12 ≤ K
  · by_cases hlo : K < o.size
    · go_wp2_with (at_builtin; refine wpList_append_keep _ rfl _ _ 29 rfl w.heap.size 40 i40 (.agg zero5.toArray) 5 48 Try.underlying29 hi hzz.1 hzz.2.1 hzz.2.2 rfl (by decide) _ 0 [] rfl (World.ownsRow_nil _ _ _ _) ⟨v1.heap.size, 0, none⟩ 1 1 [.int .i64 3, .int .i64 0, .int .i64 K, .string ⟨#[]⟩, .int .i64 0] rfl rfl ?c1 ?c2 (by decide) ?c3 ?c4 ?c5 ?_)
      case c1 => exact World.news_of_block (cs := #[.int .i64 3, .int .i64 0, .int .i64 K, .string ⟨#[]⟩, .int .i64 0]) (heap_alloc_new v1 _)
      case c2 =>
        intro u hu
        simp at hu
        rcases hu with rfl | rfl | rfl | rfl | rfl <;> rfl
      case c3 => unfold maxLen; omega
      case c4 => omega
      case c5 => simp; omega
      intro v2 q2 hw2 hg2 _
      have HI : Hid (cutAt o n K w v2 K (K + 1) q2) := by
        refine ⟨[⟨0, K, some 0⟩], cut_front HK.out h12 (by rw [if_pos hlo]), hw2, ?_⟩
        exact ((below_grown (World.ownsRow_nil _ w.heap.size 40 5) (b1.alloc hs1 _) hg2))
      clear hw2 hg2
      go_wp2_with fail
      go_loopw [5, 6, 7] (fun v x y wr => ∃ left here : Nat, x = .int .i64 left ∧ y = .int .i64 here ∧ Hid (cutAt o n K w v left here wr)) (fun _ _ y _ => n.size + 1 - (intOf y).toNat)
      case atStart => exact ⟨K, (K + 1), rfl, by go_num, HI⟩
      case round =>
        clear HI
        obtain ⟨left, here, rfl, rfl, hI⟩ := hrel
        obtain ⟨ao, cn, cp, rfl⟩ := cutAt_slice hI.out
        obtain ⟨l, hinv, hrow, hbel⟩ := hI.out
        have hle := hinv.le
        have hlo' := hinv.lo
        have hlen := cut_length hinv
        have HINV : Hid (CutInv o n K l left here) := hinv
        have HROW : Hid (wr.ownsRow w.heap.size 40 5 (.slice ao cn cp) l.length (spCells n l)) := hrow
        have HBEL : Hid (Below w.heap.size w wr) := hbel
        have hsz := hbel.size
        clear hinv hrow hbel hI
        by_cases hh : here < n.size
        · go_wp2_with fail
          refine (source_any o n here _ ho hn (by omega)).mono ?_
          rintro e v3 ⟨f, z, rfl, hsrc, b3⟩
          have HSRC : Hid (srcAt o n here f z) := hsrc
          have hz1 := hsrc.1
          have hz2 := hsrc.2.1
          have HROW3 : Hid (v3.ownsRow w.heap.size 40 5 (.slice ao cn cp) l.length (spCells n l)) := own_kept HROW.out b3
          have HBEL3 : Hid (Below w.heap.size w v3) := HBEL.out.trans (b3.mono hsz)
          have hsz3 : w.heap.size ≤ v3.heap.size := by have := b3.size; omega
          clear hsrc b3 HROW HBEL
          by_cases hz : z < 12
          · go_wp2_with fail
            exact ⟨⟨left, here + 1, rfl, by go_num, ⟨l, cut_skip HINV.out hh, HROW3.out, HBEL3.out⟩⟩, by simp [intOf]; omega⟩
          · go_wp2_with fail
            refine (appendAdd_any n _ l left here w.heap.size _ hn hle (by omega) (by omega) hsz3 HROW3).mono ?_
            rintro e v4 ⟨x4, rfl, hw4, hg4⟩
            have HBEL4 : Hid (Below w.heap.size w v4) := below_grown HROW3.out HBEL3.out hg4
            have HROW4 : Hid (v4.ownsRow w.heap.size 40 5 x4 (withAdd l left here).length (spCells n (withAdd l left here))) := hw4
            have hsz4 : w.heap.size ≤ v4.heap.size := HBEL4.out.size
            have hlen4 : (withAdd l left here).length ≤ n.size + 1 := by
              unfold withAdd
              split
              · omega
              · simp; omega
            clear hw4 hg4 HROW3 HBEL3
            obtain ⟨xa, xn, xc, rfl⟩ : ∃ xa xn xc, x4 = .slice xa xn xc := by
              rcases HROW4.out.2 with ⟨hv, _⟩ | ⟨g, cap, cur, hv, _⟩ <;> exact ⟨_, _, _, hv⟩
            generalize hL : withAdd l left here = L at *
            have HL : Hid (withAdd l left here = L) := hL
            clear hL
            go_wp2_with (at_builtin; refine wpList_append_keep _ rfl _ _ 29 rfl w.heap.size 40 i40 (.agg zero5.toArray) 5 48 Try.underlying29 hi hzz.1 hzz.2.1 hzz.2.2 rfl (by decide) _ L.length (spCells n L) rfl (HROW4.out.alloc _) ⟨v4.heap.size, 0, none⟩ 1 1 [.int .i64 3, .int .i64 here, .int .i64 z, .string ⟨#[]⟩, .int .i64 f] rfl rfl ?c1 ?c2 (by decide) ?c3 ?c4 ?c5 ?_)
            case c1 => exact World.news_of_block (cs := #[.int .i64 3, .int .i64 here, .int .i64 z, .string ⟨#[]⟩, .int .i64 f]) (heap_alloc_new v4 _)
            case c2 =>
              intro u hu
              simp at hu
              rcases hu with rfl | rfl | rfl | rfl | rfl <;> rfl
            case c3 => unfold maxLen; omega
            case c4 => omega
            case c5 => simp; omega
            intro v5 q5 hw5 hg5 _
            have HI5 : Hid (cutAt o n K w v5 (here + z) (here + z) q5) := by
              refine ⟨withAdd l left here ++ [⟨here, z, some f⟩], cut_copy HINV.out hh (by omega) HSRC.out, ?_, below_grown (HROW4.out.alloc _) (HBEL4.out.alloc hsz4 _) hg5⟩
              rw [HL.out]
              exact row_copy hw5
            clear hw5 hg5 HROW4 HBEL4 HL
            go_wp2_with fail
            exact ⟨⟨here + z, here + z, by go_num, by go_num, HI5⟩, by simp [intOf]; omega⟩
        · go_wp2_with fail
          refine (appendAdd_any n _ l left n.size w.heap.size _ hn hlo' (Nat.le_refl _) (by omega) hsz HROW).mono ?_
          rintro e v4 ⟨x4, rfl, hw4, hg4⟩
          go_wp2_with fail
          go_ret
          exact ⟨_, _, rfl, cut_end HK.out HINV.out, hw4, below_grown HROW.out HBEL.out hg4⟩
    · go_wp2_with (at_builtin; refine wpList_append_keep _ rfl _ _ 29 rfl w.heap.size 40 i40 (.agg zero5.toArray) 5 48 Try.underlying29 hi hzz.1 hzz.2.1 hzz.2.2 rfl (by decide) _ 0 [] rfl (World.ownsRow_nil _ _ _ _) ⟨v1.heap.size, 0, none⟩ 1 1 [.int .i64 3, .int .i64 0, .int .i64 K, .string ⟨#[]⟩, .int .i64 0] rfl rfl ?c1 ?c2 (by decide) ?c3 ?c4 ?c5 ?_)
      case c1 => exact World.news_of_block (cs := #[.int .i64 3, .int .i64 0, .int .i64 K, .string ⟨#[]⟩, .int .i64 0]) (heap_alloc_new v1 _)
      case c2 =>
        intro u hu
        simp at hu
        rcases hu with rfl | rfl | rfl | rfl | rfl <;> rfl
      case c3 => unfold maxLen; omega
      case c4 => omega
      case c5 => simp; omega
      intro v2 q2 hw2 hg2 _
      have HI : Hid (cutAt o n K w v2 K K q2) := by
        refine ⟨[⟨0, K, some 0⟩], cut_front HK.out h12 (by rw [if_neg hlo]), hw2, ?_⟩
        exact ((below_grown (World.ownsRow_nil _ w.heap.size 40 5) (b1.alloc hs1 _) hg2))
      clear hw2 hg2
      go_wp2_with fail
      go_loopw [5, 6, 7] (fun v x y wr => ∃ left here : Nat, x = .int .i64 left ∧ y = .int .i64 here ∧ Hid (cutAt o n K w v left here wr)) (fun _ _ y _ => n.size + 1 - (intOf y).toNat)
      case atStart => exact ⟨K, K, rfl, by go_num, HI⟩
      case round =>
        clear HI
        obtain ⟨left, here, rfl, rfl, hI⟩ := hrel
        obtain ⟨ao, cn, cp, rfl⟩ := cutAt_slice hI.out
        obtain ⟨l, hinv, hrow, hbel⟩ := hI.out
        have hle := hinv.le
        have hlo' := hinv.lo
        have hlen := cut_length hinv
        have HINV : Hid (CutInv o n K l left here) := hinv
        have HROW : Hid (wr.ownsRow w.heap.size 40 5 (.slice ao cn cp) l.length (spCells n l)) := hrow
        have HBEL : Hid (Below w.heap.size w wr) := hbel
        have hsz := hbel.size
        clear hinv hrow hbel hI
        by_cases hh : here < n.size
        · go_wp2_with fail
          refine (source_any o n here _ ho hn (by omega)).mono ?_
          rintro e v3 ⟨f, z, rfl, hsrc, b3⟩
          have HSRC : Hid (srcAt o n here f z) := hsrc
          have hz1 := hsrc.1
          have hz2 := hsrc.2.1
          have HROW3 : Hid (v3.ownsRow w.heap.size 40 5 (.slice ao cn cp) l.length (spCells n l)) := own_kept HROW.out b3
          have HBEL3 : Hid (Below w.heap.size w v3) := HBEL.out.trans (b3.mono hsz)
          have hsz3 : w.heap.size ≤ v3.heap.size := by have := b3.size; omega
          clear hsrc b3 HROW HBEL
          by_cases hz : z < 12
          · go_wp2_with fail
            exact ⟨⟨left, here + 1, rfl, by go_num, ⟨l, cut_skip HINV.out hh, HROW3.out, HBEL3.out⟩⟩, by simp [intOf]; omega⟩
          · go_wp2_with fail
            refine (appendAdd_any n _ l left here w.heap.size _ hn hle (by omega) (by omega) hsz3 HROW3).mono ?_
            rintro e v4 ⟨x4, rfl, hw4, hg4⟩
            have HBEL4 : Hid (Below w.heap.size w v4) := below_grown HROW3.out HBEL3.out hg4
            have HROW4 : Hid (v4.ownsRow w.heap.size 40 5 x4 (withAdd l left here).length (spCells n (withAdd l left here))) := hw4
            have hsz4 : w.heap.size ≤ v4.heap.size := HBEL4.out.size
            have hlen4 : (withAdd l left here).length ≤ n.size + 1 := by
              unfold withAdd
              split
              · omega
              · simp; omega
            clear hw4 hg4 HROW3 HBEL3
            obtain ⟨xa, xn, xc, rfl⟩ : ∃ xa xn xc, x4 = .slice xa xn xc := by
              rcases HROW4.out.2 with ⟨hv, _⟩ | ⟨g, cap, cur, hv, _⟩ <;> exact ⟨_, _, _, hv⟩
            generalize hL : withAdd l left here = L at *
            have HL : Hid (withAdd l left here = L) := hL
            clear hL
            go_wp2_with (at_builtin; refine wpList_append_keep _ rfl _ _ 29 rfl w.heap.size 40 i40 (.agg zero5.toArray) 5 48 Try.underlying29 hi hzz.1 hzz.2.1 hzz.2.2 rfl (by decide) _ L.length (spCells n L) rfl (HROW4.out.alloc _) ⟨v4.heap.size, 0, none⟩ 1 1 [.int .i64 3, .int .i64 here, .int .i64 z, .string ⟨#[]⟩, .int .i64 f] rfl rfl ?c1 ?c2 (by decide) ?c3 ?c4 ?c5 ?_)
            case c1 => exact World.news_of_block (cs := #[.int .i64 3, .int .i64 here, .int .i64 z, .string ⟨#[]⟩, .int .i64 f]) (heap_alloc_new v4 _)
            case c2 =>
              intro u hu
              simp at hu
              rcases hu with rfl | rfl | rfl | rfl | rfl <;> rfl
            case c3 => unfold maxLen; omega
            case c4 => omega
            case c5 => simp; omega
            intro v5 q5 hw5 hg5 _
            have HI5 : Hid (cutAt o n K w v5 (here + z) (here + z) q5) := by
              refine ⟨withAdd l left here ++ [⟨here, z, some f⟩], cut_copy HINV.out hh (by omega) HSRC.out, ?_, below_grown (HROW4.out.alloc _) (HBEL4.out.alloc hsz4 _) hg5⟩
              rw [HL.out]
              exact row_copy hw5
            clear hw5 hg5 HROW4 HBEL4 HL
            go_wp2_with fail
            exact ⟨⟨here + z, here + z, by go_num, by go_num, HI5⟩, by simp [intOf]; omega⟩
        · go_wp2_with fail
          refine (appendAdd_any n _ l left n.size w.heap.size _ hn hlo' (Nat.le_refl _) (by omega) hsz HROW).mono ?_
          rintro e v4 ⟨x4, rfl, hw4, hg4⟩
          go_wp2_with fail
          go_ret
          exact ⟨_, _, rfl, cut_end HK.out HINV.out, hw4, below_grown HROW.out HBEL.out hg4⟩
  · by_cases hlo : K < o.size
    · have HI : Hid (cutAt o n K w (.slice none 0 0) 0 (K + 1) v1) := ⟨[], cut_none HK.out (by omega) (by rw [if_pos hlo]), World.ownsRow_nil _ _ _ _, b1⟩
      go_wp2_with fail
      go_loopw [5, 6, 7] (fun v x y wr => ∃ left here : Nat, x = .int .i64 left ∧ y = .int .i64 here ∧ Hid (cutAt o n K w v left here wr)) (fun _ _ y _ => n.size + 1 - (intOf y).toNat)
      case atStart => exact ⟨0, (K + 1), rfl, by go_num, HI⟩
      case round =>
        clear HI
        obtain ⟨left, here, rfl, rfl, hI⟩ := hrel
        obtain ⟨ao, cn, cp, rfl⟩ := cutAt_slice hI.out
        obtain ⟨l, hinv, hrow, hbel⟩ := hI.out
        have hle := hinv.le
        have hlo' := hinv.lo
        have hlen := cut_length hinv
        have HINV : Hid (CutInv o n K l left here) := hinv
        have HROW : Hid (wr.ownsRow w.heap.size 40 5 (.slice ao cn cp) l.length (spCells n l)) := hrow
        have HBEL : Hid (Below w.heap.size w wr) := hbel
        have hsz := hbel.size
        clear hinv hrow hbel hI
        by_cases hh : here < n.size
        · go_wp2_with fail
          refine (source_any o n here _ ho hn (by omega)).mono ?_
          rintro e v3 ⟨f, z, rfl, hsrc, b3⟩
          have HSRC : Hid (srcAt o n here f z) := hsrc
          have hz1 := hsrc.1
          have hz2 := hsrc.2.1
          have HROW3 : Hid (v3.ownsRow w.heap.size 40 5 (.slice ao cn cp) l.length (spCells n l)) := own_kept HROW.out b3
          have HBEL3 : Hid (Below w.heap.size w v3) := HBEL.out.trans (b3.mono hsz)
          have hsz3 : w.heap.size ≤ v3.heap.size := by have := b3.size; omega
          clear hsrc b3 HROW HBEL
          by_cases hz : z < 12
          · go_wp2_with fail
            exact ⟨⟨left, here + 1, rfl, by go_num, ⟨l, cut_skip HINV.out hh, HROW3.out, HBEL3.out⟩⟩, by simp [intOf]; omega⟩
          · go_wp2_with fail
            refine (appendAdd_any n _ l left here w.heap.size _ hn hle (by omega) (by omega) hsz3 HROW3).mono ?_
            rintro e v4 ⟨x4, rfl, hw4, hg4⟩
            have HBEL4 : Hid (Below w.heap.size w v4) := below_grown HROW3.out HBEL3.out hg4
            have HROW4 : Hid (v4.ownsRow w.heap.size 40 5 x4 (withAdd l left here).length (spCells n (withAdd l left here))) := hw4
            have hsz4 : w.heap.size ≤ v4.heap.size := HBEL4.out.size
            have hlen4 : (withAdd l left here).length ≤ n.size + 1 := by
              unfold withAdd
              split
              · omega
              · simp; omega
            clear hw4 hg4 HROW3 HBEL3
            obtain ⟨xa, xn, xc, rfl⟩ : ∃ xa xn xc, x4 = .slice xa xn xc := by
              rcases HROW4.out.2 with ⟨hv, _⟩ | ⟨g, cap, cur, hv, _⟩ <;> exact ⟨_, _, _, hv⟩
            generalize hL : withAdd l left here = L at *
            have HL : Hid (withAdd l left here = L) := hL
            clear hL
            go_wp2_with (at_builtin; refine wpList_append_keep _ rfl _ _ 29 rfl w.heap.size 40 i40 (.agg zero5.toArray) 5 48 Try.underlying29 hi hzz.1 hzz.2.1 hzz.2.2 rfl (by decide) _ L.length (spCells n L) rfl (HROW4.out.alloc _) ⟨v4.heap.size, 0, none⟩ 1 1 [.int .i64 3, .int .i64 here, .int .i64 z, .string ⟨#[]⟩, .int .i64 f] rfl rfl ?c1 ?c2 (by decide) ?c3 ?c4 ?c5 ?_)
            case c1 => exact World.news_of_block (cs := #[.int .i64 3, .int .i64 here, .int .i64 z, .string ⟨#[]⟩, .int .i64 f]) (heap_alloc_new v4 _)
            case c2 =>
              intro u hu
              simp at hu
              rcases hu with rfl | rfl | rfl | rfl | rfl <;> rfl
            case c3 => unfold maxLen; omega
            case c4 => omega
            case c5 => simp; omega
            intro v5 q5 hw5 hg5 _
            have HI5 : Hid (cutAt o n K w v5 (here + z) (here + z) q5) := by
              refine ⟨withAdd l left here ++ [⟨here, z, some f⟩], cut_copy HINV.out hh (by omega) HSRC.out, ?_, below_grown (HROW4.out.alloc _) (HBEL4.out.alloc hsz4 _) hg5⟩
              rw [HL.out]
              exact row_copy hw5
            clear hw5 hg5 HROW4 HBEL4 HL
            go_wp2_with fail
            exact ⟨⟨here + z, here + z, by go_num, by go_num, HI5⟩, by simp [intOf]; omega⟩
        · go_wp2_with fail
          refine (appendAdd_any n _ l left n.size w.heap.size _ hn hlo' (Nat.le_refl _) (by omega) hsz HROW).mono ?_
          rintro e v4 ⟨x4, rfl, hw4, hg4⟩
          go_wp2_with fail
          go_ret
          exact ⟨_, _, rfl, cut_end HK.out HINV.out, hw4, below_grown HROW.out HBEL.out hg4⟩
    · have HI : Hid (cutAt o n K w (.slice none 0 0) 0 K v1) := ⟨[], cut_none HK.out (by omega) (by rw [if_neg hlo]), World.ownsRow_nil _ _ _ _, b1⟩
      go_wp2_with fail
      go_loopw [5, 6, 7] (fun v x y wr => ∃ left here : Nat, x = .int .i64 left ∧ y = .int .i64 here ∧ Hid (cutAt o n K w v left here wr)) (fun _ _ y _ => n.size + 1 - (intOf y).toNat)
      case atStart => exact ⟨0, K, rfl, by go_num, HI⟩
      case round =>
        clear HI
        obtain ⟨left, here, rfl, rfl, hI⟩ := hrel
        obtain ⟨ao, cn, cp, rfl⟩ := cutAt_slice hI.out
        obtain ⟨l, hinv, hrow, hbel⟩ := hI.out
        have hle := hinv.le
        have hlo' := hinv.lo
        have hlen := cut_length hinv
        have HINV : Hid (CutInv o n K l left here) := hinv
        have HROW : Hid (wr.ownsRow w.heap.size 40 5 (.slice ao cn cp) l.length (spCells n l)) := hrow
        have HBEL : Hid (Below w.heap.size w wr) := hbel
        have hsz := hbel.size
        clear hinv hrow hbel hI
        by_cases hh : here < n.size
        · go_wp2_with fail
          refine (source_any o n here _ ho hn (by omega)).mono ?_
          rintro e v3 ⟨f, z, rfl, hsrc, b3⟩
          have HSRC : Hid (srcAt o n here f z) := hsrc
          have hz1 := hsrc.1
          have hz2 := hsrc.2.1
          have HROW3 : Hid (v3.ownsRow w.heap.size 40 5 (.slice ao cn cp) l.length (spCells n l)) := own_kept HROW.out b3
          have HBEL3 : Hid (Below w.heap.size w v3) := HBEL.out.trans (b3.mono hsz)
          have hsz3 : w.heap.size ≤ v3.heap.size := by have := b3.size; omega
          clear hsrc b3 HROW HBEL
          by_cases hz : z < 12
          · go_wp2_with fail
            exact ⟨⟨left, here + 1, rfl, by go_num, ⟨l, cut_skip HINV.out hh, HROW3.out, HBEL3.out⟩⟩, by simp [intOf]; omega⟩
          · exfalso; omega
        · go_wp2_with fail
          refine (appendAdd_any n _ l left n.size w.heap.size _ hn hlo' (Nat.le_refl _) (by omega) hsz HROW).mono ?_
          rintro e v4 ⟨x4, rfl, hw4, hg4⟩
          go_wp2_with fail
          go_ret
          exact ⟨_, _, rfl, cut_end HK.out HINV.out, hw4, below_grown HROW.out HBEL.out hg4⟩

end Go.Proofs.Ytlijlmjgnhheaaa
