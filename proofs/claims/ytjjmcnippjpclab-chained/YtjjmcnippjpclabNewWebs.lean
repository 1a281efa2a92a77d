/-
  The walk of newWeb.
  The web, the queue and the list in memory, side by side.
-/
import Derived.Test.YtjjmcnippjpclabTie
namespace Go.Proofs.Ytjjmcnippjpclab

open Go.RowKit

theorem info58 : (Try.prog.info? 22).map (fun i => (i.zero, i.size, i.bytes)) = some (some (.slice none 0 0), 1, 24) := by kernel_rfl

theorem make_lists (n : Nat) (hn : n ≤ 4000) (w : World) :
    (Instr.makeSlice 107 (.int .i64 (n : Int)) (.int .i64 (n : Int))).run Try.prog w = .ok (.slice (some ⟨w.heap.size, 0, none⟩) n n) (w.alloc (.cells (madeCells #[.slice none 0 0] n) 22)) :=
  run_make_row' 107 22 (.slice none 0 0) 24 Try.underlying107 info58 rfl .i64 .i64 n (by omega) (by omega) w

theorem make_ints (n : Nat) (hn : n ≤ 4000) (w : World) :
    (Instr.makeSlice 22 (.int .i64 (n : Int)) (.int .i64 (n : Int))).run Try.prog w = .ok (.slice (some ⟨w.heap.size, 0, none⟩) n n) (w.alloc (.cells (madeCells #[.int .i64 0] n) 3)) :=
  run_make_row' 22 3 (.int .i64 0) 8 Try.underlying22 infoInt rfl .i64 .i64 n (by omega) (by omega) w

theorem made_row {w : World} {b n : Nat} {z : Value} {t : TypeId} (h : w.heap[b]? = some (.cells (madeCells #[z] n) t (0, 0))) : w.rowIs b t n (fun _ => z) :=
  ⟨_, h, size_madeCells _ _, fun i hi => by simp [madeCells, hi, Nat.mod_one]⟩

theorem web_new {w : World} {B Wb ga gb gw n : Nat} {sv : Value} (hX : w.heap[Wb]? = some (.cells #[sv, .slice (some ⟨ga, 0, none⟩) n n, .slice (some ⟨gb, 0, none⟩) n n, .slice (some ⟨gw, 0, none⟩) n n] 109 (0, 0)))
    (hA : w.heap[ga]? = some (.cells (madeCells #[.slice none 0 0] n) 22 (0, 0))) (hB : w.heap[gb]? = some (.cells (madeCells #[.slice none 0 0] n) 22 (0, 0))) (hW : w.heap[gw]? = some (.cells (madeCells #[.int .i64 0] n) 3 (0, 0))) (hne : ga ≠ gb) (hlow : B ≤ Wb ∧ B ≤ ga ∧ B ≤ gb ∧ B ≤ gw) :
    webAt Wb B sv n (fun _ => []) (fun _ => 0) w :=
  ⟨ga, gb, gw, fun _ => .slice none 0 0, hX, made_row hA, made_row hB, made_row hW, hne, hlow, fun _ _ => World.ownsRow_nil _ _ _ _, fun _ _ => by simp [Value.ownBlock], fun _ _ _ _ _ _ h => by simp [Value.ownBlock] at h⟩

theorem four0 (w : World) (a b c d : Obj) : ((((w.alloc a).alloc b).alloc c).alloc d).drew.heap[w.heap.size]? = some a := by
  show ((((w.heap.push a).push b).push c).push d)[w.heap.size]? = some a
  rw [Array.getElem?_push, if_neg (by simp only [Array.size_push]; omega), Array.getElem?_push, if_neg (by simp only [Array.size_push]; omega), Array.getElem?_push, if_neg (by simp only [Array.size_push]; omega), Array.getElem?_push, if_pos rfl]

theorem four1 (w : World) (a b c d : Obj) : ((((w.alloc a).alloc b).alloc c).alloc d).drew.heap[w.heap.size + 1]? = some b := by
  show ((((w.heap.push a).push b).push c).push d)[w.heap.size + 1]? = some b
  rw [Array.getElem?_push, if_neg (by simp only [Array.size_push]; omega), Array.getElem?_push, if_neg (by simp only [Array.size_push]; omega), Array.getElem?_push, if_pos (by simp only [Array.size_push])]

theorem four2 (w : World) (a b c d : Obj) : ((((w.alloc a).alloc b).alloc c).alloc d).drew.heap[w.heap.size + 1 + 1]? = some c := by
  show ((((w.heap.push a).push b).push c).push d)[w.heap.size + 1 + 1]? = some c
  rw [Array.getElem?_push, if_neg (by simp only [Array.size_push]; omega), Array.getElem?_push, if_pos (by simp only [Array.size_push])]

theorem four3 (w : World) (a b c d : Obj) : ((((w.alloc a).alloc b).alloc c).alloc d).drew.heap[w.heap.size + 1 + 1 + 1]? = some d := by
  show ((((w.heap.push a).push b).push c).push d)[w.heap.size + 1 + 1 + 1]? = some d
  rw [Array.getElem?_push, if_pos (by simp only [Array.size_push])]

theorem fourB (w : World) (a b c d : Obj) : Below w.heap.size w ((((w.alloc a).alloc b).alloc c).alloc d).drew :=
  (((((Below.refl w.heap.size w).alloc (Nat.le_refl _) a).alloc (by simp) b).alloc (by simp; omega) c).alloc (by simp; omega) d).drew

/-- the lists when the first k steps have been tied. -/
def newL (l : List _root_.Pl.Sp) (k : Nat) : Nat → List Nat := fun m => if m < l.length then (List.range k).filter (fun c => _root_.Pl.tied l c m) else if m < l.length + k then _root_.Pl.behindOf l (m - l.length) else []

def newW (l : List _root_.Pl.Sp) (k : Nat) : Nat → Nat := fun m => ((List.range k).filter (fun c => _root_.Pl.tied l c m)).length

theorem newL_len' (l : List _root_.Pl.Sp) (k : Nat) (hk : k < l.length) (m : Nat) : (newL l k m).length ≤ l.length := by
  unfold newL
  split
  · have := List.length_filter_le (fun c => _root_.Pl.tied l c m) (List.range k)
    rw [List.length_range] at this
    omega
  · split
    · have := List.length_filter_le (fun i => _root_.Pl.tied l (m - l.length) i) (List.range l.length)
      rwa [List.length_range] at this
    · simp

theorem own_low' {u u' : World} {B C n k g cap : Nat} {t : TypeId} {xs : List Value} (h : u.ownsRow B t n (.slice (some ⟨g, 0, none⟩) k cap) k xs) (b : Below C u u') (hC : g < C) : u'.ownsRow B t n (.slice (some ⟨g, 0, none⟩) k cap) k xs := by
  refine ⟨h.1, ?_⟩
  rcases h.2 with hz | ⟨g', cap', cur, hv, hB, hg, r⟩
  · exact .inl hz
  · simp only [Value.slice.injEq, Option.some.injEq, Addr.mk.injEq, and_true, true_and] at hv
    obtain ⟨e1, e2⟩ := hv
    subst e1; subst e2
    exact .inr ⟨g, cap, cur, rfl, hB, by rw [b.block g hC]; exact hg, r⟩

theorem newW_len (l : List _root_.Pl.Sp) (k m : Nat) : newW l k m ≤ k := by
  have := List.length_filter_le (fun c => _root_.Pl.tied l c m) (List.range k)
  rwa [List.length_range] at this

/-- a step that is an Add ties nothing. -/
theorem newL_add {l : List _root_.Pl.Sp} {k : Nat} (h : ∀ i, _root_.Pl.tied l k i = false) (m : Nat) : newL l (k + 1) m = newL l k m ∧ newW l (k + 1) m = newW l k m := by
  unfold newL newW
  rw [filter_snoc, if_neg (c := _root_.Pl.tied l k m = true) (by rw [h m]; simp), List.append_nil]
  refine ⟨?_, rfl⟩
  split
  · rfl
  · by_cases h1 : m < l.length + k
    · rw [if_pos h1, if_pos (by omega)]
    · rw [if_neg h1]
      split
      · have : m - l.length = k := by omega
        rw [this, _root_.Pl.behindOf, List.filter_eq_nil_iff]
        intro x _
        rw [h x]; simp
      · rfl

theorem newL_copy {l : List _root_.Pl.Sp} {k : Nat} (_ : k < l.length) (m : Nat) (hm : m < 2 * l.length) : newL l (k + 1) m = tieL l k l.length (newL l k) m := by
  unfold tieL
  by_cases h1 : m < l.length
  · rw [if_pos h1]
    have e : newL l (k + 1) m = newL l k m ++ (if _root_.Pl.tied l k m = true then [k] else []) := by
      unfold newL
      rw [if_pos h1, if_pos h1, filter_snoc]
    rw [e]
    by_cases h2 : _root_.Pl.tied l k m = true
    · rw [if_pos h2, if_pos ⟨h1, h2⟩]
    · rw [if_neg h2, if_neg (fun h => h2 h.2), List.append_nil]
  · rw [if_neg h1]
    by_cases h2 : m = l.length + k
    · subst h2
      rw [if_pos rfl]
      unfold newL
      rw [if_neg h1, if_neg h1, if_pos (by omega), if_neg (by omega), Nat.add_sub_cancel_left, List.nil_append]
      rfl
    · rw [if_neg h2]
      unfold newL
      rw [if_neg h1, if_neg h1]
      by_cases h3 : m < l.length + k
      · rw [if_pos h3, if_pos (by omega)]
      · rw [if_neg h3, if_neg (by omega)]

theorem newW_copy {l : List _root_.Pl.Sp} {k : Nat} (m : Nat) (hm : m < l.length) : newW l (k + 1) m = tieW l k l.length (newW l k) m := by
  unfold tieW newW
  rw [filter_snoc]
  by_cases h2 : _root_.Pl.tied l k m = true
  · rw [if_pos h2, if_pos ⟨hm, h2⟩, List.length_append]; rfl
  · rw [if_neg h2, if_neg (fun h => h2 h.2), List.append_nil]

set_option maxRecDepth 100000 in
set_option maxHeartbeats 4000000 in
theorem newWeb_any (nx : ByteArray) (sv : Value) (l : List _root_.Pl.Sp) (c Bs o4 : Nat) (w : World) (hl : l.length ≤ 4000) (hc : c ≤ 4000) (ho4 : o4 ≤ 4000) (ht : Hid (_root_.Pl.tiles 0 l c)) (hfit : Hid (∀ s ∈ l, ∀ f, s.src = some f → f + s.n ≤ o4)) (hw : Hid (w.ownsRow Bs 37 5 sv l.length (spCells nx l))) :
    Calls Try.prog 39 #[sv] w fun e w' => ∃ Wb, e = .returned (.pointer (some ⟨Wb, 0, none⟩)) ∧ webAt Wb w.heap.size sv l.length (fun m => if m < l.length then _root_.Pl.aheadOf l m else _root_.Pl.behindOf l (m - l.length)) (fun i => (_root_.Pl.aheadOf l i).length) w' ∧ Below w.heap.size w w' := by
  obtain ⟨ao, cp, rfl⟩ : ∃ ao cp, sv = .slice ao l.length cp := by
    rcases hw.out.2 with ⟨hv, hz⟩ | ⟨g, cap, cur, hv, _⟩
    · exact ⟨none, 0, by rw [hv, hz]⟩
    · exact ⟨_, _, hv⟩
  have mk1 := make_lists l.length (by omega)
  have mk2 := make_ints l.length (by omega)
  go_enter Try.func39, Try.ntmps39
  go_wp2_with fail
  go_cut [4] from 9 to 17 (fun p wx => ∃ Wb, p = .pointer (some ⟨Wb, 0, none⟩) ∧ Hid (webAt Wb w.heap.size (.slice ao l.length cp) l.length (fun _ => []) (fun _ => 0) wx) ∧ Hid (Below w.heap.size w wx))
  case first =>
    go_region
    all_goals go_wp2_with fail
    all_goals go_meet
    all_goals first
      | exact ⟨_, rfl, web_new (four3 _ _ _ _ _) (four0 _ _ _ _ _) (four1 _ _ _ _ _) (four2 _ _ _ _ _) (by omega) (by omega), fourB _ _ _ _ _⟩
      | exact ⟨_, rfl, web_new (four3 _ _ _ _ _) (four0 _ _ _ _ _) (four2 _ _ _ _ _) (four1 _ _ _ _ _) (by omega) (by omega), fourB _ _ _ _ _⟩
      | exact ⟨_, rfl, web_new (four3 _ _ _ _ _) (four1 _ _ _ _ _) (four0 _ _ _ _ _) (four2 _ _ _ _ _) (by omega) (by omega), fourB _ _ _ _ _⟩
      | exact ⟨_, rfl, web_new (four3 _ _ _ _ _) (four1 _ _ _ _ _) (four2 _ _ _ _ _) (four0 _ _ _ _ _) (by omega) (by omega), fourB _ _ _ _ _⟩
      | exact ⟨_, rfl, web_new (four3 _ _ _ _ _) (four2 _ _ _ _ _) (four0 _ _ _ _ _) (four1 _ _ _ _ _) (by omega) (by omega), fourB _ _ _ _ _⟩
      | exact ⟨_, rfl, web_new (four3 _ _ _ _ _) (four2 _ _ _ _ _) (four1 _ _ _ _ _) (four0 _ _ _ _ _) (by omega) (by omega), fourB _ _ _ _ _⟩
  case rest =>
    clear mk1 mk2
    obtain ⟨Wb, rfl, hW0, hB0⟩ := hcut
    go_wp2_with fail
    go_loopw [20] (fun x wr => ∃ k : Nat, x = .int .i64 k ∧ k ≤ l.length ∧ Hid (webAt Wb w.heap.size (.slice ao l.length cp) l.length (newL l k) (newW l k) wr) ∧ Hid (Below w.heap.size w wr)) (fun x _ => l.length - (intOf x).toNat)
    case atStart =>
      refine ⟨0, rfl, Nat.zero_le _, ?_, hB0⟩
      obtain ⟨ga, gb, gw, V, hin⟩ := hW0.out
      refine ⟨ga, gb, gw, V, hin.congr (fun i _ => ?_) (fun i _ => ?_)⟩
      · unfold newL
        split
        · simp
        · rw [if_neg (by omega)]
      · simp [newW]
    case round =>
      clear hW0 hB0
      obtain ⟨k, rfl, hk, hI, hbel⟩ := hrel
      have hszr := hbel.out.size
      by_cases hlt : k < l.length
      · obtain ⟨s, hs⟩ : ∃ s, l[k]? = some s := ⟨l[k], List.getElem?_eq_getElem hlt⟩
        obtain ⟨g, hao⟩ : ∃ g, ao = some ⟨g, 0, none⟩ := by
          obtain ⟨g, cap, hv, _⟩ := hw.out.form (by omega)
          simp only [Value.slice.injEq] at hv
          exact ⟨g, hv.1⟩
        subst hao
        have hk0 : (k : Int) < (l.length : Int) := by omega
        have hgl : g < w.heap.size := (hw.out.lt g rfl).2
        obtain ⟨e0, e1, e2, e3, e4⟩ := spCells_at nx l k s hs
        have hlen5 := spCells_length nx l
        have c0 := (hbel.out.cell (p := ⟨g, k * 5, none⟩) hgl).trans ((hw.out.cellAt (k * 5) (by omega)).trans e0)
        have c1 := (hbel.out.cell (p := ⟨g, k * 5 + 1, none⟩) hgl).trans ((hw.out.cellAt (k * 5 + 1) (by omega)).trans e1)
        have c2 := (hbel.out.cell (p := ⟨g, k * 5 + 2, none⟩) hgl).trans ((hw.out.cellAt (k * 5 + 2) (by omega)).trans e2)
        have c3 := (hbel.out.cell (p := ⟨g, k * 5 + 3, none⟩) hgl).trans ((hw.out.cellAt (k * 5 + 3) (by omega)).trans e3)
        have c4 := (hbel.out.cell (p := ⟨g, k * 5 + 4, none⟩) hgl).trans ((hw.out.cellAt (k * 5 + 4) (by omega)).trans e4)
        clear e0 e1 e2 e3 e4
        have HS : Hid (l[k]? = some s) := hs
        clear hs
        have hI1 : Hid (webAt Wb w.heap.size (.slice (some ⟨g, 0, none⟩) l.length cp) l.length (newL l k) (newW l k) (wr.alloc (Obj.cells #[.int .i64 (s.st nx).k, .int .i64 (s.t : Nat), .int .i64 (s.n : Nat), .string (s.st nx).d, .int .i64 (s.st nx).f] 37))) := by
          obtain ⟨ga, gb, gw, V, hin⟩ := hI.out
          exact ⟨ga, gb, gw, V, hin.below ((Below.refl _ _).alloc (Nat.le_refl _) _)⟩
        have hb1 : Hid (Below w.heap.size w (wr.alloc (Obj.cells #[.int .i64 (s.st nx).k, .int .i64 (s.t : Nat), .int .i64 (s.n : Nat), .string (s.st nx).d, .int .i64 (s.st nx).f] 37))) := hbel.out.alloc hszr _
        cases hsrc : s.src with
        | none =>
          have d1 : ((s.st nx).k == 3) = false := by simp [_root_.Pl.Sp.st, hsrc, Pl.St.k]
          have hno : Hid (∀ i, _root_.Pl.tied l k i = false) := fun i => _root_.Pl.tied_add HS.out hsrc
          clear hsrc
          go_wp2_with fail
          refine ⟨⟨k + 1, by go_num, by omega, ?_, hb1⟩, by simp [intOf]; omega⟩
          obtain ⟨ga, gb, gw, V, hin⟩ := hI1.out
          exact ⟨ga, gb, gw, V, hin.congr (fun m _ => (newL_add hno.out m).1) (fun m _ => (newL_add hno.out m).2)⟩
        | some f =>
          have d1 : ((s.st nx).k == 3) = true := by simp [_root_.Pl.Sp.st, hsrc, Pl.St.k]
          have HSRC : Hid (s.src = some f) := hsrc
          have hf4 : f + s.n ≤ 4000 := by have := hfit.out s (List.mem_of_getElem? HS.out) f hsrc; omega
          clear hsrc
          go_wp2_with fail
          refine (tie_any nx (.slice (some ⟨g, 0, none⟩) l.length cp) l c Bs w.heap.size Wb k f s (newL l k) (newW l k) _ hl hc hf4 (by simp; omega) (fun m => Nat.le_trans (newL_len' l k hlt m) hl) (fun m => Nat.le_trans (newW_len l k m) (by omega)) HS HSRC ht (by exact own_low' hw.out hb1.out hgl) (fun g' hg' => by simp only [Value.ownBlock, Option.some.injEq] at hg'; omega) hI1).mono ?_
          rintro e v2 ⟨rfl, hI2, hb2⟩
          have HI2 : Hid (webAt Wb w.heap.size (.slice (some ⟨g, 0, none⟩) l.length cp) l.length (newL l (k + 1)) (newW l (k + 1)) v2) := by
            obtain ⟨ga, gb, gw, V, hin⟩ := hI2
            exact ⟨ga, gb, gw, V, hin.congr (fun m hm => newL_copy hlt m hm) (fun m hm => newW_copy m hm)⟩
          have HB2 : Hid (Below w.heap.size w v2) := hb1.out.trans hb2
          clear hI2 hb2 c0 c1 c2 c3 c4 hI1 hb1
          go_wp2_with fail
          exact ⟨⟨k + 1, by go_num, by omega, HI2, HB2⟩, by simp [intOf]; omega⟩
      · have hke : k = l.length := by omega
        subst hke
        go_wp2_with fail
        go_ret
        refine ⟨Wb, rfl, ?_, hbel.out⟩
        obtain ⟨ga, gb, gw, V, hin⟩ := hI.out
        refine ⟨ga, gb, gw, V, hin.congr (fun m hm => ?_) (fun m _ => rfl)⟩
        unfold newL
        split
        · rfl
        · rw [if_pos (by omega)]

end Go.Proofs.Ytjjmcnippjpclab

namespace Go.Proofs.Ytjjmcnippjpclab

open Go.RowKit

/-- all blocks of the web are below Z. -/
def webUnder (Z Wb n ga gb gw : Nat) (V : Nat → Value) : Prop := (Wb < Z ∧ ga < Z ∧ gb < Z ∧ gw < Z) ∧ ∀ i, i < 2 * n → ∀ g, (V i).ownBlock = some g → g < Z

theorem webUnder_of {Wb B n ga gb gw : Nat} {sv : Value} {L : Nat → List Nat} {Wt : Nat → Nat} {V : Nat → Value} {w : World} (h : WebIn Wb B sv n L Wt ga gb gw V w) : webUnder w.heap.size Wb n ga gb gw V :=
  ⟨⟨(Array.getElem?_eq_some_iff.1 h.box).1, h.rowA.lt, h.rowB.lt, h.rowW.lt⟩, fun i hi g hg => ((h.own i hi).lt g hg).2⟩

theorem own_under {u u' : World} {B Z e s n : Nat} {v : Value} {xs : List Value} (h : u.ownsRow B e s v n xs) (b : Below Z u u') (hZ : ∀ g, v.ownBlock = some g → g < Z) : u'.ownsRow B e s v n xs := by
  refine ⟨h.1, ?_⟩
  rcases h.2 with hz | ⟨g, cap, cur, rfl, hB, hg, r⟩
  · exact .inl hz
  · exact .inr ⟨g, cap, cur, rfl, hB, by rw [b.block g (hZ g rfl)]; exact hg, r⟩

theorem WebIn.under {Wb B Z n ga gb gw : Nat} {sv : Value} {L : Nat → List Nat} {Wt : Nat → Nat} {V : Nat → Value} {u u' : World} (h : WebIn Wb B sv n L Wt ga gb gw V u) (hu : webUnder Z Wb n ga gb gw V) (b : Below Z u u') : WebIn Wb B sv n L Wt ga gb gw V u' :=
  ⟨by rw [b.block _ hu.1.1]; exact h.box, h.rowA.of_block (b.block _ hu.1.2.1), h.rowB.of_block (b.block _ hu.1.2.2.1), h.rowW.of_block (b.block _ hu.1.2.2.2), h.ne, h.low, fun i hi => own_under (h.own i hi) b (hu.2 i hi), h.noW, h.dist⟩

/-- the list stays under what is done to the queue. -/
theorem own_quKept {H Z n k : Nat} {v : Value} {xs : List Value} {w w' : World} (h : w.ownsRow Z 37 5 v n xs) (hH : ∃ cs, w.heap[H]? = some (.cells cs 111 (0, 0))) (b : quKept H k w w') : w'.ownsRow Z 37 5 v n xs := by
  refine ⟨h.1, ?_⟩
  rcases h.2 with hz | ⟨g, cap, cur, rfl, hB, hg, r⟩
  · exact .inl hz
  · obtain ⟨cs, hcs⟩ := hH
    exact .inr ⟨g, cap, cur, rfl, hB, b.2 g _ _ _ hg (block_ne hg hcs (by decide)) (by decide), r⟩

theorem quAt.box {H B : Nat} {q : List Nat} {w : World} (h : quAt H B q w) : ∃ cs, w.heap[H]? = some (.cells cs 111 (0, 0)) := by
  obtain ⟨v, hH, _⟩ := h
  exact ⟨_, hH⟩

theorem quAt.lt {H B : Nat} {q : List Nat} {w : World} (h : quAt H B q w) : H < w.heap.size := by
  obtain ⟨v, hH, _⟩ := h
  exact (Array.getElem?_eq_some_iff.1 hH).1

/-- the queue stays where a row of steps grows. -/
theorem quAt.grown {H B Z n : Nat} {q : List Nat} {w w' : World} {v : Value} {xs : List Value} (h : quAt H B q w) (hv : w.ownsRow Z 37 5 v n xs) (hg : w.grownBy w' v.ownBlock) : quAt H B q w' := by
  obtain ⟨x, hH, hx⟩ := h
  refine ⟨x, ?_, hx.kept hg ?_⟩
  · rw [hg.block H (Array.getElem?_eq_some_iff.1 hH).1 (row_other hv hH (by decide))]; exact hH
  · cases hb : x.ownBlock with
    | none => exact .inl rfl
    | some g =>
      right
      rcases hx.2 with ⟨e, _⟩ | ⟨g', cap, cur, rfl, _, hg', _⟩
      · rw [e] at hb; simp [Value.ownBlock] at hb
      · simp only [Value.ownBlock, Option.some.injEq] at hb
        subst hb
        exact row_other hv hg' (by decide)

theorem quAt.below {H B : Nat} {q : List Nat} {w w' : World} (h : quAt H B q w) (b : Below w.heap.size w w') : quAt H B q w' := by
  obtain ⟨x, hH, hx⟩ := h
  exact ⟨x, by rw [b.block _ (Array.getElem?_eq_some_iff.1 hH).1]; exact hH, own_kept hx b⟩

theorem quAt.set {H Z : Nat} {q : List Nat} {w : World} (h : quAt H Z q w) {g : Nat} (hg : g < Z) (hZ : Z ≤ H) (i : Nat) (u : Value) : quAt H Z q (w.setCell ⟨g, i, none⟩ u) := by
  obtain ⟨x, hH, hx⟩ := h
  refine ⟨x, by rw [Below.heap_setCell _ _ _ _ (show H ≠ g by omega)]; exact hH, own_setOther hx (fun e => ?_) _⟩
  have := (hx.lt g e).1
  omega

theorem own_set {Z n : Nat} {v : Value} {xs : List Value} {w : World} (h : w.ownsRow Z 37 5 v n xs) {g : Nat} (hg : g < Z) (i : Nat) (u : Value) : (w.setCell ⟨g, i, none⟩ u).ownsRow Z 37 5 v n xs :=
  own_setOther h (fun e => by have := (h.lt g e).1; omega) _

/-- the queue at the beginning. -/
theorem quAt_new (w : World) (Z : Nat) (hZ : Z ≤ w.heap.size) : quAt (w.heap.size + 1) Z [] ((w.alloc (Obj.cells #[] 3)).alloc (Obj.cells #[.slice (some ⟨w.heap.size, 0, none⟩) 0 0] 111)) := by
  refine ⟨_, ?_, rfl, .inr ⟨w.heap.size, 0, #[], rfl, hZ, ?_, Nat.le_refl _, Nat.zero_le _, rfl, rfl⟩⟩
  · have h := heap_alloc_new (w.alloc (Obj.cells #[] 3)) (Obj.cells #[.slice (some ⟨w.heap.size, 0, none⟩) 0 0] 111)
    rw [World.size_alloc] at h
    exact h
  · rw [Below.heap_alloc _ _ _ (by simp)]
    exact heap_alloc_new w _

theorem picked_snoc (l : List _root_.Pl.Sp) (D : List Nat) (k : Nat) (s : _root_.Pl.Sp) (h : l[k]? = some s) : _root_.Pl.picked l (D ++ [k]) = _root_.Pl.picked l D ++ [s] := by
  unfold _root_.Pl.picked
  rw [List.map_append, List.map_cons, List.map_nil, List.getD_eq_getElem?_getD, h]; rfl

theorem picked_length (l : List _root_.Pl.Sp) (D : List Nat) : (_root_.Pl.picked l D).length = D.length := by unfold _root_.Pl.picked; rw [List.length_map]

end Go.Proofs.Ytjjmcnippjpclab
