/-
  The walk of goes: the states behind a Do that goes ahead, or on.
-/
import Derived.Test.YtjjmcnippjpclaaDoesLike
namespace Go.Proofs.Ytjjmcnippjpclaa

open Go.RowKit

/-- a Do, as the law keeps it: fifteen cells. -/
def callV (kd : Int) (ot : Bool) (P : ByteArray) (ca : Int) (nv : Value) (OL NL : Nat) (OS NS : ByteArray) (sl : Value) (fit : Bool) (was : ByteArray) (e : Int) (now : ByteArray) (al : Bool) : Array Value :=
  #[.int .i64 kd, .bool ot, .string P, .int .i64 ca, nv, .int .i64 OL, .int .i64 NL, .string OS, .string NS, sl, .bool fit, .string was, .int .i64 e, .string now, .bool al]

def stB (p n : ByteArray) (d : Bool) : Ls := ⟨p.data.toList, n.data.toList, d⟩

theorem rowStep.keeps {v v' : Value} {w w' : World} (h : rowStep v v' w w') {k : Nat} {ob : Obj} (hk : w.heap[k]? = some ob) (hn : some k ≠ v.ownBlock) : w'.heap[k]? = some ob := by
  rw [h.grown.block k (lt_of_heap hk) hn]; exact hk

/-- the boxes of goes: the call, the state, and the two states that it makes. -/
structure gBox (C X : Nat) (cc : Array Value) (sp sn : ByteArray) (sd : Bool) (P W : ByteArray) (u : World) : Prop where
  c : u.heap[C]? = some (.cells cc 137 (0, 0))
  s : u.heap[C + 1]? = some (.cells #[.string sp, .string sn, .bool sd] 54 (0, 0))
  x : u.heap[X]? = some (.cells #[.string P, .string W, .bool false] 54 (0, 0))
  y : u.heap[X + 1]? = some (.cells #[.string P, .string W, .bool true] 54 (0, 0))

theorem gBox.below {C X : Nat} {cc : Array Value} {sp sn : ByteArray} {sd : Bool} {P W : ByteArray} {u v : World} (h : gBox C X cc sp sn sd P W u) (b : Below u.heap.size u v) : gBox C X cc sp sn sd P W v :=
  ⟨by rw [b.block _ (lt_of_heap h.c)]; exact h.c, by rw [b.block _ (lt_of_heap h.s)]; exact h.s, by rw [b.block _ (lt_of_heap h.x)]; exact h.x, by rw [b.block _ (lt_of_heap h.y)]; exact h.y⟩

theorem gBox.step {C X : Nat} {cc : Array Value} {sp sn : ByteArray} {sd : Bool} {P W : ByteArray} {u v : World} {a b : Value} (h : gBox C X cc sp sn sd P W u) (k : rowStep a b u v) (hn : some C ≠ a.ownBlock ∧ some (C + 1) ≠ a.ownBlock ∧ some X ≠ a.ownBlock ∧ some (X + 1) ≠ a.ownBlock) : gBox C X cc sp sn sd P W v :=
  ⟨k.keeps h.c hn.1, k.keeps h.s hn.2.1, k.keeps h.x hn.2.2.1, k.keeps h.y hn.2.2.2⟩

theorem gBox.cells {C X : Nat} {cc : Array Value} {sp sn : ByteArray} {sd : Bool} {P W : ByteArray} {u : World} (h : gBox C X cc sp sn sd P W u) :
    (u.cell? ⟨C + 1, 0, none⟩ = some (.string sp) ∧ u.cell? ⟨C + 1, 1, none⟩ = some (.string sn) ∧ u.cell? ⟨C + 1, 2, none⟩ = some (.bool sd)) ∧ (u.cell? ⟨X, 0, none⟩ = some (.string P) ∧ u.cell? ⟨X, 1, none⟩ = some (.string W) ∧ u.cell? ⟨X, 2, none⟩ = some (.bool false)) ∧ (u.cell? ⟨X + 1, 0, none⟩ = some (.string P) ∧ u.cell? ⟨X + 1, 1, none⟩ = some (.string W) ∧ u.cell? ⟨X + 1, 2, none⟩ = some (.bool true)) := by
  refine ⟨⟨?_, ?_, ?_⟩, ⟨?_, ?_, ?_⟩, ?_, ?_, ?_⟩
  · rw [Lib.cell_of_heap h.s]; rfl
  · rw [Lib.cell_of_heap h.s]; rfl
  · rw [Lib.cell_of_heap h.s]; rfl
  · rw [Lib.cell_of_heap h.x]; rfl
  · rw [Lib.cell_of_heap h.x]; rfl
  · rw [Lib.cell_of_heap h.x]; rfl
  · rw [Lib.cell_of_heap h.y]; rfl
  · rw [Lib.cell_of_heap h.y]; rfl
  · rw [Lib.cell_of_heap h.y]; rfl

/-- the boxes are none of a list's blocks. -/
theorem rowOff {C X : Nat} {v : Value} {w : World} {S : List Ls} (h : stRow w v S) (hC : w.heap.size ≤ C) (hX : w.heap.size ≤ X) : some C ≠ v.ownBlock ∧ some (C + 1) ≠ v.ownBlock ∧ some X ≠ v.ownBlock ∧ some (X + 1) ≠ v.ownBlock :=
  ⟨fun e => by have := h.lt e.symm; omega, fun e => by have := h.lt e.symm; omega, fun e => by have := h.lt e.symm; omega, fun e => by have := h.lt e.symm; omega⟩

theorem rowOff2 {C X : Nat} {v v' : Value} {w u u' : World} {S : List Ls} (h : stRow w v S) (hC : w.heap.size ≤ C) (hX : w.heap.size ≤ X) (hCu : C + 1 < u.heap.size) (hXu : X + 1 < u.heap.size) (k : rowStep v v' u u') : some C ≠ v'.ownBlock ∧ some (C + 1) ≠ v'.ownBlock ∧ some X ≠ v'.ownBlock ∧ some (X + 1) ≠ v'.ownBlock := by
  rcases k.own with e | ⟨g, e, hg⟩
  · rw [e]; exact rowOff h hC hX
  · rw [e]
    refine ⟨?_, ?_, ?_, ?_⟩ <;> (intro e2; have := Option.some.inj e2; omega)

set_option maxRecDepth 100000 in
set_option maxHeartbeats 4000000 in
theorem goes_any (kd : Int) (ot : Bool) (P : ByteArray) (ca : Int) (OL NL : Nat) (OS NS : ByteArray) (sl : Value) (fit : Bool) (was : ByteArray) (e : Int) (now : ByteArray) (al : Bool)
    (D : Nat) (tv sv : Value) (y : Dp.Dv) (rv : Value) (zs : List Int) (sp sn : ByteArray) (sd : Bool) (W : ByteArray) (bg : Bool) (v : Value) (Sl : List Ls) (w : World)
    (hW : W.size ≤ 1000000) (hSl : Sl.length ≤ 4400000000000) (hts : y.text.length = y.safe.length) (hm : y.text.length ≤ 140737488355328) (hsl : y.sure ≤ y.log.length) (hll : y.log.length ≤ 4611686018427387904) (hz : Hid (numsOk zs)) (hr : Hid (numsAt w rv zs)) (h : Hid (devAt D tv sv y w)) (hv : Hid (stRow w v Sl)) :
    Calls Try.prog 115 #[.agg (callV kd ot P ca rv OL NL OS NS sl fit was e now al), .pointer (some ⟨D, 0, none⟩), .agg #[.string sp, .string sn, .bool sd], .string W, .bool bg, v] w fun e' w' => ∃ v' S', e' = .returned v' ∧ stRow w' v' S' ∧ (∀ a, a ∈ S' ↔ a ∈ Sl ∨ goesNew P.data.toList NS e y zs (stB sp sn sd) W.data.toList bg a) ∧ S'.length ≤ Sl.length + 3 ∧ rowStep v v' w w' := by
  obtain ⟨ao, ln, cp, rfl⟩ : ∃ ao ln cp, rv = .slice ao ln cp := by
    rcases hr.out with ⟨_, ao, c, h⟩ | ⟨b, o, c, h, _⟩
    · exact ⟨_, _, _, h⟩
    · exact ⟨_, _, _, h⟩
  obtain ⟨la, ll, lc, rfl⟩ : ∃ a b c, v = .slice a b c := by
    rcases hv.out.form with ⟨h1, _⟩ | ⟨g, cap, h1, _⟩
    · exact ⟨_, _, _, h1⟩
    · exact ⟨_, _, _, h1⟩
  unfold callV
  have b0 := ((Below.refl w.heap.size w).alloc (Nat.le_refl _) (Obj.cells #[.int .i64 kd, .bool ot, .string P, .int .i64 ca, .slice ao ln cp, .int .i64 OL, .int .i64 NL, .string OS, .string NS, sl, .bool fit, .string was, .int .i64 e, .string now, .bool al] 137)).alloc (by simp) (Obj.cells #[.string sp, .string sn, .bool sd] 54)
  have qC : ((w.alloc (Obj.cells #[.int .i64 kd, .bool ot, .string P, .int .i64 ca, .slice ao ln cp, .int .i64 OL, .int .i64 NL, .string OS, .string NS, sl, .bool fit, .string was, .int .i64 e, .string now, .bool al] 137)).alloc (Obj.cells #[.string sp, .string sn, .bool sd] 54)).heap[w.heap.size]? = some (.cells #[.int .i64 kd, .bool ot, .string P, .int .i64 ca, .slice ao ln cp, .int .i64 OL, .int .i64 NL, .string OS, .string NS, sl, .bool fit, .string was, .int .i64 e, .string now, .bool al] 137 (0, 0)) := by
    rw [Below.heap_alloc _ _ _ (by simp)]; exact heap_alloc_new w _
  have qS : ((w.alloc (Obj.cells #[.int .i64 kd, .bool ot, .string P, .int .i64 ca, .slice ao ln cp, .int .i64 OL, .int .i64 NL, .string OS, .string NS, sl, .bool fit, .string was, .int .i64 e, .string now, .bool al] 137)).alloc (Obj.cells #[.string sp, .string sn, .bool sd] 54)).heap[w.heap.size + 1]? = some (.cells #[.string sp, .string sn, .bool sd] 54 (0, 0)) := by
    have := heap_alloc_new (w.alloc (Obj.cells #[.int .i64 kd, .bool ot, .string P, .int .i64 ca, .slice ao ln cp, .int .i64 OL, .int .i64 NL, .string OS, .string NS, sl, .bool fit, .string was, .int .i64 e, .string now, .bool al] 137)) (Obj.cells #[.string sp, .string sn, .bool sd] 54)
    rw [World.size_alloc] at this
    exact this
  have HSm := fun v => refsum_any W v (by unfold maxLen; omega)
  go_enter Try.func115, Try.ntmps115
  go_wp2_with fail
  generalize (w.alloc (Obj.cells #[.int .i64 kd, .bool ot, .string P, .int .i64 ca, .slice ao ln cp, .int .i64 OL, .int .i64 NL, .string OS, .string NS, sl, .bool fit, .string was, .int .i64 e, .string now, .bool al] 137)).alloc (Obj.cells #[.string sp, .string sn, .bool sd] 54) = v0 at *
  have hs0 : w.heap.size + 1 < v0.heap.size := lt_of_heap qS
  have p8 : v0.cell? ⟨w.heap.size, 8, none⟩ = some (.string NS) := by rw [Lib.cell_of_heap qC]; rfl
  have HB5 : Hid (∀ v, Below v0.drew.heap.size v0.drew v → v.cell? ⟨w.heap.size, 8, none⟩ = some (.string NS)) := fun v hb => by rw [hb.cell (show w.heap.size < v0.drew.heap.size from by show w.heap.size < v0.heap.size; omega)]; exact p8
  have HB0 : Hid (v0.drew.cell? ⟨w.heap.size, 8, none⟩ = some (.string NS)) := p8
  have QC : Hid _ := qC
  have QS : Hid _ := qS
  have BB : Hid (Below w.heap.size w v0) := b0
  clear qC qS b0 p8
  have hcmp : (Dp.sumL W.data.toList = NS ∧ ((Dp.sumL W.data.toList).toList == NS.toList) = true) ∨ (Dp.sumL W.data.toList ≠ NS ∧ ((Dp.sumL W.data.toList).toList == NS.toList) = false) := by
    by_cases hc : Dp.sumL W.data.toList = NS
    · exact .inl ⟨hc, beq_of hc⟩
    · exact .inr ⟨hc, bne_of hc⟩
  have HSm' : ∀ v, Calls Try.prog 15 #[.string W] v fun e w' => e = .returned (.string (Dp.sumL W.data.toList)) ∧ Below v.heap.size v w' := HSm
  clear HSm
  have HCM : Hid _ := hcmp
  clear hcmp
  generalize hqb : ((Dp.sumL W.data.toList).toList == NS.toList) = rt at *
  go_region_held3 (fun u => u.cell? ⟨w.heap.size, 8, none⟩ = some (.string NS)) (first | exact HB0.out | exact HB5.out _ b5) ((go_at_call 15; refine (HSm' _).mono ?_; rintro e' v5 ⟨rfl, b5⟩))
  have B5 : Below v0.heap.size v0 v5 := (Below.refl _ _).drew.trans b5
  clear b5 HB5 HB0 HSm'
  have QC5 : v5.heap[w.heap.size]? = some (.cells #[.int .i64 kd, .bool ot, .string P, .int .i64 ca, .slice ao ln cp, .int .i64 OL, .int .i64 NL, .string OS, .string NS, sl, .bool fit, .string was, .int .i64 e, .string now, .bool al] 137 (0, 0)) := by rw [B5.block _ (by omega)]; exact QC.out
  have QS5 : v5.heap[w.heap.size + 1]? = some (.cells #[.string sp, .string sn, .bool sd] 54 (0, 0)) := by rw [B5.block _ hs0]; exact QS.out
  have hs5 : w.heap.size + 1 < v5.heap.size := lt_of_heap QS5
  have c2 : v5.cell? ⟨w.heap.size, 2, none⟩ = some (.string P) := by rw [Lib.cell_of_heap QC5]; rfl
  have c4 : v5.cell? ⟨w.heap.size, 4, none⟩ = some (.slice ao ln cp) := by rw [Lib.cell_of_heap QC5]; rfl
  have c12 : v5.cell? ⟨w.heap.size, 12, none⟩ = some (.int .i64 e) := by rw [Lib.cell_of_heap QC5]; rfl
  have qal : ∀ (ob : Obj) (j : Nat), (v5.alloc ob).cell? ⟨w.heap.size, j, none⟩ = v5.cell? ⟨w.heap.size, j, none⟩ := fun ob j => World.cell?_of_block (Below.heap_alloc v5 ob _ (by show w.heap.size < v5.heap.size; omega))
  have qal2 : ∀ (ob ob2 : Obj) (j : Nat), ((v5.alloc ob).alloc ob2).cell? ⟨w.heap.size, j, none⟩ = v5.cell? ⟨w.heap.size, j, none⟩ := fun ob ob2 j => by
    rw [World.cell?_of_block (Below.heap_alloc (v5.alloc ob) ob2 _ (by show w.heap.size < (v5.alloc ob).heap.size; simp; omega))]; exact qal ob j
  have b6 := ((Below.refl v5.heap.size v5).alloc (Nat.le_refl _) (Obj.cells #[.string P, .string W, .bool false] 54)).alloc (by simp) (Obj.cells #[.string P, .string W, .bool true] 54)
  have HG6 : Hid (gBox w.heap.size v5.heap.size #[.int .i64 kd, .bool ot, .string P, .int .i64 ca, .slice ao ln cp, .int .i64 OL, .int .i64 NL, .string OS, .string NS, sl, .bool fit, .string was, .int .i64 e, .string now, .bool al] sp sn sd P W ((v5.alloc (Obj.cells #[.string P, .string W, .bool false] 54)).alloc (Obj.cells #[.string P, .string W, .bool true] 54))) := by
    refine ⟨by rw [b6.block _ (by omega)]; exact QC5, by rw [b6.block _ hs5]; exact QS5, ?_, ?_⟩
    · rw [Below.heap_alloc _ _ _ (by simp)]; exact heap_alloc_new v5 _
    · have := heap_alloc_new (v5.alloc (Obj.cells #[.string P, .string W, .bool false] 54)) (Obj.cells #[.string P, .string W, .bool true] 54)
      rw [World.size_alloc] at this
      exact this
  have B6 : Hid (Below w.heap.size w ((v5.alloc (Obj.cells #[.string P, .string W, .bool false] 54)).alloc (Obj.cells #[.string P, .string W, .bool true] 54))) := (BB.out.trans (B5.mono BB.out.size)).trans (b6.mono (by omega))
  have HV6 : Hid (stRow ((v5.alloc (Obj.cells #[.string P, .string W, .bool false] 54)).alloc (Obj.cells #[.string P, .string W, .bool true] 54)) (.slice la ll lc) Sl) := hv.out.of_block fun k hk => B6.out.block k (hv.out.lt hk)
  have HNE : Hid _ := rowOff (C := w.heap.size) (X := v5.heap.size) hv.out (Nat.le_refl _) (by omega)
  have HRS : Hid (rowStep (.slice la ll lc) (.slice la ll lc) w ((v5.alloc (Obj.cells #[.string P, .string W, .bool false] 54)).alloc (Obj.cells #[.string P, .string W, .bool true] 54))) := .below B6.out
  clear B5 b6 QC5 QS5 QC QS BB
  by_cases e0 : e = 0
  · subst e0
    have HSt := standsD_any D tv sv y W (.slice ao ln cp) zs ((v5.alloc (Obj.cells #[.string P, .string W, .bool false] 54)).alloc (Obj.cells #[.string P, .string W, .bool true] 54)) hW hts hm hsl hll hz (hr.out.of_blocks (fun b _ _ _ _ hl => B6.out.block b hl) B6.out.size) (h.out.below B6.out)
    go_wp2_with fail
    refine HSt.mono ?_
    rintro e' v7 ⟨Bs, rfl, hBs, b7⟩
    have HBs : Hid _ := hBs
    have HG7 : Hid _ := HG6.out.below b7
    have HV7 : Hid (stRow v7 (.slice la ll lc) Sl) := HV6.out.of_block fun k hk => b7.block k (HV6.out.lt hk)
    have HR7 : Hid (rowStep (.slice la ll lc) (.slice la ll lc) w v7) := HRS.out.trans (.below b7)
    clear hBs b7 HSt
    have hno : (Bs = false ∨ rt = false) → ∀ a, ¬ goesNew P.data.toList NS 0 y zs (stB sp sn sd) W.data.toList bg a := fun hf a hg => by
      rcases hg with ⟨_, g2, g3, _⟩ | ⟨g, _⟩ | ⟨g, _⟩
      · rcases hf with hf | hf
        · have := HBs.out.2 g2; rw [hf] at this; cases this
        · rcases HCM.out with ⟨_, k⟩ | ⟨k, _⟩
          · rw [hf] at k; cases k
          · exact k g3
      · cases g
      · cases g
    have HNO : Hid _ := hno
    clear hno
    cases Bs with
    | false =>
      go_wp2_with fail
      go_ret
      exact ⟨_, Sl, rfl, HV7.out, fun a => ⟨fun h => .inl h, fun h => h.elim id fun h => absurd h (HNO.out (.inl (by trivial)) a)⟩, by omega, HR7.out⟩
    | true =>
      cases rt with
      | false =>
        go_wp2_with fail
        go_ret
        exact ⟨_, Sl, rfl, HV7.out, fun a => ⟨fun h => .inl h, fun h => h.elim id fun h => absurd h (HNO.out (.inr (by trivial)) a)⟩, by omega, HR7.out⟩
      | true =>
        obtain ⟨-, -, cy0, cy1, cy2⟩ := HG7.out.cells
        go_wp2_with fail
        refine (add_any (.slice la ll lc) Sl P W true v7 (by omega) HV7).mono ?_
        rintro e' v8 ⟨v', S', rfl, h8, m8, l8, k8⟩
        go_wp2_with fail
        go_ret
        refine ⟨_, S', rfl, h8, fun a => ?_, by omega, HR7.out.trans k8⟩
        rw [m8 a]
        constructor
        · rintro (h | h)
          · exact .inl h
          · exact .inr (.inl ⟨rfl, HBs.out.1 (by trivial), (by rcases HCM.out with ⟨k, _⟩ | ⟨_, k⟩; exact k; cases k), h⟩)
        · rintro (h | (⟨_, _, _, h⟩ | ⟨g, _⟩ | ⟨g, _⟩))
          · exact .inl h
          · exact .inr h
          · cases g
          · cases g
  · have d0 : (e == 0) = false := by simpa using e0
    by_cases e5 : e = 5
    · subst e5
      cases rt with
      | true =>
        go_wp2_with fail
        go_ret
        refine ⟨_, rfl, Sl, HV6.out, fun a => ⟨fun h => .inl h, fun h => h.elim id fun h => ?_⟩, by omega, HRS.out⟩
        rcases h with ⟨g, _⟩ | ⟨_, g, _⟩ | ⟨g, _⟩
        · cases g
        · rcases HCM.out with ⟨k, _⟩ | ⟨_, k⟩
          · exact absurd k g
          · cases k
        · cases g
      | false =>
        have HAdd := add_any (.slice la ll lc) Sl P W false ((v5.alloc (Obj.cells #[.string P, .string W, .bool false] 54)).alloc (Obj.cells #[.string P, .string W, .bool true] 54)) (by omega) HV6
        obtain ⟨-, ⟨cx0, cx1, cx2⟩, -⟩ := HG6.out.cells
        go_wp2_with fail
        refine HAdd.mono ?_
        rintro e' v8 ⟨v', S', rfl, h8, m8, l8, k8⟩
        go_wp2_with fail
        go_ret
        refine ⟨_, S', rfl, h8, fun a => ?_, by omega, HRS.out.trans k8⟩
        rw [m8 a]
        constructor
        · rintro (h | h)
          · exact .inl h
          · exact .inr (.inr (.inl ⟨rfl, (by rcases HCM.out with ⟨_, k⟩ | ⟨k, _⟩; cases k; exact k), h⟩))
        · rintro (h | (⟨g, _⟩ | ⟨_, _, h⟩ | ⟨g, _⟩))
          · exact .inl h
          · cases g
          · exact .inr h
          · cases g
    · have d5 : (e == 5) = false := by simpa using e5
      by_cases e7 : e = 7
      · subst e7
        have HAdd := add_any (.slice la ll lc) Sl P W false ((v5.alloc (Obj.cells #[.string P, .string W, .bool false] 54)).alloc (Obj.cells #[.string P, .string W, .bool true] 54)) (by omega) HV6
        have hsz6 : w.heap.size + 1 < ((v5.alloc (Obj.cells #[.string P, .string W, .bool false] 54)).alloc (Obj.cells #[.string P, .string W, .bool true] 54)).heap.size ∧ v5.heap.size + 1 < ((v5.alloc (Obj.cells #[.string P, .string W, .bool false] 54)).alloc (Obj.cells #[.string P, .string W, .bool true] 54)).heap.size := ⟨lt_of_heap HG6.out.s, lt_of_heap HG6.out.y⟩
        obtain ⟨-, ⟨cx0, cx1, cx2⟩, -⟩ := HG6.out.cells
        go_wp2_with fail
        refine HAdd.mono ?_
        rintro e' v8 ⟨v1, S1, rfl, h8, m8, l8, k8⟩
        obtain ⟨xa, xb, xc, rfl⟩ : ∃ a b c, v1 = .slice a b c := by
          rcases h8.form with ⟨h1, _⟩ | ⟨g, cap, h1, _⟩
          · exact ⟨_, _, _, h1⟩
          · exact ⟨_, _, _, h1⟩
        have HG8 : Hid _ := HG6.out.step k8 HNE.out
        have HN8 : Hid _ := rowOff2 hv.out (Nat.le_refl _) (by omega) hsz6.1 hsz6.2 k8
        have H8 : Hid (stRow v8 (.slice xa xb xc) S1) := h8
        have K8 : Hid (rowStep (.slice la ll lc) (.slice xa xb xc) w v8) := HRS.out.trans k8
        have M8 : Hid (∀ a, a ∈ S1 ↔ a ∈ Sl ∨ a = ⟨P.data.toList, W.data.toList, false⟩) := m8
        clear cx0 cx1 cx2 h8 m8 k8 HAdd
        obtain ⟨⟨cs0, cs1, cs2⟩, -, cy0, cy1, cy2⟩ := HG8.out.cells
        have hS1 : S1.length ≤ 4400000000001 := by omega
        have hL1 := l8
        cases rt with
        | false =>
          cases bg with
          | true =>
            go_wp2_with fail
            go_ret
            refine ⟨_, S1, rfl, H8.out, fun a => ?_, by omega, K8.out⟩
            rw [M8.out a]
            constructor
            · rintro (h | h)
              · exact .inl h
              · exact .inr (.inr (.inr ⟨rfl, .inl h⟩))
            · rintro (h | (⟨g, _⟩ | ⟨g, _⟩ | ⟨_, h | ⟨h, _⟩ | ⟨h, _⟩⟩))
              · exact .inl h
              · cases g
              · cases g
              · exact .inr h
              · rcases HCM.out with ⟨_, k⟩ | ⟨k, _⟩
                · cases k
                · exact absurd h k
              · cases h
          | false =>
            go_wp2_with fail
            refine (add_any (.slice xa xb xc) S1 sp sn sd v8 (by omega) H8).mono ?_
            rintro e' v9 ⟨v2, S2, rfl, h9, m9, l9, k9⟩
            go_wp2_with fail
            go_ret
            refine ⟨_, S2, rfl, h9, fun a => ?_, by omega, K8.out.trans k9⟩
            rw [m9 a, M8.out a]
            constructor
            · rintro ((h | h) | h)
              · exact .inl h
              · exact .inr (.inr (.inr ⟨rfl, .inl h⟩))
              · exact .inr (.inr (.inr ⟨rfl, .inr (.inr ⟨rfl, h⟩)⟩))
            · rintro (h | (⟨g, _⟩ | ⟨g, _⟩ | ⟨_, h | ⟨h, _⟩ | ⟨_, h⟩⟩))
              · exact .inl (.inl h)
              · cases g
              · cases g
              · exact .inl (.inr h)
              · rcases HCM.out with ⟨_, k⟩ | ⟨k, _⟩
                · cases k
                · exact absurd h k
              · exact .inr h
        | true =>
          have hns : Dp.sumL W.data.toList = NS := by
            rcases HCM.out with ⟨k, _⟩ | ⟨_, k⟩
            · exact k
            · cases k
          have HNS : Hid _ := hns
          clear hns
          go_wp2_with fail
          refine (add_any (.slice xa xb xc) S1 P W true v8 (by omega) H8).mono ?_
          rintro e' v9 ⟨v2, S2, rfl, h9, m9, l9, k9⟩
          obtain ⟨ya, yb, yc, rfl⟩ : ∃ a b c, v2 = .slice a b c := by
            rcases h9.form with ⟨h1, _⟩ | ⟨g, cap, h1, _⟩
            · exact ⟨_, _, _, h1⟩
            · exact ⟨_, _, _, h1⟩
          have HG9 : Hid _ := HG8.out.step k9 HN8.out
          have H9 : Hid (stRow v9 (.slice ya yb yc) S2) := h9
          have K9 : Hid (rowStep (.slice la ll lc) (.slice ya yb yc) w v9) := K8.out.trans k9
          have M9 : Hid (∀ a, a ∈ S2 ↔ (a ∈ Sl ∨ a = ⟨P.data.toList, W.data.toList, false⟩) ∨ a = ⟨P.data.toList, W.data.toList, true⟩) := fun a => by rw [m9 a, M8.out a]
          clear cs0 cs1 cs2 cy0 cy1 cy2 h9 m9 k9
          obtain ⟨⟨cs0, cs1, cs2⟩, -, -⟩ := HG9.out.cells
          cases bg with
          | true =>
            go_wp2_with fail
            go_ret
            refine ⟨_, S2, rfl, H9.out, fun a => ?_, by omega, K9.out⟩
            rw [M9.out a]
            constructor
            · rintro ((h | h) | h)
              · exact .inl h
              · exact .inr (.inr (.inr ⟨rfl, .inl h⟩))
              · exact .inr (.inr (.inr ⟨rfl, .inr (.inl ⟨HNS.out, h⟩)⟩))
            · rintro (h | (⟨g, _⟩ | ⟨g, _⟩ | ⟨_, h | ⟨_, h⟩ | ⟨h, _⟩⟩))
              · exact .inl (.inl h)
              · cases g
              · cases g
              · exact .inl (.inr h)
              · exact .inr h
              · cases h
          | false =>
            go_wp2_with fail
            refine (add_any (.slice ya yb yc) S2 sp sn sd v9 (by omega) H9).mono ?_
            rintro e' v10 ⟨v3, S3, rfl, h10, m10, l10, k10⟩
            go_wp2_with fail
            go_ret
            refine ⟨_, S3, rfl, h10, fun a => ?_, by omega, K9.out.trans k10⟩
            rw [m10 a, M9.out a]
            constructor
            · rintro (((h | h) | h) | h)
              · exact .inl h
              · exact .inr (.inr (.inr ⟨rfl, .inl h⟩))
              · exact .inr (.inr (.inr ⟨rfl, .inr (.inl ⟨HNS.out, h⟩)⟩))
              · exact .inr (.inr (.inr ⟨rfl, .inr (.inr ⟨rfl, h⟩)⟩))
            · rintro (h | (⟨g, _⟩ | ⟨g, _⟩ | ⟨_, h | ⟨_, h⟩ | ⟨_, h⟩⟩))
              · exact .inl (.inl (.inl h))
              · cases g
              · cases g
              · exact .inl (.inl (.inr h))
              · exact .inl (.inr h)
              · exact .inr h
      · have d7 : (e == 7) = false := by simpa using e7
        go_wp2_with fail
        go_ret
        refine ⟨_, Sl, rfl, HV6.out, fun a => ⟨fun h => .inl h, fun h => h.elim id fun h => ?_⟩, by omega, HRS.out⟩
        rcases h with ⟨g, _⟩ | ⟨g, _⟩ | ⟨g, _⟩
        · exact absurd g e0
        · exact absurd g e5
        · exact absurd g e7

end Go.Proofs.Ytjjmcnippjpclaa
