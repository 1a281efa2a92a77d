/-
  A Do on a side, a step on a side, and the two sides.
-/
import Derived.Test.YtjjmcnippjpclaaDoesDo
import Derived.Test.YtjjmcnippjpclaaRefPlan
import Derived.Test.YtjjmcnippjpclaaDoesOpen
import Derived.Test.YtjjmcnippjpclaaDoesSmall
namespace Go.Proofs.Ytjjmcnippjpclaa

open Go.RowKit

/-- what is held of a side: the states hold the device; how many they are; how long the device lives; how long its log is. -/
structure okSide (L n N : Nat) (x : Dp.Dv) (S : List Ls) : Prop where
  held : heldBy L x S
  few : fewSt n S
  life : lifeOk x
  log : x.log.length ≤ N

theorem done_own (OL NL : Nat) (OS NS : ByteArray) (st : List Pl.St) (text : ByteArray) (u : World) (slv : Value) (B : Nat) (hO : OL ≤ 4000) (hN : NL ≤ 4000) (hst : st.length ≤ 2000) (hok : ∀ q ∈ st, Pl.ok OL NL q = true) (ht : OL ≤ text.size) (h : World.ownsRow u B 40 5 slv st.length (stCells st)) (h0 : 0 < u.heap.size) :
    Calls Try.prog 25 #[.agg #[.int .i64 OL, .int .i64 NL, .string OS, .string NS, slv], .string text] u fun e w' => e = .returned (.string ⟨(doneB st text NL).toArray⟩) ∧ Below u.heap.size u w' := by
  obtain ⟨a, b, o, c, rfl, hs, _⟩ := own_slice2 h rfl h0
  exact done_any OL NL OS NS a b o c st text u hO hN ht hst hs hok

theorem done_size (st : List Pl.St) (text : ByteArray) (NL : Nat) : (doneB st text NL).length = NL := by simp [doneB]

theorem does_any (b D : Nat) (tv sv : Value) (x : Dp.Dv) (lv : Value) (S : List Ls) (kd : Int) (ot : Bool) (P : ByteArray) (ca : Int) (nv : Value) (zs : List Int) (L n N : Nat) (w : World)
    (hP : P.size ≤ 140737488355328) (hL : L ≤ 140737488355328) (hn : n + 1 ≤ 2200000000000) (hNN : N ≤ 4611686017000000000) (hz : Hid (numsOk zs)) (hr : Hid (numsAt w nv zs)) (hrb : Hid (zs ≠ [] → ∀ B a n c, nv = .slice (some ⟨B, a, none⟩) n c → ¬ sideBlk b D tv sv lv B)) (h : Hid (sideAt b D tv sv x lv S w)) (hk : Hid (okSide L n N x S)) :
    Calls Try.prog 53 #[.pointer (some ⟨b, 0, none⟩), .agg #[.int .i64 kd, .bool ot, .string P, .int .i64 ca, nv]] w fun e w' => e = .returned (.bool true) ∧ ∃ D' tv' sv' x' lv' S', sideAt b D' tv' sv' x' lv' S' w' ∧ sideStep (sideBlk b D tv sv lv) (sideBlk b D' tv' sv' lv') w w' ∧ okSide L (n + 1) (N + 1100000) x' S' := by
  have held := hk.out.held
  have hxL := held.text
  have hxS := held.safe
  have hsure := held_sure held
  have hnext := held_next held
  have hlog := hk.out.log
  have hlen := hk.out.few.length h.out.row.2
  have hwt : ∀ s ∈ S, s.want.length ≤ 4000 := fun s hs => hk.out.few.want s hs
  have hfew : ∀ (NS : ByteArray) (want : List UInt8) (fit : Prop) (r : Int) (same : Prop) (y : Dp.Dv), want.length ≤ 4000 → ∀ Sl : List Ls, Sl.Nodup → (∀ a ∈ Sl, ∃ s ∈ S, fromNew P.data.toList NS want fit r same y zs s a) → Sl.length ≤ 4400000000000 := fun NS want fit r same y hw Sl hnd hm => by
    have := (hk.out.few.next P.data.toList NS want fit r same y zs hw hm).length hnd
    omega
  have hrb2 : zs ≠ [] → ∀ B a n c, nv = .slice (some ⟨B, a, none⟩) n c → B ≠ b := fun hne B a n c e e2 => hrb.out hne B a n c e (.inl e2)
  by_cases hE : pErr P = 0
  · have hfair := fair_of hE (patch_small hE)
    have hst := full_len hE
    have hdo : ∀ D' tv' sv' v, devAt D' tv' sv' x v → Calls Try.prog 27 #[.pointer (some ⟨D', 0, none⟩), .string P] v fun e v' => e = .returned (.int .i64 (pDo x P.data.toList (hOL P) (hNL P) (hOS P) (hNS P) (pSt P) (DE x P.data.toList (hOL P) (hNL P) (hOS P) (pSt P))).1) ∧ devAt D' tv' sv' (pDo x P.data.toList (hOL P) (hNL P) (hOS P) (hNS P) (pSt P) (DE x P.data.toList (hOL P) (hNL P) (hOS P) (pSt P))).2 v' ∧ kept3 D' tv'.ownBlock sv'.ownBlock v v' := fun D' tv' sv' v hv => by
      refine (do_det D' tv' sv' x P v (by have := patch_small hE; omega) hE (by omega) (by omega) (by omega) (by omega) hv hk.out.life).mono ?_
      rintro e v' ⟨E, rfl, h1, h2, h3⟩
      exact ⟨h1, h2, h3⟩
    have hrp : ∀ v, Calls Try.prog 16 #[.string P] v fun e v' => ∃ slv, e = .returned (.tuple #[.agg #[.int .i64 (hOL P), .int .i64 (hNL P), .string (hOS P), .string (hNS P), slv], .int .i64 0]) ∧ Below v.heap.size v v' ∧ v'.ownsRow v.heap.size 40 5 slv (pSt P).length (stCells (pSt P)) := fun v => by
      refine (refPlan_any P v (by omega)).mono ?_
      rintro e v' ⟨hb, ⟨hne, _⟩ | ⟨_, slv, h1, h2⟩⟩
      · exact absurd hE hne
      · refine ⟨slv, h1, hb, ?_⟩
        have e1 : (pSt P).length = hN P := stepsV_length _ _ _
        rw [e1]; exact h2
    have hdone : ∀ u slv B, (x.life ≠ 0 ∧ hOL P ≤ x.text.length ∧ hNL P ≤ x.text.length ∧ Dp.sumL (x.text.take (hOL P)) = hOS P) → World.ownsRow u B 40 5 slv (pSt P).length (stCells (pSt P)) → 0 < u.heap.size → Calls Try.prog 25 #[.agg #[.int .i64 (hOL P), .int .i64 (hNL P), .string (hOS P), .string (hNS P), slv], .string ⟨x.text.toArray⟩] u fun e w' => e = .returned (.string ⟨(doneB (pSt P) ⟨x.text.toArray⟩ (hNL P)).toArray⟩) ∧ Below u.heap.size u w' := fun u slv B hf hrow h0 =>
      done_own (hOL P) (hNL P) (hOS P) (hNS P) (pSt P) ⟨x.text.toArray⟩ u slv B hfair.ol hfair.nl hst hfair.ok (by rw [strSize]; exact hf.2.1) hrow h0
    have hwz : (⟨(doneB (pSt P) ⟨x.text.toArray⟩ (hNL P)).toArray⟩ : ByteArray).size ≤ 1000000 := by
      rw [strSize, done_size]; have := hfair.nl; omega
    have HW4 : (⟨(doneB (pSt P) ⟨x.text.toArray⟩ (hNL P)).toArray⟩ : ByteArray).data.toList.length ≤ 4000 := by
      show (doneB (pSt P) ⟨x.text.toArray⟩ (hNL P)).length ≤ 4000
      rw [done_size]; exact hfair.nl
    by_cases hl0 : x.life = 0
    · have hpd : pDo x P.data.toList (hOL P) (hNL P) (hOS P) (hNS P) (pSt P) (DE x P.data.toList (hOL P) (hNL P) (hOS P) (pSt P)) = (7, x) := by unfold pDo; rw [if_pos hl0]
      rw [hpd] at hdo
      refine (does_walk b D tv sv x x lv S kd ot P ca nv zs (hOL P) (hNL P) (hOS P) (hNS P) (pSt P) 0 7 _ (fun S' => S' = S) w hfair.ol hwz (by omega) (by omega) (by omega) (by omega) hsure (by omega) (hfew _ _ _ _ _ _ HW4) (by omega) hwt hz hr hrb2 h hrp hdo hdone (fun _ => rfl) (fun _ h => absurd hl0 h) (.inr (.inl ⟨rfl, hl0, rfl, rfl⟩))).mono ?_
      rintro e w' ⟨he, D', tv', sv', lv', S', h1, h2, rfl⟩
      exact ⟨he, D', tv', sv', x, lv', _, h1, h2, ⟨held, hk.out.few.mono (Nat.le_succ _) fun _ h => h, hk.out.life, by omega⟩⟩
    · obtain ⟨s0, hs0, hg0, o1, o2, o3, o4, l, hsh, hlne, hall⟩ := do_law held hl0 P hfair (DE x P.data.toList (hOL P) (hNL P) (hOS P) (pSt P)) zs
      have hlo := lifeOk_do (by omega) hk.out.life P.data.toList (hOL P) (hNL P) (hOS P) (hNS P) (pSt P) (DE x P.data.toList (hOL P) (hNL P) (hOS P) (pSt P)) (by rw [data_len]; have := patch_small hE; omega) (by have := hfair.nl; omega)
      generalize pDo x P.data.toList (hOL P) (hNL P) (hOS P) (hNS P) (pSt P) (DE x P.data.toList (hOL P) (hNL P) (hOS P) (pSt P)) = ry at *
      obtain ⟨r, y⟩ := ry
      dsimp only at *
      rw [← hxL] at hall
      obtain ⟨a0, ha0⟩ : ∃ a, a ∈ l := by
        cases l with
        | nil => exact absurd rfl hlne
        | cons a l => exact ⟨a, by simp⟩
      refine (does_walk b D tv sv x y lv S kd ot P ca nv zs (hOL P) (hNL P) (hOS P) (hNS P) (pSt P) 0 r _ (fun S' => heldBy L y S' ∧ fewSt (n + 1) S') w hfair.ol hwz (by omega) (by omega) (by omega) (by omega) (shape_sure hsh) (by omega) (hfew _ _ _ _ _ _ HW4) (by omega) hwt hz hr hrb2 h hrp hdo hdone (fun h => by rcases h with h | h; exact absurd rfl h; exact absurd h hl0) (fun _ _ S' hS' => ?_) (.inr (.inr ⟨rfl, hl0, o3, s0, hs0, hg0, a0, hall a0 ha0⟩))).mono ?_
      · refine ⟨⟨o1, o2, l, hsh, fun a ha => (hS' a).2 ⟨s0, hs0, hg0, hall a ha⟩⟩, ?_⟩
        refine hk.out.few.next P.data.toList (hNS P) (doneB (pSt P) ⟨x.text.toArray⟩ (hNL P)) (hOL P ≤ x.text.length ∧ hNL P ≤ x.text.length ∧ Dp.sumL (x.text.take (hOL P)) = hOS P) r (y.life = 0 ∨ y.text = x.text) y zs (by rw [done_size]; exact hfair.nl) fun a ha => ?_
        obtain ⟨s, h1, _, h3⟩ := (hS' a).1 ha
        exact ⟨s, h1, h3⟩
      · rintro e w' ⟨he, D', tv', sv', lv', S', h1, h2, h3, h4⟩
        exact ⟨he, D', tv', sv', y, lv', S', h1, h2, ⟨h3, h4, hlo, by omega⟩⟩
  · have hdo : ∀ D' tv' sv' v, devAt D' tv' sv' x v → Calls Try.prog 27 #[.pointer (some ⟨D', 0, none⟩), .string P] v fun e v' => e = .returned (.int .i64 (pErr P)) ∧ devAt D' tv' sv' x v' ∧ kept3 D' tv'.ownBlock sv'.ownBlock v v' := fun D' tv' sv' v hv => by
      refine (do_err D' P v (by omega) hE).mono ?_
      rintro e v' ⟨h1, h2⟩
      exact ⟨h1, hv.below h2, .of_below h2⟩
    have hrp : ∀ v, Calls Try.prog 16 #[.string P] v fun e v' => ∃ slv, e = .returned (.tuple #[.agg #[.int .i64 ((0 : Nat) : Int), .int .i64 ((0 : Nat) : Int), .string ⟨#[]⟩, .string ⟨#[]⟩, slv], .int .i64 (pErr P)]) ∧ Below v.heap.size v v' ∧ v'.ownsRow v.heap.size 40 5 slv ([] : List Pl.St).length (stCells []) := fun v => by
      refine (refPlan_any P v (by omega)).mono ?_
      rintro e v' ⟨hb, ⟨_, h1⟩ | ⟨he, _⟩⟩
      · exact ⟨_, h1, hb, World.ownsRow_nil _ _ _ _⟩
      · exact absurd he hE
    have HW4 : (⟨(doneB [] ⟨x.text.toArray⟩ 0).toArray⟩ : ByteArray).data.toList.length ≤ 4000 := by
      show (doneB [] ⟨x.text.toArray⟩ 0).length ≤ 4000
      rw [done_size]; omega
    refine (does_walk b D tv sv x x lv S kd ot P ca nv zs 0 0 ⟨#[]⟩ ⟨#[]⟩ [] (pErr P) (pErr P) ⟨(doneB [] ⟨x.text.toArray⟩ 0).toArray⟩ (fun S' => S' = S) w (by omega) (by rw [strSize, done_size]; omega) (by omega) (by omega) (by omega) (by omega) hsure (by omega) (hfew _ _ _ _ _ _ HW4) (by omega) hwt hz hr hrb2 h hrp hdo (fun u slv B hf hrow h0 => done_own 0 0 ⟨#[]⟩ ⟨#[]⟩ [] ⟨x.text.toArray⟩ u slv B (by omega) (by omega) (by simp) (by simp) (by omega) hrow h0) (fun _ => rfl) (fun h => absurd h hE) (.inl ⟨hE, rfl, rfl⟩)).mono ?_
    rintro e w' ⟨he, D', tv', sv', lv', S', h1, h2, rfl⟩
    exact ⟨he, D', tv', sv', x, lv', _, h1, h2, ⟨held, hk.out.few.mono (Nat.le_succ _) fun _ h => h, hk.out.life, by omega⟩⟩

end Go.Proofs.Ytjjmcnippjpclaa

namespace Go.Proofs.Ytjjmcnippjpclaa

open Go.RowKit

theorem sideStep.of_below {B B' : Nat → Prop} {w v u : World} (h : Below w.heap.size w v) (k : sideStep B B' v u) : sideStep B B' w u :=
  ⟨k.os.trans h.os, k.tape.trans h.tape, k.output.trans h.output, Nat.le_trans h.size k.size, fun i hi hn => (k.block i (Nat.lt_of_lt_of_le hi h.size) hn).trans (h.block i hi), fun i hi => (k.new i hi).imp id fun g => Nat.le_trans h.size g⟩

theorem sideStep.refl (B : Nat → Prop) (w : World) : sideStep B B w w := ⟨rfl, rfl, rfl, Nat.le_refl _, fun _ _ _ => rfl, fun _ h => .inl h⟩

theorem sideStep.below {B B' : Nat → Prop} {w v u : World} (k : sideStep B B' w v) (h : Below v.heap.size v u) : sideStep B B' w u :=
  ⟨h.os.trans k.os, h.tape.trans k.tape, h.output.trans k.output, Nat.le_trans k.size h.size, fun i hi hn => (h.block i (Nat.lt_of_lt_of_le hi k.size)).trans (k.block i hi hn), k.new⟩

theorem sideStep.of_kept {b D : Nat} {tv sv lv : Value} {w v : World} (k : kept3 D tv.ownBlock sv.ownBlock w v) : sideStep (sideBlk b D tv sv lv) (sideBlk b D tv sv lv) w v :=
  ⟨k.os, k.tape, k.output, k.size, fun i hi hn => k.block i hi (fun e => hn (.inr (.inl e))) (fun e => hn (.inr (.inr (.inl e.symm)))) (fun e => hn (.inr (.inr (.inr (.inl e.symm))))), fun _ h => .inl h⟩

theorem sideStep.trans {B B' B'' : Nat → Prop} {w v u : World} (h : sideStep B B' w v) (k : sideStep B' B'' v u) : sideStep B B'' w u := by
  refine ⟨k.os.trans h.os, k.tape.trans h.tape, k.output.trans h.output, Nat.le_trans h.size k.size, fun i hi hn => ?_, fun i hi => ?_⟩
  · rw [k.block i (Nat.lt_of_lt_of_le hi h.size) (fun e => ?_), h.block i hi hn]
    rcases h.new i e with g | g
    · exact hn g
    · omega
  · rcases k.new i hi with g | g
    · exact h.new i g
    · exact .inr (Nat.le_trans h.size g)

theorem sideAt.below {b D : Nat} {tv sv : Value} {x : Dp.Dv} {lv : Value} {S : List Ls} {w v : World} (h : sideAt b D tv sv x lv S w) (k : Below w.heap.size w v) : sideAt b D tv sv x lv S v := h.of_blocks fun i hi _ => k.block i hi

theorem sideAt.step {b D : Nat} {tv sv : Value} {x y : Dp.Dv} {lv : Value} {S : List Ls} {w v : World} (h : sideAt b D tv sv x lv S w) (k : kept3 D tv.ownBlock sv.ownBlock w v) (hy : devAt D tv sv y v) : sideAt b D tv sv y lv S v :=
  ⟨by rw [k.block b (lt_of_heap h.blk) h.bD (fun e => h.bt e.symm) (fun e => h.bs e.symm)]; exact h.blk, hy,
   h.row.of_block fun i hi => k.block i (h.row.lt hi) (fun e => h.lD (by rw [hi, e])) (fun e => h.lt i hi e.symm) (fun e => h.ls i hi e.symm), h.bD, h.bt, h.bs, h.bl, h.lD, h.lt, h.ls⟩

theorem sideAt.setRow {b D : Nat} {tv sv : Value} {x : Dp.Dv} {lv : Value} {S : List Ls} {w : World} (h : sideAt b D tv sv x lv S w) {v : World} (k : Below w.heap.size w v) {lv' : Value} {S' : List Ls} (hr : stRow v lv' S') (hl : ∀ i, lv'.ownBlock = some i → w.heap.size ≤ i) : sideAt b D tv sv x lv' S' (v.setCell ⟨b, 1, none⟩ lv') ∧ sideStep (sideBlk b D tv sv lv) (sideBlk b D tv sv lv') w (v.setCell ⟨b, 1, none⟩ lv') := by
  have hv := h.below k
  have hb := lt_of_heap h.blk
  refine ⟨⟨?_, ?_, ?_, h.bD, h.bt, h.bs, fun e => by have := hl _ e; omega, fun e => by have := hl _ e; have := h.dev.lt; omega, fun i hi e => by have := hl _ hi; have := h.dev.text.lt e; omega, fun i hi e => by have := hl _ hi; have := h.dev.safe.lt e; omega⟩, ⟨k.os, k.tape, k.output, by simpa [World.setCell] using k.size, fun i hi hn => ?_, fun i hi => ?_⟩⟩
  · have hs := hv.blk
    simp [World.setCell, Array.getElem?_modify, hs]
  · exact hv.dev.of_blocks fun i hi hh => Below.heap_setCell _ _ _ _ (by
      show i ≠ b
      rintro rfl
      rcases hh with g | g | g
      · exact h.bD g
      · exact h.bt g.symm
      · exact h.bs g.symm)
  · exact hr.of_block fun i hi => Below.heap_setCell _ _ _ _ (by show i ≠ b; have := hl i hi; omega)
  · rw [Below.heap_setCell _ _ _ _ (fun e => hn (.inl e))]; exact k.block i hi
  · rcases hi with g | g | g | g | g
    · exact .inl (.inl g)
    · exact .inl (.inr (.inl g))
    · exact .inl (.inr (.inr (.inl g)))
    · exact .inl (.inr (.inr (.inr (.inl g))))
    · exact .inr (hl i g)

theorem shape_life {L : Nat} {x : Dp.Dv} {l : List Ls} (h : shape L x l) (m : Int) : shape L { x with life := m } l := by
  cases h with
  | sure recs t hr ht hl hs hg => exact .sure recs t hr ht hl hs hg
  | loose recs r hr hl hs hts hg hg2 => exact .loose recs r hr hl hs hts hg hg2

theorem okSide.die {L n N : Nat} {x : Dp.Dv} {S : List Ls} (h : okSide L n N x S) (m : Int) (hm : m ≤ 9223372036854775807) : okSide L (n + 1) (N + 1100000) { x with life := max m 0 } S := by
  obtain ⟨l, hl, hS⟩ := h.held.some
  have hlog := h.log
  exact ⟨⟨h.held.text, h.held.safe, l, shape_life hl _, hS⟩, h.few.mono (Nat.le_succ _) fun _ h => h, ⟨by show _ ≤ max m 0; omega, by show max m 0 ≤ _; omega⟩, by show x.log.length ≤ _; omega⟩

theorem okSide.next {L n N : Nat} {x : Dp.Dv} {S : List Ls} (h : okSide L n N x S) : okSide L (n + 1) (N + 1100000) x S := by
  have hlog := h.log
  exact ⟨h.held, h.few.mono (Nat.le_succ _) fun _ h => h, h.life, by omega⟩

theorem okSide.power {L n N : Nat} {x : Dp.Dv} {S : List Ls} (h : okSide L n N x S) (zs : List Int) {S' : List Ls} (hS' : ∀ a, a ∈ S' ↔ a ∈ S ∧ goesOn (pPower x zs).text a) : okSide L (n + 1) (N + 1100000) (pPower x zs) S' ∧ 0 < S'.length := by
  obtain ⟨⟨a, ha, hg, hsh⟩, h1, h2⟩ := power_held h.held zs
  have hlog := h.log
  have hin : a ∈ S' := (hS' a).2 ⟨ha, hg⟩
  refine ⟨⟨⟨h1, h2, [a], hsh, fun b hb => by rw [List.mem_singleton.1 hb]; exact hin⟩, h.few.mono (Nat.le_succ _) fun b hb => ((hS' b).1 hb).1, ⟨by show _ ≤ (-1 : Int); omega, by show (-1 : Int) ≤ _; omega⟩, ?_⟩, List.length_pos_of_mem hin⟩
  show (x.log.take _).length ≤ _
  rw [List.length_take]
  omega

/-- what a step leaves. -/
def stepEnd (b D : Nat) (tv sv lv : Value) (L n N : Nat) (w w' : World) : Prop := ∃ D' tv' sv' x' lv' S', sideAt b D' tv' sv' x' lv' S' w' ∧ sideStep (sideBlk b D tv sv lv) (sideBlk b D' tv' sv' lv') w w' ∧ okSide L (n + 1) (N + 1100000) x' S'

theorem sideAt.cells {b D : Nat} {tv sv : Value} {x : Dp.Dv} {lv : Value} {S : List Ls} {w : World} (h : sideAt b D tv sv x lv S w) : w.cell? ⟨b, 0, none⟩ = some (.pointer (some ⟨D, 0, none⟩)) ∧ w.cell? ⟨b, 1, none⟩ = some lv ∧ ∀ i, w.frozen? ⟨b, i, none⟩ = false := by
  refine ⟨?_, ?_, fun i => Lib.frozen_of_heap h.blk i⟩ <;> (rw [Lib.cell_of_heap h.blk]; rfl)

set_option maxRecDepth 100000 in
set_option maxHeartbeats 4000000 in
theorem step_any (b D : Nat) (tv sv : Value) (x : Dp.Dv) (lv : Value) (S : List Ls) (kd : Int) (ot : Bool) (P : ByteArray) (ca : Int) (nv : Value) (zs : List Int) (L n N : Nat) (w : World)
    (hP : P.size ≤ 140737488355328) (hL : L ≤ 140737488355328) (hn : n + 1 ≤ 2200000000000) (hNN : N ≤ 4611686017000000000) (hca : ca ≤ 9223372036854775807) (hz : Hid (numsOk zs)) (hr : Hid (numsAt w nv zs)) (hrb : Hid (zs ≠ [] → ∀ B a n c, nv = .slice (some ⟨B, a, none⟩) n c → ¬ sideBlk b D tv sv lv B)) (h : Hid (sideAt b D tv sv x lv S w)) (hk : Hid (okSide L n N x S)) :
    Calls Try.prog 29 #[.pointer (some ⟨b, 0, none⟩), .agg #[.int .i64 kd, .bool ot, .string P, .int .i64 ca, nv]] w fun e w' => e = .returned (.bool true) ∧ stepEnd b D tv sv lv L n N w w' := by
  obtain ⟨ao, ln, cp, rfl⟩ : ∃ ao ln cp, nv = .slice ao ln cp := by
    rcases hr.out with ⟨_, ao, c, h⟩ | ⟨b, o, c, h, _⟩
    · exact ⟨_, _, _, h⟩
    · exact ⟨_, _, _, h⟩
  obtain ⟨la, lc, rfl⟩ : ∃ a c, lv = .slice a S.length c := by
    rcases h.out.row.form with ⟨h1, rfl⟩ | ⟨g, cap, h1, _⟩
    · exact ⟨_, _, h1⟩
    · exact ⟨_, _, h1⟩
  have q0 := heap_alloc_new w (Obj.cells #[.int .i64 kd, .bool ot, .string P, .int .i64 ca, .slice ao ln cp] 60)
  have b0 := (Below.refl w.heap.size w).alloc (Nat.le_refl _) (Obj.cells #[.int .i64 kd, .bool ot, .string P, .int .i64 ca, .slice ao ln cp] 60)
  generalize hv0 : w.alloc (Obj.cells #[.int .i64 kd, .bool ot, .string P, .int .i64 ca, .slice ao ln cp] 60) = v0 at *
  have B0 : Hid (Below w.heap.size w v0) := b0
  have Q0 : Hid _ := q0
  have o0 : v0.cell? ⟨w.heap.size, 0, none⟩ = some (.int .i64 kd) := by rw [Lib.cell_of_heap q0]; rfl
  have o1 : v0.cell? ⟨w.heap.size, 1, none⟩ = some (.bool ot) := by rw [Lib.cell_of_heap q0]; rfl
  have o2 : v0.cell? ⟨w.heap.size, 2, none⟩ = some (.string P) := by rw [Lib.cell_of_heap q0]; rfl
  have o3 : v0.cell? ⟨w.heap.size, 3, none⟩ = some (.int .i64 ca) := by rw [Lib.cell_of_heap q0]; rfl
  have o4 : v0.cell? ⟨w.heap.size, 4, none⟩ = some (.slice ao ln cp) := by rw [Lib.cell_of_heap q0]; rfl
  have H0 : Hid (sideAt b D tv sv x (.slice la S.length lc) S v0) := h.out.below b0
  obtain ⟨a0, a1, fz⟩ := H0.out.cells
  have R0 : Hid (numsAt v0 (.slice ao ln cp) zs) := hr.out.of_blocks (fun B _ _ _ _ hl => b0.block B hl) b0.size
  clear q0 b0
  rcases Decidable.em (kd = 1) with e1 | e1
  · subst e1
    have HDo := does_any b D tv sv x (.slice la S.length lc) S 1 ot P ca (.slice ao ln cp) zs L n N v0 hP hL hn hNN hz R0 hrb H0 hk
    go_enter Try.func29, Try.ntmps29
    go_wp2_with fail
    refine HDo.mono ?_
    rintro e v1 ⟨rfl, D', tv', sv', x', lv', S', h1, h2, h3⟩
    go_wp2_with fail
    go_ret
    exact ⟨rfl, D', tv', sv', x', lv', S', h1, .of_below B0.out h2, h3⟩
  have d1 : (kd == 1) = false := by simpa using e1
  rcases Decidable.em (kd = 2) with e2 | e2
  · subst e2
    have HQ0 : Hid (v0.drew.cell? ⟨b, 0, none⟩ = some (.pointer (some ⟨D, 0, none⟩)) ∧ v0.drew.cell? ⟨w.heap.size, 3, none⟩ = some (.int .i64 ca)) := ⟨a0, o3⟩
    have HQ1 : Hid (∀ u, kept3 D tv.ownBlock sv.ownBlock v0.drew u → devAt D tv sv { x with life := max ca 0 } u → (u.cell? ⟨b, 0, none⟩ = some (.pointer (some ⟨D, 0, none⟩)) ∧ u.cell? ⟨w.heap.size, 3, none⟩ = some (.int .i64 ca))) := fun u ku hu => by
      have hs : sideAt b D tv sv x (.slice la S.length lc) S v0.drew := H0.out.below (Below.refl _ _).drew
      refine ⟨(hs.step ku hu).cells.1, ?_⟩
      have hq : u.heap[w.heap.size]? = v0.drew.heap[w.heap.size]? := ku.block _ (show w.heap.size < v0.heap.size from lt_of_heap Q0.out) (by have := h.out.dev.lt; omega) (fun e => by have := h.out.dev.text.lt e.symm; omega) (fun e => by have := h.out.dev.safe.lt e.symm; omega)
      rw [World.cell?_of_block hq]; exact o3
    have HD : Hid (Calls Try.prog 54 #[.pointer (some ⟨D, 0, none⟩), .int .i64 ca] v0.drew fun e w' => e = .returned (.tuple #[]) ∧ devAt D tv sv { x with life := max ca 0 } w' ∧ kept3 D tv.ownBlock sv.ownBlock v0.drew w') := die_any D tv sv x ca v0.drew (H0.out.below (Below.refl _ _).drew).dev
    have HEn : Hid (∀ u, kept3 D tv.ownBlock sv.ownBlock v0.drew u → devAt D tv sv { x with life := max ca 0 } u → stepEnd b D tv sv (.slice la S.length lc) L n N w u) := fun u ku hu =>
      ⟨D, tv, sv, _, _, S, (H0.out.below (Below.refl _ _).drew).step ku hu, .of_below B0.out.drew (.of_kept ku), hk.out.die ca hca⟩
    go_enter Try.func29, Try.ntmps29
    go_wp2_with fail
    go_region_held3 (fun u => u.cell? ⟨b, 0, none⟩ = some (.pointer (some ⟨D, 0, none⟩)) ∧ u.cell? ⟨w.heap.size, 3, none⟩ = some (.int .i64 ca)) (first | exact HQ0.out | exact HQ1.out _ k5 h5) ((go_at_call 54; refine HD.out.mono ?_; rintro e v5 ⟨rfl, h5, k5⟩))
    go_wp2_with fail
    go_ret
    exact ⟨rfl, HEn.out _ k5 h5⟩
  have d2 : (kd == 2) = false := by simpa using e2
  rcases Decidable.em (kd = 3) with e3 | e3
  · subst e3
    have held := hk.out.held
    have hzl : (pPower x zs).text.length ≤ 140737488355328 := by rw [show (pPower x zs).text.length = x.text.length from mix_length _ _ _, held.text]; exact hL
    have HPw : Hid (Calls Try.prog 55 #[.pointer (some ⟨D, 0, none⟩), .slice ao ln cp] v0.drew fun e w' => e = .returned (.tuple #[]) ∧ devAt D tv sv (pPower x zs) w' ∧ kept3 D tv.ownBlock sv.ownBlock v0.drew w') :=
      power_any D tv sv x (.slice ao ln cp) zs v0.drew (by rw [held.text, held.safe]) (by rw [held.text]; omega) (held_sure held) (Nat.le_trans hk.out.log (by omega)) hz (H0.out.below (Below.refl _ _).drew).dev fun v hv => by
        have hq : zs ≠ [] → ∀ B a n c, Value.slice ao ln cp = .slice (some ⟨B, a, none⟩) n c → B < v0.heap.size → v.heap[B]? = v0.heap[B]? := fun hne B a n c e hl => hv.block B hl (fun g => hrb.out hne B a n c e (.inr (.inl g))) (fun g => hrb.out hne B a n c e (.inr (.inr (.inl g.symm)))) (fun g => hrb.out hne B a n c e (.inr (.inr (.inr (.inl g.symm)))))
        exact R0.out.of_blocks2 hq hv.size
    have HOk : Hid (∀ S', (∀ a, a ∈ S' ↔ a ∈ S ∧ goesOn (pPower x zs).text a) → okSide L (n + 1) (N + 1100000) (pPower x zs) S' ∧ 0 < S'.length) := fun S' hS' => hk.out.power zs hS'
    have HT0 : Hid (tOf (pPower x zs) = ⟨(pPower x zs).text.toArray⟩) := by show _ = _; unfold tOf; rw [if_neg (by show ¬ ((-1 : Int) = 0); decide)]
    have HQ0 : Hid (v0.drew.cell? ⟨b, 0, none⟩ = some (.pointer (some ⟨D, 0, none⟩)) ∧ v0.drew.cell? ⟨w.heap.size, 4, none⟩ = some (.slice ao ln cp)) := ⟨a0, o4⟩
    have HQ1 : Hid (∀ u, kept3 D tv.ownBlock sv.ownBlock v0.drew u → devAt D tv sv (pPower x zs) u → (u.cell? ⟨b, 0, none⟩ = some (.pointer (some ⟨D, 0, none⟩)) ∧ u.cell? ⟨w.heap.size, 4, none⟩ = some (.slice ao ln cp))) := fun u ku hu => by
      have hs : sideAt b D tv sv x (.slice la S.length lc) S v0.drew := H0.out.below (Below.refl _ _).drew
      refine ⟨(hs.step ku hu).cells.1, ?_⟩
      have hq : u.heap[w.heap.size]? = v0.drew.heap[w.heap.size]? := ku.block _ (show w.heap.size < v0.heap.size from lt_of_heap Q0.out) (by have := h.out.dev.lt; omega) (fun e => by have := h.out.dev.text.lt e.symm; omega) (fun e => by have := h.out.dev.safe.lt e.symm; omega)
      rw [World.cell?_of_block hq]; exact o4
    have hSl := hk.out.few.length h.out.row.2
    have HWt : Hid (∀ s ∈ S, s.want.length ≤ 1000000) := fun s hs => Nat.le_trans (hk.out.few.want s hs) (by omega)
    generalize pPower x zs = z at *
    clear held
    go_enter Try.func29, Try.ntmps29
    go_wp2_with fail
    go_region_held3 (fun u => u.cell? ⟨b, 0, none⟩ = some (.pointer (some ⟨D, 0, none⟩)) ∧ u.cell? ⟨w.heap.size, 4, none⟩ = some (.slice ao ln cp)) (first | exact HQ0.out | exact HQ1.out _ k5 h5) ((go_at_call 55; refine HPw.out.mono ?_; rintro e v5 ⟨rfl, h5, k5⟩))
    have H5 : Hid (sideAt b D tv sv z (.slice la S.length lc) S v5) := (H0.out.below (Below.refl _ _).drew).step k5 h5
    have T5 : Hid (sideStep (sideBlk b D tv sv (.slice la S.length lc)) (sideBlk b D tv sv (.slice la S.length lc)) w v5) := .of_below B0.out.drew (.of_kept k5)
    clear h5 k5 HQ0 HQ1 HPw a0 a1 fz o0 o1 o2 o3 o4 H0 R0 B0 Q0
    obtain ⟨t, ht⟩ : ∃ u, u = tOf z := ⟨_, rfl⟩
    obtain ⟨al, hal⟩ : ∃ u, u = decide (z.life ≠ 0) := ⟨_, rfl⟩
    have HA0 : Hid (v5.drew.cell? ⟨b, 0, none⟩ = some (.pointer (some ⟨D, 0, none⟩))) := H5.out.cells.1
    have HA5 : Hid (∀ v, Below v5.drew.heap.size v5.drew v → v.cell? ⟨b, 0, none⟩ = some (.pointer (some ⟨D, 0, none⟩))) := fun v hv => (H5.out.below ((Below.refl _ _).drew.trans hv)).cells.1
    have HA6 : Hid (∀ v u, Below v5.drew.heap.size v5.drew v → Below v.heap.size v u → u.cell? ⟨b, 0, none⟩ = some (.pointer (some ⟨D, 0, none⟩))) := fun v u hv hu => ((H5.out.below ((Below.refl _ _).drew.trans hv)).below hu).cells.1
    have HLn2 : Hid (Calls Try.prog 49 #[.pointer (some ⟨D, 0, none⟩)] v5.drew fun e w' => e = .returned (.int .i64 z.text.length) ∧ Below v5.drew.heap.size v5.drew w') := (len_any D tv sv z v5.drew (H5.out.below (Below.refl _ _).drew).dev).mono (by rintro e w' ⟨h1, rfl⟩; exact ⟨h1, Below.refl _ _⟩)
    have HTx2 : Hid (∀ v, Below v5.drew.heap.size v5.drew v → Calls Try.prog 44 #[.pointer (some ⟨D, 0, none⟩), .int .i64 z.text.length] v fun e w' => e = .returned (.tuple #[.string t, .bool al]) ∧ Below v.heap.size v w') := fun v hv => (lawTextAll D tv sv z v hzl (H5.out.below ((Below.refl _ _).drew.trans hv)).dev).mono (by rintro e w' ⟨h1, rfl⟩; rw [ht, hal]; exact ⟨h1, Below.refl _ _⟩)
    have HTt : Hid (t = ⟨z.text.toArray⟩) := by show _ = _; rw [ht, HT0.out]
    clear ht hal
    go_wp2_with fail
    go_region_held3 (fun u => u.cell? ⟨b, 0, none⟩ = some (.pointer (some ⟨D, 0, none⟩))) (first | exact HA0.out | exact HA5.out _ b5 | exact HA6.out _ _ b5 b6) (first | (go_at_call 49; refine HLn2.out.mono ?_; rintro e v6 ⟨rfl, b5⟩) | (go_at_call 44; refine (HTx2.out _ b5).mono ?_; rintro e v7 ⟨rfl, b6⟩))
    have B7 : Below v5.heap.size v5 v7 := ((Below.refl _ _).drew.trans b5).trans (b6.mono b5.size)
    have H7 : Hid (sideAt b D tv sv z (.slice la S.length lc) S v7) := H5.out.below B7
    have T7 : Hid (sideStep (sideBlk b D tv sv (.slice la S.length lc)) (sideBlk b D tv sv (.slice la S.length lc)) w v7) := T5.out.below B7
    clear b5 b6 B7 HA0 HA5 HA6 HLn2 HTx2 H5 T5
    obtain ⟨a0, a1, -⟩ := H7.out.cells
    go_wp2_with fail
    refine (likely_any (.slice la S.length lc) S t v7 (by omega) HWt H7.out.row).mono ?_
    rintro e v8 ⟨v', S1, rfl, row1, mem1, len1, step1⟩
    obtain ⟨b1, c1, rfl⟩ : ∃ a c, v' = .slice a S1.length c := by
      rcases row1.form with ⟨h1, rfl⟩ | ⟨g, cap, h1, _⟩
      · exact ⟨_, _, h1⟩
      · exact ⟨_, _, h1⟩
    have B8 : Below v7.heap.size v7 v8 := ⟨step1.grown.os, step1.grown.tape, step1.grown.output, step1.grown.size, fun k hk => step1.grown.block k hk (fun e => by cases e)⟩
    have hown1 : ∀ k, (Value.slice b1 S1.length c1).ownBlock = some k → v7.heap.size ≤ k := fun k hk => by
      rcases step1.own with e | ⟨g, e, hg⟩
      · rw [e] at hk; cases hk
      · rw [e] at hk; have := Option.some.inj hk; omega
    obtain ⟨e0, e1, fz⟩ := (H7.out.below B8).cells
    have fz1 := fz 1
    obtain ⟨g1, g2⟩ := H7.out.setRow B8 row1 hown1
    have HG1 : Hid _ := g1
    have HG2 : Hid _ := T7.out.trans g2
    have hok := HOk.out S1 (fun a => by rw [mem1 a, HTt.out])
    have HO1 : Hid _ := hok.1
    have hv0' : 0 < S1.length := hok.2
    have hv1 : decide (0 < S1.length) = true := decide_eq_true hv0'
    obtain ⟨r0, r1, -⟩ := g1.cells
    clear g1 g2 hok fz mem1 step1 row1 hown1 B8 a0 a1
    go_wp2_with fail
    go_ret
    exact ⟨rfl, D, tv, sv, z, _, S1, HG1.out, HG2.out, HO1.out⟩
  have d3 : (kd == 3) = false := by simpa using e3
  have HEn : Hid (stepEnd b D tv sv (.slice la S.length lc) L n N w v0) := ⟨D, tv, sv, x, _, S, H0.out, .of_below B0.out (.refl _ _), hk.out.next⟩
  go_enter Try.func29, Try.ntmps29
  go_wp2_with fail
  go_ret
  exact ⟨rfl, HEn.out⟩

end Go.Proofs.Ytjjmcnippjpclaa

namespace Go.Proofs.Ytjjmcnippjpclaa

open Go.RowKit

theorem ok_new (l : List UInt8) : okSide l.length 1 0 ⟨l, l, [], 0, -1⟩ [⟨[], [], false⟩] := by
  refine ⟨⟨rfl, rfl, [lsOf (Dp.fold [])], .sure [] [] (fun r hr => by cases hr) rfl rfl rfl ⟨.inl rfl, fun h => by cases h⟩, fun a ha => ha⟩, ⟨[([], [])], Nat.le_refl _, fun q hq => ?_, fun a ha => ?_⟩, ⟨by show _ ≤ (-1 : Int); omega, by show (-1 : Int) ≤ _; omega⟩, Nat.le_refl _⟩
  · rw [List.mem_singleton.1 hq]; exact Nat.zero_le _
  · rw [List.mem_singleton.1 ha]; exact List.mem_singleton.2 rfl

theorem st_one {w : World} {g : Nat} (h : w.heap[g]? = some (.cells #[.string ⟨#[]⟩, .string ⟨#[]⟩, .bool false] 54 (0, 0))) : stRow w (.slice (some ⟨g, 0, none⟩) 1 1) [⟨[], [], false⟩] :=
  ⟨⟨rfl, .inr ⟨g, 1, _, rfl, Nat.zero_le _, h, Nat.le_refl _, by unfold maxLen; omega, rfl, rfl⟩⟩, .cons (fun _ h => by cases h) .nil⟩

/-- both sides, apart, and all of theirs new. -/
structure twoAt (w : World) (sa D1 : Nat) (tv1 sv1 : Value) (x1 : Dp.Dv) (lv1 : Value) (S1 : List Ls) (sb D2 : Nat) (tv2 sv2 : Value) (x2 : Dp.Dv) (lv2 : Value) (S2 : List Ls) (L1 L2 n N : Nat) (u : World) : Prop where
  a : sideAt sa D1 tv1 sv1 x1 lv1 S1 u
  b : sideAt sb D2 tv2 sv2 x2 lv2 S2 u
  oa : okSide L1 n N x1 S1
  ob : okSide L2 n N x2 S2
  apart : ∀ k, sideBlk sa D1 tv1 sv1 lv1 k → ¬ sideBlk sb D2 tv2 sv2 lv2 k
  na : ∀ k, sideBlk sa D1 tv1 sv1 lv1 k → w.heap.size ≤ k
  nb : ∀ k, sideBlk sb D2 tv2 sv2 lv2 k → w.heap.size ≤ k
  below : Below w.heap.size w u

def twoEx (w : World) (sa sb L1 L2 n N : Nat) (u : World) : Prop := ∃ D1 tv1 sv1 x1 lv1 S1 D2 tv2 sv2 x2 lv2 S2, twoAt w sa D1 tv1 sv1 x1 lv1 S1 sb D2 tv2 sv2 x2 lv2 S2 L1 L2 n N u

theorem twoAt.stepA {w : World} {sa D1 : Nat} {tv1 sv1 : Value} {x1 : Dp.Dv} {lv1 : Value} {S1 : List Ls} {sb D2 : Nat} {tv2 sv2 : Value} {x2 : Dp.Dv} {lv2 : Value} {S2 : List Ls} {L1 L2 n N : Nat} {u v : World} (h : twoAt w sa D1 tv1 sv1 x1 lv1 S1 sb D2 tv2 sv2 x2 lv2 S2 L1 L2 n N u) (k : stepEnd sa D1 tv1 sv1 lv1 L1 n N u v) : twoEx w sa sb L1 L2 (n + 1) (N + 1100000) v := by
  obtain ⟨D', tv', sv', x', lv', S', h1, h2, h3⟩ := k
  have hs := h.below.size
  refine ⟨D', tv', sv', x', lv', S', D2, tv2, sv2, x2, lv2, S2, ⟨h1, h.b.of_blocks fun i hi hh => h2.block i hi fun g => h.apart i g hh, h3, h.ob.next, fun i hi hh => ?_, fun i hi => ?_, h.nb, ?_⟩⟩
  · rcases h2.new i hi with g | g
    · exact h.apart i g hh
    · have := h.b.lt_all hh; omega
  · rcases h2.new i hi with g | g
    · exact h.na i g
    · omega
  · exact ⟨h2.os.trans h.below.os, h2.tape.trans h.below.tape, h2.output.trans h.below.output, Nat.le_trans hs h2.size, fun i hi => (h2.block i (by omega) fun g => by have := h.na i g; omega).trans (h.below.block i hi)⟩

theorem twoAt.stepB {w : World} {sa D1 : Nat} {tv1 sv1 : Value} {x1 : Dp.Dv} {lv1 : Value} {S1 : List Ls} {sb D2 : Nat} {tv2 sv2 : Value} {x2 : Dp.Dv} {lv2 : Value} {S2 : List Ls} {L1 L2 n N : Nat} {u v : World} (h : twoAt w sa D1 tv1 sv1 x1 lv1 S1 sb D2 tv2 sv2 x2 lv2 S2 L1 L2 n N u) (k : stepEnd sb D2 tv2 sv2 lv2 L2 n N u v) : twoEx w sa sb L1 L2 (n + 1) (N + 1100000) v := by
  obtain ⟨D', tv', sv', x', lv', S', h1, h2, h3⟩ := k
  have hs := h.below.size
  refine ⟨D1, tv1, sv1, x1, lv1, S1, D', tv', sv', x', lv', S', ⟨h.a.of_blocks fun i hi hh => h2.block i hi fun g => h.apart i hh g, h1, h.oa.next, h3, fun i hi hh => ?_, h.na, fun i hi => ?_, ?_⟩⟩
  · rcases h2.new i hh with g | g
    · exact h.apart i hi g
    · have := h.a.lt_all hi; omega
  · rcases h2.new i hi with g | g
    · exact h.nb i g
    · omega
  · exact ⟨h2.os.trans h.below.os, h2.tape.trans h.below.tape, h2.output.trans h.below.output, Nat.le_trans hs h2.size, fun i hi => (h2.block i (by omega) fun g => by have := h.nb i g; omega).trans (h.below.block i hi)⟩

theorem twoAt.below' {w : World} {sa D1 : Nat} {tv1 sv1 : Value} {x1 : Dp.Dv} {lv1 : Value} {S1 : List Ls} {sb D2 : Nat} {tv2 sv2 : Value} {x2 : Dp.Dv} {lv2 : Value} {S2 : List Ls} {L1 L2 n N : Nat} {u v : World} (h : twoAt w sa D1 tv1 sv1 x1 lv1 S1 sb D2 tv2 sv2 x2 lv2 S2 L1 L2 n N u) (k : Below u.heap.size u v) : twoAt w sa D1 tv1 sv1 x1 lv1 S1 sb D2 tv2 sv2 x2 lv2 S2 L1 L2 n N v :=
  ⟨h.a.below k, h.b.below k, h.oa, h.ob, h.apart, h.na, h.nb, h.below.trans (k.mono h.below.size)⟩

/-- a side that has just been made. -/
theorem side_new {v : World} {D : Nat} {tv sv : Value} {x : Dp.Dv} (h : devAt D tv sv x v) (T : TypeId) (hT : T = 54) :
    sideAt (v.heap.size + 1) D tv sv x (.slice (some ⟨v.heap.size, 0, none⟩) 1 1) [⟨[], [], false⟩] ((v.alloc (.cells #[.string ⟨#[]⟩, .string ⟨#[]⟩, .bool false] T)).alloc (.cells #[.pointer (some ⟨D, 0, none⟩), .slice (some ⟨v.heap.size, 0, none⟩) 1 1] 57)) ∧
    Below v.heap.size v ((v.alloc (.cells #[.string ⟨#[]⟩, .string ⟨#[]⟩, .bool false] T)).alloc (.cells #[.pointer (some ⟨D, 0, none⟩), .slice (some ⟨v.heap.size, 0, none⟩) 1 1] 57)) := by
  subst hT
  have b1 := (Below.refl v.heap.size v).alloc (Nat.le_refl _) (.cells #[.string ⟨#[]⟩, .string ⟨#[]⟩, .bool false] 54)
  have b2 := b1.alloc (by simp) (.cells #[.pointer (some ⟨D, 0, none⟩), .slice (some ⟨v.heap.size, 0, none⟩) 1 1] 57)
  have q2 := heap_alloc_new (v.alloc (.cells #[.string ⟨#[]⟩, .string ⟨#[]⟩, .bool false] 54)) (.cells #[.pointer (some ⟨D, 0, none⟩), .slice (some ⟨v.heap.size, 0, none⟩) 1 1] 57)
  rw [World.size_alloc] at q2
  have q1 : ((v.alloc (.cells #[.string ⟨#[]⟩, .string ⟨#[]⟩, .bool false] 54)).alloc (.cells #[.pointer (some ⟨D, 0, none⟩), .slice (some ⟨v.heap.size, 0, none⟩) 1 1] 57)).heap[v.heap.size]? = some (.cells #[.string ⟨#[]⟩, .string ⟨#[]⟩, .bool false] 54 (0, 0)) := by
    rw [Below.heap_alloc _ _ _ (by simp)]; exact heap_alloc_new v _
  have hD := h.lt
  refine ⟨⟨q2, h.below b2, st_one q1, by omega, fun e => by have := h.text.lt e; omega, fun e => by have := h.safe.lt e; omega, fun e => by have := Option.some.inj e; simp at this, fun e => by have := Option.some.inj e; simp at this; omega, fun k hk e => ?_, fun k hk e => ?_⟩, b2⟩
  · have := Option.some.inj hk; simp at this; have := h.text.lt e; omega
  · have := Option.some.inj hk; simp at this; have := h.safe.lt e; omega

end Go.Proofs.Ytjjmcnippjpclaa
