/-
  Sides of Does: how many states there may be; what a Do leaves of a device's life; a side in memory.
-/
import Derived.Test.YtjjmcnippjpclaaDoesPlain
import Derived.Test.YtjjmcnippjpclaaDoErr
import Derived.Test.YtjjmcnippjpclaaDoesLike
namespace Go.Proofs.Ytjjmcnippjpclaa

open Dp

theorem fold_next {L : Nat} (R : List Rc) (hR : ∀ r ∈ R, recOk L r) : (fold R).next.length ≤ 4000 := by
  suffices h : ∀ (R : List Rc) (j : Jn), j.next.length ≤ 4000 → (∀ r ∈ R, recOk L r) → (R.foldl (fun j r => j.take r (enc r).length) j).next.length ≤ 4000 from h R .zero (Nat.zero_le _) hR
  intro R
  induction R with
  | nil => intro j hj _; exact hj
  | cons r R ih =>
    intro j hj hr
    rw [List.foldl_cons]
    refine ih _ ?_ (fun q hq => hr q (by simp [hq]))
    cases r with
    | none => exact hj
    | some pn =>
      obtain ⟨p, n⟩ := pn
      obtain ⟨s, _, _, _, _, _, h6, _⟩ := hr (some (p, n)) (by simp)
      exact h6

theorem held_next {L : Nat} {x : Dv} {S : List Ls} (h : heldBy L x S) : (jrn x.log).next.length ≤ 4000 := by
  obtain ⟨l, hl, _⟩ := h.some
  obtain ⟨R, t, hR, _, hj, _⟩ := shape_now hl
  rw [hj]
  exact fold_next R hR

theorem held_sure {L : Nat} {x : Dv} {S : List Ls} (h : heldBy L x S) : x.sure ≤ x.log.length := by
  obtain ⟨l, hl, _⟩ := h.some
  cases hl with
  | sure recs t hr ht hlog hs hg => omega
  | loose recs r hr hlog hs hts hg hg2 =>
    rw [hs, hlog, E_snoc, List.length_append]
    omega

theorem shape_sure {L : Nat} {x : Dv} {l : List Ls} (h : shape L x l) : x.sure ≤ x.log.length := by
  cases h with
  | sure recs t hr ht hlog hs hg => omega
  | loose recs r hr hlog hs hts hg hg2 =>
    rw [hs, hlog, E_snoc, List.length_append]
    omega

theorem lifeOk_lay {x : Dv} (h : lifeOk x) (s : List UInt8) : lifeOk (pLay x s).2 := by
  have h1 := lifeOk_log h s
  unfold pLay
  generalize pLog x s = r at *
  obtain ⟨b, y⟩ := r
  cases b with
  | false => exact h1
  | true => exact lifeOk_syncLog h1

theorem lifeOk_goOn {x : Dv} (hts : x.text.length = x.safe.length) (h : lifeOk x) (next : List UInt8) (NL : Nat) (NS : ByteArray) (e : Nat) (he : e ≤ next.length) : lifeOk (pGoOn x next NL NS e).2 := by
  have h1 := (settle_keep hts h he).life
  unfold pGoOn
  generalize pSettle x next e = r at *
  obtain ⟨b, y⟩ := r
  cases b with
  | false => exact h1
  | true =>
    dsimp only at *
    cases hr : pRead y NL with
    | none => exact h1
    | some t =>
      dsimp only
      split
      · have h2 := lifeOk_lay h1 [100]
        generalize pLay y [100] = q at *
        obtain ⟨c, z⟩ := q
        cases c <;> exact h2
      · exact h1

theorem lifeOk_do {x : Dv} (hts : x.text.length = x.safe.length) (h : lifeOk x) (P : List UInt8) (OL NL : Nat) (OS NS : ByteArray) (st : List Pl.St) (E : Nat) (hP : P.length ≤ 2147483647) (hN : NL ≤ 2147483647) : lifeOk (pDo x P OL NL OS NS st E).2 := by
  unfold pDo
  split
  · exact h
  · have h1 := lifeOk_cut h (jrn x.log).whole
    have hyk0 : ∀ y, (Dp.pCut x (jrn x.log).whole).2 = y → y.text.length = x.text.length ∧ y.safe.length = x.safe.length := by
      rintro y rfl
      unfold Dp.pCut
      split
      · exact ⟨rfl, rfl⟩
      · split <;> exact ⟨rfl, rfl⟩
    generalize pCut x (jrn x.log).whole = r at *
    obtain ⟨b, y⟩ := r
    have hyk := hyk0 y rfl
    clear hyk0
    cases b with
    | false => exact h1
    | true =>
      dsimp only at *
      split
      · exact h1
      · split
        · exact h1
        · split
          · exact h1
          · have h2 := lifeOk_syncText h1
            have hzk0 : ∀ z, (Dp.pSyncText y).2 = z → z.text.length = z.safe.length := by
              rintro z rfl
              unfold Dp.pSyncText
              split
              · show y.text.length = y.safe.length; omega
              · rfl
            generalize pSyncText y = q at *
            obtain ⟨c, z⟩ := q
            have hzk := hzk0 z rfl
            clear hzk0
            cases c with
            | false => exact h2
            | true =>
              dsimp only at *
              unfold pDo2
              split
              · exact lifeOk_goOn hzk h2 _ _ _ _ (Nat.min_le_right _ _)
              · obtain ⟨g1, g2, _, g4⟩ := begin_keep z P OL OS st NL hP hN hzk h2
                split
                · exact lifeOk_goOn (by omega) g4 _ _ _ _ (Nat.min_le_right _ _)
                · exact g4

/-- the patches, and what they must make, of all states that there may be: no more than so many. -/
def fewSt (n : Nat) (S : List Ls) : Prop := ∃ Q : List (List UInt8 × List UInt8), Q.length ≤ n ∧ (∀ q ∈ Q, q.2.length ≤ 4000) ∧ ∀ a ∈ S, (a.patch, a.want) ∈ Q

theorem nodup_le : ∀ (l m : List Ls), l.Nodup → (∀ a ∈ l, a ∈ m) → l.length ≤ m.length
  | [], _, _, _ => Nat.zero_le _
  | a :: l, m, hn, hs => by
    obtain ⟨p, q, rfl⟩ := List.append_of_mem (hs a (by simp))
    have h1 := List.pairwise_cons.1 hn
    have h2 := nodup_le l (p ++ q) h1.2 fun b hb => by
      have h3 := hs b (by simp [hb])
      have h4 : b ≠ a := fun e => h1.1 b hb e.symm
      simp only [List.mem_append, List.mem_cons] at h3 ⊢
      rcases h3 with h3 | h3 | h3
      · exact .inl h3
      · exact absurd h3 h4
      · exact .inr h3
    simp only [List.length_append, List.length_cons] at h2 ⊢
    omega

def bothOf (Q : List (List UInt8 × List UInt8)) : List Ls := Q.flatMap fun q => [⟨q.1, q.2, false⟩, ⟨q.1, q.2, true⟩]

theorem bothOf_length (Q : List (List UInt8 × List UInt8)) : (bothOf Q).length = 2 * Q.length := by
  induction Q with
  | nil => rfl
  | cons q Q ih => simp only [bothOf, List.flatMap_cons, List.length_append, List.length_cons, List.length_nil] at *; omega

theorem fewSt.length {n : Nat} {S : List Ls} (h : fewSt n S) (hn : S.Nodup) : S.length ≤ 2 * n := by
  obtain ⟨Q, h1, _, h3⟩ := h
  have h4 := nodup_le S (bothOf Q) hn fun a ha => by
    refine List.mem_flatMap.2 ⟨_, h3 a ha, ?_⟩
    obtain ⟨p, w, d⟩ := a
    cases d <;> simp
  rw [bothOf_length] at h4
  omega

theorem fewSt.want {n : Nat} {S : List Ls} (h : fewSt n S) (a : Ls) (ha : a ∈ S) : a.want.length ≤ 4000 := by
  obtain ⟨Q, _, h2, h3⟩ := h
  exact h2 _ (h3 a ha)

theorem fewSt.mono {n : Nat} {S S' : List Ls} (h : fewSt n S) {m : Nat} (hm : n ≤ m) (hs : ∀ a ∈ S', a ∈ S) : fewSt m S' := by
  obtain ⟨Q, h1, h2, h3⟩ := h
  exact ⟨Q, by omega, h2, fun a ha => h3 a (hs a ha)⟩

theorem fewSt.next {n : Nat} {S S' : List Ls} (h : fewSt n S) (P : List UInt8) (NS : ByteArray) (want : List UInt8) (fit : Prop) (e : Int) (same : Prop) (y : Dv) (ks : List Int) (hw : want.length ≤ 4000) (hs : ∀ a ∈ S', ∃ s ∈ S, fromNew P NS want fit e same y ks s a) : fewSt (n + 1) S' := by
  obtain ⟨Q, h1, h2, h3⟩ := h
  refine ⟨(P, want) :: Q, by simp; omega, fun q hq => ?_, fun a ha => ?_⟩
  · rcases List.mem_cons.1 hq with rfl | hq
    · exact hw
    · exact h2 q hq
  · obtain ⟨s, hsS, hf⟩ := hs a ha
    have hq := h3 s hsS
    rcases hf with ⟨_, _, _, rfl⟩ | ⟨hP, _, hg⟩ | ⟨_, _, _, rfl⟩ | ⟨_, _, _, hg⟩
    · exact List.mem_cons_of_mem _ hq
    · refine List.mem_cons_of_mem _ ?_
      rw [hP] at hq
      rcases hg with ⟨_, _, _, rfl⟩ | ⟨_, _, rfl⟩ | ⟨_, rfl | ⟨_, rfl⟩ | ⟨g, _⟩⟩
      · exact hq
      · exact hq
      · exact hq
      · exact hq
      · cases g
    · exact List.mem_cons_of_mem _ hq
    · rcases hg with ⟨_, _, _, rfl⟩ | ⟨_, _, rfl⟩ | ⟨_, rfl | ⟨_, rfl⟩ | ⟨_, rfl⟩⟩
      · exact List.mem_cons_self
      · exact List.mem_cons_self
      · exact List.mem_cons_self
      · exact List.mem_cons_self
      · exact List.mem_cons_of_mem _ hq

theorem fair_of {s : ByteArray} (h : pErr s = 0) (hs : s.size ≤ 1048576) : fair s := by
  have hE := h
  have hfull : Pl.full (hOL s) (hNL s) (hOS s) (hNS s) (pSt s) = true := by
    unfold pErr at hE
    split at hE
    · rename_i hc; simp only [Bool.and_eq_true] at hc; exact hc.2
    · cases hE
  obtain ⟨hO4, hN4, _, hok⟩ := full_specs hfull
  refine ⟨h, fun e => ?_, by rw [data_len]; exact hs, by omega, by omega, hok⟩
  have h1 : s = ⟨#[]⟩ := ByteArray.ext (Array.ext' e)
  rw [h1, pErr_nil] at h
  cases h

theorem full_len {s : ByteArray} (hE : pErr s = 0) : (pSt s).length ≤ 2000 := by
  have hfull : Pl.full (hOL s) (hNL s) (hOS s) (hNS s) (pSt s) = true := by
    unfold pErr at hE
    split at hE
    · rename_i hc; simp only [Bool.and_eq_true] at hc; exact hc.2
    · cases hE
  exact (full_specs hfull).2.2.1

end Go.Proofs.Ytjjmcnippjpclaa

namespace Go.Proofs.Ytjjmcnippjpclaa

open Go.RowKit

structure sideAt (b D : Nat) (tv sv : Value) (x : Dp.Dv) (lv : Value) (S : List Ls) (w : World) : Prop where
  blk : w.heap[b]? = some (.cells #[.pointer (some ⟨D, 0, none⟩), lv] 57 (0, 0))
  dev : devAt D tv sv x w
  row : stRow w lv S
  bD : b ≠ D
  bt : tv.ownBlock ≠ some b
  bs : sv.ownBlock ≠ some b
  bl : lv.ownBlock ≠ some b
  lD : lv.ownBlock ≠ some D
  lt : ∀ k, lv.ownBlock = some k → tv.ownBlock ≠ some k
  ls : ∀ k, lv.ownBlock = some k → sv.ownBlock ≠ some k

/-- the blocks of a side. -/
def sideBlk (b D : Nat) (tv sv lv : Value) (k : Nat) : Prop := k = b ∨ k = D ∨ tv.ownBlock = some k ∨ sv.ownBlock = some k ∨ lv.ownBlock = some k

/-- what a step on a side leaves as it was: all but the side's own blocks. -/
structure sideStep (B B' : Nat → Prop) (w w' : World) : Prop where
  os : w'.os = w.os
  tape : w'.tape = w.tape
  output : w'.output = w.output
  size : w.heap.size ≤ w'.heap.size
  block : ∀ k, k < w.heap.size → ¬ B k → w'.heap[k]? = w.heap[k]?
  new : ∀ k, B' k → B k ∨ w.heap.size ≤ k

theorem sideAt.lt_all {b D : Nat} {tv sv : Value} {x : Dp.Dv} {lv : Value} {S : List Ls} {w : World} (h : sideAt b D tv sv x lv S w) {k : Nat} (hk : sideBlk b D tv sv lv k) : k < w.heap.size := by
  rcases hk with rfl | rfl | hk | hk | hk
  · exact lt_of_heap h.blk
  · exact h.dev.lt
  · exact h.dev.text.lt hk
  · exact h.dev.safe.lt hk
  · exact h.row.lt hk

/-- a side stands where its blocks stand. -/
theorem sideAt.of_blocks {b D : Nat} {tv sv : Value} {x : Dp.Dv} {lv : Value} {S : List Ls} {w v : World} (h : sideAt b D tv sv x lv S w) (hb : ∀ k, k < w.heap.size → sideBlk b D tv sv lv k → v.heap[k]? = w.heap[k]?) : sideAt b D tv sv x lv S v :=
  ⟨by rw [hb b (lt_of_heap h.blk) (.inl rfl)]; exact h.blk,
   h.dev.of_blocks fun k hk hh => hb k hk (by rcases hh with h | h | h; exact .inr (.inl h); exact .inr (.inr (.inl h.symm)); exact .inr (.inr (.inr (.inl h.symm)))),
   h.row.of_block fun k hk => hb k (h.row.lt hk) (.inr (.inr (.inr (.inr hk)))), h.bD, h.bt, h.bs, h.bl, h.lD, h.lt, h.ls⟩

theorem numsAt.of_blocks2 {w v : World} {rv : Value} {zs : List Int} (h : numsAt w rv zs) (hb : zs ≠ [] → ∀ b a n c, rv = .slice (some ⟨b, a, none⟩) n c → b < w.heap.size → v.heap[b]? = w.heap[b]?) (hs : w.heap.size ≤ v.heap.size) : numsAt v rv zs := by
  by_cases hz : zs = []
  · subst hz
    rcases h with h | ⟨b, o, c, h, _⟩
    · exact .inl h
    · exact .inl ⟨rfl, _, _, h⟩
  · exact h.of_blocks (hb hz) hs

/-- what stands on a device. -/
def tOf (x : Dp.Dv) : ByteArray := if x.life = 0 then ⟨#[]⟩ else ⟨x.text.toArray⟩

theorem lawTextAll (D : Nat) (tv sv : Value) (x : Dp.Dv) (w : World) (hx : x.text.length ≤ 140737488355328) (h : Hid (devAt D tv sv x w)) :
    Calls Try.prog 44 #[.pointer (some ⟨D, 0, none⟩), .int .i64 x.text.length] w fun e w' => e = .returned (.tuple #[.string (tOf x), .bool (decide (x.life ≠ 0))]) ∧ w' = w := by
  refine (lawText_any D tv sv x x.text.length w (by omega) (by unfold maxLen; omega) h).mono ?_
  rintro e w' ⟨rfl, h0⟩
  refine ⟨?_, h0⟩
  unfold tOf Dp.pRead
  by_cases hl : x.life = 0
  · rw [if_pos (.inl hl), if_pos hl, decide_eq_false (by simpa using hl)]
  · rw [if_neg (by omega), if_neg hl, decide_eq_true hl, List.take_length]

theorem ownsRow_of_block {w w' : World} {B t n : Nat} {v : Value} {m : Nat} {xs : List Value} (h : w.ownsRow B t n v m xs) (hk : ∀ k, v.ownBlock = some k → w'.heap[k]? = w.heap[k]?) : w'.ownsRow B t n v m xs := by
  obtain ⟨h1, h2⟩ := h
  refine ⟨h1, ?_⟩
  rcases h2 with h2 | ⟨g, cap, cur, rfl, hb, hg, rest⟩
  · exact .inl h2
  · exact .inr ⟨g, cap, cur, rfl, hb, by rw [hk g rfl]; exact hg, rest⟩

theorem ownsRow_slice {w : World} {B t n : Nat} {v : Value} {m : Nat} {xs : List Value} (h : w.ownsRow B t n v m xs) : ∃ a c, v = .slice a m c := by
  rcases h.2 with ⟨h1, h2⟩ | ⟨g, cap, cur, h1, _⟩
  · exact ⟨none, 0, by rw [h1, h2]⟩
  · exact ⟨_, _, h1⟩

/-- while does is under way: the side with a copy of the device, and the operation's box. -/
structure inDoes (w : World) (b D : Nat) (tv sv : Value) (x : Dp.Dv) (lv : Value) (cc : Array Value) (v : World) : Prop where
  kept : kept3 b none none w v
  side : v.heap[b]? = some (.cells #[.pointer (some ⟨D, 0, none⟩), lv] 57 (0, 0))
  op : v.heap[w.heap.size]? = some (.cells cc 60 (0, 0))
  dev : devAt D tv sv x v
  lb : b < w.heap.size
  lD : w.heap.size < D
  lt : ∀ k, tv.ownBlock = some k → w.heap.size < k
  ls : ∀ k, sv.ownBlock = some k → w.heap.size < k

theorem inDoes.below {w : World} {b D : Nat} {tv sv : Value} {x : Dp.Dv} {lv : Value} {cc : Array Value} {v u : World} (h : inDoes w b D tv sv x lv cc v) (k : Below v.heap.size v u) : inDoes w b D tv sv x lv cc u :=
  ⟨h.kept.trans (.of_below k), by rw [k.block _ (lt_of_heap h.side)]; exact h.side, by rw [k.block _ (lt_of_heap h.op)]; exact h.op, h.dev.below k, h.lb, h.lD, h.lt, h.ls⟩

theorem inDoes.step {w : World} {b D : Nat} {tv sv : Value} {x y : Dp.Dv} {lv : Value} {cc : Array Value} {v u : World} (h : inDoes w b D tv sv x lv cc v) (k : kept3 D tv.ownBlock sv.ownBlock v u) (hy : devAt D tv sv y u) : inDoes w b D tv sv y lv cc u := by
  have hb := h.lb
  have hD := h.lD
  have hne : ∀ i, i ≤ w.heap.size → i < v.heap.size → u.heap[i]? = v.heap[i]? := fun i hi hv => k.block i hv (by omega) (fun e => by have := h.lt i e.symm; omega) (fun e => by have := h.ls i e.symm; omega)
  refine ⟨⟨k.os.trans h.kept.os, k.tape.trans h.kept.tape, k.output.trans h.kept.output, Nat.le_trans h.kept.size k.size, fun i hi h1 h2 h3 => ?_⟩, ?_, ?_, hy, h.lb, h.lD, h.lt, h.ls⟩
  · rw [hne i (by omega) (by have := h.kept.size; omega)]; exact h.kept.block i hi h1 h2 h3
  · rw [hne b (by omega) (lt_of_heap h.side)]; exact h.side
  · rw [hne _ (Nat.le_refl _) (lt_of_heap h.op)]; exact h.op

theorem inDoes.cells {w : World} {b D : Nat} {tv sv : Value} {x : Dp.Dv} {lv : Value} {a0 a1 a2 a3 a4 : Value} {v : World} (h : inDoes w b D tv sv x lv #[a0, a1, a2, a3, a4] v) :
    (v.cell? ⟨b, 0, none⟩ = some (.pointer (some ⟨D, 0, none⟩)) ∧ v.cell? ⟨b, 1, none⟩ = some lv) ∧ (v.cell? ⟨w.heap.size, 0, none⟩ = some a0 ∧ v.cell? ⟨w.heap.size, 1, none⟩ = some a1 ∧ v.cell? ⟨w.heap.size, 2, none⟩ = some a2 ∧ v.cell? ⟨w.heap.size, 3, none⟩ = some a3 ∧ v.cell? ⟨w.heap.size, 4, none⟩ = some a4) ∧ ∀ i, v.frozen? ⟨b, i, none⟩ = false := by
  refine ⟨⟨?_, ?_⟩, ⟨?_, ?_, ?_, ?_, ?_⟩, fun i => Lib.frozen_of_heap h.side i⟩
  all_goals first | (rw [Lib.cell_of_heap h.side]; rfl) | (rw [Lib.cell_of_heap h.op]; rfl)

theorem inDoes.fin {w : World} {b D : Nat} {tv sv : Value} {x : Dp.Dv} {lv : Value} {cc : Array Value} {v : World} (h : inDoes w b D tv sv x lv cc v) {S : List Ls} (hr : stRow v lv S) {B : Nat → Prop} (hB : B b) (hl : ∀ k, lv.ownBlock = some k → (B k ∧ k < w.heap.size ∧ k ≠ b) ∨ (w.heap.size ≤ k ∧ k ≠ D ∧ tv.ownBlock ≠ some k ∧ sv.ownBlock ≠ some k)) :
    sideAt b D tv sv x lv S v ∧ sideStep B (sideBlk b D tv sv lv) w v := by
  have hb := h.lb
  have hD := h.lD
  refine ⟨⟨h.side, h.dev, hr, by omega, fun e => by have := h.lt _ e; omega, fun e => by have := h.ls _ e; omega, fun e => ?_, fun e => ?_, fun k hk e => ?_, fun k hk e => ?_⟩, ⟨h.kept.os, h.kept.tape, h.kept.output, h.kept.size, fun k hk hn => h.kept.block k hk (fun e => hn (e ▸ hB)) (fun e => by cases e) (fun e => by cases e), fun k hk => ?_⟩⟩
  · rcases hl _ e with ⟨_, _, g⟩ | ⟨g, _⟩
    · exact g rfl
    · omega
  · rcases hl _ e with ⟨_, g, _⟩ | ⟨_, g, _⟩
    · omega
    · exact g rfl
  · rcases hl _ hk with ⟨_, g, _⟩ | ⟨_, _, g, _⟩
    · have := h.lt _ e; omega
    · exact g e
  · rcases hl _ hk with ⟨_, g, _⟩ | ⟨_, _, _, g⟩
    · have := h.ls _ e; omega
    · exact g e
  · rcases hk with rfl | rfl | hk | hk | hk
    · exact .inl hB
    · exact .inr (by omega)
    · exact .inr (by have := h.lt _ hk; omega)
    · exact .inr (by have := h.ls _ hk; omega)
    · rcases hl _ hk with ⟨g, _⟩ | ⟨g, _⟩
      · exact .inl g
      · exact .inr g

theorem inDoes.setRow {w : World} {b D : Nat} {tv sv : Value} {x : Dp.Dv} {lv : Value} {cc : Array Value} {v : World} (h : inDoes w b D tv sv x lv cc v) (lv' : Value) : inDoes w b D tv sv x lv' cc (v.setCell ⟨b, 1, none⟩ lv') := by
  have hb := h.lb
  have hD := h.lD
  refine ⟨h.kept.setD _ _, ?_, ?_, ?_, h.lb, h.lD, h.lt, h.ls⟩
  · have hs := h.side
    simp [World.setCell, Array.getElem?_modify, hs]
  · rw [Below.heap_setCell _ _ _ _ (by show w.heap.size ≠ b; omega)]; exact h.op
  · exact h.dev.of_blocks fun k hk hh => Below.heap_setCell _ _ _ _ (by
      show k ≠ b
      rcases hh with g | g | g
      · omega
      · have := h.lt k g.symm; omega
      · have := h.ls k g.symm; omega)

/-- the plan's box, and its steps, apart from a device. -/
structure inPlan (D : Nat) (tv sv : Value) (M Pb : Nat) (a0 a1 a2 a3 slv : Value) (st : List Pl.St) (v : World) : Prop where
  box : v.heap[Pb]? = some (.cells #[a0, a1, a2, a3, slv] 31 (0, 0))
  row : v.ownsRow M 40 5 slv st.length (stCells st)
  lD : D < M
  lt : ∀ k, tv.ownBlock = some k → k < M
  ls : ∀ k, sv.ownBlock = some k → k < M
  lP : M ≤ Pb

theorem inPlan.below {D : Nat} {tv sv : Value} {M Pb : Nat} {a0 a1 a2 a3 slv : Value} {st : List Pl.St} {v u : World} (h : inPlan D tv sv M Pb a0 a1 a2 a3 slv st v) (k : Below v.heap.size v u) : inPlan D tv sv M Pb a0 a1 a2 a3 slv st u :=
  ⟨by rw [k.block _ (lt_of_heap h.box)]; exact h.box, ownsRow_of_block h.row fun i hi => k.block i (h.row.lt i hi).2, h.lD, h.lt, h.ls, h.lP⟩

theorem inPlan.set {D : Nat} {tv sv : Value} {M Pb : Nat} {a0 a1 a2 a3 slv : Value} {st : List Pl.St} {v : World} (h : inPlan D tv sv M Pb a0 a1 a2 a3 slv st v) {b : Nat} (i : Nat) (u : Value) (hb : b < M) : inPlan D tv sv M Pb a0 a1 a2 a3 slv st (v.setCell ⟨b, i, none⟩ u) := by
  have hP := h.lP
  exact ⟨by rw [Below.heap_setCell _ _ _ _ (by show Pb ≠ b; omega)]; exact h.box, ownsRow_of_block h.row fun k hk => Below.heap_setCell _ _ _ _ (by show k ≠ b; have := (h.row.lt k hk).1; omega), h.lD, h.lt, h.ls, h.lP⟩

theorem same_text {x y : Dp.Dv} {now was : ByteArray} {still : Bool} (hx : x.life ≠ 0) (hs : still = decide (y.life ≠ 0)) (hn : now = tOf y) (hw : was = tOf x) : (still = false ∨ now = was) ↔ (y.life = 0 ∨ y.text = x.text) := by
  by_cases hy : y.life = 0
  · exact ⟨fun _ => .inl hy, fun _ => .inl (by rw [hs]; exact decide_eq_false (by simpa using hy))⟩
  · have e1 : still = true := by rw [hs]; exact decide_eq_true hy
    have e2 : now = ⟨y.text.toArray⟩ := by rw [hn]; unfold tOf; rw [if_neg hy]
    have e3 : was = ⟨x.text.toArray⟩ := by rw [hw]; unfold tOf; rw [if_neg hx]
    rw [e1, e2, e3]
    constructor
    · rintro (h | h)
      · cases h
      · exact .inr (by simpa using h)
    · rintro (h | h)
      · exact absurd h hy
      · exact .inr (by rw [h])

theorem inPlan.step {D : Nat} {tv sv : Value} {M Pb : Nat} {a0 a1 a2 a3 slv : Value} {st : List Pl.St} {v u : World} (h : inPlan D tv sv M Pb a0 a1 a2 a3 slv st v) (k : kept3 D tv.ownBlock sv.ownBlock v u) : inPlan D tv sv M Pb a0 a1 a2 a3 slv st u := by
  have hD := h.lD
  have hP := h.lP
  have hne : ∀ i, M ≤ i → i < v.heap.size → u.heap[i]? = v.heap[i]? := fun i hi hv => k.block i hv (by omega) (fun e => by have := h.lt i e.symm; omega) (fun e => by have := h.ls i e.symm; omega)
  exact ⟨by rw [hne _ hP (lt_of_heap h.box)]; exact h.box, ownsRow_of_block h.row fun i hi => hne i (h.row.lt i hi).1 (h.row.lt i hi).2, h.lD, h.lt, h.ls, h.lP⟩

end Go.Proofs.Ytjjmcnippjpclaa
