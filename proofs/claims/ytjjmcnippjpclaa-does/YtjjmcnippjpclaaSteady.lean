/-
  Plainly: a patch that is done again and again, whenever the power goes, comes to the new text.
-/
import Derived.Test.YtjjmcnippjpclaaDoW
namespace Go.Proofs.Ytjjmcnippjpclaa

open Dp

/-- the power is there for ever, or as long as it was. -/
def lives (x y : Dv) : Prop := x.life = -1 → y.life = -1

theorem lives.refl (x : Dv) : lives x x := id

theorem lives.trans {x y z : Dv} (h : lives x y) (k : lives y z) : lives x z := fun e => k (h e)

theorem lives.on (x : Dv) : lives x x.on := fun e => by show tick x.life = -1; rw [e]; rfl

/-- a piece is put in its place. -/
theorem put_spec (x : Dv) (a : Nat) (A B : List UInt8) (hts : x.text = x.safe) (hA : A = (x.text.drop a).take B.length) (hfit : a + B.length ≤ x.text.length) :
    ((pPut x a A B).1 = true → (pPut x a A B).2.text = x.text.take a ++ B ++ x.text.drop (a + B.length) ∧ (pPut x a A B).2.text = (pPut x a A B).2.safe) ∧ ((pPut x a A B).1 = false → (pPut x a A B).2.life = 0) ∧ (pPut x a A B).2.log = x.log ∧ (pPut x a A B).2.sure = x.sure ∧ (pPut x a A B).2.text.length = x.text.length ∧ (pPut x a A B).2.safe.length = x.text.length ∧ lives x (pPut x a A B).2 := by
  have hk := put_keep (x := x) (a := a) (A := A) (B := B)
  have hl := put_len (x := x) (a := a) (A := A) (B := B) hfit (by rw [hts])
  refine ⟨?_, ?_, hk.1, hk.2, hl.1, hl.2, ?_⟩
  · unfold pPut
    split
    · rename_i he
      intro _
      refine ⟨?_, hts⟩
      have hB : B = (x.text.drop a).take B.length := he ▸ hA
      have h1 : B ++ (x.text.drop a).drop B.length = x.text.drop a := by
        conv => lhs; lhs; rw [hB]
        exact List.take_append_drop _ _
      rw [List.append_assoc, ← List.drop_drop, h1, List.take_append_drop]
    · unfold pWrite
      split
      · intro h; cases h
      · simp only [andB, pSyncText]
        split
        · intro h; cases h
        · intro _; exact ⟨rfl, rfl⟩
  · unfold pPut
    split
    · intro h; cases h
    · unfold pWrite
      split
      · rename_i h0; intro _; exact h0
      · simp only [andB, pSyncText]
        split
        · rename_i h0; intro _; exact h0
        · intro h; cases h
  · unfold pPut
    split
    · exact lives.refl _
    · unfold pWrite
      split
      · exact lives.refl _
      · simp only [andB, pSyncText]
        split
        · exact lives.on x
        · intro e; show tick (tick x.life) = -1; rw [e]; rfl

/-- a text is made to stand in its place. -/
theorem settle_spec (x : Dv) (n : List UInt8) (e : Nat) (hts : x.text = x.safe) (he : e ≤ n.length) (hn : n.length ≤ x.text.length) :
    ((pSettle x n e).1 = true → n <+: (pSettle x n e).2.text ∧ (pSettle x n e).2.text = (pSettle x n e).2.safe) ∧ ((pSettle x n e).1 = false → (pSettle x n e).2.life = 0) ∧ (pSettle x n e).2.log = x.log ∧ (pSettle x n e).2.sure = x.sure ∧ (pSettle x n e).2.text.length = x.text.length ∧ (pSettle x n e).2.safe.length = x.text.length ∧ lives x (pSettle x n e).2 := by
  unfold pSettle pRead
  by_cases h0 : x.life = 0
  · rw [if_pos (.inl h0)]
    exact ⟨fun h => (by cases h), fun _ => h0, rfl, rfl, rfl, by rw [hts], lives.refl _⟩
  · rw [if_neg (by omega)]
    dsimp only
    have hl1 : (n.take e).length = e := by rw [List.length_take]; omega
    obtain ⟨a1, a2, a3, a4, a5, a6, a7⟩ := put_spec x 0 ((x.text.take n.length).take e) (n.take e) hts (by rw [hl1, List.take_take, List.drop_zero]; congr 1; omega) (by omega)
    generalize pPut x 0 ((x.text.take n.length).take e) (n.take e) = r at *
    obtain ⟨b, y⟩ := r
    dsimp only at *
    cases b with
    | false => exact ⟨fun h => (by cases h), fun _ => a2 rfl, a3, a4, a5, a6, a7⟩
    | true =>
      obtain ⟨t1, t2⟩ := a1 rfl
      rw [hl1, List.take_zero, List.nil_append, Nat.zero_add] at t1
      have hyd : y.text.drop e = x.text.drop e := by rw [t1, List.drop_left' hl1]
      have hl2 : (n.drop e).length = n.length - e := List.length_drop
      obtain ⟨c1, c2, c3, c4, c5, c6, c7⟩ := put_spec y e ((x.text.take n.length).drop e) (n.drop e) t2 (by rw [hl2, hyd, List.drop_take]) (by omega)
      show _ ∧ _ ∧ _ ∧ _ ∧ _ ∧ _ ∧ _
      simp only [andB]
      refine ⟨fun h => ?_, c2, by rw [c3, a3], by rw [c4, a4], by rw [c5, a5], by rw [c6, a5], a7.trans c7⟩
      obtain ⟨u1, u2⟩ := c1 h
      refine ⟨?_, u2⟩
      rw [u1, t1, List.take_left' hl1, List.take_append_drop]
      exact List.prefix_append _ _

/-- what a patch is about: the log ahead of it, its text, what it makes, the text that stands there, its plan. -/
structure Cx where
  recs : List Rc
  s : List UInt8
  n : List UInt8
  O : List UInt8
  OL : Nat
  NL : Nat
  OS : ByteArray
  NS : ByteArray
  st : List Pl.St

structure Cx.ok (c : Cx) : Prop where
  wfs : ∀ r ∈ c.recs, wf r
  wfn : wf (some (c.s, c.n))
  ne : c.s ≠ []
  other : (fold c.recs).patch ≠ c.s
  free : isBegun (fold c.recs) = false
  nl : c.n.length = c.NL
  ns : sumL c.n = c.NS
  ol : c.OL ≤ c.O.length
  nO : c.NL ≤ c.O.length
  os : sumL (c.O.take c.OL) = c.OS
  made : doneB c.st ⟨(c.O.take c.OL).toArray⟩ c.NL = c.n

def Cx.rc (c : Cx) : Rc := some (c.s, c.n)

def Cx.r1 (c : Cx) : List Rc := c.recs ++ [c.rc]

def Cx.r2 (c : Cx) : List Rc := c.recs ++ [c.rc] ++ [none]

/-- nothing of it is done. -/
structure kAhead (c : Cx) (x : Dv) : Prop where
  log : ∃ k, k < (enc c.rc).length ∧ x.log = E c.recs ++ (enc c.rc).take k
  sure : x.sure = x.log.length
  text : x.text = c.O
  safe : x.safe = c.O

/-- it is surely begun. -/
structure kBegun (c : Cx) (x : Dv) : Prop where
  log : x.log = E c.r1
  sure : x.sure = x.log.length
  text : x.text.length = c.O.length
  safe : x.safe.length = c.O.length

/-- it is surely done. -/
structure kDone (c : Cx) (x : Dv) : Prop where
  log : x.log = E c.r2
  sure : x.sure = x.log.length
  text : x.text.length = c.O.length
  same : x.text = x.safe
  new : c.n <+: x.text

/-- it is begun, but that is not sure. -/
structure kAhead' (c : Cx) (x : Dv) : Prop where
  log : x.log = E c.r1
  sure : x.sure = (E c.recs).length
  text : x.text = c.O
  safe : x.safe = c.O

/-- it is done, but that is not sure. -/
structure kBegun' (c : Cx) (x : Dv) : Prop where
  log : x.log = E c.r2
  sure : x.sure = (E c.r1).length
  text : x.text.length = c.O.length
  same : x.text = x.safe
  new : c.n <+: x.text

def kSure (c : Cx) (x : Dv) : Prop := kAhead c x ∨ kBegun c x ∨ kDone c x

def kAny (c : Cx) (x : Dv) : Prop := kSure c x ∨ kAhead' c x ∨ kBegun' c x

theorem Cx.ok.wf1 {c : Cx} (h : c.ok) : ∀ r ∈ c.r1, wf r := by
  intro r hr
  rcases List.mem_append.1 hr with h1 | h1
  · exact h.wfs r h1
  · rw [List.mem_singleton.1 h1]; exact h.wfn

theorem Cx.ok.wf2 {c : Cx} (h : c.ok) : ∀ r ∈ c.r2, wf r := by
  intro r hr
  rcases List.mem_append.1 hr with h1 | h1
  · exact h.wf1 r h1
  · rw [List.mem_singleton.1 h1]; trivial

theorem jrn_all (l : List Rc) (h : ∀ r ∈ l, wf r) : jrn (E l) = fold l := by
  have := jrn_E l h [] rfl
  rwa [List.append_nil] at this

/-- pLay: a record is laid, and made sure of. -/
theorem lay_spec (x : Dv) (R : List UInt8) :
    ((pLay x R).1 = true ∧ (pLay x R).2.log = x.log ++ R ∧ (pLay x R).2.sure = (x.log ++ R).length ∨
     (pLay x R).1 = false ∧ (pLay x R).2.life = 0 ∧ ((pLay x R).2.log = x.log ∨ (pLay x R).2.log = x.log ++ R) ∧ (pLay x R).2.sure = x.sure) ∧ (pLay x R).2.text = x.text ∧ (pLay x R).2.safe = x.safe ∧ lives x (pLay x R).2 := by
  unfold pLay pLog
  by_cases h0 : x.life = 0
  · rw [if_pos h0]
    exact ⟨.inr ⟨rfl, h0, .inl rfl, rfl⟩, rfl, rfl, lives.refl _⟩
  · rw [if_neg h0]
    simp only [andB, pSyncLog]
    by_cases h1 : tick x.life = 0
    · rw [if_pos (show x.on.life = 0 from h1)]
      exact ⟨.inr ⟨rfl, h1, .inr rfl, rfl⟩, rfl, rfl, lives.on x⟩
    · rw [if_neg (show ¬ x.on.life = 0 from h1)]
      exact ⟨.inl ⟨rfl, rfl, rfl⟩, rfl, rfl, fun e => by show tick (tick x.life) = -1; rw [e]; rfl⟩

/-- a patch that is begun, on a text that is sure, goes on. -/
theorem goOn_spec (c : Cx) (hc : c.ok) (x : Dv) (h : kBegun c x) (hts : x.text = x.safe) (e : Nat) (he : e ≤ c.n.length) :
    (((pGoOn x c.n c.NL c.NS e).1 = 0 ∧ kDone c (pGoOn x c.n c.NL c.NS e).2) ∨ ((pGoOn x c.n c.NL c.NS e).1 = 7 ∧ (pGoOn x c.n c.NL c.NS e).2.life = 0 ∧ kAny c (pGoOn x c.n c.NL c.NS e).2)) ∧ lives x (pGoOn x c.n c.NL c.NS e).2 := by
  obtain ⟨s1, s2, s3, s4, s5, s6, s7⟩ := settle_spec x c.n e hts he (by rw [h.text, hc.nl]; exact hc.nO)
  unfold pGoOn
  generalize pSettle x c.n e = r at *
  obtain ⟨b, y⟩ := r
  dsimp only at *
  have hy : kBegun c y := ⟨by rw [s3]; exact h.log, by rw [s4, s3]; exact h.sure, by rw [s5]; exact h.text, by rw [s6]; exact h.text⟩
  cases b with
  | false => exact ⟨.inr ⟨rfl, s2 rfl, .inl (.inr (.inl hy))⟩, s7⟩
  | true =>
    obtain ⟨t1, t2⟩ := s1 rfl
    dsimp only
    unfold pRead
    by_cases h0 : y.life = 0
    · rw [if_pos (.inl h0)]
      exact ⟨.inr ⟨rfl, h0, .inl (.inr (.inl hy))⟩, s7⟩
    · have hle : c.n.length ≤ y.text.length := t1.length_le
      rw [if_neg (by rw [← hc.nl]; omega)]
      dsimp only
      have htk : y.text.take c.NL = c.n := by
        obtain ⟨q, hq⟩ := t1
        rw [← hq, ← hc.nl, List.take_left]
      rw [htk, if_pos hc.ns]
      obtain ⟨l1, l2, l3, l4⟩ := lay_spec y [100]
      have hE : E c.r2 = E c.r1 ++ [100] := E_snoc c.r1 none
      generalize pLay y [100] = q at *
      obtain ⟨b, z⟩ := q
      dsimp only at *
      rcases l1 with ⟨rfl, g1, g2⟩ | ⟨rfl, g1, g2, g3⟩
      · exact ⟨.inl ⟨rfl, ⟨by rw [g1, hy.log, hE], by rw [g2, g1], by rw [l2]; exact hy.text, by rw [l2, l3]; exact t2, by rw [l2]; exact t1⟩⟩, s7.trans l4⟩
      · refine ⟨.inr ⟨rfl, g1, ?_⟩, s7.trans l4⟩
        rcases g2 with g2 | g2
        · exact .inl (.inr (.inl ⟨by rw [g2]; exact hy.log, by rw [g3, g2]; exact hy.sure, by rw [l2]; exact hy.text, by rw [l3]; exact hy.safe⟩))
        · exact .inr (.inr ⟨by rw [g2, hy.log, hE], by rw [g3, hy.sure, hy.log], by rw [l2]; exact hy.text, by rw [l2, l3]; exact t2, by rw [l2]; exact t1⟩)

theorem cut_spec (x : Dv) (l t : List UInt8) (hx : x.log = l ++ t) (h0 : x.life ≠ 0) : ∃ y, pCut x l.length = (true, y) ∧ y.log = l ∧ y.sure = l.length ∧ y.text = x.text ∧ y.safe = x.safe ∧ lives x y := by
  unfold pCut
  rw [if_neg h0, if_pos (by rw [hx]; simp)]
  exact ⟨_, rfl, by rw [hx]; exact List.take_left, rfl, rfl, rfl, lives.on x⟩

/-- the text is made sure of. -/
theorem sync_spec (x : Dv) : (x.life = 0 ∧ pSyncText x = (false, x)) ∨ ∃ z, pSyncText x = (true, z) ∧ z.text = x.text ∧ z.safe = x.text ∧ z.log = x.log ∧ z.sure = x.sure ∧ lives x z := by
  unfold pSyncText
  by_cases h0 : x.life = 0
  · exact .inl ⟨h0, by rw [if_pos h0]⟩
  · exact .inr ⟨{ x.on with safe := x.text }, by rw [if_neg h0], rfl, rfl, rfl, rfl, lives.on x⟩

theorem fold_r1 (c : Cx) : (fold c.r1).patch = c.s ∧ (fold c.r1).next = c.n ∧ (fold c.r1).done = false := by
  unfold Cx.r1
  rw [fold_snoc]
  exact ⟨rfl, rfl, rfl⟩

theorem fold_r2 (c : Cx) : (fold c.r2).patch = c.s ∧ (fold c.r2).next = c.n ∧ (fold c.r2).done = true := by
  unfold Cx.r2
  rw [fold_snoc]
  exact ⟨(fold_r1 c).1, (fold_r1 c).2.1, rfl⟩

def Cx.does (c : Cx) (x : Dv) (e : Nat) : Int × Dv := pDo x c.s c.OL c.NL c.OS c.NS c.st e

theorem do_spec (c : Cx) (hc : c.ok) (x : Dv) (h : kSure c x) (e : Nat) :
    (((c.does x e).1 = 0 ∧ kDone c (c.does x e).2) ∨ ((c.does x e).1 = 7 ∧ (c.does x e).2.life = 0 ∧ kAny c (c.does x e).2)) ∧ lives x (c.does x e).2 := by
  unfold Cx.does pDo
  by_cases h0 : x.life = 0
  · rw [if_pos h0]
    exact ⟨.inr ⟨rfl, h0, .inl h⟩, lives.refl _⟩
  rw [if_neg h0]
  rcases h with h | h | h
  · obtain ⟨k, hk, hlog⟩ := h.log
    have hj : jrn x.log = fold c.recs := by rw [hlog]; exact jrn_E _ hc.wfs _ (tk_part _ hc.wfn k hk)
    obtain ⟨y, hy, y1, y2, y3, y4, y5⟩ := cut_spec x (E c.recs) _ hlog h0
    rw [hj, fold_whole, hy]
    dsimp only
    rw [if_neg (fun h => hc.other h.1), if_neg (fun h => by rw [hc.free] at h; exact absurd h.2 (by decide))]
    have hz0 : 0 < (enc c.rc).length := Nat.zero_lt_of_lt hk
    have hA : ∀ v : Dv, v.log = E c.recs → v.sure = (E c.recs).length → v.text = c.O → v.safe = c.O → kAhead c v := fun v h1 h2 h3 h4 => ⟨⟨0, hz0, by rw [h1]; simp⟩, by rw [h2, h1], h3, h4⟩
    rw [if_neg (by rw [y3, h.text]; have := hc.ol; have := hc.nO; omega)]
    rcases sync_spec y with ⟨y0, hs⟩ | ⟨z, hs, z1, z2, z3, z4, z5⟩
    · rw [hs]
      exact ⟨.inr ⟨rfl, y0, .inl (.inl (hA y y1 y2 (by rw [y3]; exact h.text) (by rw [y4]; exact h.safe)))⟩, y5⟩
    · rw [hs]
      dsimp only
      have zt : z.text = c.O := by rw [z1, y3]; exact h.text
      have zs : z.safe = c.O := by rw [z2, y3]; exact h.text
      have zl : z.log = E c.recs := by rw [z3, y1]
      have zu : z.sure = (E c.recs).length := by rw [z4, y2]
      have zv : lives x z := y5.trans z5
      unfold pDo2
      rw [if_neg (by rw [hc.free]; decide)]
      rw [zt, hc.made]
      by_cases w0 : z.life = 0
      · have hb : pBegin z c.s c.OL c.OS c.st c.NL = (7, z) := by unfold pBegin pRead; rw [if_pos (.inl w0)]
        rw [hb, if_neg (show ¬ (7 : Int) = 0 by decide)]
        exact ⟨.inr ⟨rfl, w0, .inl (.inl (hA z zl zu zt zs))⟩, zv⟩
      · have hb : pBegin z c.s c.OL c.OS c.st c.NL = match pLay z (enc (some (c.s, c.n))) with
            | (true, y) => (0, y)
            | (false, y) => (7, y) := by
          unfold pBegin pRead
          rw [if_neg (fun h => by rcases h with h | h; exact w0 h; rw [zt] at h; have := hc.ol; omega)]
          dsimp only
          rw [zt, if_pos hc.os, hc.made]
          generalize pLay z (enc (some (c.s, c.n))) = q
          obtain ⟨b, u⟩ := q
          cases b <;> rfl
        obtain ⟨l1, l2, l3, l4⟩ := lay_spec z (enc (some (c.s, c.n)))
        have hE : E c.r1 = E c.recs ++ enc (some (c.s, c.n)) := E_snoc c.recs c.rc
        generalize pLay z (enc (some (c.s, c.n))) = q at *
        obtain ⟨b, u⟩ := q
        dsimp only at l1 l2 l3 l4
        rcases l1 with ⟨rfl, g1, g2⟩ | ⟨rfl, g1, g2, g3⟩
        · dsimp only at hb
          rw [hb, if_pos rfl]
          have hu : kBegun c u := ⟨by rw [g1, zl, hE], by rw [g2, g1], by rw [l2, zt], by rw [l3, zs]⟩
          obtain ⟨o1, o2⟩ := goOn_spec c hc u hu (by rw [l2, l3, zt, zs]) (min e c.n.length) (by omega)
          exact ⟨o1, (zv.trans l4).trans o2⟩
        · dsimp only at hb
          rw [hb, if_neg (show ¬ (7 : Int) = 0 by decide)]
          refine ⟨.inr ⟨rfl, g1, ?_⟩, zv.trans l4⟩
          rcases g2 with g2 | g2
          · exact .inl (.inl (hA u (by rw [g2, zl]) (by rw [g3, zu]) (by rw [l2, zt]) (by rw [l3, zs])))
          · exact .inr (.inl ⟨by rw [g2, zl, hE], by rw [g3, zu], by rw [l2, zt], by rw [l3, zs]⟩)
  · have hj : jrn x.log = fold c.r1 := by rw [h.log]; exact jrn_all _ hc.wf1
    obtain ⟨f1, f2, f3⟩ := fold_r1 c
    have hib : isBegun (fold c.r1) = true := by unfold isBegun; rw [f1, f3, decide_eq_true hc.ne]; rfl
    obtain ⟨y, hy, y1, y2, y3, y4, y5⟩ := cut_spec x (E c.r1) [] (by rw [h.log, List.append_nil]) h0
    rw [hj, fold_whole, hy]
    dsimp only
    rw [if_neg (fun h => by rw [f3] at h; exact absurd h.2 (by decide)), if_neg (fun h => h.1 f1)]
    rw [if_neg (by rw [y3, h.text]; have := hc.ol; have := hc.nO; omega)]
    rcases sync_spec y with ⟨y0, hs⟩ | ⟨z, hs, z1, z2, z3, z4, z5⟩
    · rw [hs]
      exact ⟨.inr ⟨rfl, y0, .inl (.inr (.inl ⟨y1, by rw [y2, y1], by rw [y3]; exact h.text, by rw [y4]; exact h.safe⟩))⟩, y5⟩
    · rw [hs]
      dsimp only
      unfold pDo2
      rw [if_pos hib, f2]
      obtain ⟨g1, g2⟩ := goOn_spec c hc z ⟨by rw [z3, y1], by rw [z4, z3, y2, y1], by rw [z1, y3]; exact h.text, by rw [z2, y3]; exact h.text⟩ (by rw [z1, z2]) (min e c.n.length) (by omega)
      exact ⟨g1, (y5.trans z5).trans g2⟩
  · have hj : jrn x.log = fold c.r2 := by rw [h.log]; exact jrn_all _ hc.wf2
    obtain ⟨f1, f2, f3⟩ := fold_r2 c
    obtain ⟨y, hy, y1, y2, y3, y4, y5⟩ := cut_spec x (E c.r2) [] (by rw [h.log, List.append_nil]) h0
    rw [hj, fold_whole, hy]
    dsimp only
    rw [if_pos ⟨f1, f3⟩]
    exact ⟨.inl ⟨rfl, ⟨y1, by rw [y2, y1], by rw [y3]; exact h.text, by rw [y3, y4]; exact h.same, by rw [y3]; exact h.new⟩⟩, y5⟩

theorem mix_same (ks : List Int) (t : List UInt8) : mix ks t t = t := by
  apply List.ext_getElem?
  intro j
  by_cases hj : j < t.length
  · unfold mix
    rw [List.getElem?_map, List.getElem?_range hj]
    simp [List.getD, List.getElem?_eq_getElem hj]
  · rw [List.getElem?_eq_none (by rw [mix_length]; omega), List.getElem?_eq_none (by omega)]

/-- what is done stays so. -/
theorem do_done (c : Cx) (hc : c.ok) (x : Dv) (h : kDone c x) (e : Nat) : kDone c (c.does x e).2 := by
  unfold Cx.does pDo
  by_cases h0 : x.life = 0
  · rw [if_pos h0]
    exact h
  rw [if_neg h0]
  have hj : jrn x.log = fold c.r2 := by rw [h.log]; exact jrn_all _ hc.wf2
  obtain ⟨f1, f2, f3⟩ := fold_r2 c
  obtain ⟨y, hy, y1, y2, y3, y4, y5⟩ := cut_spec x (E c.r2) [] (by rw [h.log, List.append_nil]) h0
  rw [hj, fold_whole, hy]
  dsimp only
  rw [if_pos ⟨f1, f3⟩]
  exact ⟨y1, by rw [y2, y1], by rw [y3]; exact h.text, by rw [y3, y4]; exact h.same, by rw [y3]; exact h.new⟩

theorem kSure_life {c : Cx} {x : Dv} (h : kSure c x) (l : Int) : kSure c { x with life := l } := by
  rcases h with h | h | h
  · exact .inl ⟨h.log, h.sure, h.text, h.safe⟩
  · exact .inr (.inl ⟨h.log, h.sure, h.text, h.safe⟩)
  · exact .inr (.inr ⟨h.log, h.sure, h.text, h.same, h.new⟩)

theorem kDone_life {c : Cx} {x : Dv} (h : kDone c x) (l : Int) : kDone c { x with life := l } := ⟨h.log, h.sure, h.text, h.same, h.new⟩

/-- the sizes of a device. -/
theorem kAny_sizes {c : Cx} {x : Dv} (h : kAny c x) : x.text.length = c.O.length ∧ x.safe.length = c.O.length ∧ x.sure ≤ x.log.length ∧ x.log.length ≤ (E c.r2).length := by
  have e1 : E c.r2 = E c.r1 ++ [100] := E_snoc c.r1 none
  have e2 : E c.r1 = E c.recs ++ enc c.rc := E_snoc c.recs c.rc
  have l1 : (E c.r2).length = (E c.r1).length + 1 := by rw [e1, List.length_append]; rfl
  have l2 : (E c.r1).length = (E c.recs).length + (enc c.rc).length := by rw [e2, List.length_append]
  rcases h with (h | h | h) | h | h
  · obtain ⟨k, hk, hl⟩ := h.log
    have : x.log.length = (E c.recs).length + k := by rw [hl, List.length_append, List.length_take]; omega
    exact ⟨by rw [h.text], by rw [h.safe], by rw [h.sure]; exact Nat.le_refl _, by omega⟩
  · exact ⟨h.text, h.safe, by rw [h.sure]; exact Nat.le_refl _, by rw [h.log]; omega⟩
  · exact ⟨h.text, by rw [← h.same]; exact h.text, by rw [h.sure]; exact Nat.le_refl _, by rw [h.log]; exact Nat.le_refl _⟩
  · exact ⟨by rw [h.text], by rw [h.safe], by rw [h.sure, h.log]; omega, by rw [h.log]; omega⟩
  · exact ⟨h.text, by rw [← h.same]; exact h.text, by rw [h.sure, h.log]; omega, by rw [h.log]; exact Nat.le_refl _⟩

theorem kSure_next {c : Cx} (hc : c.ok) {x : Dv} (h : kSure c x) : (jrn x.log).next = (fold c.recs).next ∨ (jrn x.log).next = c.n := by
  rcases h with h | h | h
  · obtain ⟨k, hk, hl⟩ := h.log
    left
    have hj : jrn x.log = fold c.recs := by rw [hl]; exact jrn_E _ hc.wfs _ (tk_part _ hc.wfn k hk)
    rw [hj]
  · right
    rw [h.log, jrn_all _ hc.wf1, (fold_r1 c).2.1]
  · right
    rw [h.log, jrn_all _ hc.wf2, (fold_r2 c).2.1]

theorem kDone_reads {c : Cx} {x : Dv} (h : kDone c x) (hl : x.life ≠ 0) : pRead x c.n.length = some c.n := by
  obtain ⟨q, hq⟩ := h.new
  unfold pRead
  rw [if_neg (fun h1 => by rcases h1 with h1 | h1; exact hl h1; rw [← hq] at h1; simp at h1; omega), ← hq, List.take_left]

/-- the power comes back: what is sure then. -/
theorem power_spec (c : Cx) (x : Dv) (h : kAny c x) (ks : List Int) : kSure c (pPower x ks) ∧ (kDone c x → kDone c (pPower x ks)) ∧ (pPower x ks).life = -1 := by
  have hpk := pickB_bd ks 0 ((x.log.length : Int) - (x.sure : Int) + 1)
  have hfull : x.sure = x.log.length → (pPower x ks).log = x.log ∧ (pPower x ks).sure = x.log.length := fun hs => by
    have h1 := hpk (by omega)
    have h2 : (pickB ks 0 ((x.log.length : Int) - (x.sure : Int) + 1)).toNat = 0 := by omega
    constructor
    · show x.log.take (x.sure + _) = _
      rw [h2, hs, Nat.add_zero, List.take_length]
    · show x.sure + _ = _
      rw [h2, hs, Nat.add_zero]
  have hsame : ∀ t, x.text = t → x.safe = t → (pPower x ks).text = t ∧ (pPower x ks).safe = t := fun t h1 h2 => by
    constructor
    · show mix ks x.text x.safe = t
      rw [h1, h2, mix_same]
    · show mix ks x.text x.safe = t
      rw [h1, h2, mix_same]
  have hlen : (pPower x ks).text.length = x.text.length ∧ (pPower x ks).safe.length = x.text.length := ⟨mix_length _ _ _, mix_length _ _ _⟩
  have hd : kDone c x → kDone c (pPower x ks) := fun h => by
    obtain ⟨p1, p2⟩ := hfull h.sure
    obtain ⟨s1, s2⟩ := hsame x.text rfl h.same.symm
    exact ⟨by rw [p1]; exact h.log, by rw [p2, p1], by rw [s1]; exact h.text, by rw [s1, s2], by rw [s1]; exact h.new⟩
  refine ⟨?_, hd, rfl⟩
  rcases h with (h | h | h) | h | h
  · obtain ⟨p1, p2⟩ := hfull h.sure
    obtain ⟨s1, s2⟩ := hsame c.O h.text h.safe
    exact .inl ⟨by rw [p1]; exact h.log, by rw [p2, p1], s1, s2⟩
  · obtain ⟨p1, p2⟩ := hfull h.sure
    exact .inr (.inl ⟨by rw [p1]; exact h.log, by rw [p2, p1], by rw [hlen.1]; exact h.text, by rw [hlen.2]; exact h.text⟩)
  · exact .inr (.inr (hd h))
  · have hE : E c.r1 = E c.recs ++ enc c.rc := E_snoc c.recs c.rc
    obtain ⟨s1, s2⟩ := hsame c.O h.text h.safe
    have hll : x.log.length = (E c.recs).length + (enc c.rc).length := by rw [h.log, hE, List.length_append]
    have h1 := hpk (by rw [hll, h.sure]; omega)
    obtain ⟨p, hp⟩ : ∃ p, (pickB ks 0 ((x.log.length : Int) - (x.sure : Int) + 1)).toNat = p := ⟨_, rfl⟩
    have hple : p ≤ (enc c.rc).length := by rw [hll, h.sure] at *; omega
    have p1 : (pPower x ks).log = E c.recs ++ (enc c.rc).take p := by
      show x.log.take (x.sure + _) = _
      rw [hp, h.log, hE, h.sure, List.take_length_add_append]
    have p2 : (pPower x ks).sure = (E c.recs).length + p := by
      show x.sure + _ = _
      rw [hp, h.sure]
    by_cases he : p = (enc c.rc).length
    · rw [he, List.take_length, ← hE] at p1
      exact .inr (.inl ⟨p1, by rw [p2, p1, hE, he, List.length_append], by rw [s1], by rw [s2]⟩)
    · exact .inl ⟨⟨p, by omega, p1⟩, by rw [p2, p1, List.length_append, List.length_take]; omega, s1, s2⟩
  · have hE : E c.r2 = E c.r1 ++ [100] := E_snoc c.r1 none
    obtain ⟨s1, s2⟩ := hsame x.text rfl h.same.symm
    have hll : x.log.length = (E c.r1).length + 1 := by rw [h.log, hE, List.length_append]; rfl
    have h1 := hpk (by rw [hll, h.sure]; omega)
    obtain ⟨p, hp⟩ : ∃ p, (pickB ks 0 ((x.log.length : Int) - (x.sure : Int) + 1)).toNat = p := ⟨_, rfl⟩
    have hple : p ≤ 1 := by rw [hll, h.sure] at *; omega
    have p1 : (pPower x ks).log = E c.r1 ++ [100].take p := by
      show x.log.take (x.sure + _) = _
      rw [hp, h.log, hE, h.sure, List.take_length_add_append]
    have p2 : (pPower x ks).sure = (E c.r1).length + p := by
      show x.sure + _ = _
      rw [hp, h.sure]
    rcases Nat.eq_zero_or_pos p with h0 | h0
    · subst h0
      rw [List.take_zero, List.append_nil] at p1
      exact .inr (.inl ⟨p1, by rw [p2, p1, Nat.add_zero], by rw [s1]; exact h.text, by rw [s2]; exact h.text⟩)
    · obtain rfl : p = 1 := by omega
      have p3 : (pPower x ks).log = E c.r2 := by rw [p1, hE]; rfl
      exact .inr (.inr ⟨p3, by rw [p2, p3, hE, List.length_append]; rfl, by rw [s1]; exact h.text, by rw [s1, s2], by rw [s1]; exact h.new⟩)

end Go.Proofs.Ytjjmcnippjpclaa
