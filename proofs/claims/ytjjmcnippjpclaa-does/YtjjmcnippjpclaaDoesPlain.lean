/-
  Plainly, for Does: what a device may be in, what a Do leaves of that, and what the law says of it.
-/
import Derived.Test.YtjjmcnippjpclaaSteady
namespace Go.Proofs.Ytjjmcnippjpclaa

open Dp

/-- a patch that is begun, on a text that is sure, goes on: what may come of it. -/
theorem goOn_gen (x : Dv) (n : List UInt8) (NS : ByteArray) (hts : x.text = x.safe) (hn : n.length ≤ x.text.length) (e : Nat) (he : e ≤ n.length) :
    (((pGoOn x n n.length NS e).1 = 0 ∧ (pGoOn x n n.length NS e).2.log = x.log ++ [100] ∧ (pGoOn x n n.length NS e).2.sure = (x.log ++ [100]).length ∧ (pGoOn x n n.length NS e).2.text = (pGoOn x n n.length NS e).2.safe ∧ n <+: (pGoOn x n n.length NS e).2.text ∧ sumL n = NS) ∨
     ((pGoOn x n n.length NS e).1 = 5 ∧ (pGoOn x n n.length NS e).2.log = x.log ∧ (pGoOn x n n.length NS e).2.sure = x.sure ∧ sumL n ≠ NS) ∨
     ((pGoOn x n n.length NS e).1 = 7 ∧ (pGoOn x n n.length NS e).2.life = 0 ∧ (pGoOn x n n.length NS e).2.sure = x.sure ∧ ((pGoOn x n n.length NS e).2.log = x.log ∨ ((pGoOn x n n.length NS e).2.log = x.log ++ [100] ∧ (pGoOn x n n.length NS e).2.text = (pGoOn x n n.length NS e).2.safe ∧ n <+: (pGoOn x n n.length NS e).2.text ∧ sumL n = NS)))) ∧
    (pGoOn x n n.length NS e).2.text.length = x.text.length ∧ (pGoOn x n n.length NS e).2.safe.length = x.text.length := by
  obtain ⟨s1, s2, s3, s4, s5, s6, s7⟩ := settle_spec x n e hts he hn
  unfold pGoOn
  generalize pSettle x n e = r at *
  obtain ⟨b, y⟩ := r
  dsimp only at *
  cases b with
  | false => exact ⟨.inr (.inr ⟨rfl, s2 rfl, s4, .inl s3⟩), s5, s6⟩
  | true =>
    obtain ⟨t1, t2⟩ := s1 rfl
    dsimp only
    unfold pRead
    by_cases h0 : y.life = 0
    · rw [if_pos (.inl h0)]
      exact ⟨.inr (.inr ⟨rfl, h0, s4, .inl s3⟩), s5, s6⟩
    · have hle : n.length ≤ y.text.length := t1.length_le
      rw [if_neg (by omega)]
      dsimp only
      have htk : y.text.take n.length = n := by
        obtain ⟨q, hq⟩ := t1
        rw [← hq, List.take_left]
      rw [htk]
      by_cases hs : sumL n = NS
      · rw [if_pos hs]
        obtain ⟨l1, l2, l3, l4⟩ := lay_spec y [100]
        generalize pLay y [100] = q at *
        obtain ⟨b, z⟩ := q
        dsimp only at *
        rcases l1 with ⟨rfl, g1, g2⟩ | ⟨rfl, g1, g2, g3⟩
        · exact ⟨.inl ⟨rfl, by rw [g1, s3], by rw [g2, s3], by rw [l2, l3]; exact t2, by rw [l2]; exact t1, hs⟩, by rw [l2]; exact s5, by rw [l3]; exact s6⟩
        · refine ⟨.inr (.inr ⟨rfl, g1, by rw [g3, s4], ?_⟩), by rw [l2]; exact s5, by rw [l3]; exact s6⟩
          rcases g2 with g2 | g2
          · exact .inl (by rw [g2, s3])
          · exact .inr ⟨by rw [g2, s3], by rw [l2, l3]; exact t2, by rw [l2]; exact t1, hs⟩
      · rw [if_neg hs]
        exact ⟨.inr (.inl ⟨rfl, s3, s4, hs⟩), s5, s6⟩

/-- a state of the law's: a patch that was begun, or done, and what it must make. -/
structure Ls where
  patch : List UInt8
  want : List UInt8
  done : Bool

def lsOf (j : Jn) : Ls := ⟨j.patch, j.next, j.done⟩

/-- a record of a patch that may be, on a device of so many bytes. -/
def recOk (L : Nat) : Rc → Prop
  | none => True
  | some (p, n) => ∃ s : ByteArray, p = s.data.toList ∧ pErr s = 0 ∧ p ≠ [] ∧ p.length ≤ 1048576 ∧ n.length = hNL s ∧ n.length ≤ 4000 ∧ hOL s ≤ L ∧ hNL s ≤ L

theorem recOk_wf {L : Nat} {r : Rc} (h : recOk L r) : wf r := by
  cases r with
  | none => trivial
  | some pn =>
    obtain ⟨p, n⟩ := pn
    obtain ⟨s, _, _, _, h1, _, h2, _⟩ := h
    exact ⟨by omega, by omega⟩

/-- the text goes with what the records tell. -/
def goesWith (text safe : List UInt8) (j : Jn) : Prop := (text = safe ∨ isBegun j = true) ∧ (j.done = true → j.next <+: text)

/-- what a device may be: all of its log is sure, or all but the last record. -/
inductive shape (L : Nat) (x : Dv) : List Ls → Prop
  | sure (recs : List Rc) (t : List UInt8) (hr : ∀ r ∈ recs, recOk L r) (ht : tk t = none) (hl : x.log = E recs ++ t) (hs : x.sure = x.log.length) (hg : goesWith x.text x.safe (fold recs)) : shape L x [lsOf (fold recs)]
  | loose (recs : List Rc) (r : Rc) (hr : ∀ q ∈ recs ++ [r], recOk L q) (hl : x.log = E (recs ++ [r])) (hs : x.sure = (E recs).length) (hts : x.text = x.safe) (hg : goesWith x.text x.safe (fold recs)) (hg2 : goesWith x.text x.safe (fold (recs ++ [r]))) : shape L x [lsOf (fold recs), lsOf (fold (recs ++ [r]))]

/-- the device and the law's states of it. -/
structure heldBy (L : Nat) (x : Dv) (S : List Ls) : Prop where
  text : x.text.length = L
  safe : x.safe.length = L
  some : ∃ l, shape L x l ∧ ∀ a ∈ l, a ∈ S

/-- the power comes back. -/
theorem power_held {L : Nat} {x : Dv} {S : List Ls} (h : heldBy L x S) (ks : List Int) : (∃ a ∈ S, (a.done = true → a.want <+: (pPower x ks).text) ∧ shape L (pPower x ks) [a]) ∧ (pPower x ks).text.length = L ∧ (pPower x ks).safe.length = L := by
  have hpk := pickB_bd ks 0 ((x.log.length : Int) - (x.sure : Int) + 1)
  have hlen : (pPower x ks).text.length = L ∧ (pPower x ks).safe.length = L := ⟨(mix_length _ _ _).trans h.text, (mix_length _ _ _).trans h.text⟩
  refine ⟨?_, hlen⟩
  have hboth : (pPower x ks).text = (pPower x ks).safe := rfl
  have hsame : x.text = x.safe → (pPower x ks).text = x.text := fun e => by
    show mix ks x.text x.safe = _
    rw [← e, mix_same]
  obtain ⟨l, hl, hS⟩ := h.some
  cases hl with
  | sure recs t hr ht hlog hs hg =>
    have h1 := hpk (by omega)
    have h2 : (pickB ks 0 ((x.log.length : Int) - (x.sure : Int) + 1)).toNat = 0 := by omega
    have p1 : (pPower x ks).log = x.log := by
      show x.log.take (x.sure + _) = _
      rw [h2, hs, Nat.add_zero, List.take_length]
    have p2 : (pPower x ks).sure = x.log.length := by
      show x.sure + _ = _
      rw [h2, hs, Nat.add_zero]
    have hd : (fold recs).done = true → (fold recs).next <+: (pPower x ks).text := fun hd => by
      have hb : isBegun (fold recs) = false := by unfold isBegun; rw [hd]; simp
      rw [hsame (by rcases hg.1 with h | h; exact h; rw [hb] at h; cases h)]
      exact hg.2 hd
    exact ⟨_, hS _ (by simp), hd, .sure recs t hr ht (by rw [p1, hlog]) (by rw [p2, p1]) ⟨.inl hboth, hd⟩⟩
  | loose recs r hr hlog hs hts hg hg2 =>
    have hE : E (recs ++ [r]) = E recs ++ enc r := E_snoc recs r
    have hll : x.log.length = (E recs).length + (enc r).length := by rw [hlog, hE, List.length_append]
    have h1 := hpk (by rw [hll, hs]; omega)
    obtain ⟨p, hp⟩ : ∃ p, (pickB ks 0 ((x.log.length : Int) - (x.sure : Int) + 1)).toNat = p := ⟨_, rfl⟩
    have hple : p ≤ (enc r).length := by rw [hll, hs] at *; omega
    have p1 : (pPower x ks).log = E recs ++ (enc r).take p := by
      show x.log.take (x.sure + _) = _
      rw [hp, hlog, hE, hs, List.take_length_add_append]
    have p2 : (pPower x ks).sure = (E recs).length + p := by
      show x.sure + _ = _
      rw [hp, hs]
    have ht := hsame hts
    by_cases he : p = (enc r).length
    · rw [he, List.take_length, ← hE] at p1
      refine ⟨_, hS _ (by simp : lsOf (fold (recs ++ [r])) ∈ _), fun hd => by rw [ht]; exact hg2.2 hd, .sure (recs ++ [r]) [] hr rfl (by rw [p1, List.append_nil]) (by rw [p2, p1, hE, he, List.length_append]) ⟨.inl hboth, fun hd => by rw [ht]; exact hg2.2 hd⟩⟩
    · exact ⟨_, hS _ (by simp : lsOf (fold recs) ∈ _), fun hd => by rw [ht]; exact hg.2 hd, .sure recs _ (fun q hq => hr q (by simp [hq])) (tk_part r (recOk_wf (hr r (by simp))) p (by omega)) p1 (by rw [p2, p1, List.length_append, List.length_take]; omega) ⟨.inl hboth, fun hd => by rw [ht]; exact hg.2 hd⟩⟩

/-- what stands surely. -/
def standsL (y : Dv) (want : List UInt8) (ks : List Int) : Prop := (y.life = 0 ∨ want <+: y.text) ∧ want <+: (pPower y ks).text

/-- the states behind a Do that goes ahead, or on. -/
def goesNew (P : List UInt8) (NS : ByteArray) (e : Int) (y : Dv) (ks : List Int) (s : Ls) (want : List UInt8) (begun : Bool) (a : Ls) : Prop :=
  (e = 0 ∧ standsL y want ks ∧ sumL want = NS ∧ a = ⟨P, want, true⟩) ∨ (e = 5 ∧ sumL want ≠ NS ∧ a = ⟨P, want, false⟩) ∨
  (e = 7 ∧ (a = ⟨P, want, false⟩ ∨ (sumL want = NS ∧ a = ⟨P, want, true⟩) ∨ (begun = false ∧ a = s)))

/-- the states behind a Do. -/
def fromNew (P : List UInt8) (NS : ByteArray) (want : List UInt8) (fit : Prop) (e : Int) (same : Prop) (y : Dv) (ks : List Int) (s a : Ls) : Prop :=
  (s.patch = P ∧ s.done = true ∧ (e = 7 ∨ (e = 0 ∧ same ∧ standsL y s.want ks)) ∧ a = s) ∨
  (s.patch = P ∧ s.done = false ∧ goesNew P NS e y ks s s.want true a) ∨
  (s.patch ≠ P ∧ ((s.patch ≠ [] ∧ s.done = false) ∨ ¬ fit) ∧ (e = 7 ∨ (e = 4 ∧ same)) ∧ a = s) ∨
  (s.patch ≠ P ∧ ¬ (s.patch ≠ [] ∧ s.done = false) ∧ fit ∧ goesNew P NS e y ks s want false a)

theorem doneAt_take (t : List UInt8) (OL NL : Nat) (j : Nat) : ∀ (st : List Pl.St), (∀ q ∈ st, Pl.ok OL NL q = true) → doneAt ⟨(t.take OL).toArray⟩ j st = doneAt ⟨t.toArray⟩ j st := by
  intro st
  unfold doneAt
  generalize (0 : UInt8) = b
  induction st generalizing b with
  | nil => intro _; rfl
  | cons q st ih =>
    intro hok
    have hq := hok q (by simp)
    rw [List.foldl_cons, List.foldl_cons]
    have e : (if q.t ≤ (j : Int) ∧ (j : Int) < q.t + q.n then stByte q ⟨(t.take OL).toArray⟩ (j - q.t.toNat) else b) = if q.t ≤ (j : Int) ∧ (j : Int) < q.t + q.n then stByte q ⟨t.toArray⟩ (j - q.t.toNat) else b := by
      split
      · rename_i hc
        unfold stByte
        split
        · rename_i hk
          have hf := Pl.ok_from hq hk
          have hi : q.f.toNat + (j - q.t.toNat) < OL := by
            simp only [Pl.ok, decide_eq_true_eq] at hq
            omega
          simp only [Array.getD_eq_getD_getElem?, List.getElem?_toArray, List.getElem?_take_of_lt hi]
        · rfl
      · rfl
    rw [e]
    exact ih _ (fun x hx => hok x (by simp [hx]))

theorem doneB_take (t : List UInt8) (OL NL : Nat) (st : List Pl.St) (hok : ∀ q ∈ st, Pl.ok OL NL q = true) : doneB st ⟨(t.take OL).toArray⟩ NL = doneB st ⟨t.toArray⟩ NL := by
  unfold doneB
  exact List.map_congr_left fun j _ => doneAt_take t OL NL j st hok

theorem enc_len' (p n : List UInt8) (hp : p.length ≤ 2147483647) (hn : n.length ≤ 2147483647) : (enc (some (p, n))).length ≤ 11 + p.length + n.length := by
  have h1 := Pl.num_len5 p.length hp
  have h2 := Pl.num_len5 n.length hn
  simp only [enc, List.length_cons, List.length_append, Dp.nb]
  omega

/-- a patch that may be. -/
structure fair (s : ByteArray) : Prop where
  err : pErr s = 0
  ne : s.data.toList ≠ []
  size : s.data.toList.length ≤ 1048576
  ol : hOL s ≤ 4000
  nl : hNL s ≤ 4000
  ok : ∀ q ∈ pSt s, Pl.ok (hOL s) (hNL s) q = true

/-- what is told of a device's log, all of it sure. -/
theorem shape_now {L : Nat} {x : Dv} {l : List Ls} (h : shape L x l) : ∃ R t, (∀ r ∈ R, recOk L r) ∧ x.log = E R ++ t ∧ jrn x.log = fold R ∧ lsOf (fold R) ∈ l ∧ goesWith x.text x.safe (fold R) := by
  cases h with
  | sure recs t hr ht hl hs hg => exact ⟨recs, t, hr, hl, by rw [hl]; exact jrn_E _ (fun r h => recOk_wf (hr r h)) _ ht, by simp, hg⟩
  | loose recs r hr hl hs hts hg hg2 => exact ⟨recs ++ [r], [], hr, by rw [hl, List.append_nil], by rw [hl]; exact jrn_all _ (fun r h => recOk_wf (hr r h)), by simp, hg2⟩

/-- what a log tells that is begun last: its record. -/
theorem fold_rec (L : Nat) : ∀ (R : List Rc), (∀ r ∈ R, recOk L r) → (fold R).patch ≠ [] → ∃ s : ByteArray, (fold R).patch = s.data.toList ∧ pErr s = 0 ∧ (fold R).next.length = hNL s ∧ (fold R).next.length ≤ 4000 ∧ hOL s ≤ L ∧ hNL s ≤ L := by
  intro R
  suffices h : ∀ (R : List Rc) (j : Jn), (j.patch ≠ [] → ∃ s : ByteArray, j.patch = s.data.toList ∧ pErr s = 0 ∧ j.next.length = hNL s ∧ j.next.length ≤ 4000 ∧ hOL s ≤ L ∧ hNL s ≤ L) → (∀ r ∈ R, recOk L r) → (R.foldl (fun j r => j.take r (enc r).length) j).patch ≠ [] → ∃ s : ByteArray, (R.foldl (fun j r => j.take r (enc r).length) j).patch = s.data.toList ∧ pErr s = 0 ∧ (R.foldl (fun j r => j.take r (enc r).length) j).next.length = hNL s ∧ (R.foldl (fun j r => j.take r (enc r).length) j).next.length ≤ 4000 ∧ hOL s ≤ L ∧ hNL s ≤ L from
    h R .zero (fun h => absurd rfl h)
  intro R
  induction R with
  | nil => intro j hj _ h; exact hj h
  | cons r R ih =>
    intro j hj hr h
    rw [List.foldl_cons] at h ⊢
    refine ih _ (fun hne => ?_) (fun q hq => hr q (by simp [hq])) h
    cases r with
    | none => exact hj hne
    | some pn =>
      obtain ⟨p, n⟩ := pn
      obtain ⟨s, h1, h2, _, _, h5, h6, h7, h8⟩ := hr (some (p, n)) (by simp)
      exact ⟨s, h1, h2, h5, h6, h7, h8⟩

theorem power_same {y : Dv} (h : y.text = y.safe) (ks : List Int) : (pPower y ks).text = y.text := by
  show mix ks y.text y.safe = _
  rw [← h, mix_same]

/-- what comes of a Do: the device's shape, and the states that go with it. -/
def outOf (L : Nat) (P : List UInt8) (NS : ByteArray) (want : List UInt8) (fit : Prop) (x : Dv) (ks : List Int) (b : Ls) (r : Int × Dv) : Prop :=
  r.2.text.length = L ∧ r.2.safe.length = L ∧ (r.1 = 7 → r.2.life = 0) ∧ r.2.log.length ≤ x.log.length + 1100000 ∧ ∃ l, shape L r.2 l ∧ l ≠ [] ∧ ∀ a ∈ l, fromNew P NS want fit r.1 (r.2.life = 0 ∨ r.2.text = x.text) r.2 ks b a

/-- a patch that goes on, out of a state of the law's in which it is begun, or begins. -/
theorem goOn_out {L : Nat} (R : List Rc) (hR : ∀ r ∈ R, recOk L r) (P n : List UInt8) (NS : ByteArray) (hj1 : (fold R).patch = P) (hj2 : (fold R).next = n) (hj3 : (fold R).done = false) (hne : P ≠ []) (hnL : n.length ≤ L) (x0 x : Dv) (hl : x.log = E R) (hs : x.sure = x.log.length) (hts : x.text = x.safe) (hL : x.text.length = L) (hx0 : x.log.length ≤ x0.log.length + 1090000) (want : List UInt8) (fit : Prop) (ks : List Int) (b : Ls) (e : Nat) (he : e ≤ n.length)
    (hgo : ∀ r (y : Dv) (a : Ls), ((r = 0 ∧ standsL y n ks ∧ sumL n = NS ∧ a = ⟨P, n, true⟩) ∨ (r = 5 ∧ sumL n ≠ NS ∧ a = ⟨P, n, false⟩) ∨ (r = 7 ∧ (a = ⟨P, n, false⟩ ∨ (sumL n = NS ∧ a = ⟨P, n, true⟩)))) → fromNew P NS want fit r (y.life = 0 ∨ y.text = x0.text) y ks b a) :
    outOf L P NS want fit x0 ks b (pGoOn x n n.length NS e) := by
  obtain ⟨h1, h2, h3⟩ := goOn_gen x n NS hts (by omega) e he
  generalize pGoOn x n n.length NS e = r at *
  obtain ⟨re, y⟩ := r
  dsimp only at *
  have hE2 : E (R ++ [none]) = E R ++ [100] := E_snoc R none
  have hf2 : lsOf (fold (R ++ [none])) = ⟨P, n, true⟩ := by
    rw [fold_snoc]
    show (⟨(fold R).patch, (fold R).next, true⟩ : Ls) = _
    rw [hj1, hj2]
  have hf1 : lsOf (fold R) = ⟨P, n, false⟩ := by
    show (⟨(fold R).patch, (fold R).next, (fold R).done⟩ : Ls) = _
    rw [hj1, hj2, hj3]
  have hR2 : ∀ r ∈ R ++ [none], recOk L r := fun r hr => by
    rcases List.mem_append.1 hr with h | h
    · exact hR r h
    · rw [List.mem_singleton.1 h]; trivial
  have hib : isBegun (fold R) = true := by unfold isBegun; rw [hj1, hj3, decide_eq_true hne]; rfl
  have hnx2 : (fold (R ++ [none])).next = n := by rw [fold_snoc]; exact hj2
  refine ⟨by rw [h2]; exact hL, by rw [h3]; exact hL, ?_, ?_, ?_⟩
  · intro h7
    rcases h1 with ⟨g, _⟩ | ⟨g, _⟩ | ⟨_, g, _⟩
    · rw [g] at h7; cases h7
    · rw [g] at h7; cases h7
    · exact g
  · rcases h1 with ⟨_, g, _⟩ | ⟨_, g, _⟩ | ⟨_, _, _, g | ⟨g, _⟩⟩ <;> (dsimp only; rw [g]; (try rw [List.length_append]); (try simp only [List.length_cons, List.length_nil]); omega)
  · rcases h1 with ⟨g0, g1, g2, g3, g4, g5⟩ | ⟨g0, g1, g2, g3⟩ | ⟨g0, g1, g2, g3⟩
    · refine ⟨_, .sure (R ++ [none]) [] hR2 rfl (by rw [g1, hl, hE2, List.append_nil]) (by rw [g2, g1]) ⟨.inl g3, fun _ => by rw [hnx2]; exact g4⟩, by simp, fun a ha => ?_⟩
      rw [List.mem_singleton.1 ha, hf2]
      exact hgo _ y _ (.inl ⟨g0, ⟨.inr g4, by rw [power_same g3]; exact g4⟩, g5, rfl⟩)
    · refine ⟨_, .sure R [] hR rfl (by rw [g1, hl, List.append_nil]) (by rw [g2, g1]; exact hs) ⟨.inr hib, fun h => by rw [hj3] at h; cases h⟩, by simp, fun a ha => ?_⟩
      rw [List.mem_singleton.1 ha, hf1]
      exact hgo _ y _ (.inr (.inl ⟨g0, g3, rfl⟩))
    · rcases g3 with g3 | ⟨g3, g4, g5, g6⟩
      · refine ⟨_, .sure R [] hR rfl (by rw [g3, hl, List.append_nil]) (by rw [g2, g3]; exact hs) ⟨.inr hib, fun h => by rw [hj3] at h; cases h⟩, by simp, fun a ha => ?_⟩
        rw [List.mem_singleton.1 ha, hf1]
        exact hgo _ y _ (.inr (.inr ⟨g0, .inl rfl⟩))
      · refine ⟨_, .loose R none hR2 (by rw [g3, hl, hE2]) (by rw [g2, hs, hl]) g4 ⟨.inl g4, fun h => by rw [hj3] at h; cases h⟩ ⟨.inl g4, fun _ => by rw [hnx2]; exact g5⟩, by simp, fun a ha => ?_⟩
        rcases List.mem_cons.1 ha with ha | ha
        · rw [ha, hf1]
          exact hgo _ y _ (.inr (.inr ⟨g0, .inl rfl⟩))
        · rw [List.mem_singleton.1 ha, hf2]
          exact hgo _ y _ (.inr (.inr ⟨g0, .inr ⟨g6, rfl⟩⟩))

theorem do_law {L : Nat} {x : Dv} {S : List Ls} (h : heldBy L x S) (h0 : x.life ≠ 0) (s : ByteArray) (hs : fair s) (E0 : Nat) (ks : List Int) :
    ∃ b ∈ S, (b.done = true → b.want <+: x.text) ∧ outOf L s.data.toList (hNS s) (doneB (pSt s) ⟨x.text.toArray⟩ (hNL s)) (hOL s ≤ L ∧ hNL s ≤ L ∧ sumL (x.text.take (hOL s)) = hOS s) x ks b (pDo x s.data.toList (hOL s) (hNL s) (hOS s) (hNS s) (pSt s) E0) := by
  obtain ⟨l, hl, hS⟩ := h.some
  obtain ⟨R, t, hR, hlog, hj, hmem, hg⟩ := shape_now hl
  refine ⟨lsOf (fold R), hS _ hmem, hg.2, ?_⟩
  have hxL := h.text
  have hxS := h.safe
  have hP := hs.ne
  have hPl := hs.size
  have hN4 := hs.nl
  have hok := hs.ok
  have herr := hs.err
  have hsme : ∀ s' : ByteArray, s'.data.toList = s.data.toList → s' = s := fun s' e => ByteArray.ext (Array.ext' e)
  clear h hl hS hmem
  obtain ⟨y, hy, y1, y2, y3, y4, y5⟩ := cut_spec x (E R) t hlog h0
  have hyl : y.log.length ≤ x.log.length := by rw [y1, hlog, List.length_append]; omega
  unfold pDo
  rw [if_neg h0, hj, fold_whole, hy]
  dsimp only
  -- the shapes that stay as they were
  have hstay : ∀ v : Dv, v.log = E R → v.sure = (E R).length → v.text = x.text → (v.safe = x.safe ∨ v.safe = x.text) → shape L v [lsOf (fold R)] := fun v v1 v2 v3 v4 => by
    refine .sure R [] hR rfl (by rw [v1, List.append_nil]) (by rw [v2, v1]) ⟨?_, fun hd => by rw [v3]; exact hg.2 hd⟩
    rcases v4 with v4 | v4
    · rw [v3, v4]; exact hg.1
    · exact .inl (by rw [v3, v4])
  have hysh := hstay y y1 y2 y3 (.inl y4)
  have hb1 : (lsOf (fold R)).patch = (fold R).patch := rfl
  have hb2 : (lsOf (fold R)).want = (fold R).next := rfl
  have hb3 : (lsOf (fold R)).done = (fold R).done := rfl
  by_cases c1 : (fold R).patch = s.data.toList ∧ (fold R).done = true
  · rw [if_pos c1]
    refine ⟨by rw [y3]; exact hxL, by rw [y4]; exact hxS, (fun h => by cases h), by show y.log.length ≤ _; omega, _, hysh, by simp, fun a ha => ?_⟩
    rw [List.mem_singleton.1 ha]
    have hts : x.text = x.safe := by
      rcases hg.1 with h | h
      · exact h
      · unfold isBegun at h; rw [c1.2] at h; simp at h
    have hyt : y.text = y.safe := by rw [y3, y4]; exact hts
    exact .inl ⟨c1.1, c1.2, .inr ⟨rfl, .inr y3, ⟨.inr (by rw [y3]; exact hg.2 c1.2), by rw [power_same hyt, y3]; exact hg.2 c1.2⟩⟩, rfl⟩
  rw [if_neg c1]
  by_cases c2 : (fold R).patch ≠ s.data.toList ∧ isBegun (fold R) = true
  · rw [if_pos c2]
    refine ⟨by rw [y3]; exact hxL, by rw [y4]; exact hxS, (fun h => by cases h), by show y.log.length ≤ _; omega, _, hysh, by simp, fun a ha => ?_⟩
    rw [List.mem_singleton.1 ha]
    have hbg := c2.2
    unfold isBegun at hbg
    simp only [Bool.and_eq_true, decide_eq_true_eq, Bool.not_eq_true'] at hbg
    exact .inr (.inr (.inl ⟨c2.1, .inl hbg, .inr ⟨rfl, .inr y3⟩, rfl⟩))
  rw [if_neg c2]
  -- of this patch, if it is begun
  have hown : (fold R).patch = s.data.toList → (fold R).done = false ∧ isBegun (fold R) = true ∧ (fold R).next.length = hNL s ∧ hOL s ≤ L ∧ hNL s ≤ L := fun e => by
    have hd : (fold R).done = false := by
      cases hd : (fold R).done with
      | false => rfl
      | true => exact absurd ⟨e, hd⟩ c1
    obtain ⟨s', e1, _, e3, _, e5, e6⟩ := fold_rec L R hR (by rw [e]; exact hP)
    have := hsme s' (e1.symm.trans e)
    subst this
    exact ⟨hd, by unfold isBegun; rw [e, hd, decide_eq_true hP]; rfl, e3, e5, e6⟩
  have hoth : (fold R).patch ≠ s.data.toList → isBegun (fold R) = false ∧ ¬ ((fold R).patch ≠ [] ∧ (fold R).done = false) := fun e => by
    have hb : isBegun (fold R) = false := by
      cases hb : isBegun (fold R) with
      | false => rfl
      | true => exact absurd ⟨e, hb⟩ c2
    refine ⟨hb, fun hh => ?_⟩
    unfold isBegun at hb
    rw [hh.2, decide_eq_true hh.1] at hb
    cases hb
  -- an answer by which nothing is done
  have hnone : ∀ (v : Dv), v.log = E R → v.sure = (E R).length → v.text = x.text → (v.safe = x.safe ∨ v.safe = x.text) → v.life = 0 → outOf L s.data.toList (hNS s) (doneB (pSt s) ⟨x.text.toArray⟩ (hNL s)) (hOL s ≤ L ∧ hNL s ≤ L ∧ sumL (x.text.take (hOL s)) = hOS s) x ks (lsOf (fold R)) (7, v) := fun v v1 v2 v3 v4 v5 => by
    refine ⟨by rw [v3]; exact hxL, by rcases v4 with v4 | v4 <;> (rw [v4]; first | exact hxS | exact hxL), fun _ => v5, by rw [v1, ← y1]; omega, _, hstay v v1 v2 v3 v4, by simp, fun a ha => ?_⟩
    rw [List.mem_singleton.1 ha]
    by_cases e : (fold R).patch = s.data.toList
    · obtain ⟨o1, o2, _⟩ := hown e
      refine .inr (.inl ⟨e, o1, .inr (.inr ⟨rfl, .inl ?_⟩)⟩)
      show (⟨(fold R).patch, (fold R).next, (fold R).done⟩ : Ls) = ⟨_, (fold R).next, false⟩
      rw [e, o1]
    · obtain ⟨o1, o2⟩ := hoth e
      by_cases hf : hOL s ≤ L ∧ hNL s ≤ L ∧ sumL (x.text.take (hOL s)) = hOS s
      · exact .inr (.inr (.inr ⟨e, o2, hf, .inr (.inr ⟨rfl, .inr (.inr ⟨rfl, rfl⟩)⟩)⟩))
      · exact .inr (.inr (.inl ⟨e, .inr hf, .inl rfl, rfl⟩))
  have hold : ∀ (v : Dv), v.log = E R → v.sure = (E R).length → v.text = x.text → (v.safe = x.safe ∨ v.safe = x.text) → (fold R).patch ≠ s.data.toList → ¬ (hOL s ≤ L ∧ hNL s ≤ L ∧ sumL (x.text.take (hOL s)) = hOS s) → outOf L s.data.toList (hNS s) (doneB (pSt s) ⟨x.text.toArray⟩ (hNL s)) (hOL s ≤ L ∧ hNL s ≤ L ∧ sumL (x.text.take (hOL s)) = hOS s) x ks (lsOf (fold R)) (4, v) := fun v v1 v2 v3 v4 e hf => by
    refine ⟨by rw [v3]; exact hxL, by rcases v4 with v4 | v4 <;> (rw [v4]; first | exact hxS | exact hxL), (fun h => by cases h), by rw [v1, ← y1]; omega, _, hstay v v1 v2 v3 v4, by simp, fun a ha => ?_⟩
    rw [List.mem_singleton.1 ha]
    exact .inr (.inr (.inl ⟨e, .inr hf, .inr ⟨rfl, .inr v3⟩, rfl⟩))
  by_cases c3 : y.text.length < max (hOL s) (hNL s)
  · rw [if_pos c3]
    rw [y3, hxL] at c3
    by_cases e : (fold R).patch = s.data.toList
    · obtain ⟨_, _, _, o4, o5⟩ := hown e
      omega
    · exact hold y y1 y2 y3 (.inl y4) e (by omega)
  rw [if_neg c3]
  rw [y3, hxL] at c3
  rcases sync_spec y with ⟨y0, hsy⟩ | ⟨z, hsy, z1, z2, z3, z4, z5⟩
  · rw [hsy]
    exact hnone y y1 y2 y3 (.inl y4) y0
  rw [hsy]
  dsimp only
  have zt : z.text = x.text := by rw [z1, y3]
  have zs : z.safe = x.text := by rw [z2, y3]
  have zl : z.log = E R := by rw [z3, y1]
  have zu : z.sure = (E R).length := by rw [z4, y2]
  unfold pDo2
  by_cases e : (fold R).patch = s.data.toList
  · obtain ⟨o1, o2, o3, o4, o5⟩ := hown e
    rw [if_pos o2, ← o3]
    refine goOn_out R hR s.data.toList (fold R).next (hNS s) e rfl o1 hP (by omega) x z zl (by rw [zu, zl]) (by rw [zt, zs]) (by rw [zt]; exact hxL) (by rw [zl, ← y1]; omega) _ _ ks _ _ (by omega) (fun r v a ha => ?_)
    refine .inr (.inl ⟨e, o1, ?_⟩)
    rcases ha with ha | ha | ⟨ha, ha2 | ha2⟩
    · exact .inl ha
    · exact .inr (.inl ha)
    · exact .inr (.inr ⟨ha, .inl ha2⟩)
    · exact .inr (.inr ⟨ha, .inr (.inl ha2)⟩)
  · obtain ⟨o1, o2⟩ := hoth e
    rw [if_neg (by rw [o1]; decide)]
    have hOLL : hOL s ≤ L := by omega
    have hNL' : hNL s ≤ L := by omega
    have hmk : doneB (pSt s) ⟨(z.text.take (hOL s)).toArray⟩ (hNL s) = doneB (pSt s) ⟨x.text.toArray⟩ (hNL s) := by rw [zt]; exact doneB_take _ _ _ _ hok
    rw [hmk]
    have hdl : (doneB (pSt s) ⟨x.text.toArray⟩ (hNL s)).length = hNL s := by simp [doneB]
    by_cases w0 : z.life = 0
    · have hb : pBegin z s.data.toList (hOL s) (hOS s) (pSt s) (hNL s) = (7, z) := by unfold pBegin pRead; rw [if_pos (.inl w0)]
      rw [hb, if_neg (show ¬ (7 : Int) = 0 by decide)]
      exact hnone z zl zu zt (.inr zs) w0
    have hrd : pRead z (hOL s) = some (x.text.take (hOL s)) := by
      unfold pRead
      rw [if_neg (fun h => by rcases h with h | h; exact w0 h; rw [zt, hxL] at h; omega), zt]
    by_cases hsum : sumL (x.text.take (hOL s)) = hOS s
    · have hfit : hOL s ≤ L ∧ hNL s ≤ L ∧ sumL (x.text.take (hOL s)) = hOS s := ⟨hOLL, hNL', hsum⟩
      have hb : pBegin z s.data.toList (hOL s) (hOS s) (pSt s) (hNL s) = match pLay z (enc (some (s.data.toList, doneB (pSt s) ⟨x.text.toArray⟩ (hNL s)))) with
          | (true, y) => (0, y)
          | (false, y) => (7, y) := by
        unfold pBegin
        rw [hrd]
        dsimp only
        rw [if_pos hsum, ← zt, hmk, zt]
        generalize pLay z (enc (some (s.data.toList, doneB (pSt s) ⟨x.text.toArray⟩ (hNL s)))) = q
        obtain ⟨b, u⟩ := q
        cases b <;> rfl
      have hel := enc_len' s.data.toList (doneB (pSt s) ⟨x.text.toArray⟩ (hNL s)) (by omega) (by omega)
      have hrok : recOk L (some (s.data.toList, doneB (pSt s) ⟨x.text.toArray⟩ (hNL s))) := ⟨s, rfl, herr, hP, hPl, hdl, by omega, hOLL, hNL'⟩
      generalize doneB (pSt s) ⟨x.text.toArray⟩ (hNL s) = n at *
      have hR2 : ∀ r ∈ R ++ [some (s.data.toList, n)], recOk L r := fun r hr => by
        rcases List.mem_append.1 hr with h | h
        · exact hR r h
        · rw [List.mem_singleton.1 h]; exact hrok
      have hE : Dp.E (R ++ [some (s.data.toList, n)]) = Dp.E R ++ enc (some (s.data.toList, n)) := E_snoc R _
      have hf : fold (R ++ [some (s.data.toList, n)]) = ⟨s.data.toList, n, false, (fold R).whole + (enc (some (s.data.toList, n))).length⟩ := by rw [fold_snoc]; rfl
      obtain ⟨l1, l2, l3, l4⟩ := lay_spec z (enc (some (s.data.toList, n)))
      generalize pLay z (enc (some (s.data.toList, n))) = q at *
      obtain ⟨b, u⟩ := q
      dsimp only at l1 l2 l3 l4 hb
      rcases l1 with ⟨rfl, g1, g2⟩ | ⟨rfl, g1, g2, g3⟩
      · rw [hb, if_pos rfl, ← hdl]
        have hul : u.log = Dp.E (R ++ [some (s.data.toList, n)]) := by rw [g1, zl, hE]
        refine goOn_out (R ++ [some (s.data.toList, n)]) hR2 s.data.toList n (hNS s) (by rw [hf]) (by rw [hf]) (by rw [hf]) hP (by omega) x u hul (by rw [g2, g1]) (by rw [l2, l3, zt, zs]) (by rw [l2, zt]; exact hxL) (by rw [g1, List.length_append, zl, ← y1]; omega) _ _ ks _ _ (by omega) (fun r v a ha => ?_)
        refine .inr (.inr (.inr ⟨e, o2, by rw [hdl] at *; exact hfit, ?_⟩))
        rcases ha with ha | ha | ⟨ha, ha2 | ha2⟩
        · exact .inl ha
        · exact .inr (.inl ha)
        · exact .inr (.inr ⟨ha, .inl ha2⟩)
        · exact .inr (.inr ⟨ha, .inr (.inl ha2)⟩)
      · rw [hb, if_neg (show ¬ (7 : Int) = 0 by decide)]
        rcases g2 with g2 | g2
        · exact hnone u (by rw [g2, zl]) (by rw [g3, zu]) (by rw [l2, zt]) (.inr (by rw [l3, zs])) g1
        · refine ⟨by rw [l2, zt]; exact hxL, by rw [l3, zs]; exact hxL, fun _ => g1, by show u.log.length ≤ _; rw [g2, List.length_append, zl, ← y1]; omega, _, .loose R (some (s.data.toList, n)) hR2 (by rw [g2, zl, hE]) (by rw [g3, zu]) (by rw [l2, l3, zt, zs]) ⟨.inl (by rw [l2, l3, zt, zs]), fun hd => by rw [l2, zt]; exact hg.2 hd⟩ ⟨.inl (by rw [l2, l3, zt, zs]), fun hd => by rw [hf] at hd; cases hd⟩, by simp, fun a ha => ?_⟩
          refine .inr (.inr (.inr ⟨e, o2, hfit, .inr (.inr ⟨rfl, ?_⟩)⟩))
          rcases List.mem_cons.1 ha with ha | ha
          · exact .inr (.inr ⟨rfl, ha⟩)
          · left
            rw [List.mem_singleton.1 ha, hf]
            rfl
    · have hb : pBegin z s.data.toList (hOL s) (hOS s) (pSt s) (hNL s) = (4, z) := by
        unfold pBegin
        rw [hrd]
        dsimp only
        rw [if_neg hsum]
      rw [hb, if_neg (show ¬ (4 : Int) = 0 by decide)]
      exact hold z zl zu zt (.inr zs) e (fun h => hsum h.2.2)

end Go.Proofs.Ytjjmcnippjpclaa
