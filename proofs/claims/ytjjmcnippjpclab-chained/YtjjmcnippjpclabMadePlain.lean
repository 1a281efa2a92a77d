/-
  The text of a made patch: how long it is, and that it is read as it was written.
-/
import Derived.Test.YtjjmcnippjpclabWritePlan
import Derived.Test.YtjjmcnippjpclabReadP
import Derived.Test.YtjjmcnippjpclabMakings
namespace Go.Proofs.Ytjjmcnippjpclab

open Go.RowKit

theorem nb_len2 (x : Nat) (h : x < 16384) : (nb x).length ≤ 2 := by
  have h1 := Pl.hi_len 1 (x / 128) (by omega)
  have h2 := Pl.num_len x
  unfold nb
  omega

theorem stepB_cost (n : ByteArray) (s : _root_.Pl.Sp) (ht : s.t + s.n ≤ n.size) (hn : n.size ≤ 4000) (hf : ∀ f, s.src = some f → f ≤ 4000) : (stepB (s.st n)).length ≤ _root_.Pl.cost s := by
  have h1 := nb_len2 s.t (by omega)
  have h2 := nb_len2 s.n (by omega)
  unfold stepB
  rw [_root_.Pl.st_t, _root_.Pl.st_n]
  cases hs : s.src with
  | none =>
    have e1 : (s.st n).k = 1 := by unfold _root_.Pl.Sp.st; rw [hs]; rfl
    have e2 : (s.st n).d = n.extract s.t (s.t + s.n) := by unfold _root_.Pl.Sp.st; rw [hs]; rfl
    have hc : _root_.Pl.cost s = 5 + s.n := by simp [_root_.Pl.cost, hs]
    rw [e1, e2, hc, if_neg (by decide)]
    simp only [List.length_append, List.length_cons, List.length_nil, Int.toNat_natCast, data_len, ByteArray.size_extract]
    omega
  | some f =>
    have e1 : (s.st n).k = 3 := by unfold _root_.Pl.Sp.st; rw [hs]; rfl
    have e2 : (s.st n).f = (f : Int) := by unfold _root_.Pl.Sp.st; rw [hs]; rfl
    have hc : _root_.Pl.cost s = 7 := by simp [_root_.Pl.cost, hs]
    have h3 := nb_len2 f (by have := hf f hs; omega)
    rw [e1, e2, hc, if_pos rfl]
    simp only [List.length_append, List.length_cons, List.length_nil, Int.toNat_natCast]
    omega

theorem steps_cost (n : ByteArray) (hn : n.size ≤ 4000) : ∀ (M : List _root_.Pl.Sp), (∀ s ∈ M, s.t + s.n ≤ n.size ∧ ∀ f, s.src = some f → f ≤ 4000) → ((M.map (_root_.Pl.Sp.st n)).flatMap stepB).length ≤ _root_.Pl.costs M
  | [], _ => by simp [_root_.Pl.costs]
  | s :: r, h => by
    have ih := steps_cost n hn r (fun x hx => h x (by simp [hx]))
    have h1 := stepB_cost n s (h s (by simp)).1 hn (h s (by simp)).2
    simp only [List.map_cons, List.flatMap_cons, List.length_append, _root_.Pl.costs, List.sum_cons] at ih ⊢
    omega

theorem costs_perm {a b : List _root_.Pl.Sp} (h : a.Perm b) : _root_.Pl.costs a = _root_.Pl.costs b := by
  unfold _root_.Pl.costs
  exact (h.map _root_.Pl.cost).sum_nat

theorem planB_len (ol nl : Nat) (os ns : ByteArray) (st : List Pl.St) (h1 : ol ≤ 4000) (h2 : nl ≤ 4000) (h3 : os.size = 4) (h4 : ns.size = 4) (h5 : st.length ≤ 2000) : (planB ol nl os ns st).length ≤ 18 + (st.flatMap stepB).length := by
  have a1 := nb_len2 ol (by omega)
  have a2 := nb_len2 nl (by omega)
  have a3 := nb_len2 st.length (by omega)
  unfold planB headB
  simp only [List.length_append, List.length_cons, List.length_nil, data_len]
  omega

/-- few steps. -/
theorem few_steps (old next : ByteArray) : ∀ (l : List _root_.Pl.Sp), _root_.Pl.apartA l → (∀ s ∈ l, _root_.Pl.fits old next s) → 6 * l.length ≤ _root_.Pl.sizes l + 6 ∧ ((∀ x, l.head? = some x → x.src ≠ none) → 6 * l.length ≤ _root_.Pl.sizes l)
  | [], _, _ => by simp [_root_.Pl.sizes]
  | a :: r, h, k => by
    have hr : _root_.Pl.apartA r := by
      cases r with
      | nil => trivial
      | cons b r => exact h.2
    have ih := few_steps old next r hr (fun s hs => k s (by simp [hs]))
    simp only [_root_.Pl.sizes, List.map_cons, List.sum_cons, List.length_cons] at ih ⊢
    by_cases ha : a.src = none
    · have : ∀ x, r.head? = some x → x.src ≠ none := by
        intro x hx hn
        cases r with
        | nil => simp at hx
        | cons b r => simp only [List.head?_cons, Option.some.injEq] at hx; subst hx; exact h.1 ⟨ha, hn⟩
      have := ih.2 this
      exact ⟨by omega, fun hh => absurd ha (hh a rfl)⟩
    · obtain ⟨f, hf⟩ := Option.ne_none_iff_exists'.1 ha
      have := (k a (by simp) f hf).1
      exact ⟨by omega, fun _ => by omega⟩

theorem good_few {old next : ByteArray} {l : List _root_.Pl.Sp} (h : _root_.Pl.Good old next l) (hn : next.size ≤ 4000) : l.length ≤ 2000 := by
  have h1 := (few_steps old next l h.apart h.fit).1
  have h2 := _root_.Pl.tiles_sizes l 0 next.size h.tile
  omega

/-- the bytes of a made patch. -/
def madeB (o n os ns : ByteArray) (M : List _root_.Pl.Sp) : List UInt8 := planB o.size n.size os ns (M.map (_root_.Pl.Sp.st n))

theorem made_len {o n os ns : ByteArray} {l M : List _root_.Pl.Sp} (h : _root_.Pl.Good o n l) (hM : M.Perm l) (ho : o.size ≤ 4000) (hn : n.size ≤ 4000) (hos : os.size = 4) (hns : ns.size = 4) : (madeB o n os ns M).length ≤ 23 + n.size ∧ (madeB o n os ns M).length ≤ 18 + _root_.Pl.costs l := by
  have hf := good_few h hn
  have h1 := planB_len o.size n.size os ns (M.map (_root_.Pl.Sp.st n)) ho hn hos hns (by rw [List.length_map, hM.length_eq]; exact hf)
  have h2 := steps_cost n hn M (fun s hs => by
    have hm := hM.subset hs
    refine ⟨(_root_.Pl.tiles_mem l 0 n.size h.tile s hm).2.2, fun f hsf => ?_⟩
    have := (h.fit s hm f hsf).2.1
    omega)
  have h3 := (_root_.Pl.costs_le o n l h.apart h.fit).1
  have h4 := _root_.Pl.tiles_sizes l 0 n.size h.tile
  rw [costs_perm hM] at h2
  unfold madeB
  omega

theorem same_costs {l : List _root_.Pl.Sp} (h1 : l.length ≤ 1) (h2 : ∀ s ∈ l, s.src = none → s.n < 12) : _root_.Pl.costs l ≤ 16 := by
  match l, h1 with
  | [], _ => simp [_root_.Pl.costs]
  | [s], _ =>
    simp only [_root_.Pl.costs, List.map_cons, List.map_nil, List.sum_cons, List.sum_nil, _root_.Pl.cost]
    split
    · next hs => have := h2 s (by simp) hs; omega
    · omega

/-! ### reading what was written -/

/-- from a place on these bytes stand. -/
def atB (s : ByteArray) (a : Nat) (r : List UInt8) : Prop := a ≤ s.size ∧ s.data.toList.drop a = r

theorem atB_len {s : ByteArray} {a : Nat} {r : List UInt8} (h : atB s a r) : a + r.length = s.size := by
  have h1 := congrArg List.length h.2
  rw [List.length_drop, data_len] at h1
  have := h.1
  omega

theorem atB_next {s : ByteArray} {a : Nat} {c r : List UInt8} (h : atB s a (c ++ r)) : atB s (a + c.length) r := by
  have hl := atB_len h
  rw [List.length_append] at hl
  refine ⟨by omega, ?_⟩
  rw [← List.drop_drop, h.2, List.drop_left']
  rfl

theorem num_at {s : ByteArray} {a x : Nat} {r : List UInt8} (h : atB s a (nb x ++ r)) (hx : x ≤ 2147483647) : numV s (some a) = x ∧ numQ s (some a) = some (a + (nb x).length) := by
  have e := Pl.rd_num x hx r
  have e2 : Pl.rd (s.data.toList.drop a) = some (x, (nb x).length) := by rw [h.2]; exact e
  constructor
  · simp only [numV, e2]
  · simp only [numQ, e2]

theorem piece_at {s : ByteArray} {a : Nat} {c r : List UInt8} (h : atB s a (c ++ r)) : pieceS s (some a) c.length = ⟨c.toArray⟩ ∧ pieceQ s (some a) c.length = some (a + c.length) := by
  have hl := atB_len h
  rw [List.length_append] at hl
  have hfit : a + c.length ≤ s.size := by omega
  constructor
  · simp only [pieceS, if_pos hfit]
    apply ByteArray.ext
    apply Array.ext'
    rw [ByteArray.data_extract, Array.toList_extract, List.extract_eq_take_drop, Nat.add_sub_cancel_left, h.2, List.take_left']
    rfl
  · simp only [pieceQ, if_pos hfit]

theorem byte_at {s : ByteArray} {a : Nat} {b : UInt8} {r : List UInt8} (h : atB s a ([b] ++ r)) : byteV s (some a) = b.toNat ∧ pieceQ s (some a) 1 = some (a + 1) := by
  have hl := atB_len h
  have h2 := (piece_at h).2
  refine ⟨?_, h2⟩
  have hlt : a < s.size := by simp at hl; omega
  have hb : s.data.toList[a]? = some b := by
    have := congrArg List.head? h.2
    rw [List.head?_drop] at this
    exact this
  simp only [byteV]
  rw [List.getD_eq_getElem?_getD, hb]; rfl

theorem nat_of {x : Int} (h : 0 ≤ x) : ((x.toNat : Nat) : Int) = x := Int.toNat_of_nonneg h

theorem empty_of {d : ByteArray} (h : d.size = 0) : d = ⟨#[]⟩ := by
  apply ByteArray.ext
  exact Array.eq_empty_of_size_eq_zero h

theorem st_eq {x : Pl.St} {k t n : Int} {d : ByteArray} {f : Int} (h1 : k = x.k) (h2 : t = x.t) (h3 : n = x.n) (h4 : d = x.d) (h5 : f = x.f) : mkSt k t n d f = x := by
  subst h1; subst h2; subst h3; subst h4; subst h5; rfl

/-- a step is read as it was written. -/
theorem step_at {s : ByteArray} {a : Nat} {x : Pl.St} {r : List UInt8} {ol nl : Int} (ho : 0 ≤ ol ∧ ol ≤ 4000) (hn : 0 ≤ nl ∧ nl ≤ 4000) (hx : Pl.ok ol nl x = true) (h : atB s a (stepB x ++ r)) :
    stepV s (some a) = x ∧ stepQ s (some a) = some (a + (stepB x).length) := by
  obtain ⟨z0, z1, z2, z3, z4⟩ := ok_sizes ho hn hx
  simp only [Pl.ok, decide_eq_true_eq] at hx
  have h0 : atB s a ([UInt8.ofNat x.k.toNat] ++ (nb x.t.toNat ++ (nb x.n.toNat ++ ((if x.k = 3 then nb x.f.toNat else x.d.data.toList) ++ r)))) := by
    unfold stepB at h; simpa [List.append_assoc] using h
  obtain ⟨b1, b2⟩ := byte_at h0
  have h1 := atB_next h0
  obtain ⟨n1, n2⟩ := num_at h1 (by omega)
  have h2 := atB_next h1
  obtain ⟨m1, m2⟩ := num_at h2 (by omega)
  have h3 := atB_next h2
  simp only [List.length_cons, List.length_nil, Nat.zero_add] at h1 h2 h3 n1 n2 m1 m2
  rcases z0 with hk | hk
  · have hkb : byteV s (some a) = 1 := by rw [b1, hk]; rfl
    rw [if_neg (by rw [hk]; decide)] at h3
    obtain ⟨p1, p2⟩ := piece_at h3
    have hd : x.d.data.toList.length = x.n.toNat := by rw [data_len]; omega
    rw [hd] at p1 p2
    have hf : x.f = 0 := by omega
    constructor
    · unfold stepV
      simp only [b2, n2, m2, hkb, n1, m1]
      rw [if_neg (by decide), p1]
      exact st_eq hk.symm (nat_of (by omega)) (nat_of (by omega)) (by apply ByteArray.ext; exact Array.toArray_toList) hf.symm
    · unfold stepQ
      simp only [b2, n2, m2, hkb, m1]
      rw [if_neg (by decide), p2]
      unfold stepB
      rw [if_neg (by rw [hk]; decide)]
      simp only [List.length_append, List.length_cons, List.length_nil, hd]
      congr 1; omega
  · have hkb : byteV s (some a) = 3 := by rw [b1, hk]; rfl
    rw [if_pos hk] at h3
    obtain ⟨p1, p2⟩ := num_at h3 (by omega)
    have hd : x.d = ⟨#[]⟩ := empty_of (by omega)
    constructor
    · unfold stepV
      simp only [b2, n2, m2, hkb, n1, m1]
      rw [if_pos trivial, p1]
      exact st_eq hk.symm (nat_of (by omega)) (nat_of (by omega)) hd.symm (nat_of (by omega))
    · unfold stepQ
      simp only [b2, n2, m2, hkb]
      rw [if_pos trivial, p2]
      unfold stepB
      rw [if_pos hk]
      simp only [List.length_append, List.length_cons, List.length_nil]
      congr 1; omega

theorem steps_at {s : ByteArray} {ol nl : Int} (ho : 0 ≤ ol ∧ ol ≤ 4000) (hn : 0 ≤ nl ∧ nl ≤ 4000) : ∀ (st : List Pl.St) (a : Nat) (r : List UInt8), (∀ x ∈ st, Pl.ok ol nl x = true) → atB s a (st.flatMap stepB ++ r) →
    stepsV s st.length (some a) = st ∧ stepsQ s st.length (some a) = some (a + (st.flatMap stepB).length)
  | [], a, r, _, _ => ⟨rfl, rfl⟩
  | x :: st, a, r, hok, h => by
    rw [List.flatMap_cons, List.append_assoc] at h
    obtain ⟨h1, h2⟩ := step_at ho hn (hok x (by simp)) h
    obtain ⟨h3, h4⟩ := steps_at ho hn st _ r (fun y hy => hok y (by simp [hy])) (atB_next h)
    rw [List.length_cons, stepsV, stepsQ, h1, h2, h3, h4, List.flatMap_cons, List.length_append]
    exact ⟨rfl, by congr 1; omega⟩

/-- what is read of the text of a plan that may be is the plan. -/
theorem read_back {ol nl : Nat} {os ns : ByteArray} {st : List Pl.St} (hf : Pl.full ol nl os ns st = true) (hord : Pl.ord [] st = true) (s : ByteArray) (hs : s = ⟨(planB ol nl os ns st).toArray⟩) :
    pErr s = 0 ∧ hOL s = ol ∧ hNL s = nl ∧ hOS s = os ∧ hNS s = ns ∧ pSt s = st ∧ hN s = st.length := by
  simp only [Pl.full, Pl.head, Bool.and_eq_true, decide_eq_true_eq] at hf
  obtain ⟨⟨⟨⟨⟨h1, h2⟩, h3⟩, h4⟩, h5⟩, hform⟩ := hf
  have hok := Pl.form_ok st [] hform
  have hd : s.data.toList = planB ol nl os ns st := by rw [hs]
  have a0 : atB s 0 ([84, 76, 82, 73] ++ (nb ol ++ (os.data.toList ++ (nb nl ++ (ns.data.toList ++ (nb st.length ++ (st.flatMap stepB ++ []))))))) := by
    refine ⟨Nat.zero_le _, ?_⟩
    rw [List.drop_zero, hd]
    unfold planB headB
    simp only [List.append_assoc, List.append_nil]
  obtain ⟨p1, q1⟩ := piece_at a0
  have a1 := atB_next a0
  obtain ⟨n2, q2⟩ := num_at a1 (by omega)
  have a2 := atB_next a1
  obtain ⟨p3, q3⟩ := piece_at a2
  have a3 := atB_next a2
  obtain ⟨n4, q4⟩ := num_at a3 (by omega)
  have a4 := atB_next a3
  obtain ⟨p5, q5⟩ := piece_at a4
  have a5 := atB_next a4
  obtain ⟨n6, q6⟩ := num_at a5 (by omega)
  have a6 := atB_next a5
  obtain ⟨v7, q7⟩ := steps_at (by omega) (by omega) st _ [] hok a6
  have lo : os.data.toList.length = 4 := by rw [data_len]; exact h3
  have ln : ns.data.toList.length = 4 := by rw [data_len]; exact h4
  rw [lo] at p3 q3
  rw [ln] at p5 q5
  have e1 : hq1 s = some (0 + [84, 76, 82, 73].length) := q1
  have e2 : hq2 s = some (0 + [84, 76, 82, 73].length + (nb ol).length) := by unfold hq2; rw [e1]; exact q2
  have e3 : hq3 s = some (0 + [84, 76, 82, 73].length + (nb ol).length + 4) := by unfold hq3; rw [e2]; exact q3
  rw [lo] at q4 n4 p5 q5 n6 q6 v7 q7 a6
  rw [ln] at n6 q6 v7 q7 a6
  have e4 : hq4 s = some (0 + [84, 76, 82, 73].length + (nb ol).length + 4 + (nb nl).length) := by unfold hq4; rw [e3]; exact q4
  have e5 : hq5 s = some (0 + [84, 76, 82, 73].length + (nb ol).length + 4 + (nb nl).length + 4) := by unfold hq5; rw [e4]; exact q5
  have e6 : hq6 s = some (0 + [84, 76, 82, 73].length + (nb ol).length + 4 + (nb nl).length + 4 + (nb st.length).length) := by unfold hq6; rw [e5]; exact q6
  have vOL : hOL s = ol := by unfold hOL; rw [e1]; exact n2
  have vNL : hNL s = nl := by unfold hNL; rw [e3]; exact n4
  have vN : hN s = st.length := by unfold hN; rw [e5]; exact n6
  have vOS : hOS s = os := by unfold hOS; rw [e2]; exact p3.trans (ByteArray.ext Array.toArray_toList)
  have vNS : hNS s = ns := by unfold hNS; rw [e4]; exact p5.trans (ByteArray.ext Array.toArray_toList)
  have vSt : pSt s = st := by unfold pSt; rw [vN, e6]; exact v7
  have hend := atB_len a6
  rw [List.append_nil] at hend
  have vQ : stepsQ s (hN s) (hq6 s) = some s.size := by rw [vN, e6]; exact q7.trans (by rw [hend])
  have vOk : pOk s = true := by
    unfold pOk hOk
    rw [vQ, vN, e6]
    have : (pieceS s (some 0) 4).toList = [84, 76, 82, 73] := by
      have p1' : pieceS s (some 0) 4 = ⟨#[84, 76, 82, 73]⟩ := p1
      rw [p1', ByteArray.toList_eq]
    rw [this]
    simp [h5]
  refine ⟨?_, vOL, vNL, vOS, vNS, vSt, vN⟩
  unfold pErr
  rw [vOk, vOL, vNL, vOS, vNS, vSt, hord]
  have : Pl.full ol nl os ns st = true := by
    simp only [Pl.full, Pl.head, Bool.and_eq_true, decide_eq_true_eq]
    exact ⟨⟨⟨⟨⟨h1, h2⟩, h3⟩, h4⟩, h5⟩, hform⟩
  rw [this]
  rfl

end Go.Proofs.Ytjjmcnippjpclab
