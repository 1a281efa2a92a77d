/-
  The walks of addOf and appendAdd.
  How a new text is cut into steps, without the model.
  The walk of cut: a new text is said by steps.
-/
import Derived.Test.YtjjmcnippjpclabKeep
import Derived.Test.YtjjmcnippjpclabMatches
import Derived.Test.YtjjmcnippjpclabMakings
namespace Go.Proofs.Ytjjmcnippjpclab

open Go.RowKit

set_option maxRecDepth 100000 in
set_option maxHeartbeats 1000000 in
theorem addOf_any (n : ByteArray) (t z : Nat) (w : World) (hn : n.size ≤ 4000) (h : t + z ≤ n.size) :
    Calls Try.prog 42 #[.string n, .int .i64 t, .int .i64 z] w fun e w' => e = .returned (.agg #[.int .i64 1, .int .i64 t, .int .i64 z, .string (n.extract t (t + z)), .int .i64 0]) ∧ Below w.heap.size w w' := by
  have g4 : IntKind.i64.wrap ((t : Int) + (z : Int)) = (t : Int) + (z : Int) := by rw [IntKind.wrap_i64]; omega
  have g1 : (t : Int) + (z : Int) ≤ (n.size : Int) := by omega
  have g2 : (t : Int) ≤ (t : Int) + (z : Int) := by omega
  have g3 : ((t : Int) + (z : Int)).toNat = t + z := by omega
  go_enter Try.func42, Try.ntmps42
  go_wp2_with fail
  refine bodyPost_ret (v := .agg #[.int .i64 1, .int .i64 t, .int .i64 z, .string (n.extract t (t + z)), .int .i64 0]) (by simp [results, Try.results42, go_sem]) rfl ⟨rfl, ?_⟩
  exact (Below.refl _ _).alloc (Nat.le_refl _) _

theorem own_kept {u u' : World} {B n k : Nat} {t : TypeId} {v : Value} {xs : List Value} (h : u.ownsRow B t n v k xs) (b : Below u.heap.size u u') : u'.ownsRow B t n v k xs :=
  h.kept (row := none) ⟨b.os, b.tape, b.output, b.size, fun i hi _ => b.block i hi⟩ (by cases hv : v.ownBlock <;> simp)

theorem grown_of_below {u u' : World} (b : Below u.heap.size u u') (r : Option Nat) : u.grownBy u' r := ⟨b.os, b.tape, b.output, b.size, fun i hi _ => b.block i hi⟩

theorem grown_alloc {u u' : World} {r : Option Nat} (h : u.grownBy u' r) (o : Obj) : u.grownBy (u'.alloc o) r :=
  ⟨h.os, h.tape, h.output, by have := h.size; simp; omega, fun i hi hr => by rw [Below.heap_alloc _ _ _ (Nat.lt_of_lt_of_le hi h.size)]; exact h.block i hi hr⟩

/-- the cells of the steps of a made patch. -/
def spCells (n : ByteArray) (l : List Pl.Sp) : List Value := stCells (l.map (Pl.Sp.st n))

theorem spCells_snoc (n : ByteArray) (l : List Pl.Sp) (s : Pl.Sp) : spCells n (l ++ [s]) = spCells n l ++ [.int .i64 (s.st n).k, .int .i64 (s.st n).t, .int .i64 (s.st n).n, .string (s.st n).d, .int .i64 (s.st n).f] := by
  rw [spCells, List.map_append, List.map_cons, List.map_nil, stCells_snoc]; rfl

theorem spCells_add (n : ByteArray) (l : List Pl.Sp) (t z : Nat) : spCells n (l ++ [⟨t, z, none⟩]) = spCells n l ++ [.int .i64 1, .int .i64 t, .int .i64 z, .string (n.extract t (t + z)), .int .i64 0] := spCells_snoc n l _

theorem spCells_copy (n : ByteArray) (l : List Pl.Sp) (t z f : Nat) : spCells n (l ++ [⟨t, z, some f⟩]) = spCells n l ++ [.int .i64 3, .int .i64 t, .int .i64 z, .string ⟨#[]⟩, .int .i64 f] := spCells_snoc n l _

/-- what appendAdd makes of a list. -/
def withAdd (l : List Pl.Sp) (t e : Nat) : List Pl.Sp := if t = e then l else l ++ [⟨t, e - t, none⟩]

set_option maxRecDepth 100000 in
set_option maxHeartbeats 2000000 in
theorem appendAdd_any (n : ByteArray) (v : Value) (l : List Pl.Sp) (t e : Nat) (B : Nat) (w : World) (hn : n.size ≤ 4000) (h : t ≤ e) (he : e ≤ n.size) (hl : l.length ≤ 100000) (hB : B ≤ w.heap.size) (hw : Hid (w.ownsRow B 37 5 v l.length (spCells n l))) :
    Calls Try.prog 46 #[v, .string n, .int .i64 t, .int .i64 e] w fun r w' => ∃ v', r = .returned v' ∧ w'.ownsRow B 37 5 v' (withAdd l t e).length (spCells n (withAdd l t e)) ∧ w.grownBy w' v.ownBlock := by
  obtain ⟨ao, cn, cp, rfl⟩ : ∃ ao cn cp, v = .slice ao cn cp := by
    rcases hw.out.2 with ⟨hv, hz⟩ | ⟨g, cap, cur, hv, _⟩
    · exact ⟨none, 0, 0, hv⟩
    · exact ⟨_, _, _, hv⟩
  by_cases hte : t = e
  · have d : ((t : Int) == (e : Int)) = true := beq_iff_eq.2 (by omega)
    have e1 : Hid (withAdd l t e = l) := by simp [Hid, withAdd, hte]
    go_enter Try.func46, Try.ntmps46
    go_wp2_with fail
    go_ret
    exact ⟨_, rfl, by rw [e1.out]; exact hw.out, grown_refl _ _⟩
  · have d : ((t : Int) == (e : Int)) = false := beq_eq_false_iff_ne.2 (by omega)
    have e1 : Hid (withAdd l t e = l ++ [⟨t, e - t, none⟩]) := by simp [Hid, withAdd, hte]
    obtain ⟨i40, hi, hzz⟩ := Option.map_eq_some_iff.1 info40
    simp only [Prod.mk.injEq] at hzz
    have g1 : (e : Int) - (t : Int) = ((e - t : Nat) : Int) := by omega
    go_enter Try.func46, Try.ntmps46
    go_wp2_with fail
    refine (addOf_any n t (e - t) _ hn (by omega)).mono ?_
    rintro r v1 ⟨rfl, b1⟩
    have hw1 : Hid (v1.ownsRow B 37 5 (.slice ao cn cp) l.length (spCells n l)) := own_kept hw.out b1
    have hs1 := b1.size
    go_wp2_with (at_builtin; refine wpList_append_keep _ rfl _ _ 28 rfl B 37 i40 (.agg zero5.toArray) 5 48 Try.underlying28 hi hzz.1 hzz.2.1 hzz.2.2 rfl (by decide) _ l.length (spCells n l) rfl (hw1.out.alloc _) ⟨v1.heap.size, 0, none⟩ 1 1 [.int .i64 1, .int .i64 t, .int .i64 (e - t : Nat), .string (n.extract t e), .int .i64 0] rfl rfl ?c1 ?c2 (by decide) ?c3 ?c4 ?c5 ?_)
    case c1 => exact World.news_of_block (cs := #[.int .i64 1, .int .i64 t, .int .i64 (e - t : Nat), .string (n.extract t e), .int .i64 0]) (heap_alloc_new v1 _)
    case c2 =>
      intro u hu
      simp at hu
      rcases hu with rfl | rfl | rfl | rfl | rfl <;> rfl
    case c3 => unfold maxLen; omega
    case c4 => omega
    case c5 => simp; omega
    intro v2 q2 hw2 hg2 _
    go_wp2_with fail
    go_ret
    refine ⟨_, rfl, ?_, grown_trans (grown_alloc (grown_of_below b1 _) _) hg2⟩
    rw [e1.out, spCells_add, List.length_append, Nat.add_sub_cancel' h]
    exact hw2

end Go.Proofs.Ytjjmcnippjpclab

namespace Go.Proofs.Ytjjmcnippjpclab

open _root_.Pl

/-- what holds ahead of each round. -/
structure CutInv (o n : ByteArray) (K : Nat) (l : List Sp) (left here : Nat) : Prop where
  tile : tiles 0 l left
  le : left ≤ here
  lo : left ≤ n.size
  hi : here ≤ n.size + 1
  fit : ∀ s ∈ l, fits o n s
  apart : apartA l
  last : ∀ x, l.getLast? = some x → x.src ≠ none
  nocopy : K < o.size → ∀ s ∈ l, s.src ≠ none → ¬ (s.t ≤ K ∧ K < s.t + s.n)
  past : K < o.size → K < here
  same : o = n → here = n.size ∧ l.length ≤ 1 ∧ (left = n.size ∨ (l = [] ∧ n.size < 12))

theorem front_same {o n : ByteArray} {K : Nat} (h : isFront o n K) (e : o = n) : K = n.size := by
  subst e
  obtain ⟨h1, _, _, h4⟩ := h
  rcases Nat.lt_or_ge K o.size with hk | hk
  · exact absurd rfl (h4 hk hk)
  · omega

theorem cut_none {o n : ByteArray} {K here : Nat} (h : isFront o n K) (hk : K < 12) (hh : here = if K < o.size then K + 1 else K) : CutInv o n K [] 0 here where
  tile := rfl
  le := Nat.zero_le _
  lo := Nat.zero_le _
  hi := by have := h.2.1; subst hh; split <;> omega
  fit := by simp
  apart := trivial
  last := by simp
  nocopy := by simp
  past := fun hK => by rw [hh, if_pos hK]; omega
  same := fun e => by
    have := front_same h e
    have h1 : ¬ K < o.size := by rw [e]; omega
    rw [if_neg h1] at hh
    exact ⟨by omega, by simp, .inr ⟨rfl, by omega⟩⟩

theorem cut_front {o n : ByteArray} {K here : Nat} (h : isFront o n K) (hk : 12 ≤ K) (hh : here = if K < o.size then K + 1 else K) : CutInv o n K [⟨0, K, some 0⟩] K here where
  tile := ⟨rfl, by show 1 ≤ K; omega, by show 0 + K = K; omega⟩
  le := by subst hh; split <;> omega
  lo := h.2.1
  hi := by have := h.2.1; subst hh; split <;> omega
  fit := by
    intro s hs f hf
    simp only [List.mem_singleton] at hs
    subst hs
    simp only [Option.some.injEq] at hf
    subst hf
    exact ⟨hk, by have := h.1; show 0 + K ≤ _; omega, fun j hj => by rw [Nat.zero_add]; exact h.2.2.1 j hj⟩
  apart := trivial
  last := by intro x hx; simp at hx; subst hx; simp
  nocopy := by
    intro _ s hs _ hc
    simp only [List.mem_singleton] at hs
    subst hs
    have : K < 0 + K := hc.2
    omega
  past := fun hK => by rw [hh, if_pos hK]; omega
  same := fun e => by
    have := front_same h e
    have h1 : ¬ K < o.size := by rw [e]; omega
    rw [if_neg h1] at hh
    exact ⟨by omega, by simp, .inl this⟩

theorem cut_skip {o n : ByteArray} {K left here : Nat} {l : List Sp} (h : CutInv o n K l left here) (hh : here < n.size) : CutInv o n K l left (here + 1) where
  tile := h.tile
  le := by have := h.le; omega
  lo := h.lo
  hi := by omega
  fit := h.fit
  apart := h.apart
  last := h.last
  nocopy := h.nocopy
  past := fun hK => by have := h.past hK; omega
  same := fun e => by have := h.same e; omega

theorem withAdd_tiles {l : List Sp} {left here : Nat} (h : tiles 0 l left) (hl : left ≤ here) : tiles 0 (withAdd l left here) here := by
  unfold withAdd
  split
  · next e => rw [← e]; exact h
  · refine tiles_append l _ 0 left here h ⟨rfl, ?_, ?_⟩
    · show 1 ≤ here - left; omega
    · show left + (here - left) = here; omega

theorem withAdd_mem {l : List Sp} {left here : Nat} {s : Sp} (h : s ∈ withAdd l left here) : s ∈ l ∨ s = ⟨left, here - left, none⟩ := by
  unfold withAdd at h
  split at h
  · exact .inl h
  · rcases List.mem_append.1 h with h | h
    · exact .inl h
    · exact .inr (by simpa using h)

theorem withAdd_apart {l : List Sp} {left here : Nat} (h : apartA l) (hl : ∀ x, l.getLast? = some x → x.src ≠ none) : apartA (withAdd l left here) := by
  unfold withAdd
  split
  · exact h
  · exact apartA_snoc _ _ h (fun x hx hh => hl x hx hh.1)

theorem withAdd_fit {o n : ByteArray} {l : List Sp} {left here : Nat} (h : ∀ s ∈ l, fits o n s) : ∀ s ∈ withAdd l left here, fits o n s := by
  intro s hs
  rcases withAdd_mem hs with hs | rfl
  · exact h s hs
  · intro f hf; simp at hf

theorem cut_copy {o n : ByteArray} {K left here f z : Nat} {l : List Sp} (h : CutInv o n K l left here) (hh : here < n.size) (hz : 12 ≤ z) (hs : srcAt o n here f z) :
    CutInv o n K (withAdd l left here ++ [⟨here, z, some f⟩]) (here + z) (here + z) where
  tile := tiles_snoc (withAdd_tiles h.tile h.le) rfl (by show 1 ≤ z; omega)
  le := Nat.le_refl _
  lo := hs.2.1
  hi := by have := hs.2.1; omega
  fit := by
    intro s hx
    rcases List.mem_append.1 hx with hx | hx
    · exact withAdd_fit h.fit s hx
    · simp only [List.mem_singleton] at hx
      subst hx
      intro g hg
      simp only [Option.some.injEq] at hg
      subst hg
      exact ⟨hz, hs.1, hs.2.2⟩
  apart := apartA_snoc _ _ (withAdd_apart h.apart h.last) (fun x _ hh => by simp at hh)
  last := by intro x hx; simp at hx; subst hx; simp
  nocopy := by
    intro hK s hx hc
    rcases List.mem_append.1 hx with hx | hx
    · rcases withAdd_mem hx with hx | rfl
      · exact h.nocopy hK s hx hc
      · exact absurd rfl hc
    · simp only [List.mem_singleton] at hx
      subst hx
      have := h.past hK
      show ¬ (here ≤ K ∧ _)
      omega
  past := fun hK => by have := h.past hK; omega
  same := fun e => by have := h.same e; omega

theorem cut_length {o n : ByteArray} {K left here : Nat} {l : List Sp} (h : CutInv o n K l left here) : l.length ≤ n.size := by
  have : ∀ (l : List Sp) (a b : Nat), tiles a l b → a + l.length ≤ b := by
    intro l
    induction l with
    | nil => intro a b h; have h : a = b := h; simp [h]
    | cons s r ih => intro a b h; have := ih _ _ h.2.2; have := h.2.1; simp; omega
  have := this l 0 left h.tile
  have := h.lo
  omega

/-- what the cut of a new text is. -/
structure IsCut (o n : ByteArray) (l : List Sp) : Prop where
  good : _root_.Pl.Good o n l
  same : o = n → l.length ≤ 1 ∧ ∀ s ∈ l, s.src = none → s.n < 12

theorem cut_end {o n : ByteArray} {K left here : Nat} {l : List Sp} (hf : isFront o n K) (h : CutInv o n K l left here) : IsCut o n (withAdd l left n.size) where
  good := {
    tile := withAdd_tiles h.tile h.lo
    fit := withAdd_fit h.fit
    apart := withAdd_apart h.apart h.last
    first := by
      intro i hi1 hi2 hpre hne
      have hK : i = K := by
        obtain ⟨_, _, h3, h4⟩ := hf
        rcases Nat.lt_trichotomy i K with hlt | rfl | hgt
        · exact absurd (h3 i hlt) hne
        · rfl
        · exact absurd (hpre K hgt) (h4 (by omega) (by omega))
      subst hK
      obtain ⟨s, hs, hs1, hs2⟩ := tiles_cov _ 0 n.size (withAdd_tiles h.tile h.lo) i (Nat.zero_le _) hi2
      refine ⟨s, hs, ?_, hs1, hs2⟩
      rcases withAdd_mem hs with hm | rfl
      · cases hsrc : s.src with
        | none => rfl
        | some f => exact absurd ⟨hs1, hs2⟩ (h.nocopy hi1 s hm (by simp [hsrc]))
      · rfl }
  same := fun e => by
    obtain ⟨_, h2, h3⟩ := h.same e
    rcases h3 with h3 | ⟨h3, h4⟩
    · have : withAdd l left n.size = l := by unfold withAdd; rw [if_pos h3]
      rw [this]
      refine ⟨h2, fun s hs hn => ?_⟩
      have hl : l = [s] := by
        match l, h2, hs with
        | [x], _, hs => simp only [List.mem_singleton] at hs; rw [hs]
      exact absurd hn (h.last s (by rw [hl]; rfl))
    · subst h3
      have ht : 0 = left := h.tile
      subst ht
      unfold withAdd
      split
      · simp
      · refine ⟨by simp, fun s hs _ => ?_⟩
        simp only [List.nil_append, List.mem_singleton] at hs
        subst hs
        show n.size - 0 < 12
        omega

end Go.Proofs.Ytjjmcnippjpclab

namespace Go.Proofs.Ytjjmcnippjpclab

open Go.RowKit

theorem row_copy {q : World} {B : Nat} {v : Value} {n : ByteArray} {l : List _root_.Pl.Sp} {t z f : Nat} (h : q.ownsRow B 37 5 v (l.length + 1) (spCells n l ++ [.int .i64 3, .int .i64 t, .int .i64 z, .string ⟨#[]⟩, .int .i64 f])) :
    q.ownsRow B 37 5 v (l ++ [(⟨t, z, some f⟩ : _root_.Pl.Sp)]).length (spCells n (l ++ [⟨t, z, some f⟩])) := by
  rw [spCells_copy, List.length_append]; exact h

/-- a list that says the new text up to a place. -/
def cutAt (o n : ByteArray) (K : Nat) (w : World) (v : Value) (left here : Nat) (q : World) : Prop :=
  ∃ l, CutInv o n K l left here ∧ q.ownsRow w.heap.size 37 5 v l.length (spCells n l) ∧ Below w.heap.size w q

theorem cutAt_slice {o n : ByteArray} {K : Nat} {w : World} {v : Value} {left here : Nat} {q : World} (h : cutAt o n K w v left here q) : ∃ ao cn cp, v = .slice ao cn cp := by
  obtain ⟨l, _, hw, _⟩ := h
  rcases hw.2 with ⟨hv, hz⟩ | ⟨g, cap, cur, hv, _⟩
  · exact ⟨none, 0, 0, hv⟩
  · exact ⟨_, _, _, hv⟩

theorem below_grown {w u u' : World} {v : Value} {n k : Nat} {t : TypeId} {xs : List Value} (h : u.ownsRow w.heap.size t n v k xs) (hb : Below w.heap.size w u) (hg : u.grownBy u' v.ownBlock) : Below w.heap.size w u' :=
  hb.grown hg hb.size (fun j hj => (h.lt j hj).1)

set_option maxRecDepth 100000 in
set_option maxHeartbeats 4000000 in
theorem cutM_any (o n : ByteArray) (w : World) (ho : o.size ≤ 4000) (hn : n.size ≤ 4000) :
    Calls Try.prog 23 #[.string o, .string n] w fun e w' => ∃ v l, e = .returned v ∧ IsCut o n l ∧ w'.ownsRow w.heap.size 37 5 v l.length (spCells n l) ∧ Below w.heap.size w w' := by
  obtain ⟨i40, hi, hzz⟩ := Option.map_eq_some_iff.1 info40
  simp only [Prod.mk.injEq] at hzz
  go_enter Try.func23, Try.ntmps23
  go_wp2_with fail
  refine (front_any o n _ (by omega) (by omega)).mono ?_
  rintro e v1 ⟨K, rfl, hK, b1⟩
  have HK : Hid (isFront o n K) := hK
  have hK1 := hK.1
  have hK2 := hK.2.1
  have hs1 := b1.size
  clear hK
  by_cases h12 : 12 ≤ K
  · by_cases hlo : K < o.size
    · go_wp2_with (at_builtin; refine wpList_append_keep _ rfl _ _ 28 rfl w.heap.size 37 i40 (.agg zero5.toArray) 5 48 Try.underlying28 hi hzz.1 hzz.2.1 hzz.2.2 rfl (by decide) _ 0 [] rfl (World.ownsRow_nil _ _ _ _) ⟨v1.heap.size, 0, none⟩ 1 1 [.int .i64 3, .int .i64 0, .int .i64 K, .string ⟨#[]⟩, .int .i64 0] rfl rfl ?c1 ?c2 (by decide) ?c3 ?c4 ?c5 ?_)
      case c1 => exact World.news_of_block (cs := #[.int .i64 3, .int .i64 0, .int .i64 K, .string ⟨#[]⟩, .int .i64 0]) (heap_alloc_new v1 _)
      case c2 =>
        intro u hu
        simp at hu
        rcases hu with rfl | rfl | rfl | rfl | rfl <;> rfl
      case c3 => unfold maxLen; omega
      case c4 => omega
      case c5 => simp; omega
      intro v2 q2 hw2 hg2 _
      have HI : Hid (cutAt o n K w v2 K (K + 1) q2) := by
        refine ⟨[⟨0, K, some 0⟩], cut_front HK.out h12 (by rw [if_pos hlo]), hw2, ?_⟩
        exact ((below_grown (World.ownsRow_nil _ w.heap.size 37 5) (b1.alloc hs1 _) hg2))
      clear hw2 hg2
      go_wp2_with fail
      go_loopw [5, 6, 7] (fun v x y wr => ∃ left here : Nat, x = .int .i64 left ∧ y = .int .i64 here ∧ Hid (cutAt o n K w v left here wr)) (fun _ _ y _ => n.size + 1 - (intOf y).toNat)
      case atStart => exact ⟨K, (K + 1), rfl, by go_num, HI⟩
      case round =>
        clear HI
        obtain ⟨left, here, rfl, rfl, hI⟩ := hrel
        obtain ⟨ao, cn, cp, rfl⟩ := cutAt_slice hI.out
        obtain ⟨l, hinv, hrow, hbel⟩ := hI.out
        have hle := hinv.le
        have hlo' := hinv.lo
        have hlen := cut_length hinv
        have HINV : Hid (CutInv o n K l left here) := hinv
        have HROW : Hid (wr.ownsRow w.heap.size 37 5 (.slice ao cn cp) l.length (spCells n l)) := hrow
        have HBEL : Hid (Below w.heap.size w wr) := hbel
        have hsz := hbel.size
        clear hinv hrow hbel hI
        by_cases hh : here < n.size
        · go_wp2_with fail
          refine (source_any o n here _ ho hn (by omega)).mono ?_
          rintro e v3 ⟨f, z, rfl, hsrc, b3⟩
          have HSRC : Hid (srcAt o n here f z) := hsrc
          have hz1 := hsrc.1
          have hz2 := hsrc.2.1
          have HROW3 : Hid (v3.ownsRow w.heap.size 37 5 (.slice ao cn cp) l.length (spCells n l)) := own_kept HROW.out b3
          have HBEL3 : Hid (Below w.heap.size w v3) := HBEL.out.trans (b3.mono hsz)
          have hsz3 : w.heap.size ≤ v3.heap.size := by have := b3.size; omega
          clear hsrc b3 HROW HBEL
          by_cases hz : z < 12
          · go_wp2_with fail
            exact ⟨⟨left, here + 1, rfl, by go_num, ⟨l, cut_skip HINV.out hh, HROW3.out, HBEL3.out⟩⟩, by simp [intOf]; omega⟩
          · go_wp2_with fail
            refine (appendAdd_any n _ l left here w.heap.size _ hn hle (by omega) (by omega) hsz3 HROW3).mono ?_
            rintro e v4 ⟨x4, rfl, hw4, hg4⟩
            have HBEL4 : Hid (Below w.heap.size w v4) := below_grown HROW3.out HBEL3.out hg4
            have HROW4 : Hid (v4.ownsRow w.heap.size 37 5 x4 (withAdd l left here).length (spCells n (withAdd l left here))) := hw4
            have hsz4 : w.heap.size ≤ v4.heap.size := HBEL4.out.size
            have hlen4 : (withAdd l left here).length ≤ n.size + 1 := by
              unfold withAdd
              split
              · omega
              · simp; omega
            clear hw4 hg4 HROW3 HBEL3
            obtain ⟨xa, xn, xc, rfl⟩ : ∃ xa xn xc, x4 = .slice xa xn xc := by
              rcases HROW4.out.2 with ⟨hv, _⟩ | ⟨g, cap, cur, hv, _⟩ <;> exact ⟨_, _, _, hv⟩
            generalize hL : withAdd l left here = L at *
            have HL : Hid (withAdd l left here = L) := hL
            clear hL
            go_wp2_with (at_builtin; refine wpList_append_keep _ rfl _ _ 28 rfl w.heap.size 37 i40 (.agg zero5.toArray) 5 48 Try.underlying28 hi hzz.1 hzz.2.1 hzz.2.2 rfl (by decide) _ L.length (spCells n L) rfl (HROW4.out.alloc _) ⟨v4.heap.size, 0, none⟩ 1 1 [.int .i64 3, .int .i64 here, .int .i64 z, .string ⟨#[]⟩, .int .i64 f] rfl rfl ?c1 ?c2 (by decide) ?c3 ?c4 ?c5 ?_)
            case c1 => exact World.news_of_block (cs := #[.int .i64 3, .int .i64 here, .int .i64 z, .string ⟨#[]⟩, .int .i64 f]) (heap_alloc_new v4 _)
            case c2 =>
              intro u hu
              simp at hu
              rcases hu with rfl | rfl | rfl | rfl | rfl <;> rfl
            case c3 => unfold maxLen; omega
            case c4 => omega
            case c5 => simp; omega
            intro v5 q5 hw5 hg5 _
            have HI5 : Hid (cutAt o n K w v5 (here + z) (here + z) q5) := by
              refine ⟨withAdd l left here ++ [⟨here, z, some f⟩], cut_copy HINV.out hh (by omega) HSRC.out, ?_, below_grown (HROW4.out.alloc _) (HBEL4.out.alloc hsz4 _) hg5⟩
              rw [HL.out]
              exact row_copy hw5
            clear hw5 hg5 HROW4 HBEL4 HL
            go_wp2_with fail
            exact ⟨⟨here + z, here + z, by go_num, by go_num, HI5⟩, by simp [intOf]; omega⟩
        · go_wp2_with fail
          refine (appendAdd_any n _ l left n.size w.heap.size _ hn hlo' (Nat.le_refl _) (by omega) hsz HROW).mono ?_
          rintro e v4 ⟨x4, rfl, hw4, hg4⟩
          go_wp2_with fail
          go_ret
          exact ⟨_, _, rfl, cut_end HK.out HINV.out, hw4, below_grown HROW.out HBEL.out hg4⟩
    · go_wp2_with (at_builtin; refine wpList_append_keep _ rfl _ _ 28 rfl w.heap.size 37 i40 (.agg zero5.toArray) 5 48 Try.underlying28 hi hzz.1 hzz.2.1 hzz.2.2 rfl (by decide) _ 0 [] rfl (World.ownsRow_nil _ _ _ _) ⟨v1.heap.size, 0, none⟩ 1 1 [.int .i64 3, .int .i64 0, .int .i64 K, .string ⟨#[]⟩, .int .i64 0] rfl rfl ?c1 ?c2 (by decide) ?c3 ?c4 ?c5 ?_)
      case c1 => exact World.news_of_block (cs := #[.int .i64 3, .int .i64 0, .int .i64 K, .string ⟨#[]⟩, .int .i64 0]) (heap_alloc_new v1 _)
      case c2 =>
        intro u hu
        simp at hu
        rcases hu with rfl | rfl | rfl | rfl | rfl <;> rfl
      case c3 => unfold maxLen; omega
      case c4 => omega
      case c5 => simp; omega
      intro v2 q2 hw2 hg2 _
      have HI : Hid (cutAt o n K w v2 K K q2) := by
        refine ⟨[⟨0, K, some 0⟩], cut_front HK.out h12 (by rw [if_neg hlo]), hw2, ?_⟩
        exact ((below_grown (World.ownsRow_nil _ w.heap.size 37 5) (b1.alloc hs1 _) hg2))
      clear hw2 hg2
      go_wp2_with fail
      go_loopw [5, 6, 7] (fun v x y wr => ∃ left here : Nat, x = .int .i64 left ∧ y = .int .i64 here ∧ Hid (cutAt o n K w v left here wr)) (fun _ _ y _ => n.size + 1 - (intOf y).toNat)
      case atStart => exact ⟨K, K, rfl, by go_num, HI⟩
      case round =>
        clear HI
        obtain ⟨left, here, rfl, rfl, hI⟩ := hrel
        obtain ⟨ao, cn, cp, rfl⟩ := cutAt_slice hI.out
        obtain ⟨l, hinv, hrow, hbel⟩ := hI.out
        have hle := hinv.le
        have hlo' := hinv.lo
        have hlen := cut_length hinv
        have HINV : Hid (CutInv o n K l left here) := hinv
        have HROW : Hid (wr.ownsRow w.heap.size 37 5 (.slice ao cn cp) l.length (spCells n l)) := hrow
        have HBEL : Hid (Below w.heap.size w wr) := hbel
        have hsz := hbel.size
        clear hinv hrow hbel hI
        by_cases hh : here < n.size
        · go_wp2_with fail
          refine (source_any o n here _ ho hn (by omega)).mono ?_
          rintro e v3 ⟨f, z, rfl, hsrc, b3⟩
          have HSRC : Hid (srcAt o n here f z) := hsrc
          have hz1 := hsrc.1
          have hz2 := hsrc.2.1
          have HROW3 : Hid (v3.ownsRow w.heap.size 37 5 (.slice ao cn cp) l.length (spCells n l)) := own_kept HROW.out b3
          have HBEL3 : Hid (Below w.heap.size w v3) := HBEL.out.trans (b3.mono hsz)
          have hsz3 : w.heap.size ≤ v3.heap.size := by have := b3.size; omega
          clear hsrc b3 HROW HBEL
          by_cases hz : z < 12
          · go_wp2_with fail
            exact ⟨⟨left, here + 1, rfl, by go_num, ⟨l, cut_skip HINV.out hh, HROW3.out, HBEL3.out⟩⟩, by simp [intOf]; omega⟩
          · go_wp2_with fail
            refine (appendAdd_any n _ l left here w.heap.size _ hn hle (by omega) (by omega) hsz3 HROW3).mono ?_
            rintro e v4 ⟨x4, rfl, hw4, hg4⟩
            have HBEL4 : Hid (Below w.heap.size w v4) := below_grown HROW3.out HBEL3.out hg4
            have HROW4 : Hid (v4.ownsRow w.heap.size 37 5 x4 (withAdd l left here).length (spCells n (withAdd l left here))) := hw4
            have hsz4 : w.heap.size ≤ v4.heap.size := HBEL4.out.size
            have hlen4 : (withAdd l left here).length ≤ n.size + 1 := by
              unfold withAdd
              split
              · omega
              · simp; omega
            clear hw4 hg4 HROW3 HBEL3
            obtain ⟨xa, xn, xc, rfl⟩ : ∃ xa xn xc, x4 = .slice xa xn xc := by
              rcases HROW4.out.2 with ⟨hv, _⟩ | ⟨g, cap, cur, hv, _⟩ <;> exact ⟨_, _, _, hv⟩
            generalize hL : withAdd l left here = L at *
            have HL : Hid (withAdd l left here = L) := hL
            clear hL
            go_wp2_with (at_builtin; refine wpList_append_keep _ rfl _ _ 28 rfl w.heap.size 37 i40 (.agg zero5.toArray) 5 48 Try.underlying28 hi hzz.1 hzz.2.1 hzz.2.2 rfl (by decide) _ L.length (spCells n L) rfl (HROW4.out.alloc _) ⟨v4.heap.size, 0, none⟩ 1 1 [.int .i64 3, .int .i64 here, .int .i64 z, .string ⟨#[]⟩, .int .i64 f] rfl rfl ?c1 ?c2 (by decide) ?c3 ?c4 ?c5 ?_)
            case c1 => exact World.news_of_block (cs := #[.int .i64 3, .int .i64 here, .int .i64 z, .string ⟨#[]⟩, .int .i64 f]) (heap_alloc_new v4 _)
            case c2 =>
              intro u hu
              simp at hu
              rcases hu with rfl | rfl | rfl | rfl | rfl <;> rfl
            case c3 => unfold maxLen; omega
            case c4 => omega
            case c5 => simp; omega
            intro v5 q5 hw5 hg5 _
            have HI5 : Hid (cutAt o n K w v5 (here + z) (here + z) q5) := by
              refine ⟨withAdd l left here ++ [⟨here, z, some f⟩], cut_copy HINV.out hh (by omega) HSRC.out, ?_, below_grown (HROW4.out.alloc _) (HBEL4.out.alloc hsz4 _) hg5⟩
              rw [HL.out]
              exact row_copy hw5
            clear hw5 hg5 HROW4 HBEL4 HL
            go_wp2_with fail
            exact ⟨⟨here + z, here + z, by go_num, by go_num, HI5⟩, by simp [intOf]; omega⟩
        · go_wp2_with fail
          refine (appendAdd_any n _ l left n.size w.heap.size _ hn hlo' (Nat.le_refl _) (by omega) hsz HROW).mono ?_
          rintro e v4 ⟨x4, rfl, hw4, hg4⟩
          go_wp2_with fail
          go_ret
          exact ⟨_, _, rfl, cut_end HK.out HINV.out, hw4, below_grown HROW.out HBEL.out hg4⟩
  · by_cases hlo : K < o.size
    · have HI : Hid (cutAt o n K w (.slice none 0 0) 0 (K + 1) v1) := ⟨[], cut_none HK.out (by omega) (by rw [if_pos hlo]), World.ownsRow_nil _ _ _ _, b1⟩
      go_wp2_with fail
      go_loopw [5, 6, 7] (fun v x y wr => ∃ left here : Nat, x = .int .i64 left ∧ y = .int .i64 here ∧ Hid (cutAt o n K w v left here wr)) (fun _ _ y _ => n.size + 1 - (intOf y).toNat)
      case atStart => exact ⟨0, (K + 1), rfl, by go_num, HI⟩
      case round =>
        clear HI
        obtain ⟨left, here, rfl, rfl, hI⟩ := hrel
        obtain ⟨ao, cn, cp, rfl⟩ := cutAt_slice hI.out
        obtain ⟨l, hinv, hrow, hbel⟩ := hI.out
        have hle := hinv.le
        have hlo' := hinv.lo
        have hlen := cut_length hinv
        have HINV : Hid (CutInv o n K l left here) := hinv
        have HROW : Hid (wr.ownsRow w.heap.size 37 5 (.slice ao cn cp) l.length (spCells n l)) := hrow
        have HBEL : Hid (Below w.heap.size w wr) := hbel
        have hsz := hbel.size
        clear hinv hrow hbel hI
        by_cases hh : here < n.size
        · go_wp2_with fail
          refine (source_any o n here _ ho hn (by omega)).mono ?_
          rintro e v3 ⟨f, z, rfl, hsrc, b3⟩
          have HSRC : Hid (srcAt o n here f z) := hsrc
          have hz1 := hsrc.1
          have hz2 := hsrc.2.1
          have HROW3 : Hid (v3.ownsRow w.heap.size 37 5 (.slice ao cn cp) l.length (spCells n l)) := own_kept HROW.out b3
          have HBEL3 : Hid (Below w.heap.size w v3) := HBEL.out.trans (b3.mono hsz)
          have hsz3 : w.heap.size ≤ v3.heap.size := by have := b3.size; omega
          clear hsrc b3 HROW HBEL
          by_cases hz : z < 12
          · go_wp2_with fail
            exact ⟨⟨left, here + 1, rfl, by go_num, ⟨l, cut_skip HINV.out hh, HROW3.out, HBEL3.out⟩⟩, by simp [intOf]; omega⟩
          · go_wp2_with fail
            refine (appendAdd_any n _ l left here w.heap.size _ hn hle (by omega) (by omega) hsz3 HROW3).mono ?_
            rintro e v4 ⟨x4, rfl, hw4, hg4⟩
            have HBEL4 : Hid (Below w.heap.size w v4) := below_grown HROW3.out HBEL3.out hg4
            have HROW4 : Hid (v4.ownsRow w.heap.size 37 5 x4 (withAdd l left here).length (spCells n (withAdd l left here))) := hw4
            have hsz4 : w.heap.size ≤ v4.heap.size := HBEL4.out.size
            have hlen4 : (withAdd l left here).length ≤ n.size + 1 := by
              unfold withAdd
              split
              · omega
              · simp; omega
            clear hw4 hg4 HROW3 HBEL3
            obtain ⟨xa, xn, xc, rfl⟩ : ∃ xa xn xc, x4 = .slice xa xn xc := by
              rcases HROW4.out.2 with ⟨hv, _⟩ | ⟨g, cap, cur, hv, _⟩ <;> exact ⟨_, _, _, hv⟩
            generalize hL : withAdd l left here = L at *
            have HL : Hid (withAdd l left here = L) := hL
            clear hL
            go_wp2_with (at_builtin; refine wpList_append_keep _ rfl _ _ 28 rfl w.heap.size 37 i40 (.agg zero5.toArray) 5 48 Try.underlying28 hi hzz.1 hzz.2.1 hzz.2.2 rfl (by decide) _ L.length (spCells n L) rfl (HROW4.out.alloc _) ⟨v4.heap.size, 0, none⟩ 1 1 [.int .i64 3, .int .i64 here, .int .i64 z, .string ⟨#[]⟩, .int .i64 f] rfl rfl ?c1 ?c2 (by decide) ?c3 ?c4 ?c5 ?_)
            case c1 => exact World.news_of_block (cs := #[.int .i64 3, .int .i64 here, .int .i64 z, .string ⟨#[]⟩, .int .i64 f]) (heap_alloc_new v4 _)
            case c2 =>
              intro u hu
              simp at hu
              rcases hu with rfl | rfl | rfl | rfl | rfl <;> rfl
            case c3 => unfold maxLen; omega
            case c4 => omega
            case c5 => simp; omega
            intro v5 q5 hw5 hg5 _
            have HI5 : Hid (cutAt o n K w v5 (here + z) (here + z) q5) := by
              refine ⟨withAdd l left here ++ [⟨here, z, some f⟩], cut_copy HINV.out hh (by omega) HSRC.out, ?_, below_grown (HROW4.out.alloc _) (HBEL4.out.alloc hsz4 _) hg5⟩
              rw [HL.out]
              exact row_copy hw5
            clear hw5 hg5 HROW4 HBEL4 HL
            go_wp2_with fail
            exact ⟨⟨here + z, here + z, by go_num, by go_num, HI5⟩, by simp [intOf]; omega⟩
        · go_wp2_with fail
          refine (appendAdd_any n _ l left n.size w.heap.size _ hn hlo' (Nat.le_refl _) (by omega) hsz HROW).mono ?_
          rintro e v4 ⟨x4, rfl, hw4, hg4⟩
          go_wp2_with fail
          go_ret
          exact ⟨_, _, rfl, cut_end HK.out HINV.out, hw4, below_grown HROW.out HBEL.out hg4⟩
    · have HI : Hid (cutAt o n K w (.slice none 0 0) 0 K v1) := ⟨[], cut_none HK.out (by omega) (by rw [if_neg hlo]), World.ownsRow_nil _ _ _ _, b1⟩
      go_wp2_with fail
      go_loopw [5, 6, 7] (fun v x y wr => ∃ left here : Nat, x = .int .i64 left ∧ y = .int .i64 here ∧ Hid (cutAt o n K w v left here wr)) (fun _ _ y _ => n.size + 1 - (intOf y).toNat)
      case atStart => exact ⟨0, K, rfl, by go_num, HI⟩
      case round =>
        clear HI
        obtain ⟨left, here, rfl, rfl, hI⟩ := hrel
        obtain ⟨ao, cn, cp, rfl⟩ := cutAt_slice hI.out
        obtain ⟨l, hinv, hrow, hbel⟩ := hI.out
        have hle := hinv.le
        have hlo' := hinv.lo
        have hlen := cut_length hinv
        have HINV : Hid (CutInv o n K l left here) := hinv
        have HROW : Hid (wr.ownsRow w.heap.size 37 5 (.slice ao cn cp) l.length (spCells n l)) := hrow
        have HBEL : Hid (Below w.heap.size w wr) := hbel
        have hsz := hbel.size
        clear hinv hrow hbel hI
        by_cases hh : here < n.size
        · go_wp2_with fail
          refine (source_any o n here _ ho hn (by omega)).mono ?_
          rintro e v3 ⟨f, z, rfl, hsrc, b3⟩
          have HSRC : Hid (srcAt o n here f z) := hsrc
          have hz1 := hsrc.1
          have hz2 := hsrc.2.1
          have HROW3 : Hid (v3.ownsRow w.heap.size 37 5 (.slice ao cn cp) l.length (spCells n l)) := own_kept HROW.out b3
          have HBEL3 : Hid (Below w.heap.size w v3) := HBEL.out.trans (b3.mono hsz)
          have hsz3 : w.heap.size ≤ v3.heap.size := by have := b3.size; omega
          clear hsrc b3 HROW HBEL
          by_cases hz : z < 12
          · go_wp2_with fail
            exact ⟨⟨left, here + 1, rfl, by go_num, ⟨l, cut_skip HINV.out hh, HROW3.out, HBEL3.out⟩⟩, by simp [intOf]; omega⟩
          · exfalso; omega
        · go_wp2_with fail
          refine (appendAdd_any n _ l left n.size w.heap.size _ hn hlo' (Nat.le_refl _) (by omega) hsz HROW).mono ?_
          rintro e v4 ⟨x4, rfl, hw4, hg4⟩
          go_wp2_with fail
          go_ret
          exact ⟨_, _, rfl, cut_end HK.out HINV.out, hw4, below_grown HROW.out HBEL.out hg4⟩

end Go.Proofs.Ytjjmcnippjpclab
