/-
  Rings of steps that wait for each other, and what a sorted list is: without the model.
-/
import Derived.Test.YtlijlmjgnhheaaaWebPlain
namespace Pl

/-! ### rings -/
/-- the first of those ahead of a step that waits itself; the step, if there is none. -/
def holdOf (l : List Sp) (W : Nat → Nat) (k : Nat) : Nat := ((aheadOf l k).find? fun c => decide (0 < W c)).getD k

theorem hold_spec {l : List Sp} {D : List Nat} (h : Srt l D []) {k : Nat} (_ : k < l.length) (hw : 0 < waitsOf l D k) :
    tied l (holdOf l (waitsOf l D) k) k = true ∧ 0 < waitsOf l D (holdOf l (waitsOf l D) k) ∧ holdOf l (waitsOf l D) k < l.length := by
  have hz : waitsOf l D k ≠ 0 := by omega
  rw [Ne, waits_zero] at hz
  have : ∃ c, tied l c k = true ∧ c ∉ D := by
    rcases Classical.em (∃ c, tied l c k = true ∧ c ∉ D) with h1 | h1
    · exact h1
    · exact absurd (fun c hc => (Classical.em (c ∈ D)).resolve_right (fun hn => h1 ⟨c, hc, hn⟩)) hz
  obtain ⟨c, hc, hcD⟩ := this
  have hcl := (tied_lt hc).1
  have hcw : 0 < waitsOf l D c := by
    have h2 := h.zero c hcl
    rw [List.append_nil] at h2
    have : waitsOf l D c ≠ 0 := fun e => hcD (h2.2 e)
    omega
  have hf : ∃ d, (aheadOf l k).find? (fun c => decide (0 < waitsOf l D c)) = some d := by
    cases hd : (aheadOf l k).find? (fun c => decide (0 < waitsOf l D c)) with
    | some d => exact ⟨d, rfl⟩
    | none =>
      have := List.find?_eq_none.1 hd c (mem_ahead.2 hc)
      simp [hcw] at this
  obtain ⟨d, hd⟩ := hf
  have h1 := List.find?_some hd
  have h2 := mem_ahead.1 (List.mem_of_find?_eq_some hd)
  have e : holdOf l (waitsOf l D) k = d := by rw [holdOf, hd]; rfl
  rw [e]
  exact ⟨h2, by simpa using h1, (tied_lt h2).1⟩

def it (f : Nat → Nat) : Nat → Nat → Nat
  | 0, x => x
  | m + 1, x => f (it f m x)

theorem it_add (f : Nat → Nat) (a : Nat) : ∀ (b x : Nat), it f b (it f a x) = it f (b + a) x
  | 0, x => by simp [it]
  | b + 1, x => by rw [show b + 1 + a = (b + a) + 1 by omega, it, it, it_add f a b x]

/-- whoever goes on among n numbers has been there before. -/
theorem it_ring {f : Nat → Nat} {n x : Nat} (h : ∀ m, it f m x < n) : ∃ p, 1 ≤ p ∧ p ≤ n ∧ it f p (it f n x) = it f n x := by
  have hnot : ¬ ((List.range (n + 1)).map fun m => it f m x).Nodup := by
    intro hn
    have := nodup_le n _ hn (fun y hy => by
      obtain ⟨m, _, rfl⟩ := List.mem_map.1 hy
      exact h m)
    simp at this
    omega
  have : ∃ i j, i < j ∧ j ≤ n ∧ it f i x = it f j x := by
    rcases Classical.em (∃ i j, i < j ∧ j ≤ n ∧ it f i x = it f j x) with h1 | h1
    · exact h1
    · refine absurd ?_ hnot
      rw [List.Nodup, List.pairwise_map]
      refine List.pairwise_iff_getElem.2 (fun i j hi hj hij e => h1 ⟨i, j, hij, ?_, ?_⟩)
      · simp at hj; omega
      · simpa using e
  obtain ⟨i, j, hij, hjn, e⟩ := this
  refine ⟨j - i, by omega, by omega, ?_⟩
  have e1 : it f n x = it f (n - i) (it f i x) := by rw [it_add]; congr 1; omega
  have e2 : it f (j - i) (it f n x) = it f (n - i) (it f j x) := by rw [it_add, it_add]; congr 1; omega
  rw [e2, ← e, ← e1]

theorem hold_it {l : List Sp} {D : List Nat} (h : Srt l D []) {k : Nat} (hk : k < l.length) (hw : 0 < waitsOf l D k) :
    ∀ m, it (holdOf l (waitsOf l D)) m k < l.length ∧ 0 < waitsOf l D (it (holdOf l (waitsOf l D)) m k) ∧ (1 ≤ m → ∃ i, tied l (it (holdOf l (waitsOf l D)) m k) i = true)
  | 0 => ⟨hk, hw, fun h => by omega⟩
  | m + 1 => by
    obtain ⟨h1, h2, _⟩ := hold_it h hk hw m
    obtain ⟨h3, h4, h5⟩ := hold_spec h h1 h2
    exact ⟨h5, h4, fun _ => ⟨_, h3⟩⟩

/-! ### one Copy less -/
def broken (l : List Sp) (k : Nat) (s : Sp) : List Sp := l.set k ⟨s.t, s.n, none⟩

theorem broken_tiles : ∀ (l : List Sp) (k : Nat) (s : Sp) (a b : Nat), l[k]? = some s → tiles a l b → tiles a (broken l k s) b
  | [], _, _, _, _, h, _ => by simp at h
  | x :: r, 0, s, a, b, h, ht => by
    simp only [List.getElem?_cons_zero, Option.some.injEq] at h
    subst h
    exact ht
  | x :: r, k + 1, s, a, b, h, ht => ⟨ht.1, ht.2.1, broken_tiles r k s _ b (by simpa using h) ht.2.2⟩

theorem broken_mem {l : List Sp} {k : Nat} {s x : Sp} (h : x ∈ broken l k s) : x ∈ l ∨ x = ⟨s.t, s.n, none⟩ := by
  obtain ⟨i, hi⟩ := List.mem_iff_getElem?.1 h
  unfold broken at hi
  rw [List.getElem?_set] at hi
  split at hi
  · split at hi
    · simp only [Option.some.injEq] at hi; exact .inr hi.symm
    · cases hi
  · exact .inl (List.mem_of_getElem? hi)

theorem broken_inAdd {l : List Sp} {k : Nat} {s : Sp} {i : Nat} (hk : l[k]? = some s) (h : inAdd l i) : inAdd (broken l k s) i := by
  obtain ⟨x, hx, h1, h2⟩ := h
  obtain ⟨p, hp⟩ := List.mem_iff_getElem?.1 hx
  by_cases hpk : k = p
  · subst hpk
    rw [hk] at hp
    simp only [Option.some.injEq] at hp
    subst hp
    refine ⟨⟨s.t, s.n, none⟩, ?_, rfl, h2⟩
    refine List.mem_of_getElem? (i := k) ?_
    unfold broken
    rw [List.getElem?_set_self (List.getElem?_eq_some_iff.1 hk).1]
  · refine ⟨x, ?_, h1, h2⟩
    refine List.mem_of_getElem? (i := p) ?_
    unfold broken
    rw [List.getElem?_set_ne hpk]; exact hp

theorem broken_copies : ∀ (l : List Sp) (k : Nat) (s : Sp) (f : Nat), l[k]? = some s → s.src = some f → copies (broken l k s) + 1 = copies l
  | [], _, _, _, h, _ => by simp at h
  | x :: r, 0, s, f, h, hf => by
    simp only [List.getElem?_cons_zero, Option.some.injEq] at h
    subst h
    simp [broken, copies, hf]
  | x :: r, k + 1, s, f, h, hf => by
    have ih := broken_copies r k s f (by simpa using h) hf
    simp only [broken, copies, List.set_cons_succ, List.countP_cons] at ih ⊢
    omega

theorem good_next {old next : ByteArray} {l : List Sp} {k : Nat} {s : Sp} (h : Good old next l) (hk : l[k]? = some s) : Good old next (joined (broken l k s)) := by
  have ht := broken_tiles l k s _ _ hk h.tile
  have hf : ∀ x ∈ broken l k s, fits old next x := fun x hx => by
    rcases broken_mem hx with hx | rfl
    · exact h.fit x hx
    · intro f hf; simp at hf
  obtain ⟨⟨b, h1, h2, _⟩, h3, h4, h5, _, _⟩ := joined_spec old next (broken l k s) [] next.size (by rw [List.append_nil]; exact ht) hf
  have h2 : b = next.size := h2
  subst h2
  exact ⟨h1, h3, h4, fun i hi1 hi2 hp hne => h5 i (broken_inAdd hk (h.first i hi1 hi2 hp hne))⟩

theorem copies_next {old next : ByteArray} {l : List Sp} {k f : Nat} {s : Sp} (h : Good old next l) (hk : l[k]? = some s) (hs : s.src = some f) : copies (joined (broken l k s)) + 1 = copies l := by
  have ht := broken_tiles l k s _ _ hk h.tile
  have hf : ∀ x ∈ broken l k s, fits old next x := fun x hx => by
    rcases broken_mem hx with hx | rfl
    · exact h.fit x hx
    · intro f hf; simp at hf
  obtain ⟨_, _, _, _, _, h6⟩ := joined_spec old next (broken l k s) [] next.size (by rw [List.append_nil]; exact ht) hf
  rw [h6]
  exact broken_copies l k s f hk hs

theorem good_length {old next : ByteArray} {l : List Sp} (h : Good old next l) : l.length ≤ next.size := by
  have : ∀ (l : List Sp) (a b : Nat), tiles a l b → a + l.length ≤ b := by
    intro l
    induction l with
    | nil => intro a b h; have h : a = b := h; simp [h]
    | cons s r ih => intro a b h; have := ih _ _ h.2.2; have := h.2.1; simp; omega
  have := this l 0 next.size h.tile
  omega

/-! ### the sorted list -/
def noSp : Sp := ⟨0, 0, none⟩
def picked (l : List Sp) (D : List Nat) : List Sp := D.map fun i => l.getD i noSp

theorem picked_range (l : List Sp) : picked l (List.range l.length) = l := by
  apply List.ext_getElem
  · simp [picked]
  · intro i h1 h2
    simp [picked, h2]

/-- the steps of a made patch in the order in which they are done. -/
structure Sorted (l M : List Sp) : Prop where
  perm : M.Perm l
  apart : ∀ (p q : Nat) (a b : Sp), M[p]? = some a → M[q]? = some b → p ≠ q → a.t + a.n ≤ b.t ∨ b.t + b.n ≤ a.t
  order : ∀ (p q : Nat) (a b : Sp) (f : Nat), M[p]? = some a → M[q]? = some b → p < q → b.src = some f → f + b.n ≤ a.t ∨ a.t + a.n ≤ f

theorem sorted_of {l : List Sp} {D : List Nat} {c : Nat} (ht : tiles 0 l c) (h : Srt l D []) (hl : D.length = l.length) : Sorted l (picked l D) := by
  have hnd : D.Nodup := by have := h.nd; rwa [List.append_nil] at this
  have hlt : ∀ i ∈ D, i < l.length := fun i hi => h.lt i (by rw [List.append_nil]; exact hi)
  have hp := nodup_perm hnd hlt hl
  have hget : ∀ (p : Nat) (a : Sp), (picked l D)[p]? = some a → ∃ i, D[p]? = some i ∧ l[i]? = some a := by
    intro p a ha
    rw [picked, List.getElem?_map] at ha
    cases hi : D[p]? with
    | none => rw [hi] at ha; cases ha
    | some i =>
      rw [hi] at ha
      simp only [Option.map_some, Option.some.injEq] at ha
      have hil := hlt i (List.mem_of_getElem? hi)
      refine ⟨i, rfl, ?_⟩
      rw [← ha, List.getD_eq_getElem?_getD, List.getElem?_eq_getElem hil]; rfl
  have hinj : ∀ (p q i : Nat), D[p]? = some i → D[q]? = some i → p = q := by
    intro p q i hpi hqi
    obtain ⟨h1, e1⟩ := List.getElem?_eq_some_iff.1 hpi
    obtain ⟨h2, e2⟩ := List.getElem?_eq_some_iff.1 hqi
    rcases Nat.lt_trichotomy p q with hlt | he | hgt
    · exact absurd (e1.trans e2.symm) (List.pairwise_iff_getElem.1 hnd p q h1 h2 hlt)
    · exact he
    · exact absurd (e2.trans e1.symm) (List.pairwise_iff_getElem.1 hnd q p h2 h1 hgt)
  refine ⟨?_, fun p q a b ha hb hpq => ?_, fun p q a b f ha hb hpq hf => ?_⟩
  · have := hp.map (fun i => l.getD i noSp)
    have e := picked_range l
    unfold picked at e
    rw [e] at this
    exact this
  · obtain ⟨i, hi, hai⟩ := hget p a ha
    obtain ⟨j, hj, hbj⟩ := hget q b hb
    rcases Nat.lt_trichotomy i j with hij | hij | hij
    · exact .inl (tiles_lt l 0 c ht i j a b hai hbj hij)
    · subst hij; exact absurd (hinj p q i hi hj) hpq
    · exact .inr (tiles_lt l 0 c ht j i b a hbj hai hij)
  · obtain ⟨i, hi, hai⟩ := hget p a ha
    obtain ⟨j, hj, hbj⟩ := hget q b hb
    have hne : i ≠ j := fun e => by subst e; have := hinj p q i hi hj; omega
    rcases Classical.em (f + b.n ≤ a.t ∨ a.t + a.n ≤ f) with h1 | h1
    · exact h1
    · exfalso
      have htd : tied l j i = true := by
        rw [tied_iff hbj hai hf, decide_eq_true_eq]
        exact ⟨hne, by omega, by omega⟩
      have hm := h.ord p i hi j htd
      obtain ⟨r, hr⟩ := List.mem_iff_getElem?.1 hm
      rw [List.getElem?_take] at hr
      split at hr
      · next hrp => have := hinj r q j hr hj; omega
      · cases hr

/-! ### a plan may be -/
theorem form_of {ol nl : Int} : ∀ (r pre : List St), (∀ s ∈ r, ok ol nl s = true) → (∀ (p q : Nat) (a b : St), (pre ++ r)[p]? = some a → (pre ++ r)[q]? = some b → p ≠ q → a.t + a.n ≤ b.t ∨ b.t + b.n ≤ a.t) → total (pre ++ r) = nl → form ol nl pre r = true
  | [], pre, _, _, ht => by rw [List.append_nil] at ht; simp [form, ht]
  | s :: r, pre, hok, hap, ht => by
    have e : pre ++ s :: r = (pre ++ [s]) ++ r := by simp
    rw [form, Bool.and_eq_true, Bool.and_eq_true]
    refine ⟨⟨hok s (by simp), ?_⟩, form_of r (pre ++ [s]) (fun x hx => hok x (by simp [hx])) (by rw [← e]; exact hap) (by rw [← e]; exact ht)⟩
    rw [free, List.all_eq_true]
    intro x hx
    obtain ⟨p, hp⟩ := List.mem_iff_getElem?.1 hx
    have hpl := (List.getElem?_eq_some_iff.1 hp).1
    have := hap pre.length p s x (by simp) (by rw [List.getElem?_append_left hpl]; exact hp) (by omega)
    simpa using this

theorem ord_of : ∀ (r pre : List St), (∀ (p q : Nat) (a b : St), (pre ++ r)[p]? = some a → (pre ++ r)[q]? = some b → p < q → b.k = 3 → b.f + b.n ≤ a.t ∨ a.t + a.n ≤ b.f) → ord pre r = true
  | [], _, _ => rfl
  | s :: r, pre, h => by
    have e : pre ++ s :: r = (pre ++ [s]) ++ r := by simp
    rw [ord, Bool.and_eq_true]
    refine ⟨?_, ord_of r (pre ++ [s]) (by rw [← e]; exact h)⟩
    rw [Bool.or_eq_true, Bool.not_eq_true', decide_eq_false_iff_not]
    rcases Classical.em (s.k = 3) with hk | hk
    · right
      rw [free, List.all_eq_true]
      intro x hx
      obtain ⟨p, hp⟩ := List.mem_iff_getElem?.1 hx
      have hpl := (List.getElem?_eq_some_iff.1 hp).1
      have := h p pre.length x s (by rw [List.getElem?_append_left hpl]; exact hp) (by simp) hpl hk
      simpa using this
    · exact .inl hk

theorem st_t (n : ByteArray) (s : Sp) : (s.st n).t = s.t := by unfold Sp.st; cases s.src <;> rfl
theorem st_n (n : ByteArray) (s : Sp) : (s.st n).n = s.n := by unfold Sp.st; cases s.src <;> rfl
theorem st_copy {n : ByteArray} {s : Sp} (h : (s.st n).k = 3) : ∃ f, s.src = some f ∧ (s.st n).f = (f : Int) := by
  unfold Sp.st at h ⊢
  cases hs : s.src with
  | none => simp only [hs] at h; cases h
  | some f => exact ⟨f, rfl, rfl⟩

theorem total_st (n : ByteArray) : ∀ (l : List Sp), total (l.map (Sp.st n)) = (sizes l : Int)
  | [] => rfl
  | s :: l => by
    have ih := total_st n l
    simp only [total, List.map_cons, List.sum_cons, sizes] at ih ⊢
    rw [ih, st_n]; omega

theorem sizes_perm {a b : List Sp} (h : a.Perm b) : sizes a = sizes b := by
  unfold sizes
  exact (h.map Sp.n).sum_nat

theorem ok_st {old next : ByteArray} {l : List Sp} (h : Good old next l) {s : Sp} (hs : s ∈ l) : ok old.size next.size (s.st next) = true := by
  obtain ⟨_, h2, h3⟩ := tiles_mem l 0 next.size h.tile s hs
  have hf := h.fit s hs
  rw [ok, decide_eq_true_eq, st_n, st_t]
  refine ⟨by omega, ⟨by omega, by omega, by omega⟩, ?_⟩
  cases hsrc : s.src with
  | none =>
    left
    refine ⟨by unfold Sp.st; rw [hsrc]; rfl, ?_, by unfold Sp.st; rw [hsrc]; rfl⟩
    have : (s.st next).d = next.extract s.t (s.t + s.n) := by unfold Sp.st; rw [hsrc]; rfl
    rw [this, ByteArray.size_extract]
    omega
  | some f =>
    right
    obtain ⟨_, h5, _⟩ := hf f hsrc
    have e : (s.st next).f = (f : Int) := by unfold Sp.st; rw [hsrc]; rfl
    refine ⟨by unfold Sp.st; rw [hsrc]; rfl, by unfold Sp.st; rw [hsrc]; rfl, ?_⟩
    rw [e]
    omega

theorem full_st {old next : ByteArray} {l M : List Sp} {os ns : ByteArray} (h : Good old next l) (hM : Sorted l M) (ho : old.size ≤ 4000) (hn : next.size ≤ 4000) (hos : os.size = 4) (hns : ns.size = 4) (hlen : l.length ≤ 2000) :
    full old.size next.size os ns (M.map (Sp.st next)) = true ∧ ord [] (M.map (Sp.st next)) = true := by
  have hget : ∀ (p : Nat) (x : St), (M.map (Sp.st next))[p]? = some x → ∃ s, M[p]? = some s ∧ x = s.st next := by
    intro p x hx
    rw [List.getElem?_map] at hx
    cases hs : M[p]? with
    | none => rw [hs] at hx; cases hx
    | some s =>
      rw [hs] at hx
      simp only [Option.map_some, Option.some.injEq] at hx
      exact ⟨s, rfl, hx.symm⟩
  constructor
  · rw [full_yes (by omega) (by omega) hos hns (by rw [List.length_map, hM.perm.length_eq]; exact hlen), List.take_zero, List.drop_zero]
    refine form_of _ [] (fun x hx => ?_) (fun p q a b ha hb hpq => ?_) ?_
    · obtain ⟨s, hs, rfl⟩ := List.mem_map.1 hx
      exact ok_st h (hM.perm.subset hs)
    · rw [List.nil_append] at ha hb
      obtain ⟨s, hs, rfl⟩ := hget p a ha
      obtain ⟨r, hr, rfl⟩ := hget q b hb
      have := hM.apart p q s r hs hr hpq
      rw [st_t, st_t, st_n, st_n]
      omega
    · rw [List.nil_append, total_st, sizes_perm hM.perm]
      have := tiles_sizes l 0 next.size h.tile
      omega
  · refine ord_of _ [] (fun p q a b ha hb hpq hk => ?_)
    rw [List.nil_append] at ha hb
    obtain ⟨s, hs, rfl⟩ := hget p a ha
    obtain ⟨r, hr, rfl⟩ := hget q b hb
    obtain ⟨f, hf, e⟩ := st_copy hk
    have := hM.order p q s r f hs hr hpq hf
    rw [e, st_t, st_n, st_n]
    omega

end Pl
