/-
  The walks of the law's lists of states: add, likely.
-/
import Derived.Test.YtjjmcnippjpclaaDoesFns
import Derived.Test.YtjjmcnippjpclaaKeep
import Derived.Laws.StructEq
import Derived.Deep.DeepAppendWide
namespace Go.Proofs.Ytjjmcnippjpclaa

open Go.RowKit

/-- Behind an append onto a row of one's own either no elder block has changed, or the row had room and the new slice lies in it. -/
theorem run_append_keepW {P : Program} (w : World) (base : Nat) (t ty e : TypeId) (i : TypeInfo) (z : Value) (size bytes : Nat) (ht : P.underlying t = some (.slice e)) (hi : P.info? e = some i) (hz : i.zero = some z)
    (hsize : i.size = size) (hby : i.bytes = bytes) (hzs : z.cells.size = size) (hsz : 0 < size)
    (v : Value) (n : Nat) (xs : List Value) (hown : w.ownsRow base e size v n xs)
    (a : Addr) (m c : Nat) (news : List Value) (hl : news.length = m * size) (hnews : ∀ j u, news[j]? = some u → w.cell? (a.add j) = some u) (h1 : ∀ u ∈ news, u.oneCell' = true)
    (hm : 0 < m) (h63 : n + m ≤ maxLen) (hbytes : ((n + m) + (n + m) / 4 + 192) * bytes ≤ 281474976710656) (hbase : base ≤ w.heap.size) :
    ∃ v' w', (Builtin.append_ #[t, t] ty #[v, .slice (some a) m c]).run P w = .ok v' w' ∧ w'.ownsRow base e size v' (n + m) (xs ++ news) ∧ w.grownBy w' v.ownBlock ∧
      (((∀ k, k < w.heap.size → w'.heap[k]? = w.heap[k]?) ∧ v'.ownBlock = some w.heap.size) ∨ ∃ g, v.ownBlock = some g ∧ v'.ownBlock = some g) := by
  obtain ⟨v', w', hr, h2, h3, _⟩ := run_append_own_wide (P := P) w base t ty e i z size bytes ht hi hz hsize hby hzs hsz v n xs hown a m c news hl hnews h1 h63 hbytes hbase
  refine ⟨v', w', hr, h2, h3, ?_⟩
  have hsmall : n + m ≤ 9223372036854775807 := by simp only [maxLen] at h63; omega
  subst hsize
  subst hby
  rcases hown.2 with ⟨rfl, rfl⟩ | ⟨g, cap, cur, rfl, hbg, hg, hnc, hcm, hcs, htake⟩
  · left
    have hr2 := run_append_nil (P := P) w t ty e i z ht hi hz a m c news hl hnews (by omega) (by omega) (by have hb := hbytes; simp only [Nat.zero_add] at hb; exact Nat.le_trans (Nat.mul_le_mul_right _ (by omega)) hb)
    rw [hr2] at hr
    injection hr with hv hw
    subst hv hw
    exact ⟨fun k hk => Below.heap_alloc w.drew _ k hk, rfl⟩
  · by_cases hroom : n + m ≤ cap
    · right
      have hfit : n * i.size + news.length ≤ cur.size := by rw [hl, hcs, ← Nat.add_mul]; exact Nat.mul_le_mul_right _ hroom
      have hr2 := run_append_room (P := P) w t ty e i ht hi g n cap cur hg a m c news hl hnews h1 hroom hfit
      rw [hr2] at hr
      injection hr with hv _
      subst hv
      exact ⟨g, rfl, rfl⟩
    · left
      have holds : ∀ j u, xs[j]? = some u → w.cell? ((⟨g, 0, none⟩ : Addr).add j) = some u := hown.cells (g := g) rfl
      have hr2 := run_append_grow (P := P) w t ty e i z ht hi hz ⟨g, 0, none⟩ n cap xs hown.1 holds a m c news hl hnews (by omega) (by omega) (growslice_fits_wide (by omega) hbytes)
      rw [hr2] at hr
      injection hr with hv hw
      subst hv hw
      exact ⟨fun k hk => Below.heap_alloc w.drew _ k hk, rfl⟩

theorem wpList_append_keepW {P : Program} (w : World) {ops : Array Oper} {rest : List Oper} {o : Oper} {a : Act} {Q : Exit → Act → World → Prop} (hgd : o.guard = none) (s x : Operand) (t : TypeId)
    (ho : o.op = .call { callee := .builtin .append, args := #[s, x], argTypes := #[t, t] })
    (base : Nat) (e : TypeId) (i : TypeInfo) (z : Value) (size bytes : Nat) (ht : P.underlying t = some (.slice e)) (hi : P.info? e = some i) (hz : i.zero = some z)
    (hsize : i.size = size) (hby : i.bytes = bytes) (hzs : z.cells.size = size) (hsz : 0 < size)
    (v : Value) (n : Nat) (xs : List Value) (hs : a.eval s = v) (hown : w.ownsRow base e size v n xs)
    (ad : Addr) (m c : Nat) (news : List Value) (hx : a.eval x = .slice (some ad) m c) (hl : news.length = m * size) (hnews : ∀ j u, news[j]? = some u → w.cell? (ad.add j) = some u) (h1 : ∀ u ∈ news, u.oneCell' = true)
    (hm : 0 < m) (h63 : n + m ≤ maxLen) (hbytes : ((n + m) + (n + m) / 4 + 192) * bytes ≤ 281474976710656) (hbase : base ≤ w.heap.size)
    (h : ∀ v' w', w'.ownsRow base e size v' (n + m) (xs ++ news) → w.grownBy w' v.ownBlock → (((∀ k, k < w.heap.size → w'.heap[k]? = w.heap[k]?) ∧ v'.ownBlock = some w.heap.size) ∨ ∃ g, v.ownBlock = some g ∧ v'.ownBlock = some g) → wpList P ops Q rest (a.put o.dst v') w') : wpList P ops Q (o :: rest) a w :=
  wpList_plain hgd fun K hK => by
    obtain ⟨v', w', hr, h2, h3, h4⟩ := run_append_keepW (P := P) w base t o.type e i z size bytes ht hi hz hsize hby hzs hsz v n xs hown ad m c news hl hnews h1 hm h63 hbytes hbase
    unfold Oper.wp execOp
    simp only [ho, resolve, invoke, builtin, Sem.run_bind, Sem.run_pure, Result.andThen_ok, List.map_toArray, List.map_cons, List.map_nil, hs, hx, hr]
    exact hK _ _ (h v' w' h2 h3 h4)

def lsCells (S : List Ls) : List Value := S.flatMap fun s => [.string ⟨s.patch.toArray⟩, .string ⟨s.want.toArray⟩, .bool s.done]

theorem lsCells_length (S : List Ls) : (lsCells S).length = S.length * 3 := by
  induction S with
  | nil => rfl
  | cons s S ih => simp only [lsCells, List.flatMap_cons, List.length_append, List.length_cons, List.length_nil] at *; omega

theorem lsCells_snoc (S : List Ls) (s : Ls) : lsCells (S ++ [s]) = lsCells S ++ [.string ⟨s.patch.toArray⟩, .string ⟨s.want.toArray⟩, .bool s.done] := by simp [lsCells]

theorem lsCells_at : ∀ (S : List Ls) (i : Nat) (s : Ls), S[i]? = some s → (lsCells S)[i * 3]? = some (.string ⟨s.patch.toArray⟩) ∧ (lsCells S)[i * 3 + 1]? = some (.string ⟨s.want.toArray⟩) ∧ (lsCells S)[i * 3 + 2]? = some (.bool s.done)
  | [], i, s, h => by simp at h
  | q :: S, 0, s, h => by
    simp at h
    subst h
    exact ⟨rfl, rfl, rfl⟩
  | q :: S, i + 1, s, h => by
    have ih := lsCells_at S i s (by simpa using h)
    have e : lsCells (q :: S) = [.string ⟨q.patch.toArray⟩, .string ⟨q.want.toArray⟩, .bool q.done] ++ lsCells S := rfl
    have l3 : ([.string ⟨q.patch.toArray⟩, .string ⟨q.want.toArray⟩, .bool q.done] : List Value).length = 3 := rfl
    rw [e]
    refine ⟨?_, ?_, ?_⟩
    · rw [List.getElem?_append_right (by omega), l3, show (i + 1) * 3 - 3 = i * 3 by omega]; exact ih.1
    · rw [List.getElem?_append_right (by omega), l3, show (i + 1) * 3 + 1 - 3 = i * 3 + 1 by omega]; exact ih.2.1
    · rw [List.getElem?_append_right (by omega), l3, show (i + 1) * 3 + 2 - 3 = i * 3 + 2 by omega]; exact ih.2.2

/-- a list of states in memory. -/
def stRow (w : World) (v : Value) (S : List Ls) : Prop := w.ownsRow 0 54 3 v S.length (lsCells S) ∧ S.Nodup

theorem stRow_nil (w : World) : stRow w (.slice none 0 0) [] := ⟨World.ownsRow_nil _ _ _ _, .nil⟩

theorem nodup_snoc {S : List Ls} {s : Ls} (h : S.Nodup) (hs : s ∉ S) : (S ++ [s]).Nodup := by
  refine List.pairwise_append.2 ⟨h, .cons (fun _ h => by cases h) .nil, fun a ha b hb e => ?_⟩
  rw [List.mem_singleton.1 hb] at e
  exact hs (e ▸ ha)

theorem stRow.form {w : World} {v : Value} {S : List Ls} (h : stRow w v S) : (v = .slice none 0 0 ∧ S = []) ∨ ∃ g cap, v = .slice (some ⟨g, 0, none⟩) S.length cap ∧ g < w.heap.size ∧ ∀ i s, S[i]? = some s → w.cell? ⟨g, i * 3, none⟩ = some (.string ⟨s.patch.toArray⟩) ∧ w.cell? ⟨g, i * 3 + 1, none⟩ = some (.string ⟨s.want.toArray⟩) ∧ w.cell? ⟨g, i * 3 + 2, none⟩ = some (.bool s.done) := by
  rcases h.1.2 with ⟨h1, h2⟩ | ⟨g, cap, cur, h1, _, h2, _, _, _, h6⟩
  · exact .inl ⟨h1, List.eq_nil_of_length_eq_zero h2⟩
  · refine .inr ⟨g, cap, h1, lt_of_heap h2, fun i s hi => ?_⟩
    obtain ⟨a1, a2, a3⟩ := lsCells_at S i s hi
    have hil : i < S.length := (List.getElem?_eq_some_iff.1 hi).1
    have hc : ∀ j u, j < S.length * 3 → (lsCells S)[j]? = some u → w.cell? ⟨g, j, none⟩ = some u := fun j u hj hu => by
      rw [Lib.cell_of_heap h2]
      rw [← h6, List.getElem?_take_of_lt hj] at hu
      simpa using hu
    exact ⟨hc _ _ (by omega) a1, hc _ _ (by omega) a2, hc _ _ (by omega) a3⟩

theorem stRow.of_block {w w' : World} {v : Value} {S : List Ls} (h : stRow w v S) (hk : ∀ k, v.ownBlock = some k → w'.heap[k]? = w.heap[k]?) : stRow w' v S := by
  obtain ⟨⟨h1, h2⟩, h3⟩ := h
  refine ⟨⟨h1, ?_⟩, h3⟩
  rcases h2 with h2 | ⟨g, cap, cur, rfl, hb, hg, rest⟩
  · exact .inl h2
  · exact .inr ⟨g, cap, cur, rfl, hb, by rw [hk g rfl]; exact hg, rest⟩

theorem stRow.lt {w : World} {v : Value} {S : List Ls} (h : stRow w v S) {k : Nat} (hk : v.ownBlock = some k) : k < w.heap.size := (World.ownsRow.lt h.1 k hk).2

/-- what a step on a list leaves as it was: all but the list's own block. -/
structure rowStep (v v' : Value) (w w' : World) : Prop where
  grown : w.grownBy w' v.ownBlock
  own : v'.ownBlock = v.ownBlock ∨ ∃ g, v'.ownBlock = some g ∧ w.heap.size ≤ g

theorem rowStep.refl (v : Value) (w : World) : rowStep v v w w := ⟨grown_refl _ _, .inl rfl⟩

theorem rowStep.trans {v v' v'' : Value} {a b c : World} (h : rowStep v v' a b) (k : rowStep v' v'' b c) : rowStep v v'' a c := by
  refine ⟨⟨k.grown.os.trans h.grown.os, k.grown.tape.trans h.grown.tape, k.grown.output.trans h.grown.output, Nat.le_trans h.grown.size k.grown.size, fun i hi hn => ?_⟩, ?_⟩
  · rw [k.grown.block i (Nat.lt_of_lt_of_le hi h.grown.size) ?_, h.grown.block i hi hn]
    rcases h.own with e | ⟨g, e, hg⟩
    · rw [e]; exact hn
    · rw [e]; intro e2; have : i = g := Option.some.inj e2; omega
  · rcases k.own with e | ⟨g, e, hg⟩
    · rw [e]
      rcases h.own with e2 | ⟨g, e2, hg⟩
      · exact .inl e2
      · exact .inr ⟨g, e2, hg⟩
    · exact .inr ⟨g, e, Nat.le_trans h.grown.size hg⟩

theorem rowStep.below {v : Value} {a b : World} (h : Below a.heap.size a b) : rowStep v v a b := ⟨⟨h.os, h.tape, h.output, h.size, fun k hk _ => h.block k hk⟩, .inl rfl⟩

theorem info54 : (Try.prog.info? 54).map (fun i => (i.zero, i.size, i.bytes)) = some (some (.agg #[.string ⟨#[]⟩, .string ⟨#[]⟩, .bool false]), 3, 40) := by kernel_rfl

theorem eqBytes (a b : ByteArray) : (a.toList == b.toList) = decide (a = b) := by
  by_cases h : a = b
  · rw [decide_eq_true h]; exact beq_of h
  · rw [decide_eq_false h]; exact bne_of h

theorem eqSt (a b c d : ByteArray) (e f : Bool) (w : World) : (Op.equalIn 10000 54 (.agg #[.string a, .string b, .bool e]) (.agg #[.string c, .string d, .bool f])).run Try.prog w = .ok (decide (a = c ∧ b = d ∧ e = f)) w := by
  have hS : Try.prog.underlying 54 = some (.struct (Try.prog.fieldsOf 54)) := by kernel_rfl
  have hp : Try.prog.stoodInHeld 54 = false := by kernel_rfl
  have u9 := Try.underlying9
  have u4 := Try.underlying4
  rw [show (10000 : Nat) = 9999 + 1 from rfl, run_equalIn_agg w 9999 54 _ _ hS hp]
  simp only [Program.fieldsOf, Try.underlying54]
  go_simp
  have e1 : (a.toList = c.toList) ↔ a = c := ⟨fun h => Classical.byContradiction fun hn => bytes_ne' hn h, fun h => by rw [h]⟩
  have e2 : (b.toList = d.toList) ↔ b = d := ⟨fun h => Classical.byContradiction fun hn => bytes_ne' hn h, fun h => by rw [h]⟩
  by_cases h1 : a = c <;> by_cases h2 : b = d <;> by_cases h3 : e = f <;> simp [e1, e2, h1, h2, h3]

set_option maxRecDepth 100000 in
set_option maxHeartbeats 1000000 in
theorem add_any (v : Value) (S : List Ls) (p n : ByteArray) (d : Bool) (w : World) (hS : S.length ≤ 4500000000000) (h : Hid (stRow w v S)) :
    Calls Try.prog 114 #[v, .agg #[.string p, .string n, .bool d]] w fun e w' => ∃ v' S', e = .returned v' ∧ stRow w' v' S' ∧ (∀ a, a ∈ S' ↔ a ∈ S ∨ a = ⟨p.data.toList, n.data.toList, d⟩) ∧ S'.length ≤ S.length + 1 ∧ rowStep v v' w w' := by
  obtain ⟨a, c, rfl⟩ : ∃ a c, v = .slice a S.length c := by
    rcases h.out.form with ⟨h1, rfl⟩ | ⟨g, cap, h1, _⟩
    · exact ⟨_, _, h1⟩
    · exact ⟨_, _, h1⟩
  have b0 := (Below.refl w.heap.size w).alloc (Nat.le_refl _) (Obj.cells #[.string p, .string n, .bool d] 54)
  have H0 : Hid (stRow (w.alloc (Obj.cells #[.string p, .string n, .bool d] 54)) (.slice a S.length c) S) := h.out.of_block fun k hk => b0.block k (h.out.lt hk)
  have B0 : Hid (Below w.heap.size w (w.alloc (Obj.cells #[.string p, .string n, .bool d] 54))) := b0
  have q0 := heap_alloc_new w (Obj.cells #[.string p, .string n, .bool d] 54)
  generalize hv0 : w.alloc (Obj.cells #[.string p, .string n, .bool d] 54) = v0 at *
  have k0 : v0.cell? ⟨w.heap.size, 0, none⟩ = some (.string p) := by rw [Lib.cell_of_heap q0]; rfl
  have k1 : v0.cell? ⟨w.heap.size, 1, none⟩ = some (.string n) := by rw [Lib.cell_of_heap q0]; rfl
  have k2 : v0.cell? ⟨w.heap.size, 2, none⟩ = some (.bool d) := by rw [Lib.cell_of_heap q0]; rfl
  have hs0 : w.heap.size < v0.heap.size := lt_of_heap q0
  clear b0 q0
  go_enter Try.func114, Try.ntmps114
  go_wp2_with fail
  go_loopw [5] (fun x wr => ∃ i q : Nat, x = .int .i64 i ∧ i ≤ S.length ∧ wr = v0.drewN q ∧ Hid (∀ j s, j < i → S[j]? = some s → s ≠ ⟨p.data.toList, n.data.toList, d⟩)) (fun x _ => S.length - (intOf x).toNat)
  case atStart => exact ⟨0, 0, rfl, Nat.zero_le _, rfl, fun j _ hj => absurd hj (Nat.not_lt_zero _)⟩
  case round =>
    obtain ⟨i, q, rfl, hi, rfl, hno⟩ := hrel
    by_cases hlt : i < S.length
    · obtain ⟨s, hs⟩ : ∃ s, S[i]? = some s := ⟨S[i], List.getElem?_eq_getElem hlt⟩
      obtain ⟨g, ha, e0, e1, e2⟩ : ∃ g, a = some ⟨g, 0, none⟩ ∧ v0.cell? ⟨g, i * 3, none⟩ = some (.string ⟨s.patch.toArray⟩) ∧ v0.cell? ⟨g, i * 3 + 1, none⟩ = some (.string ⟨s.want.toArray⟩) ∧ v0.cell? ⟨g, i * 3 + 2, none⟩ = some (.bool s.done) := by
        rcases H0.out.form with ⟨h1, rfl⟩ | ⟨g, cap, h1, _, hc⟩
        · simp at hlt
        · simp at h1
          exact ⟨g, h1.1, hc i s hs⟩
      subst ha
      have HS : Hid (S[i]? = some s) := hs
      clear hs
      have hi0 : (i : Int) < (S.length : Int) := by omega
      have hgd : Try.prog.eqGuardType Try.prog.depth 54 = false := by kernel_rfl
      by_cases hx : s = ⟨p.data.toList, n.data.toList, d⟩
      · have heq : ∀ w, (Op.equalIn 10000 54 (.agg #[.string ⟨s.patch.toArray⟩, .string ⟨s.want.toArray⟩, .bool s.done]) (.agg #[.string p, .string n, .bool d])).run Try.prog w = .ok true w := fun w => by
          rw [eqSt, decide_eq_true ⟨by rw [hx], by rw [hx], by rw [hx]⟩]
        have HX : Hid (s = ⟨p.data.toList, n.data.toList, d⟩) := hx
        clear hx
        go_wp2_with fail
        go_quiet (fail)
        go_wp2_with fail
        go_ret
        refine ⟨_, S, rfl, H0.out.of_block fun k hk => rfl, fun a => ⟨fun h => .inl h, fun h => ?_⟩, Nat.le_succ _, .below (below_drewN (below_drewN B0.out _) _)⟩
        rcases h with h | h
        · exact h
        · rw [h, ← HX.out]; exact List.mem_of_getElem? HS.out
      · have heq : ∀ w, (Op.equalIn 10000 54 (.agg #[.string ⟨s.patch.toArray⟩, .string ⟨s.want.toArray⟩, .bool s.done]) (.agg #[.string p, .string n, .bool d])).run Try.prog w = .ok false w := fun w => by
          rw [eqSt, decide_eq_false (fun h => hx ?_)]
          obtain ⟨h1, h2, h3⟩ := h
          cases s
          simp only [Ls.mk.injEq]
          exact ⟨by rw [← h1], by rw [← h2], h3⟩
        have HX : Hid (s ≠ ⟨p.data.toList, n.data.toList, d⟩) := hx
        clear hx
        go_wp2_with fail
        go_quiet (fail)
        go_wp2_with fail
        refine ⟨⟨i + 1, q + nq, by go_num, by omega, rfl, fun j t hj ht => ?_⟩, by simp [intOf]; omega⟩
        by_cases hji : j = i
        · rw [hji, HS.out] at ht
          rw [← Option.some.inj ht]; exact HX.out
        · exact hno.out j t (by omega) ht
    · have hi0 : ¬ (i : Int) < (S.length : Int) := by omega
      obtain ⟨i54, hi54, hzz⟩ := Option.map_eq_some_iff.1 info54
      simp only [Prod.mk.injEq] at hzz
      have HOW : Hid ((v0.drewN q).ownsRow 0 54 3 (.slice a S.length c) S.length (lsCells S)) := (H0.out.of_block (w' := v0.drewN q) fun k hk => rfl).1
      generalize hvq : v0.drewN q = vq at *
      have Bq : Hid (Below w.heap.size w vq) := by rw [← hvq]; exact below_drewN B0.out _
      have j0 : vq.cell? ⟨w.heap.size, 0, none⟩ = some (.string p) := by rw [← hvq]; exact k0
      have j1 : vq.cell? ⟨w.heap.size, 1, none⟩ = some (.string n) := by rw [← hvq]; exact k1
      have j2 : vq.cell? ⟨w.heap.size, 2, none⟩ = some (.bool d) := by rw [← hvq]; exact k2
      clear hvq k0 k1 k2
      go_wp2_with (at_builtin; refine wpList_append_keepW _ rfl _ _ 55 rfl 0 54 i54 (.agg #[.string ⟨#[]⟩, .string ⟨#[]⟩, .bool false]) 3 40 Try.underlying55 hi54 hzz.1 hzz.2.1 hzz.2.2 rfl (by decide) _ S.length (lsCells S) rfl (HOW.out.alloc _) ⟨vq.heap.size, 0, none⟩ 1 1 [.string p, .string n, .bool d] rfl rfl ?c1 ?c2 (by decide) ?c3 ?c4 ?c5 ?_)
      case c2 =>
        simp [Value.oneCell']
      case c3 => unfold maxLen; omega
      case c4 => omega
      intro v2 q2 hw2 hg2 hown2
      go_wp2_with fail
      go_ret
      have hal := (Below.refl vq.heap.size vq).alloc (Nat.le_refl _) (Obj.cells #[.string p, .string n, .bool d] 54)
      refine ⟨v2, S ++ [⟨p.data.toList, n.data.toList, d⟩], rfl, ?_, fun a => by simp, by simp, ((rowStep.below Bq.out).trans (rowStep.below hal)).trans ⟨hg2, ?_⟩⟩
      · refine ⟨?_, nodup_snoc H0.out.2 fun hin => ?_⟩
        · show World.ownsRow _ _ _ _ _ _ _
          rw [lsCells_snoc, List.length_append]
          exact hw2
        · obtain ⟨j, hj⟩ := List.getElem?_of_mem hin
          exact hno.out j _ (by have := (List.getElem?_eq_some_iff.1 hj).1; omega) hj rfl
      · rcases hown2 with ⟨_, e⟩ | ⟨g, e1, e2⟩
        · exact .inr ⟨_, e, by simp⟩
        · exact .inl (by rw [e1, e2])

end Go.Proofs.Ytjjmcnippjpclaa

namespace Go.Proofs.Ytjjmcnippjpclaa

open Go.RowKit

/-- does a state go with a text? -/
def goesOn (was : List UInt8) (a : Ls) : Prop := a.done = true → a.want <+: was

set_option maxRecDepth 100000 in
set_option maxHeartbeats 2000000 in
theorem likely_any (v : Value) (S : List Ls) (W : ByteArray) (w : World) (hS : S.length ≤ 4500000000000) (hwt : Hid (∀ s ∈ S, s.want.length ≤ 1000000)) (h : Hid (stRow w v S)) :
    Calls Try.prog 56 #[v, .string W] w fun e w' => ∃ v' S', e = .returned v' ∧ stRow w' v' S' ∧ (∀ a, a ∈ S' ↔ a ∈ S ∧ goesOn W.data.toList a) ∧ S'.length ≤ S.length ∧ rowStep (.slice none 0 0) v' w w' := by
  obtain ⟨a, c, rfl⟩ : ∃ a c, v = .slice a S.length c := by
    rcases h.out.form with ⟨h1, rfl⟩ | ⟨g, cap, h1, _⟩
    · exact ⟨_, _, h1⟩
    · exact ⟨_, _, h1⟩
  have hWl := data_len W
  go_enter Try.func56, Try.ntmps56
  go_wp2_with fail
  go_loopw [5, 6] (fun vo x wr => ∃ (i : Nat) (So : List Ls), x = .int .i64 i ∧ i ≤ S.length ∧ Hid (stRow wr vo So) ∧ Hid (∀ a, a ∈ So ↔ a ∈ S.take i ∧ goesOn W.data.toList a) ∧ So.length ≤ i ∧ Hid (rowStep (.slice none 0 0) vo w wr)) (fun _ x _ => S.length - (intOf x).toNat)
  case atStart => exact ⟨0, [], rfl, Nat.zero_le _, stRow_nil _, fun a => by simp, Nat.le_refl _, rowStep.refl _ _⟩
  case round =>
    obtain ⟨i, So, rfl, hi, hrow, hmem, hsl, hkp⟩ := hrel
    by_cases hlt : i < S.length
    · obtain ⟨s, hs⟩ : ∃ s, S[i]? = some s := ⟨S[i], List.getElem?_eq_getElem hlt⟩
      obtain ⟨oa, ol, oc, rfl⟩ : ∃ x y z, u5 = .slice x y z := by
        rcases hrow.out.form with ⟨h1, _⟩ | ⟨g, cap, h1, _⟩
        · exact ⟨_, _, _, h1⟩
        · exact ⟨_, _, _, h1⟩
      obtain ⟨g, ha, e0, e1, e2⟩ : ∃ g, a = some ⟨g, 0, none⟩ ∧ wr.cell? ⟨g, i * 3, none⟩ = some (.string ⟨s.patch.toArray⟩) ∧ wr.cell? ⟨g, i * 3 + 1, none⟩ = some (.string ⟨s.want.toArray⟩) ∧ wr.cell? ⟨g, i * 3 + 2, none⟩ = some (.bool s.done) := by
        rcases h.out.form with ⟨h1, rfl⟩ | ⟨g, cap, h1, hg, hc⟩
        · simp at hlt
        · simp at h1
          have hb : wr.heap[g]? = w.heap[g]? := hkp.out.grown.block g hg (by simp [Value.ownBlock])
          obtain ⟨a1, a2, a3⟩ := hc i s hs
          exact ⟨g, h1.1, by rw [World.cell?_of_block hb]; exact a1, by rw [World.cell?_of_block hb]; exact a2, by rw [World.cell?_of_block hb]; exact a3⟩
      subst ha
      have hi0 : (i : Int) < (S.length : Int) := by omega
      have HTK : Hid (S.take (i + 1) = S.take i ++ [s]) := by show _ = _; rw [List.take_add_one, hs]; rfl
      have HNi : Hid (s ∉ S.take i) := by
        have h1 : (S.take (i + 1)).Nodup := h.out.2.sublist (List.take_sublist _ _)
        rw [HTK.out] at h1
        exact fun hin => (List.pairwise_append.1 h1).2.2 s hin s (by simp) rfl
      have hsw := hwt.out s (List.mem_of_getElem? hs)
      obtain ⟨P, HPs⟩ : ∃ P : ByteArray, Hid ((⟨s.patch.toArray⟩ : ByteArray) = P) := ⟨_, rfl⟩
      obtain ⟨N, HNs⟩ : ∃ N : ByteArray, Hid ((⟨s.want.toArray⟩ : ByteArray) = N) := ⟨_, rfl⟩
      have hNl : N.size ≤ 1000000 := by rw [← HNs.out, strSize]; exact hsw
      have HNd : Hid (s.want = N.data.toList) := by show _ = _; rw [← HNs.out]
      rw [HPs.out] at e0
      rw [HNs.out] at e1
      clear hs hsw
      cases hd : s.done with
      | false =>
        rw [hd] at e2
        have HDs : Hid (s.done = false) := hd
        have HYes : Hid (goesOn W.data.toList s) := fun h => by rw [hd] at h; cases h
        clear hd
        go_wp2_with fail
        go_quiet (fail)
        have HRq : Hid (stRow (wr.drewN nq) (.slice oa ol oc) So) := hrow.out.of_block fun k hk => rfl
        have HKq : Hid (rowStep (.slice none 0 0) (.slice oa ol oc) w (wr.drewN nq)) := ⟨⟨hkp.out.grown.os, hkp.out.grown.tape, hkp.out.grown.output, hkp.out.grown.size, hkp.out.grown.block⟩, hkp.out.own⟩
        have j0 : (wr.drewN nq).cell? ⟨g, i * 3, none⟩ = some (.string P) := e0
        have j1 : (wr.drewN nq).cell? ⟨g, i * 3 + 1, none⟩ = some (.string N) := e1
        have j2 : (wr.drewN nq).cell? ⟨g, i * 3 + 2, none⟩ = some (.bool false) := e2
        clear e0 e1 e2 hrow hkp
        generalize wr.drewN nq = wq at *
        obtain ⟨i54, hi54, hzz⟩ := Option.map_eq_some_iff.1 info54
        simp only [Prod.mk.injEq] at hzz
        have HOW : Hid (wq.ownsRow 0 54 3 (.slice oa ol oc) So.length (lsCells So)) := HRq.out.1
        go_wp2_with (at_builtin; refine wpList_append_keepW _ rfl _ _ 55 rfl 0 54 i54 (.agg #[.string ⟨#[]⟩, .string ⟨#[]⟩, .bool false]) 3 40 Try.underlying55 hi54 hzz.1 hzz.2.1 hzz.2.2 rfl (by decide) _ So.length (lsCells So) rfl (HOW.out.alloc _) ⟨wq.heap.size, 0, none⟩ 1 1 [.string P, .string N, .bool false] rfl rfl ?c1 ?c2 (by decide) ?c3 ?c4 ?c5 ?_)
        case c1 => exact World.news_of_block (cs := #[.string P, .string N, .bool false]) (heap_alloc_new wq _)
        case c2 => simp [Value.oneCell']
        case c3 => unfold maxLen; omega
        case c4 => omega
        case c5 => exact Nat.zero_le _
        intro v2 q2 hw2 hg2 hown2
        go_wp2_with fail
        have hal := (Below.refl wq.heap.size wq).alloc (Nat.le_refl _) (Obj.cells #[.string P, .string N, .bool false] 54)
        refine ⟨⟨i + 1, So ++ [s], by go_num, by omega, ?_, fun a => ?_, by simp; omega, (HKq.out.trans (rowStep.below hal)).trans ⟨hg2, ?_⟩⟩, by simp [intOf]; omega⟩
        · refine ⟨?_, nodup_snoc HRq.out.2 fun hin => ?_⟩
          · show World.ownsRow _ _ _ _ _ _ _
            rw [lsCells_snoc, List.length_append, HPs.out, HNs.out, HDs.out]
            exact hw2
          · exact HNi.out ((hmem.out s).1 hin).1
        · rw [HTK.out]
          simp only [List.mem_append, List.mem_singleton]
          rw [hmem.out a]
          constructor
          · rintro (⟨g1, g2⟩ | rfl)
            · exact ⟨.inl g1, g2⟩
            · exact ⟨.inr rfl, HYes.out⟩
          · rintro ⟨g1 | g1, g2⟩
            · exact .inl ⟨g1, g2⟩
            · exact .inr g1
        · rcases hown2 with ⟨_, e⟩ | ⟨g, e1, e2⟩
          · exact .inr ⟨_, e, by simp⟩
          · exact .inl (by rw [e1, e2])
      | true =>
        rw [hd] at e2
        have HDs : Hid (s.done = true) := hd
        clear hd
        by_cases hle : N.size ≤ W.size
        · have d1 : decide ((N.size : Int) ≤ (W.size : Int)) = true := decide_eq_true (by omega)
          have g1 : (N.size : Int) ≤ (W.size : Int) := by omega
          have hex : (W.extract 0 N.size = N) ↔ s.want <+: W.data.toList := by
            have h1 := data_len N
            rw [HNd.out, ← prefix_take (by omega), h1]
            have h2 : (W.extract 0 N.size).data.toList = W.data.toList.take N.size := by rw [Lib.extract_data]; simp
            exact ⟨fun e => by rw [← h2, e], fun e => ByteArray.ext (Array.ext' (by rw [h2, e]))⟩
          by_cases heq : W.extract 0 N.size = N
          · have hbe := beq_of heq
            have HYes : Hid (goesOn W.data.toList s) := fun _ => hex.1 heq
            clear hex heq
            go_wp2_with fail
            go_quiet (fail)
            have HRq : Hid (stRow (wr.drewN nq) (.slice oa ol oc) So) := hrow.out.of_block fun k hk => rfl
            have HKq : Hid (rowStep (.slice none 0 0) (.slice oa ol oc) w (wr.drewN nq)) := ⟨⟨hkp.out.grown.os, hkp.out.grown.tape, hkp.out.grown.output, hkp.out.grown.size, hkp.out.grown.block⟩, hkp.out.own⟩
            have j0 : (wr.drewN nq).cell? ⟨g, i * 3, none⟩ = some (.string P) := e0
            have j1 : (wr.drewN nq).cell? ⟨g, i * 3 + 1, none⟩ = some (.string N) := e1
            have j2 : (wr.drewN nq).cell? ⟨g, i * 3 + 2, none⟩ = some (.bool true) := e2
            clear e0 e1 e2 hrow hkp
            generalize wr.drewN nq = wq at *
            obtain ⟨i54, hi54, hzz⟩ := Option.map_eq_some_iff.1 info54
            simp only [Prod.mk.injEq] at hzz
            have HOW : Hid (wq.ownsRow 0 54 3 (.slice oa ol oc) So.length (lsCells So)) := HRq.out.1
            go_wp2_with (at_builtin; refine wpList_append_keepW _ rfl _ _ 55 rfl 0 54 i54 (.agg #[.string ⟨#[]⟩, .string ⟨#[]⟩, .bool false]) 3 40 Try.underlying55 hi54 hzz.1 hzz.2.1 hzz.2.2 rfl (by decide) _ So.length (lsCells So) rfl (HOW.out.alloc _) ⟨wq.heap.size, 0, none⟩ 1 1 [.string P, .string N, .bool true] rfl rfl ?c1 ?c2 (by decide) ?c3 ?c4 ?c5 ?_)
            case c1 => exact World.news_of_block (cs := #[.string P, .string N, .bool true]) (heap_alloc_new wq _)
            case c2 => simp [Value.oneCell']
            case c3 => unfold maxLen; omega
            case c4 => omega
            case c5 => exact Nat.zero_le _
            intro v2 q2 hw2 hg2 hown2
            go_wp2_with fail
            have hal := (Below.refl wq.heap.size wq).alloc (Nat.le_refl _) (Obj.cells #[.string P, .string N, .bool true] 54)
            refine ⟨⟨i + 1, So ++ [s], by go_num, by omega, ?_, fun a => ?_, by simp; omega, (HKq.out.trans (rowStep.below hal)).trans ⟨hg2, ?_⟩⟩, by simp [intOf]; omega⟩
            · refine ⟨?_, nodup_snoc HRq.out.2 fun hin => ?_⟩
              · show World.ownsRow _ _ _ _ _ _ _
                rw [lsCells_snoc, List.length_append, HPs.out, HNs.out, HDs.out]
                exact hw2
              · exact HNi.out ((hmem.out s).1 hin).1
            · rw [HTK.out]
              simp only [List.mem_append, List.mem_singleton]
              rw [hmem.out a]
              constructor
              · rintro (⟨g1, g2⟩ | rfl)
                · exact ⟨.inl g1, g2⟩
                · exact ⟨.inr rfl, HYes.out⟩
              · rintro ⟨g1 | g1, g2⟩
                · exact .inl ⟨g1, g2⟩
                · exact .inr g1
            · rcases hown2 with ⟨_, e⟩ | ⟨g, e1, e2⟩
              · exact .inr ⟨_, e, by simp⟩
              · exact .inl (by rw [e1, e2])
          · have hbe := bne_of heq
            have HNo : Hid (¬ goesOn W.data.toList s) := fun hg => heq (hex.2 (hg HDs.out))
            clear hex heq
            go_wp2_with fail
            go_quiet (fail)
            have HRq : Hid (stRow (wr.drewN nq) (.slice oa ol oc) So) := hrow.out.of_block fun k hk => rfl
            have HKq : Hid (rowStep (.slice none 0 0) (.slice oa ol oc) w (wr.drewN nq)) := ⟨⟨hkp.out.grown.os, hkp.out.grown.tape, hkp.out.grown.output, hkp.out.grown.size, hkp.out.grown.block⟩, hkp.out.own⟩
            have j0 : (wr.drewN nq).cell? ⟨g, i * 3, none⟩ = some (.string P) := e0
            have j1 : (wr.drewN nq).cell? ⟨g, i * 3 + 1, none⟩ = some (.string N) := e1
            have j2 : (wr.drewN nq).cell? ⟨g, i * 3 + 2, none⟩ = some (.bool true) := e2
            clear e0 e1 e2 hrow hkp
            generalize wr.drewN nq = wq at *
            go_wp2_with fail
            refine ⟨⟨i + 1, So, by go_num, by omega, HRq.out, fun a => ?_, by omega, HKq.out⟩, by simp [intOf]; omega⟩
            rw [HTK.out]
            simp only [List.mem_append, List.mem_singleton]
            rw [hmem.out a]
            constructor
            · rintro ⟨g1, g2⟩
              exact ⟨.inl g1, g2⟩
            · rintro ⟨g1 | g1, g2⟩
              · exact ⟨g1, g2⟩
              · exact absurd g2 (by rw [g1]; exact HNo.out)
        · have d1 : decide ((N.size : Int) ≤ (W.size : Int)) = false := decide_eq_false (by omega)
          have HNo : Hid (¬ goesOn W.data.toList s) := fun hg => by
            have h1 := (hg HDs.out).length_le
            rw [HNd.out, data_len, data_len] at h1
            omega
          go_wp2_with fail
          go_quiet (fail)
          have HRq : Hid (stRow (wr.drewN nq) (.slice oa ol oc) So) := hrow.out.of_block fun k hk => rfl
          have HKq : Hid (rowStep (.slice none 0 0) (.slice oa ol oc) w (wr.drewN nq)) := ⟨⟨hkp.out.grown.os, hkp.out.grown.tape, hkp.out.grown.output, hkp.out.grown.size, hkp.out.grown.block⟩, hkp.out.own⟩
          have j0 : (wr.drewN nq).cell? ⟨g, i * 3, none⟩ = some (.string P) := e0
          have j1 : (wr.drewN nq).cell? ⟨g, i * 3 + 1, none⟩ = some (.string N) := e1
          have j2 : (wr.drewN nq).cell? ⟨g, i * 3 + 2, none⟩ = some (.bool true) := e2
          clear e0 e1 e2 hrow hkp
          generalize wr.drewN nq = wq at *
          go_wp2_with fail
          refine ⟨⟨i + 1, So, by go_num, by omega, HRq.out, fun a => ?_, by omega, HKq.out⟩, by simp [intOf]; omega⟩
          rw [HTK.out]
          simp only [List.mem_append, List.mem_singleton]
          rw [hmem.out a]
          constructor
          · rintro ⟨g1, g2⟩
            exact ⟨.inl g1, g2⟩
          · rintro ⟨g1 | g1, g2⟩
            · exact ⟨g1, g2⟩
            · exact absurd g2 (by rw [g1]; exact HNo.out)
    · have hi0 : ¬ (i : Int) < (S.length : Int) := by omega
      have hfin : i = S.length := by omega
      have HM : Hid (∀ a, a ∈ So ↔ a ∈ S ∧ goesOn W.data.toList a) := fun a => by rw [hmem.out a, hfin, List.take_length]
      clear hfin
      go_wp2_with fail
      go_ret
      exact ⟨u5, rfl, So, hrow.out, HM.out, by omega, hkp.out⟩

end Go.Proofs.Ytjjmcnippjpclaa
