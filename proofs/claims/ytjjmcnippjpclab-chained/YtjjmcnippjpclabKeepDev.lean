/-
  The calls of a device, as the laws use them: a patch that is done again and again.
-/
import Derived.Test.YtjjmcnippjpclabSteady
import Derived.Test.YtjjmcnippjpclabMadeBack
namespace Go.Proofs.Ytjjmcnippjpclab

open Go.RowKit

/-- a patch's text, and what it is about. -/
structure patchOf (c : Cx) (s : ByteArray) : Prop where
  ok : c.ok
  err : pErr s = 0
  size : s.size ≤ 10000
  ps : c.s = s.data.toList
  ol : c.OL = hOL s
  nl : c.NL = hNL s
  os : c.OS = hOS s
  ns : c.NS = hNS s
  st : c.st = pSt s
  log : (Dp.E c.r2).length ≤ 100000
  nxt : (Dp.fold c.recs).next.length ≤ 100000
  O : c.O.length ≤ 10000
  n : c.n.length ≤ 10000

theorem doK_any (c : Cx) (s : ByteArray) (D : Nat) (tv sv : Value) (x : Dp.Dv) (w : World) (hc : patchOf c s) (hk : kSure c x) (h : Hid (devAt D tv sv x w)) (hl : Hid (lifeOk x)) :
    Calls Try.prog 15 #[.pointer (some ⟨D, 0, none⟩), .string s] w fun e w' => ∃ y, ((e = .returned (.int .i64 0) ∧ kDone c y) ∨ (e = .returned (.int .i64 7) ∧ y.life = 0 ∧ kAny c y)) ∧ lives x y ∧ (kDone c x → kDone c y) ∧ devAt D tv sv y w' ∧ kept3 D tv.ownBlock sv.ownBlock w w' := by
  have hz := kAny_sizes (.inl hk : kAny c x)
  have hO := hc.O
  have hlg := hc.log
  refine (do_any D tv sv x s w (by have := hc.size; omega) hc.err (by omega) (by omega) (by omega) ?_ h hl).mono ?_
  · have h1 := hc.nxt
    have h2 := hc.n
    rcases kSure_next hc.ok hk with e | e <;> (rw [e]; omega)
  · rintro e w' ⟨E, rfl, h1, h2⟩
    rw [← hc.ps, ← hc.ol, ← hc.nl, ← hc.os, ← hc.ns, ← hc.st] at h1 ⊢
    obtain ⟨g1, g2⟩ := do_spec c hc.ok x hk E
    have g3 := fun hd => do_done c hc.ok x hd E
    unfold Cx.does at g1 g2 g3
    generalize pDo x c.s c.OL c.NL c.OS c.NS c.st E = r at *
    obtain ⟨re, y⟩ := r
    dsimp only at *
    refine ⟨y, ?_, g2, g3, h1, h2⟩
    rcases g1 with ⟨rfl, g⟩ | ⟨rfl, g⟩
    · exact .inl ⟨rfl, g⟩
    · exact .inr ⟨rfl, g⟩

theorem stands_any (N : ByteArray) (D : Nat) (tv sv : Value) (x : Dp.Dv) (w : World) (hN : N.size ≤ 10000) (hx : x.text.length ≤ 10000) (h : Hid (devAt D tv sv x w)) :
    Calls Try.prog 19 #[.pointer (some ⟨D, 0, none⟩), .string N] w fun e w' => e = .returned (.bool (decide (Dp.pRead x N.size = some N.data.toList))) ∧ w' = w := by
  have HR := readText_any D tv sv x N.size w (by omega) (by unfold maxLen; omega) h
  cases hr : Dp.pRead x N.size with
  | none =>
    rw [hr] at HR
    dsimp only at HR
    rw [decide_eq_false (by simp)]
    go_enter Try.func19, Try.ntmps19
    go_wp2_with fail
    refine HR.mono ?_
    rintro e v ⟨rfl, h0⟩
    rw [h0]
    clear h0 v
    go_wp2_with fail
    go_ret
    exact ⟨rfl, rfl⟩
  | some t =>
    rw [hr] at HR
    dsimp only at HR
    by_cases he : (⟨t.toArray⟩ : ByteArray) = N
    · rw [decide_eq_true (by rw [← he])]
      have hb : ((⟨t.toArray⟩ : ByteArray).toList == N.toList) = true := by rw [he]; simp
      clear hr he
      generalize (⟨t.toArray⟩ : ByteArray) = T at *
      go_enter Try.func19, Try.ntmps19
      go_wp2_with fail
      refine HR.mono ?_
      rintro e v ⟨rfl, h0⟩
      rw [h0]
      clear h0 v
      go_wp2_with fail
      go_ret
      exact ⟨rfl, rfl⟩
    · rw [decide_eq_false (fun e => he (by rw [Option.some.inj e]))]
      have hb := bne_of he
      clear hr he
      generalize (⟨t.toArray⟩ : ByteArray) = T at *
      go_enter Try.func19, Try.ntmps19
      go_wp2_with fail
      refine HR.mono ?_
      rintro e v ⟨rfl, h0⟩
      rw [h0]
      clear h0 v
      go_wp2_with fail
      go_ret
      exact ⟨rfl, rfl⟩

/-- what a made patch is about, on a device that has the old text. -/
def cxOf (recs : List Dp.Rc) (o n T : ByteArray) (M : List _root_.Pl.Sp) (O : List UInt8) : Cx := ⟨recs, T.data.toList, n.data.toList, O, o.size, n.size, sumB o, sumB n, M.map (_root_.Pl.Sp.st n)⟩

theorem enc_len (p n : List UInt8) (hp : p.length ≤ 2147483647) (hn : n.length ≤ 2147483647) : (Dp.enc (some (p, n))).length ≤ 11 + p.length + n.length := by
  have h1 := Pl.num_len5 p.length hp
  have h2 := Pl.num_len5 n.length hn
  simp only [Dp.enc, List.length_cons, List.length_append, Dp.nb]
  omega

theorem patch_made {recs : List Dp.Rc} {o n T : ByteArray} {l M : List _root_.Pl.Sp} {O : List UInt8} (h : MadeOf o n l M T) (ho : o.size ≤ 1000) (hn : n.size ≤ 1000)
    (hw : ∀ r ∈ recs, Dp.wf r) (hoth : (Dp.fold recs).patch ≠ T.data.toList) (hfr : isBegun (Dp.fold recs) = false) (hO : O.take o.size = o.data.toList) (hol : o.size ≤ O.length) (hnl : n.size ≤ O.length) (hOl : O.length ≤ 10000) (hE : (Dp.E recs).length ≤ 20000) (hnx : (Dp.fold recs).next.length ≤ 10000) : patchOf (cxOf recs o n T M O) T := by
  obtain ⟨r0, r1, r2, r3, r4, r5, r6⟩ := made_read h (by omega) (by omega)
  have hT := (made_size h (by omega) (by omega)).1
  have hTl := data_len T
  have hnll := data_len n
  have hoo : (⟨(O.take o.size).toArray⟩ : ByteArray) = o := by rw [hO]
  have hwn : Dp.wf (some (T.data.toList, n.data.toList)) := ⟨by omega, by omega⟩
  refine ⟨⟨hw, hwn, ?_, hoth, hfr, hnll, rfl, hol, hnl, ?_, ?_⟩, r0, by omega, rfl, r1.symm, r2.symm, r3.symm, r4.symm, r5.symm, ?_, by show (Dp.fold recs).next.length ≤ _; omega, by show O.length ≤ _; omega, by show n.data.toList.length ≤ _; omega⟩
  · show T.data.toList ≠ []
    rw [h.text]
    unfold madeB
    simp [headB, planB]
  · show Dp.sumL (O.take o.size) = sumB o
    rw [hO]; rfl
  · show doneB (M.map (_root_.Pl.Sp.st n)) ⟨(O.take o.size).toArray⟩ n.size = n.data.toList
    rw [hoo]
    exact made_done h.good h.sorted.perm
  · show (Dp.E (recs ++ [some (T.data.toList, n.data.toList)] ++ [none])).length ≤ _
    rw [Dp.E_snoc, Dp.E_snoc, List.length_append, List.length_append]
    have := enc_len T.data.toList n.data.toList (by omega) (by omega)
    have e : (Dp.enc none).length = 1 := rfl
    omega

end Go.Proofs.Ytjjmcnippjpclab
