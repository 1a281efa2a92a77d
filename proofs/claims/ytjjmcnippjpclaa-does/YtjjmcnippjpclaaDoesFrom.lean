/-
  The walk of from: the states behind a Do, way by way.
-/
import Derived.Test.YtjjmcnippjpclaaDoesGoes
import Derived.Test.YtjjmcnippjpclaaDone
namespace Go.Proofs.Ytjjmcnippjpclaa

open Go.RowKit

/-- the boxes of from: the call and the state. -/
structure fBox (C : Nat) (cc : Array Value) (sp sn : ByteArray) (sd : Bool) (u : World) : Prop where
  c : u.heap[C]? = some (.cells cc 137 (0, 0))
  s : u.heap[C + 1]? = some (.cells #[.string sp, .string sn, .bool sd] 54 (0, 0))

theorem fBox.below {C : Nat} {cc : Array Value} {sp sn : ByteArray} {sd : Bool} {u v : World} (h : fBox C cc sp sn sd u) (b : Below u.heap.size u v) : fBox C cc sp sn sd v :=
  ⟨by rw [b.block _ (lt_of_heap h.c)]; exact h.c, by rw [b.block _ (lt_of_heap h.s)]; exact h.s⟩

theorem fBox.all {C : Nat} {kd : Int} {ot : Bool} {P : ByteArray} {ca : Int} {ao : Option Addr} {ln cp : Nat} {OL NL : Nat} {OS NS : ByteArray} {sl : Value} {fit : Bool} {was : ByteArray} {e : Int} {now : ByteArray} {al : Bool} {sp sn : ByteArray} {sd : Bool} {u : World} (h : fBox C #[.int .i64 kd, .bool ot, .string P, .int .i64 ca, .slice ao ln cp, .int .i64 OL, .int .i64 NL, .string OS, .string NS, sl, .bool fit, .string was, .int .i64 e, .string now, .bool al] sp sn sd u) :
    u.cell? ⟨C, 0, none⟩ = some (.int .i64 kd) ∧ u.cell? ⟨C, 1, none⟩ = some (.bool ot) ∧ u.cell? ⟨C, 2, none⟩ = some (.string P) ∧ u.cell? ⟨C, 3, none⟩ = some (.int .i64 ca) ∧ u.cell? ⟨C, 4, none⟩ = some (.slice ao ln cp) ∧ u.cell? ⟨C, 5, none⟩ = some (.int .i64 OL) ∧ u.cell? ⟨C, 6, none⟩ = some (.int .i64 NL) ∧ u.cell? ⟨C, 7, none⟩ = some (.string OS) ∧ u.cell? ⟨C, 8, none⟩ = some (.string NS) ∧ u.cell? ⟨C, 9, none⟩ = some (sl) ∧ u.cell? ⟨C, 10, none⟩ = some (.bool fit) ∧ u.cell? ⟨C, 11, none⟩ = some (.string was) ∧ u.cell? ⟨C, 12, none⟩ = some (.int .i64 e) ∧ u.cell? ⟨C, 13, none⟩ = some (.string now) ∧ u.cell? ⟨C, 14, none⟩ = some (.bool al) ∧ u.cell? ⟨C + 1, 0, none⟩ = some (.string sp) ∧ u.cell? ⟨C + 1, 1, none⟩ = some (.string sn) ∧ u.cell? ⟨C + 1, 2, none⟩ = some (.bool sd) := by
  refine ⟨?_, ?_, ?_, ?_, ?_, ?_, ?_, ?_, ?_, ?_, ?_, ?_, ?_, ?_, ?_, ?_, ?_, ?_⟩
  all_goals first | (rw [Lib.cell_of_heap h.c]; rfl) | (rw [Lib.cell_of_heap h.s]; rfl)

theorem nilL : (⟨#[]⟩ : ByteArray).toList = [] := by unfold ByteArray.toList; unfold ByteArray.toList.loop; rfl

theorem nil_ne {sp : ByteArray} (h : sp ≠ ⟨#[]⟩) : ¬ sp.toList = [] := fun e => by have := bne_of h; rw [e, nilL] at this; cases this

end Go.Proofs.Ytjjmcnippjpclaa

namespace Go.Proofs.Ytjjmcnippjpclaa

open Go.RowKit

set_option maxRecDepth 100000 in
set_option maxHeartbeats 4000000 in
theorem from_own (kd : Int) (ot : Bool) (P : ByteArray) (ca : Int) (OL NL : Nat) (OS NS : ByteArray) (sl : Value) (fit : Bool) (was : ByteArray) (e : Int) (now : ByteArray) (al : Bool)
    (D : Nat) (tv sv : Value) (y : Dp.Dv) (rv : Value) (zs : List Int) (sp sn : ByteArray) (sd : Bool) (v : Value) (Sl : List Ls) (want : ByteArray) (w : World)
    (hsn : sn.size ≤ 1000000) (_hwt : want.size ≤ 1000000) (hSl : Sl.length ≤ 4400000000000) (hts : y.text.length = y.safe.length) (hm : y.text.length ≤ 140737488355328) (hsl : y.sure ≤ y.log.length) (hll : y.log.length ≤ 4611686018427387904) (hz : Hid (numsOk zs)) (hr : Hid (numsAt w rv zs)) (h : Hid (devAt D tv sv y w)) (hv : Hid (stRow w v Sl))
    (hown : sp = P) (_hdone : Hid (fit = true → ∀ u, Below w.heap.size w u → Calls Try.prog 25 #[.agg #[.int .i64 OL, .int .i64 NL, .string OS, .string NS, sl], .string was] u fun e w' => e = .returned (.string want) ∧ Below u.heap.size u w')) :
    Calls Try.prog 94 #[.agg (callV kd ot P ca rv OL NL OS NS sl fit was e now al), .pointer (some ⟨D, 0, none⟩), .agg #[.string sp, .string sn, .bool sd], v] w fun e' w' => ∃ v' S', e' = .returned v' ∧ stRow w' v' S' ∧ (∀ a, a ∈ S' ↔ a ∈ Sl ∨ fromNew P.data.toList NS want.data.toList (fit = true) e (al = false ∨ now = was) y zs (stB sp sn sd) a) ∧ S'.length ≤ Sl.length + 3 ∧ rowStep v v' w w' := by
  obtain ⟨ao, ln, cp, rfl⟩ : ∃ ao ln cp, rv = .slice ao ln cp := by
    rcases hr.out with ⟨_, ao, c, h⟩ | ⟨b, o, c, h, _⟩
    · exact ⟨_, _, _, h⟩
    · exact ⟨_, _, _, h⟩
  obtain ⟨la, ll, lc, rfl⟩ : ∃ a b c, v = .slice a b c := by
    rcases hv.out.form with ⟨h1, _⟩ | ⟨g, cap, h1, _⟩
    · exact ⟨_, _, _, h1⟩
    · exact ⟨_, _, _, h1⟩
  unfold callV
  have b0 := ((Below.refl w.heap.size w).alloc (Nat.le_refl _) (Obj.cells #[.int .i64 kd, .bool ot, .string P, .int .i64 ca, .slice ao ln cp, .int .i64 OL, .int .i64 NL, .string OS, .string NS, sl, .bool fit, .string was, .int .i64 e, .string now, .bool al] 137)).alloc (by simp) (Obj.cells #[.string sp, .string sn, .bool sd] 54)
  have qB : fBox w.heap.size #[.int .i64 kd, .bool ot, .string P, .int .i64 ca, .slice ao ln cp, .int .i64 OL, .int .i64 NL, .string OS, .string NS, sl, .bool fit, .string was, .int .i64 e, .string now, .bool al] sp sn sd ((w.alloc (Obj.cells #[.int .i64 kd, .bool ot, .string P, .int .i64 ca, .slice ao ln cp, .int .i64 OL, .int .i64 NL, .string OS, .string NS, sl, .bool fit, .string was, .int .i64 e, .string now, .bool al] 137)).alloc (Obj.cells #[.string sp, .string sn, .bool sd] 54)) := by
    refine ⟨?_, ?_⟩
    · rw [Below.heap_alloc _ _ _ (by simp)]; exact heap_alloc_new w _
    · have := heap_alloc_new (w.alloc (Obj.cells #[.int .i64 kd, .bool ot, .string P, .int .i64 ca, .slice ao ln cp, .int .i64 OL, .int .i64 NL, .string OS, .string NS, sl, .bool fit, .string was, .int .i64 e, .string now, .bool al] 137)) (Obj.cells #[.string sp, .string sn, .bool sd] 54)
      rw [World.size_alloc] at this
      exact this
  generalize hv0 : (w.alloc (Obj.cells #[.int .i64 kd, .bool ot, .string P, .int .i64 ca, .slice ao ln cp, .int .i64 OL, .int .i64 NL, .string OS, .string NS, sl, .bool fit, .string was, .int .i64 e, .string now, .bool al] 137)).alloc (Obj.cells #[.string sp, .string sn, .bool sd] 54) = v0 at *
  have B0 : Hid (Below w.heap.size w v0) := b0
  have QB : Hid _ := qB
  obtain ⟨c0, c1, c2, c3, c4, c5, c6, c7, c8, c9, c10, c11, c12, c13, c14, s0, s1, s2⟩ := qB.all
  have HV0 : Hid (stRow v0 (.slice la ll lc) Sl) := hv.out.of_block fun k hk => b0.block k (hv.out.lt hk)
  have HRS : Hid (rowStep (.slice la ll lc) (.slice la ll lc) w v0) := .below b0
  clear b0 qB
  -- the same text as before
  have hsame : ∃ sm : Bool, (sm = true ↔ (al = false ∨ now = was)) ∧ ((al = false ∧ sm = true) ∨ (al = true ∧ (now.toList == was.toList) = sm)) := by
    cases al with
    | false => exact ⟨true, ⟨fun _ => .inl rfl, fun _ => rfl⟩, .inl ⟨rfl, rfl⟩⟩
    | true =>
      by_cases hc : now = was
      · exact ⟨true, ⟨fun _ => .inr hc, fun _ => rfl⟩, .inr ⟨rfl, beq_of hc⟩⟩
      · exact ⟨false, ⟨(fun h => by cases h), fun h => by rcases h with h | h; cases h; exact absurd h hc⟩, .inr ⟨rfl, bne_of hc⟩⟩
  obtain ⟨sm, hsm, hcase⟩ := hsame
  have hoe := beq_of hown
  have hst : (stB sp sn sd).patch = P.data.toList := by rw [← hown]; rfl
  cases sd with
  | false =>
    have HGo := goes_any kd ot P ca OL NL OS NS sl fit was e now al D tv sv y (.slice ao ln cp) zs sp sn false sn true (.slice la ll lc) Sl v0 hsn hSl hts hm hsl hll hz (hr.out.of_blocks (fun b _ _ _ _ hl => B0.out.block b hl) B0.out.size) (h.out.below B0.out) HV0
    unfold callV at HGo
    have HIf : Hid (∀ a, goesNew P.data.toList NS e y zs (stB sp sn false) sn.data.toList true a ↔ fromNew P.data.toList NS want.data.toList (fit = true) e (al = false ∨ now = was) y zs (stB sp sn false) a) := fun a => by
      constructor
      · intro h; exact .inr (.inl ⟨hst, rfl, h⟩)
      · rintro (⟨_, g, _⟩ | ⟨_, _, g⟩ | ⟨g, _⟩ | ⟨g, _⟩)
        · cases g
        · exact g
        · exact absurd hst g
        · exact absurd hst g
    have HFN : Hid _ := HIf
    clear hst hown
    generalize hfn : fromNew P.data.toList NS want.data.toList (fit = true) e (al = false ∨ now = was) y zs (stB sp sn false) = FN at *
    clear hfn
    rcases hcase with ⟨hal, _⟩ | ⟨hal, hce⟩
    · subst hal
      go_enter Try.func94, Try.ntmps94
      go_wp2_with fail
      refine HGo.mono ?_
      rintro e' v8 ⟨v', S', rfl, h8, m8, l8, k8⟩
      go_wp2_with fail
      go_ret
      exact ⟨_, S', rfl, h8, fun a => by rw [m8 a, HIf.out a], by omega, HRS.out.trans k8⟩
    · subst hal
      go_enter Try.func94, Try.ntmps94
      go_wp2_with fail
      refine HGo.mono ?_
      rintro e' v8 ⟨v', S', rfl, h8, m8, l8, k8⟩
      go_wp2_with fail
      go_ret
      exact ⟨_, S', rfl, h8, fun a => by rw [m8 a, HIf.out a], by omega, HRS.out.trans k8⟩
  | true =>
    have HSt := standsD_any D tv sv y sn (.slice ao ln cp) zs v0 (by omega) hts hm hsl hll hz (hr.out.of_blocks (fun b _ _ _ _ hl => B0.out.block b hl) B0.out.size) (h.out.below B0.out)
    have HIf : Hid (∀ a, fromNew P.data.toList NS want.data.toList (fit = true) e (al = false ∨ now = was) y zs (stB sp sn true) a ↔ ((e = 7 ∨ (e = 0 ∧ sm = true ∧ standsL y sn.data.toList zs)) ∧ a = stB sp sn true)) := fun a => by
      rw [hsm]
      constructor
      · rintro (⟨_, _, g, g2⟩ | ⟨_, g, _⟩ | ⟨g, _⟩ | ⟨g, _⟩)
        · exact ⟨g, g2⟩
        · cases g
        · exact absurd hst g
        · exact absurd hst g
      · rintro ⟨g, g2⟩
        exact .inl ⟨hst, rfl, g, g2⟩
    clear hst hown hsm
    generalize hfn : fromNew P.data.toList NS want.data.toList (fit = true) e (al = false ∨ now = was) y zs (stB sp sn true) = FN at *
    clear hfn
    rcases hcase with ⟨hal, hce⟩ | ⟨hal, hce⟩
    · subst hal hce
      go_enter Try.func94, Try.ntmps94
      go_wp2_with fail
      refine HSt.mono ?_
      rintro e' v7 ⟨Bs, rfl, hBs, b7⟩
      have HBs : Hid _ := hBs
      have HV7 : Hid (stRow v7 (.slice la ll lc) Sl) := HV0.out.of_block fun k hk => b7.block k (HV0.out.lt hk)
      have HR7 : Hid (rowStep (.slice la ll lc) (.slice la ll lc) w v7) := HRS.out.trans (.below b7)
      obtain ⟨-, -, -, -, -, -, -, -, -, -, -, -, d12, -, -, z0, z1, z2⟩ := (QB.out.below b7).all
      clear hBs b7 HSt c0 c1 c2 c3 c4 c5 c6 c7 c8 c9 c10 c11 c12 c13 c14 s0 s1 s2
      have HAdd := add_any (.slice la ll lc) Sl sp sn true v7 (by omega) HV7
      by_cases e7 : e = 7
      · subst e7
        go_wp2_with fail
        refine HAdd.mono ?_
        rintro e' v8 ⟨v', S', rfl, h8, m8, l8, k8⟩
        go_wp2_with fail
        go_ret
        exact ⟨_, S', rfl, h8, fun a => by rw [m8 a, HIf.out a]; exact ⟨fun h => h.imp id fun h => ⟨.inl (by first | rfl | trivial), h⟩, fun h => h.imp id fun h => h.2⟩, by omega, HR7.out.trans k8⟩
      have d7 : (e == 7) = false := by simpa using e7
      by_cases e0 : e = 0
      · subst e0
        cases Bs with
        | false =>
          go_wp2_with fail
          go_ret
          first
          | refine ⟨_, Sl, rfl, HV7.out, fun a => ⟨fun h => .inl h, fun h => h.elim id fun h => ?_⟩, by omega, HR7.out⟩
          | refine ⟨_, rfl, Sl, HV7.out, fun a => ⟨fun h => .inl h, fun h => h.elim id fun h => ?_⟩, by omega, HR7.out⟩
          rcases (HIf.out a).1 h with ⟨g | ⟨_, _, g⟩, _⟩
          · cases g
          · have := HBs.out.2 g; cases this
        | true =>
          go_wp2_with fail
          refine HAdd.mono ?_
          rintro e' v8 ⟨v', S', rfl, h8, m8, l8, k8⟩
          go_wp2_with fail
          go_ret
          exact ⟨_, S', rfl, h8, fun a => by rw [m8 a, HIf.out a]; exact ⟨fun h => h.imp id fun h => ⟨.inr ⟨(by first | rfl | trivial), (by first | rfl | trivial), HBs.out.1 (by trivial)⟩, h⟩, fun h => h.imp id fun h => h.2⟩, by omega, HR7.out.trans k8⟩
      have d0 : (e == 0) = false := by simpa using e0
      go_wp2_with fail
      go_ret
      first
      | refine ⟨_, Sl, rfl, HV7.out, fun a => ⟨fun h => .inl h, fun h => h.elim id fun h => ?_⟩, by omega, HR7.out⟩
      | refine ⟨_, rfl, Sl, HV7.out, fun a => ⟨fun h => .inl h, fun h => h.elim id fun h => ?_⟩, by omega, HR7.out⟩
      rcases (HIf.out a).1 h with ⟨g | ⟨g, _⟩, _⟩
      · exact absurd g e7
      · exact absurd g e0
    · subst hal
      cases sm with
      | true =>
        go_enter Try.func94, Try.ntmps94
        go_wp2_with fail
        refine HSt.mono ?_
        rintro e' v7 ⟨Bs, rfl, hBs, b7⟩
        have HBs : Hid _ := hBs
        have HV7 : Hid (stRow v7 (.slice la ll lc) Sl) := HV0.out.of_block fun k hk => b7.block k (HV0.out.lt hk)
        have HR7 : Hid (rowStep (.slice la ll lc) (.slice la ll lc) w v7) := HRS.out.trans (.below b7)
        obtain ⟨-, -, -, -, -, -, -, -, -, -, -, -, d12, -, -, z0, z1, z2⟩ := (QB.out.below b7).all
        clear hBs b7 HSt c0 c1 c2 c3 c4 c5 c6 c7 c8 c9 c10 c11 c12 c13 c14 s0 s1 s2
        have HAdd := add_any (.slice la ll lc) Sl sp sn true v7 (by omega) HV7
        by_cases e7 : e = 7
        · subst e7
          go_wp2_with fail
          refine HAdd.mono ?_
          rintro e' v8 ⟨v', S', rfl, h8, m8, l8, k8⟩
          go_wp2_with fail
          go_ret
          exact ⟨_, S', rfl, h8, fun a => by rw [m8 a, HIf.out a]; exact ⟨fun h => h.imp id fun h => ⟨.inl (by first | rfl | trivial), h⟩, fun h => h.imp id fun h => h.2⟩, by omega, HR7.out.trans k8⟩
        have d7 : (e == 7) = false := by simpa using e7
        by_cases e0 : e = 0
        · subst e0
          cases Bs with
          | false =>
            go_wp2_with fail
            go_ret
            first
            | refine ⟨_, Sl, rfl, HV7.out, fun a => ⟨fun h => .inl h, fun h => h.elim id fun h => ?_⟩, by omega, HR7.out⟩
            | refine ⟨_, rfl, Sl, HV7.out, fun a => ⟨fun h => .inl h, fun h => h.elim id fun h => ?_⟩, by omega, HR7.out⟩
            rcases (HIf.out a).1 h with ⟨g | ⟨_, _, g⟩, _⟩
            · cases g
            · have := HBs.out.2 g; cases this
          | true =>
            go_wp2_with fail
            refine HAdd.mono ?_
            rintro e' v8 ⟨v', S', rfl, h8, m8, l8, k8⟩
            go_wp2_with fail
            go_ret
            exact ⟨_, S', rfl, h8, fun a => by rw [m8 a, HIf.out a]; exact ⟨fun h => h.imp id fun h => ⟨.inr ⟨(by first | rfl | trivial), (by first | rfl | trivial), HBs.out.1 (by trivial)⟩, h⟩, fun h => h.imp id fun h => h.2⟩, by omega, HR7.out.trans k8⟩
        have d0 : (e == 0) = false := by simpa using e0
        go_wp2_with fail
        go_ret
        first
        | refine ⟨_, Sl, rfl, HV7.out, fun a => ⟨fun h => .inl h, fun h => h.elim id fun h => ?_⟩, by omega, HR7.out⟩
        | refine ⟨_, rfl, Sl, HV7.out, fun a => ⟨fun h => .inl h, fun h => h.elim id fun h => ?_⟩, by omega, HR7.out⟩
        rcases (HIf.out a).1 h with ⟨g | ⟨g, _⟩, _⟩
        · exact absurd g e7
        · exact absurd g e0
      | false =>
        go_enter Try.func94, Try.ntmps94
        go_wp2_with fail
        refine HSt.mono ?_
        rintro e' v7 ⟨Bs, rfl, hBs, b7⟩
        have HBs : Hid _ := hBs
        have HV7 : Hid (stRow v7 (.slice la ll lc) Sl) := HV0.out.of_block fun k hk => b7.block k (HV0.out.lt hk)
        have HR7 : Hid (rowStep (.slice la ll lc) (.slice la ll lc) w v7) := HRS.out.trans (.below b7)
        obtain ⟨-, -, -, -, -, -, -, -, -, -, -, -, d12, -, -, z0, z1, z2⟩ := (QB.out.below b7).all
        clear hBs b7 HSt c0 c1 c2 c3 c4 c5 c6 c7 c8 c9 c10 c11 c12 c13 c14 s0 s1 s2
        have HAdd := add_any (.slice la ll lc) Sl sp sn true v7 (by omega) HV7
        by_cases e7 : e = 7
        · subst e7
          go_wp2_with fail
          refine HAdd.mono ?_
          rintro e' v8 ⟨v', S', rfl, h8, m8, l8, k8⟩
          go_wp2_with fail
          go_ret
          exact ⟨_, S', rfl, h8, fun a => by rw [m8 a, HIf.out a]; exact ⟨fun h => h.imp id fun h => ⟨.inl (by first | rfl | trivial), h⟩, fun h => h.imp id fun h => h.2⟩, by omega, HR7.out.trans k8⟩
        have d7 : (e == 7) = false := by simpa using e7
        by_cases e0 : e = 0
        · subst e0
          go_wp2_with fail
          go_ret
          first
          | refine ⟨_, Sl, rfl, HV7.out, fun a => ⟨fun h => .inl h, fun h => h.elim id fun h => ?_⟩, by omega, HR7.out⟩
          | refine ⟨_, rfl, Sl, HV7.out, fun a => ⟨fun h => .inl h, fun h => h.elim id fun h => ?_⟩, by omega, HR7.out⟩
          rcases (HIf.out a).1 h with ⟨g | ⟨_, g, _⟩, _⟩
          · cases g
          · cases g
        have d0 : (e == 0) = false := by simpa using e0
        go_wp2_with fail
        go_ret
        first
        | refine ⟨_, Sl, rfl, HV7.out, fun a => ⟨fun h => .inl h, fun h => h.elim id fun h => ?_⟩, by omega, HR7.out⟩
        | refine ⟨_, rfl, Sl, HV7.out, fun a => ⟨fun h => .inl h, fun h => h.elim id fun h => ?_⟩, by omega, HR7.out⟩
        rcases (HIf.out a).1 h with ⟨g | ⟨g, _⟩, _⟩
        · exact absurd g e7
        · exact absurd g e0

end Go.Proofs.Ytjjmcnippjpclaa

namespace Go.Proofs.Ytjjmcnippjpclaa

open Go.RowKit

set_option maxRecDepth 100000 in
set_option maxHeartbeats 4000000 in
theorem from_begun (kd : Int) (ot : Bool) (P : ByteArray) (ca : Int) (OL NL : Nat) (OS NS : ByteArray) (sl : Value) (fit : Bool) (was : ByteArray) (e : Int) (now : ByteArray) (al : Bool)
    (D : Nat) (tv sv : Value) (y : Dp.Dv) (rv : Value) (zs : List Int) (sp sn : ByteArray) (sd : Bool) (v : Value) (Sl : List Ls) (want : ByteArray) (w : World)
    (_hsn : sn.size ≤ 1000000) (_hwt : want.size ≤ 1000000) (hSl : Sl.length ≤ 4400000000000) (_hts : y.text.length = y.safe.length) (_hm : y.text.length ≤ 140737488355328) (_hsl : y.sure ≤ y.log.length) (_hll : y.log.length ≤ 4611686018427387904) (_hz : Hid (numsOk zs)) (hr : Hid (numsAt w rv zs)) (_h : Hid (devAt D tv sv y w)) (hv : Hid (stRow w v Sl))
    (hown : ¬ sp = P) (hC1 : sp ≠ ⟨#[]⟩ ∧ sd = false) (_hdone : Hid (fit = true → ∀ u, Below w.heap.size w u → Calls Try.prog 25 #[.agg #[.int .i64 OL, .int .i64 NL, .string OS, .string NS, sl], .string was] u fun e w' => e = .returned (.string want) ∧ Below u.heap.size u w')) :
    Calls Try.prog 94 #[.agg (callV kd ot P ca rv OL NL OS NS sl fit was e now al), .pointer (some ⟨D, 0, none⟩), .agg #[.string sp, .string sn, .bool sd], v] w fun e' w' => ∃ v' S', e' = .returned v' ∧ stRow w' v' S' ∧ (∀ a, a ∈ S' ↔ a ∈ Sl ∨ fromNew P.data.toList NS want.data.toList (fit = true) e (al = false ∨ now = was) y zs (stB sp sn sd) a) ∧ S'.length ≤ Sl.length + 3 ∧ rowStep v v' w w' := by
  obtain ⟨ao, ln, cp, rfl⟩ : ∃ ao ln cp, rv = .slice ao ln cp := by
    rcases hr.out with ⟨_, ao, c, h⟩ | ⟨b, o, c, h, _⟩
    · exact ⟨_, _, _, h⟩
    · exact ⟨_, _, _, h⟩
  obtain ⟨la, ll, lc, rfl⟩ : ∃ a b c, v = .slice a b c := by
    rcases hv.out.form with ⟨h1, _⟩ | ⟨g, cap, h1, _⟩
    · exact ⟨_, _, _, h1⟩
    · exact ⟨_, _, _, h1⟩
  unfold callV
  have b0 := ((Below.refl w.heap.size w).alloc (Nat.le_refl _) (Obj.cells #[.int .i64 kd, .bool ot, .string P, .int .i64 ca, .slice ao ln cp, .int .i64 OL, .int .i64 NL, .string OS, .string NS, sl, .bool fit, .string was, .int .i64 e, .string now, .bool al] 137)).alloc (by simp) (Obj.cells #[.string sp, .string sn, .bool sd] 54)
  have qB : fBox w.heap.size #[.int .i64 kd, .bool ot, .string P, .int .i64 ca, .slice ao ln cp, .int .i64 OL, .int .i64 NL, .string OS, .string NS, sl, .bool fit, .string was, .int .i64 e, .string now, .bool al] sp sn sd ((w.alloc (Obj.cells #[.int .i64 kd, .bool ot, .string P, .int .i64 ca, .slice ao ln cp, .int .i64 OL, .int .i64 NL, .string OS, .string NS, sl, .bool fit, .string was, .int .i64 e, .string now, .bool al] 137)).alloc (Obj.cells #[.string sp, .string sn, .bool sd] 54)) := by
    refine ⟨?_, ?_⟩
    · rw [Below.heap_alloc _ _ _ (by simp)]; exact heap_alloc_new w _
    · have := heap_alloc_new (w.alloc (Obj.cells #[.int .i64 kd, .bool ot, .string P, .int .i64 ca, .slice ao ln cp, .int .i64 OL, .int .i64 NL, .string OS, .string NS, sl, .bool fit, .string was, .int .i64 e, .string now, .bool al] 137)) (Obj.cells #[.string sp, .string sn, .bool sd] 54)
      rw [World.size_alloc] at this
      exact this
  generalize hv0 : (w.alloc (Obj.cells #[.int .i64 kd, .bool ot, .string P, .int .i64 ca, .slice ao ln cp, .int .i64 OL, .int .i64 NL, .string OS, .string NS, sl, .bool fit, .string was, .int .i64 e, .string now, .bool al] 137)).alloc (Obj.cells #[.string sp, .string sn, .bool sd] 54) = v0 at *
  have B0 : Hid (Below w.heap.size w v0) := b0
  have QB : Hid _ := qB
  obtain ⟨c0, c1, c2, c3, c4, c5, c6, c7, c8, c9, c10, c11, c12, c13, c14, s0, s1, s2⟩ := qB.all
  have HV0 : Hid (stRow v0 (.slice la ll lc) Sl) := hv.out.of_block fun k hk => b0.block k (hv.out.lt hk)
  have HRS : Hid (rowStep (.slice la ll lc) (.slice la ll lc) w v0) := .below b0
  clear b0 qB
  -- the same text as before
  have hsame : ∃ sm : Bool, (sm = true ↔ (al = false ∨ now = was)) ∧ ((al = false ∧ sm = true) ∨ (al = true ∧ (now.toList == was.toList) = sm)) := by
    cases al with
    | false => exact ⟨true, ⟨fun _ => .inl rfl, fun _ => rfl⟩, .inl ⟨rfl, rfl⟩⟩
    | true =>
      by_cases hc : now = was
      · exact ⟨true, ⟨fun _ => .inr hc, fun _ => rfl⟩, .inr ⟨rfl, beq_of hc⟩⟩
      · exact ⟨false, ⟨(fun h => by cases h), fun h => by rcases h with h | h; cases h; exact absurd h hc⟩, .inr ⟨rfl, bne_of hc⟩⟩
  obtain ⟨sm, hsm, hcase⟩ := hsame
  have hoe := bne_of hown
  have hst : (stB sp sn sd).patch ≠ P.data.toList := fun e => hown (ByteArray.ext (Array.ext' e))
  have hemp : (stB sp sn sd).patch ≠ [] ↔ sp ≠ ⟨#[]⟩ := ⟨fun h e => h (by rw [e]; rfl), fun h e => h (ByteArray.ext (Array.ext' e))⟩
  have hC : (sp ≠ ⟨#[]⟩ ∧ sd = false) ∨ fit = false := .inl hC1
  have HIf : Hid (∀ a, fromNew P.data.toList NS want.data.toList (fit = true) e (al = false ∨ now = was) y zs (stB sp sn sd) a ↔ ((e = 7 ∨ (e = 4 ∧ sm = true)) ∧ a = stB sp sn sd)) := fun a => by
    rw [hsm]
    constructor
    · rintro (⟨g, _⟩ | ⟨g, _⟩ | ⟨_, _, g, g2⟩ | ⟨_, g, g2, _⟩)
      · exact absurd g hst
      · exact absurd g hst
      · exact ⟨g, g2⟩
      · rcases hC with hC | hC
        · exact absurd ⟨hemp.2 hC.1, hC.2⟩ g
        · rw [hC] at g2; cases g2
    · rintro ⟨g, g2⟩
      exact .inr (.inr (.inl ⟨hst, hC.imp (fun h => ⟨hemp.2 h.1, h.2⟩) (fun h => by rw [h]; decide), g, g2⟩))
  clear hst hown hsm hemp
  generalize hfn : fromNew P.data.toList NS want.data.toList (fit = true) e (al = false ∨ now = was) y zs (stB sp sn sd) = FN at *
  clear hfn
  obtain ⟨hne, hsd⟩ := hC1
  subst hsd
  have hnb := nil_ne hne
  clear hC hne
  rcases hcase with ⟨hal, hce⟩ | ⟨hal, hce⟩
  · subst hal hce
    have HAdd := add_any (.slice la ll lc) Sl sp sn false v0 (by omega) HV0
    by_cases e7 : e = 7
    · subst e7
      go_enter Try.func94, Try.ntmps94
      go_wp2_with fail
      refine HAdd.mono ?_
      rintro e' v8 ⟨v', S', rfl, h8, m8, l8, k8⟩
      go_wp2_with fail
      go_ret
      exact ⟨_, S', rfl, h8, fun a => by rw [m8 a, HIf.out a]; exact ⟨fun h => h.imp id fun h => ⟨.inl (by first | rfl | trivial), h⟩, fun h => h.imp id fun h => h.2⟩, by omega, HRS.out.trans k8⟩
    have d7 : (e == 7) = false := by simpa using e7
    by_cases e4 : e = 4
    · subst e4
      go_enter Try.func94, Try.ntmps94
      go_wp2_with fail
      refine HAdd.mono ?_
      rintro e' v8 ⟨v', S', rfl, h8, m8, l8, k8⟩
      go_wp2_with fail
      go_ret
      exact ⟨_, S', rfl, h8, fun a => by rw [m8 a, HIf.out a]; exact ⟨fun h => h.imp id fun h => ⟨.inr ⟨(by first | rfl | trivial), (by first | rfl | trivial)⟩, h⟩, fun h => h.imp id fun h => h.2⟩, by omega, HRS.out.trans k8⟩
    have d4 : (e == 4) = false := by simpa using e4
    go_enter Try.func94, Try.ntmps94
    go_wp2_with fail
    go_ret
    first
    | refine ⟨_, Sl, rfl, HV0.out, fun a => ⟨fun h => .inl h, fun h => h.elim id fun h => ?_⟩, by omega, HRS.out⟩
    | refine ⟨_, rfl, Sl, HV0.out, fun a => ⟨fun h => .inl h, fun h => h.elim id fun h => ?_⟩, by omega, HRS.out⟩
    rcases (HIf.out a).1 h with ⟨g | ⟨g, _⟩, _⟩
    · exact absurd g e7
    · exact absurd g e4
  · subst hal
    cases sm with
    | true =>
      have HAdd := add_any (.slice la ll lc) Sl sp sn false v0 (by omega) HV0
      by_cases e7 : e = 7
      · subst e7
        go_enter Try.func94, Try.ntmps94
        go_wp2_with fail
        refine HAdd.mono ?_
        rintro e' v8 ⟨v', S', rfl, h8, m8, l8, k8⟩
        go_wp2_with fail
        go_ret
        exact ⟨_, S', rfl, h8, fun a => by rw [m8 a, HIf.out a]; exact ⟨fun h => h.imp id fun h => ⟨.inl (by first | rfl | trivial), h⟩, fun h => h.imp id fun h => h.2⟩, by omega, HRS.out.trans k8⟩
      have d7 : (e == 7) = false := by simpa using e7
      by_cases e4 : e = 4
      · subst e4
        go_enter Try.func94, Try.ntmps94
        go_wp2_with fail
        refine HAdd.mono ?_
        rintro e' v8 ⟨v', S', rfl, h8, m8, l8, k8⟩
        go_wp2_with fail
        go_ret
        exact ⟨_, S', rfl, h8, fun a => by rw [m8 a, HIf.out a]; exact ⟨fun h => h.imp id fun h => ⟨.inr ⟨(by first | rfl | trivial), (by first | rfl | trivial)⟩, h⟩, fun h => h.imp id fun h => h.2⟩, by omega, HRS.out.trans k8⟩
      have d4 : (e == 4) = false := by simpa using e4
      go_enter Try.func94, Try.ntmps94
      go_wp2_with fail
      go_ret
      first
      | refine ⟨_, Sl, rfl, HV0.out, fun a => ⟨fun h => .inl h, fun h => h.elim id fun h => ?_⟩, by omega, HRS.out⟩
      | refine ⟨_, rfl, Sl, HV0.out, fun a => ⟨fun h => .inl h, fun h => h.elim id fun h => ?_⟩, by omega, HRS.out⟩
      rcases (HIf.out a).1 h with ⟨g | ⟨g, _⟩, _⟩
      · exact absurd g e7
      · exact absurd g e4
    | false =>
      have HAdd := add_any (.slice la ll lc) Sl sp sn false v0 (by omega) HV0
      by_cases e7 : e = 7
      · subst e7
        go_enter Try.func94, Try.ntmps94
        go_wp2_with fail
        refine HAdd.mono ?_
        rintro e' v8 ⟨v', S', rfl, h8, m8, l8, k8⟩
        go_wp2_with fail
        go_ret
        exact ⟨_, S', rfl, h8, fun a => by rw [m8 a, HIf.out a]; exact ⟨fun h => h.imp id fun h => ⟨.inl (by first | rfl | trivial), h⟩, fun h => h.imp id fun h => h.2⟩, by omega, HRS.out.trans k8⟩
      have d7 : (e == 7) = false := by simpa using e7
      by_cases e4 : e = 4
      · subst e4
        go_enter Try.func94, Try.ntmps94
        go_wp2_with fail
        go_ret
        first
        | refine ⟨_, Sl, rfl, HV0.out, fun a => ⟨fun h => .inl h, fun h => h.elim id fun h => ?_⟩, by omega, HRS.out⟩
        | refine ⟨_, rfl, Sl, HV0.out, fun a => ⟨fun h => .inl h, fun h => h.elim id fun h => ?_⟩, by omega, HRS.out⟩
        rcases (HIf.out a).1 h with ⟨g | ⟨_, g⟩, _⟩
        · cases g
        · cases g
      have d4 : (e == 4) = false := by simpa using e4
      go_enter Try.func94, Try.ntmps94
      go_wp2_with fail
      go_ret
      first
      | refine ⟨_, Sl, rfl, HV0.out, fun a => ⟨fun h => .inl h, fun h => h.elim id fun h => ?_⟩, by omega, HRS.out⟩
      | refine ⟨_, rfl, Sl, HV0.out, fun a => ⟨fun h => .inl h, fun h => h.elim id fun h => ?_⟩, by omega, HRS.out⟩
      rcases (HIf.out a).1 h with ⟨g | ⟨g, _⟩, _⟩
      · exact absurd g e7
      · exact absurd g e4

end Go.Proofs.Ytjjmcnippjpclaa

namespace Go.Proofs.Ytjjmcnippjpclaa

open Go.RowKit

set_option maxRecDepth 100000 in
set_option maxHeartbeats 4000000 in
theorem from_unfit (kd : Int) (ot : Bool) (P : ByteArray) (ca : Int) (OL NL : Nat) (OS NS : ByteArray) (sl : Value) (fit : Bool) (was : ByteArray) (e : Int) (now : ByteArray) (al : Bool)
    (D : Nat) (tv sv : Value) (y : Dp.Dv) (rv : Value) (zs : List Int) (sp sn : ByteArray) (sd : Bool) (v : Value) (Sl : List Ls) (want : ByteArray) (w : World)
    (_hsn : sn.size ≤ 1000000) (_hwt : want.size ≤ 1000000) (hSl : Sl.length ≤ 4400000000000) (_hts : y.text.length = y.safe.length) (_hm : y.text.length ≤ 140737488355328) (_hsl : y.sure ≤ y.log.length) (_hll : y.log.length ≤ 4611686018427387904) (_hz : Hid (numsOk zs)) (hr : Hid (numsAt w rv zs)) (_h : Hid (devAt D tv sv y w)) (hv : Hid (stRow w v Sl))
    (hown : ¬ sp = P) (hC1 : ¬ (sp ≠ ⟨#[]⟩ ∧ sd = false)) (hf0 : fit = false) (hdone : Hid (fit = true → ∀ u, Below w.heap.size w u → Calls Try.prog 25 #[.agg #[.int .i64 OL, .int .i64 NL, .string OS, .string NS, sl], .string was] u fun e w' => e = .returned (.string want) ∧ Below u.heap.size u w')) :
    Calls Try.prog 94 #[.agg (callV kd ot P ca rv OL NL OS NS sl fit was e now al), .pointer (some ⟨D, 0, none⟩), .agg #[.string sp, .string sn, .bool sd], v] w fun e' w' => ∃ v' S', e' = .returned v' ∧ stRow w' v' S' ∧ (∀ a, a ∈ S' ↔ a ∈ Sl ∨ fromNew P.data.toList NS want.data.toList (fit = true) e (al = false ∨ now = was) y zs (stB sp sn sd) a) ∧ S'.length ≤ Sl.length + 3 ∧ rowStep v v' w w' := by
  obtain ⟨ao, ln, cp, rfl⟩ : ∃ ao ln cp, rv = .slice ao ln cp := by
    rcases hr.out with ⟨_, ao, c, h⟩ | ⟨b, o, c, h, _⟩
    · exact ⟨_, _, _, h⟩
    · exact ⟨_, _, _, h⟩
  obtain ⟨la, ll, lc, rfl⟩ : ∃ a b c, v = .slice a b c := by
    rcases hv.out.form with ⟨h1, _⟩ | ⟨g, cap, h1, _⟩
    · exact ⟨_, _, _, h1⟩
    · exact ⟨_, _, _, h1⟩
  unfold callV
  have b0 := ((Below.refl w.heap.size w).alloc (Nat.le_refl _) (Obj.cells #[.int .i64 kd, .bool ot, .string P, .int .i64 ca, .slice ao ln cp, .int .i64 OL, .int .i64 NL, .string OS, .string NS, sl, .bool fit, .string was, .int .i64 e, .string now, .bool al] 137)).alloc (by simp) (Obj.cells #[.string sp, .string sn, .bool sd] 54)
  have qB : fBox w.heap.size #[.int .i64 kd, .bool ot, .string P, .int .i64 ca, .slice ao ln cp, .int .i64 OL, .int .i64 NL, .string OS, .string NS, sl, .bool fit, .string was, .int .i64 e, .string now, .bool al] sp sn sd ((w.alloc (Obj.cells #[.int .i64 kd, .bool ot, .string P, .int .i64 ca, .slice ao ln cp, .int .i64 OL, .int .i64 NL, .string OS, .string NS, sl, .bool fit, .string was, .int .i64 e, .string now, .bool al] 137)).alloc (Obj.cells #[.string sp, .string sn, .bool sd] 54)) := by
    refine ⟨?_, ?_⟩
    · rw [Below.heap_alloc _ _ _ (by simp)]; exact heap_alloc_new w _
    · have := heap_alloc_new (w.alloc (Obj.cells #[.int .i64 kd, .bool ot, .string P, .int .i64 ca, .slice ao ln cp, .int .i64 OL, .int .i64 NL, .string OS, .string NS, sl, .bool fit, .string was, .int .i64 e, .string now, .bool al] 137)) (Obj.cells #[.string sp, .string sn, .bool sd] 54)
      rw [World.size_alloc] at this
      exact this
  generalize hv0 : (w.alloc (Obj.cells #[.int .i64 kd, .bool ot, .string P, .int .i64 ca, .slice ao ln cp, .int .i64 OL, .int .i64 NL, .string OS, .string NS, sl, .bool fit, .string was, .int .i64 e, .string now, .bool al] 137)).alloc (Obj.cells #[.string sp, .string sn, .bool sd] 54) = v0 at *
  have B0 : Hid (Below w.heap.size w v0) := b0
  have QB : Hid _ := qB
  obtain ⟨c0, c1, c2, c3, c4, c5, c6, c7, c8, c9, c10, c11, c12, c13, c14, s0, s1, s2⟩ := qB.all
  have HV0 : Hid (stRow v0 (.slice la ll lc) Sl) := hv.out.of_block fun k hk => b0.block k (hv.out.lt hk)
  have HRS : Hid (rowStep (.slice la ll lc) (.slice la ll lc) w v0) := .below b0
  clear b0 qB
  -- the same text as before
  have hsame : ∃ sm : Bool, (sm = true ↔ (al = false ∨ now = was)) ∧ ((al = false ∧ sm = true) ∨ (al = true ∧ (now.toList == was.toList) = sm)) := by
    cases al with
    | false => exact ⟨true, ⟨fun _ => .inl rfl, fun _ => rfl⟩, .inl ⟨rfl, rfl⟩⟩
    | true =>
      by_cases hc : now = was
      · exact ⟨true, ⟨fun _ => .inr hc, fun _ => rfl⟩, .inr ⟨rfl, beq_of hc⟩⟩
      · exact ⟨false, ⟨(fun h => by cases h), fun h => by rcases h with h | h; cases h; exact absurd h hc⟩, .inr ⟨rfl, bne_of hc⟩⟩
  obtain ⟨sm, hsm, hcase⟩ := hsame
  have hoe := bne_of hown
  have hst : (stB sp sn sd).patch ≠ P.data.toList := fun e => hown (ByteArray.ext (Array.ext' e))
  have hemp : (stB sp sn sd).patch ≠ [] ↔ sp ≠ ⟨#[]⟩ := ⟨fun h e => h (by rw [e]; rfl), fun h e => h (ByteArray.ext (Array.ext' e))⟩
  have hC : (sp ≠ ⟨#[]⟩ ∧ sd = false) ∨ fit = false := .inr hf0
  clear hf0
  have HIf : Hid (∀ a, fromNew P.data.toList NS want.data.toList (fit = true) e (al = false ∨ now = was) y zs (stB sp sn sd) a ↔ ((e = 7 ∨ (e = 4 ∧ sm = true)) ∧ a = stB sp sn sd)) := fun a => by
    rw [hsm]
    constructor
    · rintro (⟨g, _⟩ | ⟨g, _⟩ | ⟨_, _, g, g2⟩ | ⟨_, g, g2, _⟩)
      · exact absurd g hst
      · exact absurd g hst
      · exact ⟨g, g2⟩
      · rcases hC with hC | hC
        · exact absurd ⟨hemp.2 hC.1, hC.2⟩ g
        · rw [hC] at g2; cases g2
    · rintro ⟨g, g2⟩
      exact .inr (.inr (.inl ⟨hst, hC.imp (fun h => ⟨hemp.2 h.1, h.2⟩) (fun h => by rw [h]; decide), g, g2⟩))
  clear hst hown hsm hemp
  generalize hfn : fromNew P.data.toList NS want.data.toList (fit = true) e (al = false ∨ now = was) y zs (stB sp sn sd) = FN at *
  clear hfn
  have hf : fit = false := hC.resolve_left hC1
  subst hf
  have hx : (sp.toList = []) ∨ ((¬ sp.toList = []) ∧ sd = true) := by
    by_cases he : sp = ⟨#[]⟩
    · exact .inl (by rw [he]; exact nilL)
    · refine .inr ⟨nil_ne he, ?_⟩
      cases sd with
      | true => rfl
      | false => exact absurd ⟨he, rfl⟩ hC1
  clear hC hC1
  rcases hx with hnb | ⟨hnb, hsd⟩
  · have hoe1 : ([] == P.toList) = false := by rw [← hnb]; exact hoe
    have hoe2 : ¬ P.toList = [] := fun e => by rw [hnb, e] at hoe; cases hoe
    have hoe3 : ¬ [] = P.toList := fun e => hoe2 e.symm
    have hoe4 : P.toList.isEmpty = false := by simpa using hoe2
    rcases hcase with ⟨hal, hce⟩ | ⟨hal, hce⟩
    · subst hal hce
      have HAdd := add_any (.slice la ll lc) Sl sp sn sd v0 (by omega) HV0
      by_cases e7 : e = 7
      · subst e7
        go_enter Try.func94, Try.ntmps94
        go_wp2_with fail
        refine HAdd.mono ?_
        rintro e' v8 ⟨v', S', rfl, h8, m8, l8, k8⟩
        go_wp2_with fail
        go_ret
        exact ⟨_, S', rfl, h8, fun a => by rw [m8 a, HIf.out a]; exact ⟨fun h => h.imp id fun h => ⟨.inl (by first | rfl | trivial), h⟩, fun h => h.imp id fun h => h.2⟩, by omega, HRS.out.trans k8⟩
      have d7 : (e == 7) = false := by simpa using e7
      by_cases e4 : e = 4
      · subst e4
        go_enter Try.func94, Try.ntmps94
        go_wp2_with fail
        refine HAdd.mono ?_
        rintro e' v8 ⟨v', S', rfl, h8, m8, l8, k8⟩
        go_wp2_with fail
        go_ret
        exact ⟨_, S', rfl, h8, fun a => by rw [m8 a, HIf.out a]; exact ⟨fun h => h.imp id fun h => ⟨.inr ⟨(by first | rfl | trivial), (by first | rfl | trivial)⟩, h⟩, fun h => h.imp id fun h => h.2⟩, by omega, HRS.out.trans k8⟩
      have d4 : (e == 4) = false := by simpa using e4
      go_enter Try.func94, Try.ntmps94
      go_wp2_with fail
      go_ret
      first
      | refine ⟨_, Sl, rfl, HV0.out, fun a => ⟨fun h => .inl h, fun h => h.elim id fun h => ?_⟩, by omega, HRS.out⟩
      | refine ⟨_, rfl, Sl, HV0.out, fun a => ⟨fun h => .inl h, fun h => h.elim id fun h => ?_⟩, by omega, HRS.out⟩
      rcases (HIf.out a).1 h with ⟨g | ⟨g, _⟩, _⟩
      · exact absurd g e7
      · exact absurd g e4
    · subst hal
      cases sm with
      | true =>
        have HAdd := add_any (.slice la ll lc) Sl sp sn sd v0 (by omega) HV0
        by_cases e7 : e = 7
        · subst e7
          go_enter Try.func94, Try.ntmps94
          go_wp2_with fail
          refine HAdd.mono ?_
          rintro e' v8 ⟨v', S', rfl, h8, m8, l8, k8⟩
          go_wp2_with fail
          go_ret
          exact ⟨_, S', rfl, h8, fun a => by rw [m8 a, HIf.out a]; exact ⟨fun h => h.imp id fun h => ⟨.inl (by first | rfl | trivial), h⟩, fun h => h.imp id fun h => h.2⟩, by omega, HRS.out.trans k8⟩
        have d7 : (e == 7) = false := by simpa using e7
        by_cases e4 : e = 4
        · subst e4
          go_enter Try.func94, Try.ntmps94
          go_wp2_with fail
          refine HAdd.mono ?_
          rintro e' v8 ⟨v', S', rfl, h8, m8, l8, k8⟩
          go_wp2_with fail
          go_ret
          exact ⟨_, S', rfl, h8, fun a => by rw [m8 a, HIf.out a]; exact ⟨fun h => h.imp id fun h => ⟨.inr ⟨(by first | rfl | trivial), (by first | rfl | trivial)⟩, h⟩, fun h => h.imp id fun h => h.2⟩, by omega, HRS.out.trans k8⟩
        have d4 : (e == 4) = false := by simpa using e4
        go_enter Try.func94, Try.ntmps94
        go_wp2_with fail
        go_ret
        first
        | refine ⟨_, Sl, rfl, HV0.out, fun a => ⟨fun h => .inl h, fun h => h.elim id fun h => ?_⟩, by omega, HRS.out⟩
        | refine ⟨_, rfl, Sl, HV0.out, fun a => ⟨fun h => .inl h, fun h => h.elim id fun h => ?_⟩, by omega, HRS.out⟩
        rcases (HIf.out a).1 h with ⟨g | ⟨g, _⟩, _⟩
        · exact absurd g e7
        · exact absurd g e4
      | false =>
        have HAdd := add_any (.slice la ll lc) Sl sp sn sd v0 (by omega) HV0
        by_cases e7 : e = 7
        · subst e7
          go_enter Try.func94, Try.ntmps94
          go_wp2_with fail
          refine HAdd.mono ?_
          rintro e' v8 ⟨v', S', rfl, h8, m8, l8, k8⟩
          go_wp2_with fail
          go_ret
          exact ⟨_, S', rfl, h8, fun a => by rw [m8 a, HIf.out a]; exact ⟨fun h => h.imp id fun h => ⟨.inl (by first | rfl | trivial), h⟩, fun h => h.imp id fun h => h.2⟩, by omega, HRS.out.trans k8⟩
        have d7 : (e == 7) = false := by simpa using e7
        by_cases e4 : e = 4
        · subst e4
          go_enter Try.func94, Try.ntmps94
          go_wp2_with fail
          go_ret
          first
          | refine ⟨_, Sl, rfl, HV0.out, fun a => ⟨fun h => .inl h, fun h => h.elim id fun h => ?_⟩, by omega, HRS.out⟩
          | refine ⟨_, rfl, Sl, HV0.out, fun a => ⟨fun h => .inl h, fun h => h.elim id fun h => ?_⟩, by omega, HRS.out⟩
          rcases (HIf.out a).1 h with ⟨g | ⟨_, g⟩, _⟩
          · cases g
          · cases g
        have d4 : (e == 4) = false := by simpa using e4
        go_enter Try.func94, Try.ntmps94
        go_wp2_with fail
        go_ret
        first
        | refine ⟨_, Sl, rfl, HV0.out, fun a => ⟨fun h => .inl h, fun h => h.elim id fun h => ?_⟩, by omega, HRS.out⟩
        | refine ⟨_, rfl, Sl, HV0.out, fun a => ⟨fun h => .inl h, fun h => h.elim id fun h => ?_⟩, by omega, HRS.out⟩
        rcases (HIf.out a).1 h with ⟨g | ⟨g, _⟩, _⟩
        · exact absurd g e7
        · exact absurd g e4
  · subst hsd
    rcases hcase with ⟨hal, hce⟩ | ⟨hal, hce⟩
    · subst hal hce
      have HAdd := add_any (.slice la ll lc) Sl sp sn true v0 (by omega) HV0
      by_cases e7 : e = 7
      · subst e7
        go_enter Try.func94, Try.ntmps94
        go_wp2_with fail
        refine HAdd.mono ?_
        rintro e' v8 ⟨v', S', rfl, h8, m8, l8, k8⟩
        go_wp2_with fail
        go_ret
        exact ⟨_, S', rfl, h8, fun a => by rw [m8 a, HIf.out a]; exact ⟨fun h => h.imp id fun h => ⟨.inl (by first | rfl | trivial), h⟩, fun h => h.imp id fun h => h.2⟩, by omega, HRS.out.trans k8⟩
      have d7 : (e == 7) = false := by simpa using e7
      by_cases e4 : e = 4
      · subst e4
        go_enter Try.func94, Try.ntmps94
        go_wp2_with fail
        refine HAdd.mono ?_
        rintro e' v8 ⟨v', S', rfl, h8, m8, l8, k8⟩
        go_wp2_with fail
        go_ret
        exact ⟨_, S', rfl, h8, fun a => by rw [m8 a, HIf.out a]; exact ⟨fun h => h.imp id fun h => ⟨.inr ⟨(by first | rfl | trivial), (by first | rfl | trivial)⟩, h⟩, fun h => h.imp id fun h => h.2⟩, by omega, HRS.out.trans k8⟩
      have d4 : (e == 4) = false := by simpa using e4
      go_enter Try.func94, Try.ntmps94
      go_wp2_with fail
      go_ret
      first
      | refine ⟨_, Sl, rfl, HV0.out, fun a => ⟨fun h => .inl h, fun h => h.elim id fun h => ?_⟩, by omega, HRS.out⟩
      | refine ⟨_, rfl, Sl, HV0.out, fun a => ⟨fun h => .inl h, fun h => h.elim id fun h => ?_⟩, by omega, HRS.out⟩
      rcases (HIf.out a).1 h with ⟨g | ⟨g, _⟩, _⟩
      · exact absurd g e7
      · exact absurd g e4
    · subst hal
      cases sm with
      | true =>
        have HAdd := add_any (.slice la ll lc) Sl sp sn true v0 (by omega) HV0
        by_cases e7 : e = 7
        · subst e7
          go_enter Try.func94, Try.ntmps94
          go_wp2_with fail
          refine HAdd.mono ?_
          rintro e' v8 ⟨v', S', rfl, h8, m8, l8, k8⟩
          go_wp2_with fail
          go_ret
          exact ⟨_, S', rfl, h8, fun a => by rw [m8 a, HIf.out a]; exact ⟨fun h => h.imp id fun h => ⟨.inl (by first | rfl | trivial), h⟩, fun h => h.imp id fun h => h.2⟩, by omega, HRS.out.trans k8⟩
        have d7 : (e == 7) = false := by simpa using e7
        by_cases e4 : e = 4
        · subst e4
          go_enter Try.func94, Try.ntmps94
          go_wp2_with fail
          refine HAdd.mono ?_
          rintro e' v8 ⟨v', S', rfl, h8, m8, l8, k8⟩
          go_wp2_with fail
          go_ret
          exact ⟨_, S', rfl, h8, fun a => by rw [m8 a, HIf.out a]; exact ⟨fun h => h.imp id fun h => ⟨.inr ⟨(by first | rfl | trivial), (by first | rfl | trivial)⟩, h⟩, fun h => h.imp id fun h => h.2⟩, by omega, HRS.out.trans k8⟩
        have d4 : (e == 4) = false := by simpa using e4
        go_enter Try.func94, Try.ntmps94
        go_wp2_with fail
        go_ret
        first
        | refine ⟨_, Sl, rfl, HV0.out, fun a => ⟨fun h => .inl h, fun h => h.elim id fun h => ?_⟩, by omega, HRS.out⟩
        | refine ⟨_, rfl, Sl, HV0.out, fun a => ⟨fun h => .inl h, fun h => h.elim id fun h => ?_⟩, by omega, HRS.out⟩
        rcases (HIf.out a).1 h with ⟨g | ⟨g, _⟩, _⟩
        · exact absurd g e7
        · exact absurd g e4
      | false =>
        have HAdd := add_any (.slice la ll lc) Sl sp sn true v0 (by omega) HV0
        by_cases e7 : e = 7
        · subst e7
          go_enter Try.func94, Try.ntmps94
          go_wp2_with fail
          refine HAdd.mono ?_
          rintro e' v8 ⟨v', S', rfl, h8, m8, l8, k8⟩
          go_wp2_with fail
          go_ret
          exact ⟨_, S', rfl, h8, fun a => by rw [m8 a, HIf.out a]; exact ⟨fun h => h.imp id fun h => ⟨.inl (by first | rfl | trivial), h⟩, fun h => h.imp id fun h => h.2⟩, by omega, HRS.out.trans k8⟩
        have d7 : (e == 7) = false := by simpa using e7
        by_cases e4 : e = 4
        · subst e4
          go_enter Try.func94, Try.ntmps94
          go_wp2_with fail
          go_ret
          first
          | refine ⟨_, Sl, rfl, HV0.out, fun a => ⟨fun h => .inl h, fun h => h.elim id fun h => ?_⟩, by omega, HRS.out⟩
          | refine ⟨_, rfl, Sl, HV0.out, fun a => ⟨fun h => .inl h, fun h => h.elim id fun h => ?_⟩, by omega, HRS.out⟩
          rcases (HIf.out a).1 h with ⟨g | ⟨_, g⟩, _⟩
          · cases g
          · cases g
        have d4 : (e == 4) = false := by simpa using e4
        go_enter Try.func94, Try.ntmps94
        go_wp2_with fail
        go_ret
        first
        | refine ⟨_, Sl, rfl, HV0.out, fun a => ⟨fun h => .inl h, fun h => h.elim id fun h => ?_⟩, by omega, HRS.out⟩
        | refine ⟨_, rfl, Sl, HV0.out, fun a => ⟨fun h => .inl h, fun h => h.elim id fun h => ?_⟩, by omega, HRS.out⟩
        rcases (HIf.out a).1 h with ⟨g | ⟨g, _⟩, _⟩
        · exact absurd g e7
        · exact absurd g e4

end Go.Proofs.Ytjjmcnippjpclaa

namespace Go.Proofs.Ytjjmcnippjpclaa

open Go.RowKit

set_option maxRecDepth 100000 in
set_option maxHeartbeats 4000000 in
theorem from_ahead (kd : Int) (ot : Bool) (P : ByteArray) (ca : Int) (OL NL : Nat) (OS NS : ByteArray) (sl : Value) (fit : Bool) (was : ByteArray) (e : Int) (now : ByteArray) (al : Bool)
    (D : Nat) (tv sv : Value) (y : Dp.Dv) (rv : Value) (zs : List Int) (sp sn : ByteArray) (sd : Bool) (v : Value) (Sl : List Ls) (want : ByteArray) (w : World)
    (_hsn : sn.size ≤ 1000000) (hwt : want.size ≤ 1000000) (hSl : Sl.length ≤ 4400000000000) (hts : y.text.length = y.safe.length) (hm : y.text.length ≤ 140737488355328) (hsl : y.sure ≤ y.log.length) (hll : y.log.length ≤ 4611686018427387904) (hz : Hid (numsOk zs)) (hr : Hid (numsAt w rv zs)) (h : Hid (devAt D tv sv y w)) (hv : Hid (stRow w v Sl))
    (hown : ¬ sp = P) (hC1 : ¬ (sp ≠ ⟨#[]⟩ ∧ sd = false)) (hf0 : ¬ fit = false) (hdone : Hid (fit = true → ∀ u, Below w.heap.size w u → Calls Try.prog 25 #[.agg #[.int .i64 OL, .int .i64 NL, .string OS, .string NS, sl], .string was] u fun e w' => e = .returned (.string want) ∧ Below u.heap.size u w')) :
    Calls Try.prog 94 #[.agg (callV kd ot P ca rv OL NL OS NS sl fit was e now al), .pointer (some ⟨D, 0, none⟩), .agg #[.string sp, .string sn, .bool sd], v] w fun e' w' => ∃ v' S', e' = .returned v' ∧ stRow w' v' S' ∧ (∀ a, a ∈ S' ↔ a ∈ Sl ∨ fromNew P.data.toList NS want.data.toList (fit = true) e (al = false ∨ now = was) y zs (stB sp sn sd) a) ∧ S'.length ≤ Sl.length + 3 ∧ rowStep v v' w w' := by
  obtain ⟨ao, ln, cp, rfl⟩ : ∃ ao ln cp, rv = .slice ao ln cp := by
    rcases hr.out with ⟨_, ao, c, h⟩ | ⟨b, o, c, h, _⟩
    · exact ⟨_, _, _, h⟩
    · exact ⟨_, _, _, h⟩
  obtain ⟨la, ll, lc, rfl⟩ : ∃ a b c, v = .slice a b c := by
    rcases hv.out.form with ⟨h1, _⟩ | ⟨g, cap, h1, _⟩
    · exact ⟨_, _, _, h1⟩
    · exact ⟨_, _, _, h1⟩
  unfold callV
  have b0 := ((Below.refl w.heap.size w).alloc (Nat.le_refl _) (Obj.cells #[.int .i64 kd, .bool ot, .string P, .int .i64 ca, .slice ao ln cp, .int .i64 OL, .int .i64 NL, .string OS, .string NS, sl, .bool fit, .string was, .int .i64 e, .string now, .bool al] 137)).alloc (by simp) (Obj.cells #[.string sp, .string sn, .bool sd] 54)
  have qB : fBox w.heap.size #[.int .i64 kd, .bool ot, .string P, .int .i64 ca, .slice ao ln cp, .int .i64 OL, .int .i64 NL, .string OS, .string NS, sl, .bool fit, .string was, .int .i64 e, .string now, .bool al] sp sn sd ((w.alloc (Obj.cells #[.int .i64 kd, .bool ot, .string P, .int .i64 ca, .slice ao ln cp, .int .i64 OL, .int .i64 NL, .string OS, .string NS, sl, .bool fit, .string was, .int .i64 e, .string now, .bool al] 137)).alloc (Obj.cells #[.string sp, .string sn, .bool sd] 54)) := by
    refine ⟨?_, ?_⟩
    · rw [Below.heap_alloc _ _ _ (by simp)]; exact heap_alloc_new w _
    · have := heap_alloc_new (w.alloc (Obj.cells #[.int .i64 kd, .bool ot, .string P, .int .i64 ca, .slice ao ln cp, .int .i64 OL, .int .i64 NL, .string OS, .string NS, sl, .bool fit, .string was, .int .i64 e, .string now, .bool al] 137)) (Obj.cells #[.string sp, .string sn, .bool sd] 54)
      rw [World.size_alloc] at this
      exact this
  generalize hv0 : (w.alloc (Obj.cells #[.int .i64 kd, .bool ot, .string P, .int .i64 ca, .slice ao ln cp, .int .i64 OL, .int .i64 NL, .string OS, .string NS, sl, .bool fit, .string was, .int .i64 e, .string now, .bool al] 137)).alloc (Obj.cells #[.string sp, .string sn, .bool sd] 54) = v0 at *
  have B0 : Hid (Below w.heap.size w v0) := b0
  have QB : Hid _ := qB
  obtain ⟨c0, c1, c2, c3, c4, c5, c6, c7, c8, c9, c10, c11, c12, c13, c14, s0, s1, s2⟩ := qB.all
  have HV0 : Hid (stRow v0 (.slice la ll lc) Sl) := hv.out.of_block fun k hk => b0.block k (hv.out.lt hk)
  have HRS : Hid (rowStep (.slice la ll lc) (.slice la ll lc) w v0) := .below b0
  clear b0 qB
  -- the same text as before
  have hsame : ∃ sm : Bool, (sm = true ↔ (al = false ∨ now = was)) ∧ ((al = false ∧ sm = true) ∨ (al = true ∧ (now.toList == was.toList) = sm)) := by
    cases al with
    | false => exact ⟨true, ⟨fun _ => .inl rfl, fun _ => rfl⟩, .inl ⟨rfl, rfl⟩⟩
    | true =>
      by_cases hc : now = was
      · exact ⟨true, ⟨fun _ => .inr hc, fun _ => rfl⟩, .inr ⟨rfl, beq_of hc⟩⟩
      · exact ⟨false, ⟨(fun h => by cases h), fun h => by rcases h with h | h; cases h; exact absurd h hc⟩, .inr ⟨rfl, bne_of hc⟩⟩
  obtain ⟨sm, hsm, hcase⟩ := hsame
  have hoe := bne_of hown
  have hst : (stB sp sn sd).patch ≠ P.data.toList := fun e => hown (ByteArray.ext (Array.ext' e))
  have hemp : (stB sp sn sd).patch ≠ [] ↔ sp ≠ ⟨#[]⟩ := ⟨fun h e => h (by rw [e]; rfl), fun h e => h (ByteArray.ext (Array.ext' e))⟩
  have hfit : fit = true := by cases fit with | true => rfl | false => exact absurd rfl hf0
  subst hfit
  have HIf : Hid (∀ a, goesNew P.data.toList NS e y zs (stB sp sn sd) want.data.toList false a ↔ fromNew P.data.toList NS want.data.toList (true = true) e (al = false ∨ now = was) y zs (stB sp sn sd) a) := fun a => by
    constructor
    · intro h; exact .inr (.inr (.inr ⟨hst, fun h => hC1 ⟨hemp.1 h.1, h.2⟩, rfl, h⟩))
    · rintro (⟨g, _⟩ | ⟨g, _⟩ | ⟨_, g | g, _⟩ | ⟨_, _, _, g⟩)
      · exact absurd g hst
      · exact absurd g hst
      · exact absurd ⟨hemp.1 g.1, g.2⟩ hC1
      · exact absurd rfl g
      · exact g
  have HGo : ∀ v5, Below v0.drew.heap.size v0.drew v5 → Calls Try.prog 115 #[.agg #[.int .i64 kd, .bool ot, .string P, .int .i64 ca, .slice ao ln cp, .int .i64 OL, .int .i64 NL, .string OS, .string NS, sl, .bool true, .string was, .int .i64 e, .string now, .bool al], .pointer (some ⟨D, 0, none⟩), .agg #[.string sp, .string sn, .bool sd], .string want, .bool false, .slice la ll lc] v5 fun e' w' => ∃ v' S', e' = .returned v' ∧ stRow w' v' S' ∧ (∀ a, a ∈ S' ↔ a ∈ Sl ∨ goesNew P.data.toList NS e y zs (stB sp sn sd) want.data.toList false a) ∧ S'.length ≤ Sl.length + 3 ∧ rowStep (.slice la ll lc) v' v5 w' := fun v5 b5 => by
    have B5 : Below v0.heap.size v0 v5 := (Below.refl _ _).drew.trans b5
    have Bw : Below w.heap.size w v5 := B0.out.trans (B5.mono B0.out.size)
    exact goes_any kd ot P ca OL NL OS NS sl true was e now al D tv sv y (.slice ao ln cp) zs sp sn sd want false (.slice la ll lc) Sl v5 hwt hSl hts hm hsl hll hz (hr.out.of_blocks (fun b _ _ _ _ hl => Bw.block b hl) Bw.size) (h.out.below Bw) (hv.out.of_block fun k hk => Bw.block k (hv.out.lt hk))
  have HDn : Hid (∀ u, Below w.heap.size w u → Calls Try.prog 25 #[.agg #[.int .i64 OL, .int .i64 NL, .string OS, .string NS, sl], .string was] u fun e w' => e = .returned (.string want) ∧ Below u.heap.size u w') := fun u hu => hdone.out rfl u hu
  have HB6 : Hid (∀ v u v', Below v0.drew.heap.size v0.drew v → rowStep (.slice la ll lc) v' v u → fBox w.heap.size #[.int .i64 kd, .bool ot, .string P, .int .i64 ca, .slice ao ln cp, .int .i64 OL, .int .i64 NL, .string OS, .string NS, sl, .bool true, .string was, .int .i64 e, .string now, .bool al] sp sn sd u) := fun v u v' hb k => by
    have hq : fBox w.heap.size #[.int .i64 kd, .bool ot, .string P, .int .i64 ca, .slice ao ln cp, .int .i64 OL, .int .i64 NL, .string OS, .string NS, sl, .bool true, .string was, .int .i64 e, .string now, .bool al] sp sn sd v := QB.out.below ((Below.refl _ _).drew.trans hb)
    exact ⟨k.keeps hq.c (fun e => by have := hv.out.lt e.symm; omega), k.keeps hq.s (fun e => by have := hv.out.lt e.symm; omega)⟩
  clear hst hown hsm hdone
  generalize hfn : fromNew P.data.toList NS want.data.toList (true = true) e (al = false ∨ now = was) y zs (stB sp sn sd) = FN at *
  clear hfn
  have hx : (sp.toList = []) ∨ ((¬ sp.toList = []) ∧ sd = true) := by
    by_cases he : sp = ⟨#[]⟩
    · exact .inl (by rw [he]; exact nilL)
    · refine .inr ⟨nil_ne he, ?_⟩
      cases sd with
      | true => rfl
      | false => exact absurd ⟨he, rfl⟩ hC1
  clear hemp hC1
  rcases hx with hnb | ⟨hnb, hsd⟩
  · have hoe1 : ([] == P.toList) = false := by rw [← hnb]; exact hoe
    have hoe2 : ¬ P.toList = [] := fun e => by rw [hnb, e] at hoe; cases hoe
    have hoe3 : ¬ [] = P.toList := fun e => hoe2 e.symm
    have hoe4 : P.toList.isEmpty = false := by simpa using hoe2
    rcases hcase with ⟨hal, hce⟩ | ⟨hal, hce⟩
    · subst hal hce
      have HB0 : Hid (fBox w.heap.size #[.int .i64 kd, .bool ot, .string P, .int .i64 ca, .slice ao ln cp, .int .i64 OL, .int .i64 NL, .string OS, .string NS, sl, .bool true, .string was, .int .i64 e, .string now, .bool false] sp sn sd v0.drew) := ⟨QB.out.c, QB.out.s⟩
      have HB5 : Hid (∀ v, Below v0.drew.heap.size v0.drew v → fBox w.heap.size #[.int .i64 kd, .bool ot, .string P, .int .i64 ca, .slice ao ln cp, .int .i64 OL, .int .i64 NL, .string OS, .string NS, sl, .bool true, .string was, .int .i64 e, .string now, .bool false] sp sn sd v) := fun v hb => HB0.out.below hb
      go_enter Try.func94, Try.ntmps94
      go_wp2_with fail
      go_region_held3 (fun u => u.cell? ⟨w.heap.size, 0, none⟩ = some (.int .i64 kd) ∧ u.cell? ⟨w.heap.size, 1, none⟩ = some (.bool ot) ∧ u.cell? ⟨w.heap.size, 2, none⟩ = some (.string P) ∧ u.cell? ⟨w.heap.size, 3, none⟩ = some (.int .i64 ca) ∧ u.cell? ⟨w.heap.size, 4, none⟩ = some (.slice ao ln cp) ∧ u.cell? ⟨w.heap.size, 5, none⟩ = some (.int .i64 OL) ∧ u.cell? ⟨w.heap.size, 6, none⟩ = some (.int .i64 NL) ∧ u.cell? ⟨w.heap.size, 7, none⟩ = some (.string OS) ∧ u.cell? ⟨w.heap.size, 8, none⟩ = some (.string NS) ∧ u.cell? ⟨w.heap.size, 9, none⟩ = some (sl) ∧ u.cell? ⟨w.heap.size, 10, none⟩ = some (.bool true) ∧ u.cell? ⟨w.heap.size, 11, none⟩ = some (.string was) ∧ u.cell? ⟨w.heap.size, 12, none⟩ = some (.int .i64 e) ∧ u.cell? ⟨w.heap.size, 13, none⟩ = some (.string now) ∧ u.cell? ⟨w.heap.size, 14, none⟩ = some (.bool false) ∧ u.cell? ⟨w.heap.size + 1, 0, none⟩ = some (.string sp) ∧ u.cell? ⟨w.heap.size + 1, 1, none⟩ = some (.string sn) ∧ u.cell? ⟨w.heap.size + 1, 2, none⟩ = some (.bool sd)) (first | exact HB0.out.all | exact (HB5.out _ b5).all | exact (HB6.out _ _ _ b5 k8).all) (first | (go_at_call 25; refine (HDn.out _ (B0.out.trans (Below.mono ((Below.refl _ _).drew) B0.out.size))).mono ?_; rintro e' v5 ⟨rfl, b5⟩) | (go_at_call 115; refine (HGo _ b5).mono ?_; rintro e' v8 ⟨v', S', rfl, h8, m8, l8, k8⟩))
      go_wp2_with fail
      go_ret
      exact ⟨_, S', rfl, h8, fun a => by rw [m8 a, HIf.out a], by omega, (HRS.out.trans (.below ((Below.refl _ _).drew.trans b5))).trans k8⟩
    · subst hal
      have HB0 : Hid (fBox w.heap.size #[.int .i64 kd, .bool ot, .string P, .int .i64 ca, .slice ao ln cp, .int .i64 OL, .int .i64 NL, .string OS, .string NS, sl, .bool true, .string was, .int .i64 e, .string now, .bool true] sp sn sd v0.drew) := ⟨QB.out.c, QB.out.s⟩
      have HB5 : Hid (∀ v, Below v0.drew.heap.size v0.drew v → fBox w.heap.size #[.int .i64 kd, .bool ot, .string P, .int .i64 ca, .slice ao ln cp, .int .i64 OL, .int .i64 NL, .string OS, .string NS, sl, .bool true, .string was, .int .i64 e, .string now, .bool true] sp sn sd v) := fun v hb => HB0.out.below hb
      go_enter Try.func94, Try.ntmps94
      go_wp2_with fail
      go_region_held3 (fun u => u.cell? ⟨w.heap.size, 0, none⟩ = some (.int .i64 kd) ∧ u.cell? ⟨w.heap.size, 1, none⟩ = some (.bool ot) ∧ u.cell? ⟨w.heap.size, 2, none⟩ = some (.string P) ∧ u.cell? ⟨w.heap.size, 3, none⟩ = some (.int .i64 ca) ∧ u.cell? ⟨w.heap.size, 4, none⟩ = some (.slice ao ln cp) ∧ u.cell? ⟨w.heap.size, 5, none⟩ = some (.int .i64 OL) ∧ u.cell? ⟨w.heap.size, 6, none⟩ = some (.int .i64 NL) ∧ u.cell? ⟨w.heap.size, 7, none⟩ = some (.string OS) ∧ u.cell? ⟨w.heap.size, 8, none⟩ = some (.string NS) ∧ u.cell? ⟨w.heap.size, 9, none⟩ = some (sl) ∧ u.cell? ⟨w.heap.size, 10, none⟩ = some (.bool true) ∧ u.cell? ⟨w.heap.size, 11, none⟩ = some (.string was) ∧ u.cell? ⟨w.heap.size, 12, none⟩ = some (.int .i64 e) ∧ u.cell? ⟨w.heap.size, 13, none⟩ = some (.string now) ∧ u.cell? ⟨w.heap.size, 14, none⟩ = some (.bool true) ∧ u.cell? ⟨w.heap.size + 1, 0, none⟩ = some (.string sp) ∧ u.cell? ⟨w.heap.size + 1, 1, none⟩ = some (.string sn) ∧ u.cell? ⟨w.heap.size + 1, 2, none⟩ = some (.bool sd)) (first | exact HB0.out.all | exact (HB5.out _ b5).all | exact (HB6.out _ _ _ b5 k8).all) (first | (go_at_call 25; refine (HDn.out _ (B0.out.trans (Below.mono ((Below.refl _ _).drew) B0.out.size))).mono ?_; rintro e' v5 ⟨rfl, b5⟩) | (go_at_call 115; refine (HGo _ b5).mono ?_; rintro e' v8 ⟨v', S', rfl, h8, m8, l8, k8⟩))
      go_wp2_with fail
      go_ret
      exact ⟨_, S', rfl, h8, fun a => by rw [m8 a, HIf.out a], by omega, (HRS.out.trans (.below ((Below.refl _ _).drew.trans b5))).trans k8⟩
  · subst hsd
    rcases hcase with ⟨hal, hce⟩ | ⟨hal, hce⟩
    · subst hal hce
      have HB0 : Hid (fBox w.heap.size #[.int .i64 kd, .bool ot, .string P, .int .i64 ca, .slice ao ln cp, .int .i64 OL, .int .i64 NL, .string OS, .string NS, sl, .bool true, .string was, .int .i64 e, .string now, .bool false] sp sn true v0.drew) := ⟨QB.out.c, QB.out.s⟩
      have HB5 : Hid (∀ v, Below v0.drew.heap.size v0.drew v → fBox w.heap.size #[.int .i64 kd, .bool ot, .string P, .int .i64 ca, .slice ao ln cp, .int .i64 OL, .int .i64 NL, .string OS, .string NS, sl, .bool true, .string was, .int .i64 e, .string now, .bool false] sp sn true v) := fun v hb => HB0.out.below hb
      go_enter Try.func94, Try.ntmps94
      go_wp2_with fail
      go_region_held3 (fun u => u.cell? ⟨w.heap.size, 0, none⟩ = some (.int .i64 kd) ∧ u.cell? ⟨w.heap.size, 1, none⟩ = some (.bool ot) ∧ u.cell? ⟨w.heap.size, 2, none⟩ = some (.string P) ∧ u.cell? ⟨w.heap.size, 3, none⟩ = some (.int .i64 ca) ∧ u.cell? ⟨w.heap.size, 4, none⟩ = some (.slice ao ln cp) ∧ u.cell? ⟨w.heap.size, 5, none⟩ = some (.int .i64 OL) ∧ u.cell? ⟨w.heap.size, 6, none⟩ = some (.int .i64 NL) ∧ u.cell? ⟨w.heap.size, 7, none⟩ = some (.string OS) ∧ u.cell? ⟨w.heap.size, 8, none⟩ = some (.string NS) ∧ u.cell? ⟨w.heap.size, 9, none⟩ = some (sl) ∧ u.cell? ⟨w.heap.size, 10, none⟩ = some (.bool true) ∧ u.cell? ⟨w.heap.size, 11, none⟩ = some (.string was) ∧ u.cell? ⟨w.heap.size, 12, none⟩ = some (.int .i64 e) ∧ u.cell? ⟨w.heap.size, 13, none⟩ = some (.string now) ∧ u.cell? ⟨w.heap.size, 14, none⟩ = some (.bool false) ∧ u.cell? ⟨w.heap.size + 1, 0, none⟩ = some (.string sp) ∧ u.cell? ⟨w.heap.size + 1, 1, none⟩ = some (.string sn) ∧ u.cell? ⟨w.heap.size + 1, 2, none⟩ = some (.bool true)) (first | exact HB0.out.all | exact (HB5.out _ b5).all | exact (HB6.out _ _ _ b5 k8).all) (first | (go_at_call 25; refine (HDn.out _ (B0.out.trans (Below.mono ((Below.refl _ _).drew) B0.out.size))).mono ?_; rintro e' v5 ⟨rfl, b5⟩) | (go_at_call 115; refine (HGo _ b5).mono ?_; rintro e' v8 ⟨v', S', rfl, h8, m8, l8, k8⟩))
      go_wp2_with fail
      go_ret
      exact ⟨_, S', rfl, h8, fun a => by rw [m8 a, HIf.out a], by omega, (HRS.out.trans (.below ((Below.refl _ _).drew.trans b5))).trans k8⟩
    · subst hal
      have HB0 : Hid (fBox w.heap.size #[.int .i64 kd, .bool ot, .string P, .int .i64 ca, .slice ao ln cp, .int .i64 OL, .int .i64 NL, .string OS, .string NS, sl, .bool true, .string was, .int .i64 e, .string now, .bool true] sp sn true v0.drew) := ⟨QB.out.c, QB.out.s⟩
      have HB5 : Hid (∀ v, Below v0.drew.heap.size v0.drew v → fBox w.heap.size #[.int .i64 kd, .bool ot, .string P, .int .i64 ca, .slice ao ln cp, .int .i64 OL, .int .i64 NL, .string OS, .string NS, sl, .bool true, .string was, .int .i64 e, .string now, .bool true] sp sn true v) := fun v hb => HB0.out.below hb
      go_enter Try.func94, Try.ntmps94
      go_wp2_with fail
      go_region_held3 (fun u => u.cell? ⟨w.heap.size, 0, none⟩ = some (.int .i64 kd) ∧ u.cell? ⟨w.heap.size, 1, none⟩ = some (.bool ot) ∧ u.cell? ⟨w.heap.size, 2, none⟩ = some (.string P) ∧ u.cell? ⟨w.heap.size, 3, none⟩ = some (.int .i64 ca) ∧ u.cell? ⟨w.heap.size, 4, none⟩ = some (.slice ao ln cp) ∧ u.cell? ⟨w.heap.size, 5, none⟩ = some (.int .i64 OL) ∧ u.cell? ⟨w.heap.size, 6, none⟩ = some (.int .i64 NL) ∧ u.cell? ⟨w.heap.size, 7, none⟩ = some (.string OS) ∧ u.cell? ⟨w.heap.size, 8, none⟩ = some (.string NS) ∧ u.cell? ⟨w.heap.size, 9, none⟩ = some (sl) ∧ u.cell? ⟨w.heap.size, 10, none⟩ = some (.bool true) ∧ u.cell? ⟨w.heap.size, 11, none⟩ = some (.string was) ∧ u.cell? ⟨w.heap.size, 12, none⟩ = some (.int .i64 e) ∧ u.cell? ⟨w.heap.size, 13, none⟩ = some (.string now) ∧ u.cell? ⟨w.heap.size, 14, none⟩ = some (.bool true) ∧ u.cell? ⟨w.heap.size + 1, 0, none⟩ = some (.string sp) ∧ u.cell? ⟨w.heap.size + 1, 1, none⟩ = some (.string sn) ∧ u.cell? ⟨w.heap.size + 1, 2, none⟩ = some (.bool true)) (first | exact HB0.out.all | exact (HB5.out _ b5).all | exact (HB6.out _ _ _ b5 k8).all) (first | (go_at_call 25; refine (HDn.out _ (B0.out.trans (Below.mono ((Below.refl _ _).drew) B0.out.size))).mono ?_; rintro e' v5 ⟨rfl, b5⟩) | (go_at_call 115; refine (HGo _ b5).mono ?_; rintro e' v8 ⟨v', S', rfl, h8, m8, l8, k8⟩))
      go_wp2_with fail
      go_ret
      exact ⟨_, S', rfl, h8, fun a => by rw [m8 a, HIf.out a], by omega, (HRS.out.trans (.below ((Below.refl _ _).drew.trans b5))).trans k8⟩

end Go.Proofs.Ytjjmcnippjpclaa

namespace Go.Proofs.Ytjjmcnippjpclaa

open Go.RowKit

theorem from_any (kd : Int) (ot : Bool) (P : ByteArray) (ca : Int) (OL NL : Nat) (OS NS : ByteArray) (sl : Value) (fit : Bool) (was : ByteArray) (e : Int) (now : ByteArray) (al : Bool)
    (D : Nat) (tv sv : Value) (y : Dp.Dv) (rv : Value) (zs : List Int) (sp sn : ByteArray) (sd : Bool) (v : Value) (Sl : List Ls) (want : ByteArray) (w : World)
    (hsn : sn.size ≤ 1000000) (hwt : want.size ≤ 1000000) (hSl : Sl.length ≤ 4400000000000) (hts : y.text.length = y.safe.length) (hm : y.text.length ≤ 140737488355328) (hsl : y.sure ≤ y.log.length) (hll : y.log.length ≤ 4611686018427387904) (hz : Hid (numsOk zs)) (hr : Hid (numsAt w rv zs)) (h : Hid (devAt D tv sv y w)) (hv : Hid (stRow w v Sl))
    (hdone : Hid (fit = true → ∀ u, Below w.heap.size w u → Calls Try.prog 25 #[.agg #[.int .i64 OL, .int .i64 NL, .string OS, .string NS, sl], .string was] u fun e w' => e = .returned (.string want) ∧ Below u.heap.size u w')) :
    Calls Try.prog 94 #[.agg (callV kd ot P ca rv OL NL OS NS sl fit was e now al), .pointer (some ⟨D, 0, none⟩), .agg #[.string sp, .string sn, .bool sd], v] w fun e' w' => ∃ v' S', e' = .returned v' ∧ stRow w' v' S' ∧ (∀ a, a ∈ S' ↔ a ∈ Sl ∨ fromNew P.data.toList NS want.data.toList (fit = true) e (al = false ∨ now = was) y zs (stB sp sn sd) a) ∧ S'.length ≤ Sl.length + 3 ∧ rowStep v v' w w' := by
  by_cases hown : sp = P
  · exact from_own kd ot P ca OL NL OS NS sl fit was e now al D tv sv y rv zs sp sn sd v Sl want w hsn hwt hSl hts hm hsl hll hz hr h hv hown hdone
  · by_cases hC1 : sp ≠ ⟨#[]⟩ ∧ sd = false
    · exact from_begun kd ot P ca OL NL OS NS sl fit was e now al D tv sv y rv zs sp sn sd v Sl want w hsn hwt hSl hts hm hsl hll hz hr h hv hown hC1 hdone
    · by_cases hf : fit = false
      · exact from_unfit kd ot P ca OL NL OS NS sl fit was e now al D tv sv y rv zs sp sn sd v Sl want w hsn hwt hSl hts hm hsl hll hz hr h hv hown hC1 hf hdone
      · exact from_ahead kd ot P ca OL NL OS NS sl fit was e now al D tv sv y rv zs sp sn sd v Sl want w hsn hwt hSl hts hm hsl hll hz hr h hv hown hC1 hf hdone

end Go.Proofs.Ytjjmcnippjpclaa
