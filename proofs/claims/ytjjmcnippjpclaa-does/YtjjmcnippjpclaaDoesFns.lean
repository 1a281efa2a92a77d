/-
  The walks of the law's own small functions: text, fits, stands.
-/
import Derived.Test.YtjjmcnippjpclaaDoesPlain
import Derived.Test.YtjjmcnippjpclaaRefs
namespace Go.Proofs.Ytjjmcnippjpclaa

open Go.RowKit

theorem lawText_any (D : Nat) (tv sv : Value) (x : Dp.Dv) (n : Nat) (w : World) (hn : n ≤ 140737488355328) (hx : x.text.length ≤ maxLen) (h : Hid (devAt D tv sv x w)) :
    Calls Try.prog 44 #[.pointer (some ⟨D, 0, none⟩), .int .i64 n] w fun e w' =>
      e = .returned (match Dp.pRead x n with
        | none => .tuple #[.string ⟨#[]⟩, .bool false]
        | some t => .tuple #[.string ⟨t.toArray⟩, .bool true]) ∧ w' = w := by
  have HR := readText_any D tv sv x n w hn hx h
  cases hr : Dp.pRead x n with
  | none =>
    rw [hr] at HR
    dsimp only at HR ⊢
    go_enter Try.func44, Try.ntmps44
    go_wp2_with fail
    refine HR.mono ?_
    rintro e v ⟨rfl, h0⟩
    rw [h0]
    clear h0 v
    go_wp2_with fail
    go_ret2
    exact ⟨rfl, rfl⟩
  | some t =>
    rw [hr] at HR
    dsimp only at HR ⊢
    go_enter Try.func44, Try.ntmps44
    go_wp2_with fail
    refine HR.mono ?_
    rintro e v ⟨rfl, h0⟩
    rw [h0]
    clear h0 v
    go_wp2_with fail
    go_ret2
    exact ⟨rfl, rfl⟩

theorem pRead_none {x : Dp.Dv} {n : Nat} (h : Dp.pRead x n = none) : x.life = 0 ∨ x.text.length < n := by
  unfold Dp.pRead at h
  split at h
  · assumption
  · cases h

theorem pRead_some {x : Dp.Dv} {n : Nat} {t : List UInt8} (h : Dp.pRead x n = some t) : x.life ≠ 0 ∧ n ≤ x.text.length ∧ t = x.text.take n := by
  unfold Dp.pRead at h
  split at h
  · cases h
  · rename_i hc
    cases h
    exact ⟨fun e => hc (.inl e), by omega, rfl⟩

/-- a text opens with another. -/
theorem prefix_take {t w : List UInt8} (h : w.length ≤ t.length) : t.take w.length = w ↔ w <+: t := by
  constructor
  · intro e
    exact ⟨t.drop w.length, by conv => lhs; lhs; rw [← e]
                               exact List.take_append_drop _ _⟩
  · rintro ⟨q, rfl⟩
    exact List.take_left

/-- is the text there? -/
theorem lawText2 (D : Nat) (tv sv : Value) (x : Dp.Dv) (W : ByteArray) (w : World) (hn : W.size ≤ 140737488355328) (hx : x.text.length ≤ maxLen) (h : Hid (devAt D tv sv x w)) :
    Calls Try.prog 44 #[.pointer (some ⟨D, 0, none⟩), .int .i64 W.size] w fun e w' => ∃ (a : ByteArray) (ok : Bool), e = .returned (.tuple #[.string a, .bool ok]) ∧ ((ok = true ∧ a = W) ↔ (x.life ≠ 0 ∧ W.data.toList <+: x.text)) ∧ w' = w := by
  refine (lawText_any D tv sv x W.size w hn hx h).mono ?_
  rintro e w' ⟨rfl, h0⟩
  have hWl := data_len W
  cases hr : Dp.pRead x W.size with
  | none =>
    refine ⟨⟨#[]⟩, false, rfl, ⟨(fun h => by cases h.1), fun h => ?_⟩, h0⟩
    rcases pRead_none hr with h1 | h1
    · exact absurd h1 h.1
    · have := h.2.length_le; omega
  | some t =>
    obtain ⟨h1, h2, h3⟩ := pRead_some hr
    refine ⟨⟨t.toArray⟩, true, rfl, ⟨fun h => ⟨h1, ?_⟩, fun h => ⟨rfl, ?_⟩⟩, h0⟩
    · have e : t = W.data.toList := by rw [← h.2]
      rw [← prefix_take (by omega), hWl, ← h3, e]
    · have := (prefix_take (by omega)).2 h.2
      rw [hWl, ← h3] at this
      rw [this]

theorem beq_of {a b : ByteArray} (h : a = b) : (a.toList == b.toList) = true := by rw [h]; simp

set_option maxRecDepth 100000 in
theorem standsD_any (D : Nat) (tv sv : Value) (x : Dp.Dv) (W : ByteArray) (rv : Value) (zs : List Int) (w : World) (hW : W.size ≤ 1000000) (hts : x.text.length = x.safe.length) (hm : x.text.length ≤ 140737488355328) (hsl : x.sure ≤ x.log.length) (hll : x.log.length ≤ 4611686018427387904) (hz : Hid (numsOk zs)) (hr : Hid (numsAt w rv zs)) (h : Hid (devAt D tv sv x w)) :
    Calls Try.prog 113 #[.pointer (some ⟨D, 0, none⟩), .string W, rv] w fun e w' => ∃ B : Bool, e = .returned (.bool B) ∧ (B = true ↔ standsL x W.data.toList zs) ∧ Below w.heap.size w w' := by
  have HT := lawText2 D tv sv x W w (by omega) (by unfold maxLen; omega) h
  have HCp := copy_any D tv sv x w (by omega) (by omega) h
  have HDd := fun v hv => dead_any D tv sv x v hv
  have hWl := data_len W
  obtain ⟨ao, ln, cp, rfl⟩ : ∃ ao ln cp, rv = .slice ao ln cp := by
    rcases hr.out with ⟨_, ao, c, h⟩ | ⟨b, o, c, h, _⟩
    · exact ⟨_, _, _, h⟩
    · exact ⟨_, _, _, h⟩
  have hzt : (pPower x zs).text.length = x.text.length := mix_length _ _ _
  have hzl : (pPower x zs).life = -1 := rfl
  have HP : Hid (∀ D' tv' sv' v, devAt D' tv' sv' x v → w.heap.size ≤ D' → (∀ k, tv'.ownBlock = some k → w.heap.size ≤ k) → (∀ k, sv'.ownBlock = some k → w.heap.size ≤ k) → Below w.heap.size w v → Calls Try.prog 55 #[.pointer (some ⟨D', 0, none⟩), .slice ao ln cp] v fun e w' => e = .returned (.tuple #[]) ∧ devAt D' tv' sv' (pPower x zs) w' ∧ Below w.heap.size w w') := fun D' tv' sv' v hv h1 h2 h3 hb => by
    refine (power_any D' tv' sv' x (.slice ao ln cp) zs v hts (by omega) hsl hll hz hv (fun u hu => ?_)).mono ?_
    · have hb2 : Below w.heap.size w u := hb.trans (hu.below hb.size h1 h2 h3)
      exact hr.out.of_blocks (fun b _ _ _ _ hl => hb2.block b hl) hb2.size
    · rintro e w' ⟨he, hd, hk⟩
      exact ⟨he, hd, hb.trans (hk.below hb.size h1 h2 h3)⟩
  have HT2 : Hid (∀ D' tv' sv' v, devAt D' tv' sv' (pPower x zs) v → Calls Try.prog 44 #[.pointer (some ⟨D', 0, none⟩), .int .i64 W.size] v fun e w' => ∃ (a : ByteArray) (ok : Bool), e = .returned (.tuple #[.string a, .bool ok]) ∧ ((ok = true ∧ a = W) ↔ ((pPower x zs).life ≠ 0 ∧ W.data.toList <+: (pPower x zs).text)) ∧ w' = v) := fun D' tv' sv' v hv => lawText2 D' tv' sv' (pPower x zs) W v (by omega) (by rw [hzt]; unfold maxLen; omega) hv
  have HSL : Hid (standsL x W.data.toList zs ↔ (x.life = 0 ∨ W.data.toList <+: x.text) ∧ W.data.toList <+: (pPower x zs).text) := Iff.rfl
  have HZL : Hid ((pPower x zs).life ≠ 0) := by show _ ≠ _; rw [hzl]; decide
  clear hzl hzt
  generalize pPower x zs = z at *
  generalize standsL x W.data.toList zs = SL at *
  go_enter Try.func113, Try.ntmps113
  go_wp2_with fail
  refine HT.mono ?_
  rintro e v1 ⟨a', ok, rfl, ha', h0⟩
  rw [h0]
  clear h0 v1
  have HA : Hid ((ok = true ∧ a' = W) ↔ (x.life ≠ 0 ∧ W.data.toList <+: x.text)) := ha'
  clear ha' HT
  go_wp2_with fail
  refine HCp.mono ?_
  rintro e v2 ⟨D', tv', sv', rfl, h2, b2, f1, f2, f3⟩
  go_wp2_with fail
  refine (HP.out D' tv' sv' v2 h2 f1 f2 f3 b2).mono ?_
  rintro e v3 ⟨rfl, h3, b3⟩
  have B3 : Hid (Below w.heap.size w v3) := b3
  clear b3 h2 b2 f1 f2 f3 HCp HP
  go_wp2_with fail
  refine (HT2.out D' tv' sv' v3 h3).mono ?_
  rintro e v4 ⟨b', fine, rfl, hb', h0⟩
  rw [h0]
  clear h0 v4
  have HB' : Hid _ := hb'
  clear hb'
  go_wp2_with fail
  refine (HDd v3 (h.out.below B3.out)).mono ?_
  rintro e v4 ⟨rfl, h0⟩
  rw [h0]
  clear h0 v4
  by_cases hlf : x.life = 0
  · rw [decide_eq_true hlf]
    cases fine with
    | false =>
      go_wp2_with fail
      go_ret
      exact ⟨false, rfl, ⟨(fun h => by cases h), fun h => absurd ((HB'.out.2 ⟨HZL.out, (HSL.out.1 h).2⟩).1) (by decide)⟩, B3.out⟩
    | true =>
      by_cases hbw : b' = W
      · have hbe := beq_of hbw
        go_wp2_with fail
        go_ret
        exact ⟨true, rfl, ⟨fun _ => HSL.out.2 ⟨.inl hlf, (HB'.out.1 ⟨by trivial, hbw⟩).2⟩, fun _ => rfl⟩, B3.out⟩
      · have hbe := bne_of hbw
        go_wp2_with fail
        go_ret
        exact ⟨false, rfl, ⟨(fun h => by cases h), fun h => absurd ((HB'.out.2 ⟨HZL.out, (HSL.out.1 h).2⟩).2) hbw⟩, B3.out⟩
  · rw [decide_eq_false hlf]
    cases ok with
    | false =>
      go_wp2_with fail
      go_ret
      refine ⟨false, rfl, ⟨(fun h => by cases h), fun h => ?_⟩, B3.out⟩
      rcases (HSL.out.1 h).1 with h | h
      · exact absurd h hlf
      · exact absurd (HA.out.2 ⟨hlf, h⟩) (fun h => by cases h.1)
    | true =>
      by_cases haw : a' = W
      · have hae := beq_of haw
        cases fine with
        | false =>
          go_wp2_with fail
          go_ret
          exact ⟨false, rfl, ⟨(fun h => by cases h), fun h => absurd ((HB'.out.2 ⟨HZL.out, (HSL.out.1 h).2⟩).1) (by decide)⟩, B3.out⟩
        | true =>
          by_cases hbw : b' = W
          · have hbe := beq_of hbw
            go_wp2_with fail
            go_ret
            exact ⟨true, rfl, ⟨fun _ => HSL.out.2 ⟨.inr (HA.out.1 ⟨by trivial, haw⟩).2, (HB'.out.1 ⟨by trivial, hbw⟩).2⟩, fun _ => rfl⟩, B3.out⟩
          · have hbe := bne_of hbw
            go_wp2_with fail
            go_ret
            exact ⟨false, rfl, ⟨(fun h => by cases h), fun h => absurd ((HB'.out.2 ⟨HZL.out, (HSL.out.1 h).2⟩).2) hbw⟩, B3.out⟩
      · have hae := bne_of haw
        go_wp2_with fail
        go_ret
        refine ⟨false, rfl, ⟨(fun h => by cases h), fun h => ?_⟩, B3.out⟩
        rcases (HSL.out.1 h).1 with h | h
        · exact absurd h hlf
        · exact absurd (HA.out.2 ⟨hlf, h⟩) (fun h => haw h.2)

set_option maxRecDepth 100000 in
theorem fits_any (D : Nat) (tv sv : Value) (x : Dp.Dv) (OL NL : Nat) (OS NS : ByteArray) (slv : Value) (w : World) (hO : OL ≤ 4000) (hm : x.text.length ≤ 140737488355328) (h : Hid (devAt D tv sv x w)) :
    Calls Try.prog 93 #[.pointer (some ⟨D, 0, none⟩), .agg #[.int .i64 OL, .int .i64 NL, .string OS, .string NS, slv]] w fun e w' => ∃ B : Bool, e = .returned (.bool B) ∧ (B = true ↔ x.life ≠ 0 ∧ OL ≤ x.text.length ∧ NL ≤ x.text.length ∧ Dp.sumL (x.text.take OL) = OS) ∧ Below w.heap.size w w' := by
  have b0 := (Below.refl w.heap.size w).alloc (Nat.le_refl _) (Obj.cells #[.int .i64 OL, .int .i64 NL, .string OS, .string NS, slv] 31)
  have q0 := heap_alloc_new w (Obj.cells #[.int .i64 OL, .int .i64 NL, .string OS, .string NS, slv] 31)
  have H0 : Hid (devAt D tv sv x (w.alloc (Obj.cells #[.int .i64 OL, .int .i64 NL, .string OS, .string NS, slv] 31))) := h.out.below b0
  have HT := lawText_any D tv sv x OL (w.alloc (Obj.cells #[.int .i64 OL, .int .i64 NL, .string OS, .string NS, slv] 31)) (by omega) (by unfold maxLen; omega) H0
  have HLn := len_any D tv sv x (w.alloc (Obj.cells #[.int .i64 OL, .int .i64 NL, .string OS, .string NS, slv] 31)) H0
  generalize hv0 : w.alloc (Obj.cells #[.int .i64 OL, .int .i64 NL, .string OS, .string NS, slv] 31) = v0 at *
  obtain ⟨p0, p1, p2, p3, p4, _⟩ := box31 q0
  have hs0 : w.heap.size < v0.heap.size := (Array.getElem?_eq_some_iff.1 q0).1
  have B0 : Hid (Below w.heap.size w v0) := b0
  clear b0 q0
  cases hr : Dp.pRead x OL with
  | none =>
    have hno : ¬ (x.life ≠ 0 ∧ OL ≤ x.text.length ∧ NL ≤ x.text.length ∧ Dp.sumL (x.text.take OL) = OS) := fun hh => by
      rcases pRead_none hr with h1 | h1
      · exact hh.1 h1
      · omega
    have HNo : Hid _ := hno
    rw [hr] at HT
    dsimp only at HT
    clear hr hno
    generalize x.text.length = xl at *
    go_enter Try.func93, Try.ntmps93
    go_wp2_with fail
    refine HT.mono ?_
    rintro e v1 ⟨rfl, h0⟩
    rw [h0]
    clear h0 v1
    go_wp2_with fail
    refine HLn.mono ?_
    rintro e v1 ⟨rfl, h0⟩
    rw [h0]
    clear h0 v1
    go_wp2_with fail
    go_quiet (fail)
    go_wp2_with fail
    go_ret
    exact ⟨false, rfl, ⟨(fun h => by cases h), fun h => absurd h HNo.out⟩, below_drewN B0.out _⟩
  | some t =>
    obtain ⟨h1, h2, h3⟩ := pRead_some hr
    rw [hr] at HT
    dsimp only at HT
    clear hr
    have htl : t.length ≤ 4000 := by rw [h3, List.length_take]; omega
    by_cases hn : NL ≤ x.text.length
    · have HSm : ∀ v, Calls Try.prog 15 #[.string ⟨t.toArray⟩] v fun e w' => e = .returned (.string (Dp.sumL t)) ∧ Below v.heap.size v w' := fun v => refsum_any ⟨t.toArray⟩ v (by rw [strSize]; unfold maxLen; omega)
      have HB5 : Hid (∀ v, Below v0.drew.heap.size v0.drew v → v.cell? ⟨w.heap.size, 1, none⟩ = some (.int .i64 NL) ∧ v.cell? ⟨w.heap.size, 2, none⟩ = some (.string OS)) := fun v hb => ⟨by rw [hb.cell (show w.heap.size < v0.drew.heap.size from hs0)]; exact p1, by rw [hb.cell (show w.heap.size < v0.drew.heap.size from hs0)]; exact p2⟩
      have HB0 : Hid (v0.drew.cell? ⟨w.heap.size, 1, none⟩ = some (.int .i64 NL) ∧ v0.drew.cell? ⟨w.heap.size, 2, none⟩ = some (.string OS)) := ⟨p1, p2⟩
      have HIf : Hid ((x.life ≠ 0 ∧ OL ≤ x.text.length ∧ NL ≤ x.text.length ∧ Dp.sumL (x.text.take OL) = OS) ↔ Dp.sumL t = OS) := by
        show _ ↔ _
        rw [h3]
        exact ⟨fun h => h.2.2.2, fun h => ⟨h1, h2, hn, h⟩⟩
      generalize (x.life ≠ 0 ∧ OL ≤ x.text.length ∧ NL ≤ x.text.length ∧ Dp.sumL (x.text.take OL) = OS) = FT at *
      have dn : decide ((NL : Int) ≤ (x.text.length : Int)) = true := decide_eq_true (by omega)
      clear h3 h1 h2
      generalize x.text.length = xl at *
      generalize Dp.sumL t = SM at *
      have hcmp : (SM = OS ∧ (SM.toList == OS.toList) = true) ∨ (SM ≠ OS ∧ (SM.toList == OS.toList) = false) := by
        by_cases hc : SM = OS
        · exact .inl ⟨hc, beq_of hc⟩
        · exact .inr ⟨hc, bne_of hc⟩
      have HCm : Hid _ := hcmp
      generalize hqb : (SM.toList == OS.toList) = qb at *
      have hge : decide ((xl : Int) ≥ (NL : Int)) = true := decide_eq_true (by omega)
      go_enter Try.func93, Try.ntmps93
      go_wp2_with fail
      refine HT.mono ?_
      rintro e v1 ⟨rfl, h0⟩
      rw [h0]
      clear h0 v1
      go_wp2_with fail
      refine HLn.mono ?_
      rintro e v1 ⟨rfl, h0⟩
      rw [h0]
      clear h0 v1
      go_wp2_with fail
      go_region_held3 (fun v => v.cell? ⟨w.heap.size, 1, none⟩ = some (.int .i64 NL) ∧ v.cell? ⟨w.heap.size, 2, none⟩ = some (.string OS)) (first | exact HB0.out | exact HB5.out _ b5) ((go_at_call 15; refine (HSm _).mono ?_; rintro e v5 ⟨rfl, b5⟩))
      have B5 : Below v0.heap.size v0 v5 := (Below.refl _ _).drew.trans b5
      clear b5
      go_wp2_with fail
      go_ret
      refine ⟨qb, rfl, ?_, B0.out.trans (B5.mono B0.out.size)⟩
      rw [HIf.out]
      rcases HCm.out with ⟨g1, g2⟩ | ⟨g1, g2⟩
      · exact ⟨fun _ => g1, fun _ => g2⟩
      · exact ⟨(fun h => by rw [g2] at h; cases h), fun h => absurd h g1⟩
    · have dn : decide ((NL : Int) ≤ (x.text.length : Int)) = false := decide_eq_false (by omega)
      have HNo : Hid (¬ (x.life ≠ 0 ∧ OL ≤ x.text.length ∧ NL ≤ x.text.length ∧ Dp.sumL (x.text.take OL) = OS)) := fun hh => hn hh.2.2.1
      generalize (x.life ≠ 0 ∧ OL ≤ x.text.length ∧ NL ≤ x.text.length ∧ Dp.sumL (x.text.take OL) = OS) = FT at *
      clear h3 h1 h2
      generalize x.text.length = xl at *
      go_enter Try.func93, Try.ntmps93
      go_wp2_with fail
      refine HT.mono ?_
      rintro e v1 ⟨rfl, h0⟩
      rw [h0]
      clear h0 v1
      go_wp2_with fail
      refine HLn.mono ?_
      rintro e v1 ⟨rfl, h0⟩
      rw [h0]
      clear h0 v1
      go_wp2_with fail
      go_quiet (fail)
      go_wp2_with fail
      go_ret
      exact ⟨false, rfl, ⟨(fun h => by cases h), fun h => absurd h HNo.out⟩, below_drewN B0.out _⟩

end Go.Proofs.Ytjjmcnippjpclaa
