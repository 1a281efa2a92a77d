/-
  The walk of the law Survives.
-/
import Derived.Test.YtjjmcnippjpclabKeepDev
import Derived.Test.YtjjmcnippjpclabRaws
import Derived.Test.YtjjmcnippjpclabLives
namespace Go.Proofs.Ytjjmcnippjpclab

open Go.RowKit

theorem short_400 (s : ByteArray) (w : World) : Calls Try.prog 6 #[.string s, .int .i64 400] w fun e w' => e = .returned (.string (shortS s 400)) ∧ w' = w := short_any s 400 w (by omega)

theorem short_600 (s : ByteArray) (w : World) : Calls Try.prog 6 #[.string s, .int .i64 600] w fun e w' => e = .returned (.string (shortS s 600)) ∧ w' = w := short_any s 600 w (by omega)

theorem nums_of_raw {w : World} {rv : Value} {zs : List Int} (h : rawOld w rv zs) : numsAt w rv zs := h.imp id fun ⟨b, o, c, h1, h2⟩ => ⟨b, o, c, h1, h2.1, h2.2⟩

theorem numsAt.below {w v : World} {rv : Value} {zs : List Int} (h : numsAt w rv zs) (hb : Below w.heap.size w v) : numsAt v rv zs := h.of_blocks (fun b _ _ _ _ hl => hb.block b hl) hb.size

/-- a device that was made behind a world. -/
structure freshDev (B D : Nat) (tv sv : Value) : Prop where
  D : B ≤ D
  T : ∀ k, tv.ownBlock = some k → B ≤ k
  S : ∀ k, sv.ownBlock = some k → B ≤ k

theorem freshDev.below {B D : Nat} {tv sv : Value} {a b w : World} (h : freshDev B D tv sv) (hw : Below B w a) (hB : B = w.heap.size) (k : kept3 D tv.ownBlock sv.ownBlock a b) : Below B w b :=
  hw.trans (k.below (by rw [hB]; exact hw.size) h.D h.T h.S)

/-- what holds of the device in each round. -/
structure rndDev (w : World) (c : Cx) (b : Bool) (D : Nat) (tv sv : Value) (x : Dp.Dv) (wr : World) : Prop where
  dev : devAt D tv sv x wr
  sure : kSure c x
  life : x.life = -1
  done : b = true → kDone c x
  fresh : freshDev w.heap.size D tv sv
  bel : Below w.heap.size w wr

theorem pick_40 (c : Int) (w : World) (h1 : -9223372036854775808 ≤ c) (h2 : c ≤ 9223372036854775807) : Calls Try.prog 14 #[.int .i64 c, .int .i64 40] w fun e w' => e = .returned (.int .i64 (pickN c 40)) ∧ w' = w := pick_any c 40 w h1 h2 (by omega) (by omega)

theorem made_ne {o n T : ByteArray} {l M : List _root_.Pl.Sp} (h : MadeOf o n l M T) : T.data.toList ≠ [] := by
  rw [h.text]
  unfold madeB
  simp [headB, planB]

/-- Die, Do, Dead, Power, Copy, stands: what they leave of a round. -/
theorem rnd_die {w : World} {c : Cx} {b : Bool} {D : Nat} {tv sv : Value} {x : Dp.Dv} {v v' : World} {l : Int} (h : rndDev w c b D tv sv x v) (h1 : devAt D tv sv { x with life := l } v') (k : kept3 D tv.ownBlock sv.ownBlock v v') : devAt D tv sv { x with life := l } v' ∧ kSure c { x with life := l } ∧ (b = true → kDone c { x with life := l }) ∧ Below w.heap.size w v' :=
  ⟨h1, kSure_life h.sure l, fun hb => kDone_life (h.done hb) l, h.fresh.below h.bel rfl k⟩

theorem numsAt.drop {w : World} {b o ln cp : Nat} {zs : List Int} (h : numsAt w (.slice (some ⟨b, o, none⟩) ln cp) zs) (i : Nat) (hi : i < zs.length) (c : Nat) : numsAt w (.slice (some ⟨b, o + i, none⟩) (zs.length - i) c) (zs.drop i) := by
  rcases h with ⟨rfl, _⟩ | ⟨b', o', c', h1, h2, h3⟩
  · simp at hi
  · obtain ⟨rfl, rfl⟩ : b = b' ∧ o = o' := by simp at h1; exact h1.1
    refine .inr ⟨b, o + i, c, by rw [List.length_drop], h2, fun j hj => ?_⟩
    rw [List.length_drop] at hj
    have := h3 (i + j) (by omega)
    rw [Nat.add_assoc, this]
    simp [List.getD, List.getElem?_drop]

theorem numsOk.drop {zs : List Int} (h : numsOk zs) (i : Nat) : numsOk (zs.drop i) := by
  refine ⟨by rw [List.length_drop]; have := h.1; omega, fun j => ?_⟩
  have := h.2 (i + j)
  simpa [List.getD, List.getElem?_drop] using this

theorem pickN_bd (z n : Int) (h : 0 < n) : 0 ≤ pickN z n ∧ pickN z n < n := ⟨Int.emod_nonneg _ (by omega), Int.emod_lt_of_pos _ h⟩

set_option maxRecDepth 1000000 in
set_option maxHeartbeats 8000000 in
theorem survives_walk (old : ByteArray) (rv rv2 rv3 : Value) (zs2 zs3 : List Int) (w : World)
    (hraw : Hid (∀ (o : ByteArray) (v : World), o.size ≤ 400 → Below w.heap.size w v → Calls Try.prog 7 #[.string o, rv] v fun e w' => ∃ t : ByteArray, e = .returned (.string t) ∧ t.size ≤ 3000 ∧ Below v.heap.size v w'))
    (h2 : Hid (numsAt w rv2 zs2)) (ok2 : Hid (numsOk zs2)) (h3 : Hid (numsAt w rv3 zs3)) (ok3 : Hid (numsOk zs3)) (cap3 : ∀ a n c, rv3 = .slice a n c → n ≤ c) :
    Calls Try.prog 4 #[.string old, rv, rv2, rv3] w fun e w' => e = .returned (.bool true) ∧ Below w.heap.size w w' := by
  have ho := shortS_size old 400
  obtain ⟨a2, c2, hrv2⟩ : ∃ a c, rv2 = .slice a zs2.length c := by
    rcases h2.out with ⟨rfl, ao, c, h⟩ | ⟨b, o, c, h, _⟩ <;> exact ⟨_, _, h⟩
  obtain ⟨a3, c3, hrv3⟩ : ∃ a c, rv3 = .slice a zs3.length c := by
    rcases h3.out with ⟨rfl, ao, c, h⟩ | ⟨b, o, c, h, _⟩ <;> exact ⟨_, _, h⟩
  have HC3 : Hid (zs3.length ≤ c3) := cap3 _ _ _ hrv3
  clear cap3
  subst hrv2 hrv3
  have hl2 := ok2.out.1
  have hl3 := ok3.out.1
  go_enter Try.func4, Try.ntmps4
  go_wp2_with fail
  refine (short_400 _ _).mono ?_
  rintro e v0 ⟨rfl, h0⟩
  rw [h0]
  clear h0 v0
  generalize shortS old 400 = o at *
  go_wp2_with fail
  refine (hraw.out o _ ho (Below.refl _ _)).mono ?_
  rintro e v1 ⟨t, rfl, -, b1⟩
  clear hraw
  have hn := shortS_size t 600
  go_wp2_with fail
  refine (short_600 _ _).mono ?_
  rintro e v2 ⟨rfl, h0⟩
  rw [h0]
  clear h0 v2
  generalize shortS t 600 = n at *
  go_wp2_with fail
  refine (make_any o n _ (by omega) (by omega)).mono ?_
  rintro e v3 ⟨⟨l, M, T, rfl, hmade⟩, b3⟩
  have B3 : Below w.heap.size w v3 := b1.trans (b3.mono b1.size)
  clear b1 b3
  go_wp2_with fail
  refine (lives_any _).mono ?_
  rintro e v5 ⟨rfl, b5⟩
  have B5 : Below w.heap.size w v5 := B3.trans (b5.mono B3.size)
  clear b5 B3
  obtain ⟨N, hN, hNo, hNn, hN6⟩ : ∃ N : Nat, max (n.size : Int) (o.size : Int) = (N : Int) ∧ o.size ≤ N ∧ n.size ≤ N ∧ N ≤ 600 := ⟨max n.size o.size, by omega, by omega, by omega, by omega⟩
  have HNew := new_any n.size o N v5 hN (by omega)
  have hpl : (padded o.data.toList N).length = N := padded_length _ _ (by rw [data_len]; omega)
  have hpt : (padded o.data.toList N).take o.size = o.data.toList := by unfold padded; rw [← data_len o, List.take_left]
  have HC : Hid (patchOf (cxOf [] o n T M (padded o.data.toList N)) T) := patch_made hmade (by omega) (by omega) (by simp) (fun e => made_ne hmade e.symm) rfl hpt (by omega) (by omega) (by omega) (by simp [Dp.E]) (by simp [Dp.fold, Dp.Jn.zero])
  have HCn : Hid ((cxOf [] o n T M (padded o.data.toList N)).n = n.data.toList) := rfl
  have hpos : 0 < (Dp.enc (cxOf [] o n T M (padded o.data.toList N)).rc).length := by simp [Cx.rc, Dp.enc]
  have HK0 : Hid (kSure (cxOf [] o n T M (padded o.data.toList N)) ⟨padded o.data.toList N, padded o.data.toList N, [], 0, -1⟩) := .inl ⟨⟨0, hpos, by simp [cxOf, Dp.E]⟩, rfl, rfl, rfl⟩
  have HOl : Hid ((cxOf [] o n T M (padded o.data.toList N)).O.length = N) := hpl
  generalize padded o.data.toList N = PO at *
  generalize cxOf [] o n T M PO = c at *
  clear hmade hpt hpl hpos hNo hNn
  go_wp2_with fail
  refine HNew.mono ?_
  rintro e v6 ⟨D, tv, sv, rfl, h6, b6, f1, f2, f3⟩
  have HR0 : Hid (rndDev w c false D tv sv ⟨PO, PO, [], 0, -1⟩ v6) := ⟨h6, HK0.out, rfl, (fun h => by cases h), ⟨Nat.le_trans B5.size f1, fun k hk => Nat.le_trans B5.size (f2 k hk), fun k hk => Nat.le_trans B5.size (f3 k hk)⟩, B5.trans (b6.mono B5.size)⟩
  clear h6 b6 f1 f2 f3 HNew HK0 B5 hN
  go_wp2_with fail
  go_loopw [14, 15, 16] (fun dv bv iv wr => ∃ (D : Nat) (tv sv : Value) (x : Dp.Dv) (b : Bool) (i : Nat), dv = .pointer (some ⟨D, 0, none⟩) ∧ bv = .bool b ∧ iv = .int .i64 i ∧ i ≤ 20 ∧ Hid (rndDev w c b D tv sv x wr)) (fun _ _ iv _ => 20 - (intOf iv).toNat)
  case atStart => exact ⟨D, tv, sv, _, false, 0, rfl, rfl, rfl, by omega, HR0⟩
  case round =>
    clear HR0
    obtain ⟨D, tv, sv, x, b, i, rfl, rfl, rfl, hi, hrd⟩ := hrel
    have HE2 : (Dp.E c.r2).length ≤ 100000 := HC.out.log
    have hON := HOl.out
    have hLx : Hid (lifeOk x) := by have := hrd.out.life; exact ⟨by omega, by omega⟩
    by_cases h20 : i < 20
    · have d20 : decide ((i : Int) < 20) = true := decide_eq_true (by omega)
      by_cases hi2 : i < zs2.length
      · have dz2 : decide ((i : Int) < (zs2.length : Int)) = true := decide_eq_true (by omega)
        obtain ⟨b2, o2, ha2, hcell⟩ : ∃ b o, a2 = some ⟨b, o, none⟩ ∧ wr.cell? ⟨b, o + i, none⟩ = some (.int .i64 (zs2.getD i 0)) := by
          rcases h2.out.below hrd.out.bel with ⟨hz, _⟩ | ⟨b, o, c', hh, _, hc⟩
          · rw [hz] at hi2; simp at hi2
          · simp at hh
            exact ⟨b, o, hh.1, hc i hi2⟩
        subst ha2
        obtain ⟨hz1, hz2⟩ := ok2.out.2 i
        generalize zs2.getD i 0 = zz at *
        have hpk := pickN_bd zz 40 (by omega)
        have HDi := die_any D tv sv x (pickN zz 40) wr hrd.out.dev
        rw [show max (pickN zz 40) 0 = pickN zz 40 by omega] at HDi
        have HPk := pick_40 zz wr hz1 hz2
        generalize pickN zz 40 = pk at *
        go_wp2_with fail
        refine HPk.mono ?_
        rintro e v7 ⟨rfl, h0⟩
        rw [h0]
        clear h0 v7 HPk
        go_wp2_with fail
        refine HDi.mono ?_
        rintro e v8 ⟨rfl, h8, k8⟩
        obtain ⟨d8, s8, o8, B8⟩ := rnd_die hrd.out h8 k8
        clear h8 k8 HDi hcell
        have HDo := doK_any c T D tv sv { x with life := pk } v8 HC.out s8 d8 ⟨by show -9223372036854775808 ≤ pk; omega, by show pk ≤ 9223372036854775807; omega⟩
        have O8 : Hid (b = true → kDone c { x with life := pk }) := o8
        have B8' : Hid (Below w.heap.size w v8) := B8
        clear s8 d8 o8 B8
        go_wp2_with fail
        refine HDo.mono ?_
        rintro e v9 ⟨y, hy, -, dy, h9', k9⟩
        have h9 : Hid (devAt D tv sv y v9) := h9'
        have B9 : Hid (Below w.heap.size w v9) := hrd.out.fresh.below B8'.out rfl k9
        have DY : Hid (b = true → kDone c y) := fun hb => dy (O8.out hb)
        clear h9' k9 dy O8 HDo
        have HDd := dead_any D tv sv y v9 h9
        rcases hy with ⟨rfl, hkd⟩ | ⟨rfl, hyl, hka⟩
        · have HKA : Hid (kAny c y) := .inl (.inr (.inr hkd))
          have hsz := kAny_sizes HKA.out
          have HDN : Hid (kDone c y) := hkd
          clear hkd DY
          generalize decide (y.life = 0) = dd at *
          go_wp2_with fail
          refine HDd.mono ?_
          rintro e v9b ⟨rfl, h0⟩
          rw [h0]
          clear h0 v9b HDd
          cases b with
          | true =>
            by_cases h3i : i < zs3.length
            · obtain ⟨b3, o3, ha3⟩ : ∃ b o, a3 = some ⟨b, o, none⟩ := by
                rcases h3.out with ⟨hz, _⟩ | ⟨b, o, c', hh, _⟩
                · rw [hz] at h3i; simp at h3i
                · simp at hh; exact ⟨b, o, hh.1⟩
              subst ha3
              have hc3 : zs3.length ≤ c3 := HC3.out
              have d3 : decide ((i : Int) < (zs3.length : Int)) = true := decide_eq_true (by omega)
              have g3 : (i : Int) ≤ (c3 : Int) := by omega
              have HP := power_any D tv sv y (.slice (some ⟨b3, o3 + i, none⟩) (zs3.length - i) (c3 - i)) (zs3.drop i) v9 (by omega) (by omega) hsz.2.2.1 (by omega) (ok3.out.drop i) h9.out (fun v k => (h3.out.below (hrd.out.fresh.below B9.out rfl k)).drop i h3i _)
              obtain ⟨P1, P2, P3⟩ := power_spec c y HKA.out (zs3.drop i)
              have hpz := kAny_sizes (.inl P1 : kAny c (pPower y (zs3.drop i)))
              generalize pPower y (zs3.drop i) = z at *
              have HPZ : Hid (kSure c z ∧ (kDone c y → kDone c z) ∧ z.life = -1) := ⟨P1, P2, P3⟩
              clear P1 P2 P3
              go_wp2_with fail
              refine HP.mono ?_
              rintro e v10 ⟨rfl, h10, k10⟩
              have B10 : Hid (Below w.heap.size w v10) := hrd.out.fresh.below B9.out rfl k10
              clear k10 HP
              go_wp2_with fail
              refine (copy_any D tv sv z v10 (by omega) (by omega) h10).mono ?_
              rintro e v11 ⟨D', tv', sv', rfl, h11, b11, f1, f2, f3⟩
              have HR1 : Hid (rndDev w c true D' tv' sv' z v11) := ⟨h11, HPZ.out.1, HPZ.out.2.2, (fun _ => HPZ.out.2.1 HDN.out), ⟨Nat.le_trans B10.out.size f1, fun k hk => Nat.le_trans B10.out.size (f2 k hk), fun k hk => Nat.le_trans B10.out.size (f3 k hk)⟩, B10.out.trans (b11.mono B10.out.size)⟩
              have HSt := stands_any n D' tv' sv' z v11 (by omega) (by omega) h11
              have hrdz : decide (Dp.pRead z n.size = some n.data.toList) = true := by
                have hq := kDone_reads (HR1.out.done rfl) (by rw [HR1.out.life]; decide)
                rw [HCn.out, data_len] at hq
                exact decide_eq_true hq
              rw [hrdz] at HSt
              clear hrdz
              clear h11 b11 f1 f2 f3 h10
              go_wp2_with fail
              refine HSt.mono ?_
              rintro e v12 ⟨rfl, h0⟩
              rw [h0]
              clear h0 v12
              go_wp2_with fail
              exact ⟨⟨D', tv', sv', z, true, i + 1, rfl, rfl, by go_num, by omega, HR1⟩, by simp [intOf]; omega⟩
            · have d3 : decide ((i : Int) < (zs3.length : Int)) = false := decide_eq_false (by omega)
              have HP := power_any D tv sv y (.slice none 0 0) [] v9 (by omega) (by omega) hsz.2.2.1 (by omega) ⟨by simp, fun i => by simp⟩ h9.out (fun v k => .inl ⟨rfl, none, 0, rfl⟩)
              obtain ⟨P1, P2, P3⟩ := power_spec c y HKA.out ([])
              have hpz := kAny_sizes (.inl P1 : kAny c (pPower y ([])))
              generalize pPower y ([]) = z at *
              have HPZ : Hid (kSure c z ∧ (kDone c y → kDone c z) ∧ z.life = -1) := ⟨P1, P2, P3⟩
              clear P1 P2 P3
              go_wp2_with fail
              refine HP.mono ?_
              rintro e v10 ⟨rfl, h10, k10⟩
              have B10 : Hid (Below w.heap.size w v10) := hrd.out.fresh.below B9.out rfl k10
              clear k10 HP
              go_wp2_with fail
              refine (copy_any D tv sv z v10 (by omega) (by omega) h10).mono ?_
              rintro e v11 ⟨D', tv', sv', rfl, h11, b11, f1, f2, f3⟩
              have HR1 : Hid (rndDev w c true D' tv' sv' z v11) := ⟨h11, HPZ.out.1, HPZ.out.2.2, (fun _ => HPZ.out.2.1 HDN.out), ⟨Nat.le_trans B10.out.size f1, fun k hk => Nat.le_trans B10.out.size (f2 k hk), fun k hk => Nat.le_trans B10.out.size (f3 k hk)⟩, B10.out.trans (b11.mono B10.out.size)⟩
              have HSt := stands_any n D' tv' sv' z v11 (by omega) (by omega) h11
              have hrdz : decide (Dp.pRead z n.size = some n.data.toList) = true := by
                have hq := kDone_reads (HR1.out.done rfl) (by rw [HR1.out.life]; decide)
                rw [HCn.out, data_len] at hq
                exact decide_eq_true hq
              rw [hrdz] at HSt
              clear hrdz
              clear h11 b11 f1 f2 f3 h10
              go_wp2_with fail
              refine HSt.mono ?_
              rintro e v12 ⟨rfl, h0⟩
              rw [h0]
              clear h0 v12
              go_wp2_with fail
              exact ⟨⟨D', tv', sv', z, true, i + 1, rfl, rfl, by go_num, by omega, HR1⟩, by simp [intOf]; omega⟩
          | false =>
            by_cases h3i : i < zs3.length
            · obtain ⟨b3, o3, ha3⟩ : ∃ b o, a3 = some ⟨b, o, none⟩ := by
                rcases h3.out with ⟨hz, _⟩ | ⟨b, o, c', hh, _⟩
                · rw [hz] at h3i; simp at h3i
                · simp at hh; exact ⟨b, o, hh.1⟩
              subst ha3
              have hc3 : zs3.length ≤ c3 := HC3.out
              have d3 : decide ((i : Int) < (zs3.length : Int)) = true := decide_eq_true (by omega)
              have g3 : (i : Int) ≤ (c3 : Int) := by omega
              have HP := power_any D tv sv y (.slice (some ⟨b3, o3 + i, none⟩) (zs3.length - i) (c3 - i)) (zs3.drop i) v9 (by omega) (by omega) hsz.2.2.1 (by omega) (ok3.out.drop i) h9.out (fun v k => (h3.out.below (hrd.out.fresh.below B9.out rfl k)).drop i h3i _)
              obtain ⟨P1, P2, P3⟩ := power_spec c y HKA.out (zs3.drop i)
              have hpz := kAny_sizes (.inl P1 : kAny c (pPower y (zs3.drop i)))
              generalize pPower y (zs3.drop i) = z at *
              have HPZ : Hid (kSure c z ∧ (kDone c y → kDone c z) ∧ z.life = -1) := ⟨P1, P2, P3⟩
              clear P1 P2 P3
              go_wp2_with fail
              refine HP.mono ?_
              rintro e v10 ⟨rfl, h10, k10⟩
              have B10 : Hid (Below w.heap.size w v10) := hrd.out.fresh.below B9.out rfl k10
              clear k10 HP
              go_wp2_with fail
              refine (copy_any D tv sv z v10 (by omega) (by omega) h10).mono ?_
              rintro e v11 ⟨D', tv', sv', rfl, h11, b11, f1, f2, f3⟩
              have HR1 : Hid (rndDev w c true D' tv' sv' z v11) := ⟨h11, HPZ.out.1, HPZ.out.2.2, (fun _ => HPZ.out.2.1 HDN.out), ⟨Nat.le_trans B10.out.size f1, fun k hk => Nat.le_trans B10.out.size (f2 k hk), fun k hk => Nat.le_trans B10.out.size (f3 k hk)⟩, B10.out.trans (b11.mono B10.out.size)⟩
              have HSt := stands_any n D' tv' sv' z v11 (by omega) (by omega) h11
              have hrdz : decide (Dp.pRead z n.size = some n.data.toList) = true := by
                have hq := kDone_reads (HR1.out.done rfl) (by rw [HR1.out.life]; decide)
                rw [HCn.out, data_len] at hq
                exact decide_eq_true hq
              rw [hrdz] at HSt
              clear hrdz
              clear h11 b11 f1 f2 f3 h10
              go_wp2_with fail
              refine HSt.mono ?_
              rintro e v12 ⟨rfl, h0⟩
              rw [h0]
              clear h0 v12
              go_wp2_with fail
              exact ⟨⟨D', tv', sv', z, true, i + 1, rfl, rfl, by go_num, by omega, HR1⟩, by simp [intOf]; omega⟩
            · have d3 : decide ((i : Int) < (zs3.length : Int)) = false := decide_eq_false (by omega)
              have HP := power_any D tv sv y (.slice none 0 0) [] v9 (by omega) (by omega) hsz.2.2.1 (by omega) ⟨by simp, fun i => by simp⟩ h9.out (fun v k => .inl ⟨rfl, none, 0, rfl⟩)
              obtain ⟨P1, P2, P3⟩ := power_spec c y HKA.out ([])
              have hpz := kAny_sizes (.inl P1 : kAny c (pPower y ([])))
              generalize pPower y ([]) = z at *
              have HPZ : Hid (kSure c z ∧ (kDone c y → kDone c z) ∧ z.life = -1) := ⟨P1, P2, P3⟩
              clear P1 P2 P3
              go_wp2_with fail
              refine HP.mono ?_
              rintro e v10 ⟨rfl, h10, k10⟩
              have B10 : Hid (Below w.heap.size w v10) := hrd.out.fresh.below B9.out rfl k10
              clear k10 HP
              go_wp2_with fail
              refine (copy_any D tv sv z v10 (by omega) (by omega) h10).mono ?_
              rintro e v11 ⟨D', tv', sv', rfl, h11, b11, f1, f2, f3⟩
              have HR1 : Hid (rndDev w c true D' tv' sv' z v11) := ⟨h11, HPZ.out.1, HPZ.out.2.2, (fun _ => HPZ.out.2.1 HDN.out), ⟨Nat.le_trans B10.out.size f1, fun k hk => Nat.le_trans B10.out.size (f2 k hk), fun k hk => Nat.le_trans B10.out.size (f3 k hk)⟩, B10.out.trans (b11.mono B10.out.size)⟩
              have HSt := stands_any n D' tv' sv' z v11 (by omega) (by omega) h11
              have hrdz : decide (Dp.pRead z n.size = some n.data.toList) = true := by
                have hq := kDone_reads (HR1.out.done rfl) (by rw [HR1.out.life]; decide)
                rw [HCn.out, data_len] at hq
                exact decide_eq_true hq
              rw [hrdz] at HSt
              clear hrdz
              clear h11 b11 f1 f2 f3 h10
              go_wp2_with fail
              refine HSt.mono ?_
              rintro e v12 ⟨rfl, h0⟩
              rw [h0]
              clear h0 v12
              go_wp2_with fail
              exact ⟨⟨D', tv', sv', z, true, i + 1, rfl, rfl, by go_num, by omega, HR1⟩, by simp [intOf]; omega⟩
        · have HKA : Hid (kAny c y) := hka
          have hsz := kAny_sizes HKA.out
          rw [decide_eq_true hyl] at HDd
          clear hka hyl
          go_wp2_with fail
          refine HDd.mono ?_
          rintro e v9b ⟨rfl, h0⟩
          rw [h0]
          clear h0 v9b HDd
          cases b with
          | true =>
            have HDN : Hid (kDone c y) := DY.out rfl
            clear DY
            by_cases h3i : i < zs3.length
            · obtain ⟨b3, o3, ha3⟩ : ∃ b o, a3 = some ⟨b, o, none⟩ := by
                rcases h3.out with ⟨hz, _⟩ | ⟨b, o, c', hh, _⟩
                · rw [hz] at h3i; simp at h3i
                · simp at hh; exact ⟨b, o, hh.1⟩
              subst ha3
              have hc3 : zs3.length ≤ c3 := HC3.out
              have d3 : decide ((i : Int) < (zs3.length : Int)) = true := decide_eq_true (by omega)
              have g3 : (i : Int) ≤ (c3 : Int) := by omega
              have HP := power_any D tv sv y (.slice (some ⟨b3, o3 + i, none⟩) (zs3.length - i) (c3 - i)) (zs3.drop i) v9 (by omega) (by omega) hsz.2.2.1 (by omega) (ok3.out.drop i) h9.out (fun v k => (h3.out.below (hrd.out.fresh.below B9.out rfl k)).drop i h3i _)
              obtain ⟨P1, P2, P3⟩ := power_spec c y HKA.out (zs3.drop i)
              have hpz := kAny_sizes (.inl P1 : kAny c (pPower y (zs3.drop i)))
              generalize pPower y (zs3.drop i) = z at *
              have HPZ : Hid (kSure c z ∧ (kDone c y → kDone c z) ∧ z.life = -1) := ⟨P1, P2, P3⟩
              clear P1 P2 P3
              go_wp2_with fail
              refine HP.mono ?_
              rintro e v10 ⟨rfl, h10, k10⟩
              have B10 : Hid (Below w.heap.size w v10) := hrd.out.fresh.below B9.out rfl k10
              clear k10 HP
              go_wp2_with fail
              refine (copy_any D tv sv z v10 (by omega) (by omega) h10).mono ?_
              rintro e v11 ⟨D', tv', sv', rfl, h11, b11, f1, f2, f3⟩
              have HR1 : Hid (rndDev w c true D' tv' sv' z v11) := ⟨h11, HPZ.out.1, HPZ.out.2.2, (fun _ => HPZ.out.2.1 HDN.out), ⟨Nat.le_trans B10.out.size f1, fun k hk => Nat.le_trans B10.out.size (f2 k hk), fun k hk => Nat.le_trans B10.out.size (f3 k hk)⟩, B10.out.trans (b11.mono B10.out.size)⟩
              have HSt := stands_any n D' tv' sv' z v11 (by omega) (by omega) h11
              have hrdz : decide (Dp.pRead z n.size = some n.data.toList) = true := by
                have hq := kDone_reads (HR1.out.done rfl) (by rw [HR1.out.life]; decide)
                rw [HCn.out, data_len] at hq
                exact decide_eq_true hq
              rw [hrdz] at HSt
              clear hrdz
              clear h11 b11 f1 f2 f3 h10
              go_wp2_with fail
              refine HSt.mono ?_
              rintro e v12 ⟨rfl, h0⟩
              rw [h0]
              clear h0 v12
              go_wp2_with fail
              exact ⟨⟨D', tv', sv', z, true, i + 1, rfl, rfl, by go_num, by omega, HR1⟩, by simp [intOf]; omega⟩
            · have d3 : decide ((i : Int) < (zs3.length : Int)) = false := decide_eq_false (by omega)
              have HP := power_any D tv sv y (.slice none 0 0) [] v9 (by omega) (by omega) hsz.2.2.1 (by omega) ⟨by simp, fun i => by simp⟩ h9.out (fun v k => .inl ⟨rfl, none, 0, rfl⟩)
              obtain ⟨P1, P2, P3⟩ := power_spec c y HKA.out ([])
              have hpz := kAny_sizes (.inl P1 : kAny c (pPower y ([])))
              generalize pPower y ([]) = z at *
              have HPZ : Hid (kSure c z ∧ (kDone c y → kDone c z) ∧ z.life = -1) := ⟨P1, P2, P3⟩
              clear P1 P2 P3
              go_wp2_with fail
              refine HP.mono ?_
              rintro e v10 ⟨rfl, h10, k10⟩
              have B10 : Hid (Below w.heap.size w v10) := hrd.out.fresh.below B9.out rfl k10
              clear k10 HP
              go_wp2_with fail
              refine (copy_any D tv sv z v10 (by omega) (by omega) h10).mono ?_
              rintro e v11 ⟨D', tv', sv', rfl, h11, b11, f1, f2, f3⟩
              have HR1 : Hid (rndDev w c true D' tv' sv' z v11) := ⟨h11, HPZ.out.1, HPZ.out.2.2, (fun _ => HPZ.out.2.1 HDN.out), ⟨Nat.le_trans B10.out.size f1, fun k hk => Nat.le_trans B10.out.size (f2 k hk), fun k hk => Nat.le_trans B10.out.size (f3 k hk)⟩, B10.out.trans (b11.mono B10.out.size)⟩
              have HSt := stands_any n D' tv' sv' z v11 (by omega) (by omega) h11
              have hrdz : decide (Dp.pRead z n.size = some n.data.toList) = true := by
                have hq := kDone_reads (HR1.out.done rfl) (by rw [HR1.out.life]; decide)
                rw [HCn.out, data_len] at hq
                exact decide_eq_true hq
              rw [hrdz] at HSt
              clear hrdz
              clear h11 b11 f1 f2 f3 h10
              go_wp2_with fail
              refine HSt.mono ?_
              rintro e v12 ⟨rfl, h0⟩
              rw [h0]
              clear h0 v12
              go_wp2_with fail
              exact ⟨⟨D', tv', sv', z, true, i + 1, rfl, rfl, by go_num, by omega, HR1⟩, by simp [intOf]; omega⟩
          | false =>
            clear DY
            by_cases h3i : i < zs3.length
            · obtain ⟨b3, o3, ha3⟩ : ∃ b o, a3 = some ⟨b, o, none⟩ := by
                rcases h3.out with ⟨hz, _⟩ | ⟨b, o, c', hh, _⟩
                · rw [hz] at h3i; simp at h3i
                · simp at hh; exact ⟨b, o, hh.1⟩
              subst ha3
              have hc3 : zs3.length ≤ c3 := HC3.out
              have d3 : decide ((i : Int) < (zs3.length : Int)) = true := decide_eq_true (by omega)
              have g3 : (i : Int) ≤ (c3 : Int) := by omega
              have HP := power_any D tv sv y (.slice (some ⟨b3, o3 + i, none⟩) (zs3.length - i) (c3 - i)) (zs3.drop i) v9 (by omega) (by omega) hsz.2.2.1 (by omega) (ok3.out.drop i) h9.out (fun v k => (h3.out.below (hrd.out.fresh.below B9.out rfl k)).drop i h3i _)
              obtain ⟨P1, P2, P3⟩ := power_spec c y HKA.out (zs3.drop i)
              have hpz := kAny_sizes (.inl P1 : kAny c (pPower y (zs3.drop i)))
              generalize pPower y (zs3.drop i) = z at *
              have HPZ : Hid (kSure c z ∧ (kDone c y → kDone c z) ∧ z.life = -1) := ⟨P1, P2, P3⟩
              clear P1 P2 P3
              go_wp2_with fail
              refine HP.mono ?_
              rintro e v10 ⟨rfl, h10, k10⟩
              have B10 : Hid (Below w.heap.size w v10) := hrd.out.fresh.below B9.out rfl k10
              clear k10 HP
              go_wp2_with fail
              refine (copy_any D tv sv z v10 (by omega) (by omega) h10).mono ?_
              rintro e v11 ⟨D', tv', sv', rfl, h11, b11, f1, f2, f3⟩
              have HR1 : Hid (rndDev w c false D' tv' sv' z v11) := ⟨h11, HPZ.out.1, HPZ.out.2.2, (fun hb => by cases hb), ⟨Nat.le_trans B10.out.size f1, fun k hk => Nat.le_trans B10.out.size (f2 k hk), fun k hk => Nat.le_trans B10.out.size (f3 k hk)⟩, B10.out.trans (b11.mono B10.out.size)⟩
              have HSt := stands_any n D' tv' sv' z v11 (by omega) (by omega) h11
              generalize decide (Dp.pRead z n.size = some n.data.toList) = sd at *
              clear h11 b11 f1 f2 f3 h10
              go_wp2_with fail
              refine HSt.mono ?_
              rintro e v12 ⟨rfl, h0⟩
              rw [h0]
              clear h0 v12
              go_wp2_with fail
              exact ⟨⟨D', tv', sv', z, false, i + 1, rfl, rfl, by go_num, by omega, HR1⟩, by simp [intOf]; omega⟩
            · have d3 : decide ((i : Int) < (zs3.length : Int)) = false := decide_eq_false (by omega)
              have HP := power_any D tv sv y (.slice none 0 0) [] v9 (by omega) (by omega) hsz.2.2.1 (by omega) ⟨by simp, fun i => by simp⟩ h9.out (fun v k => .inl ⟨rfl, none, 0, rfl⟩)
              obtain ⟨P1, P2, P3⟩ := power_spec c y HKA.out ([])
              have hpz := kAny_sizes (.inl P1 : kAny c (pPower y ([])))
              generalize pPower y ([]) = z at *
              have HPZ : Hid (kSure c z ∧ (kDone c y → kDone c z) ∧ z.life = -1) := ⟨P1, P2, P3⟩
              clear P1 P2 P3
              go_wp2_with fail
              refine HP.mono ?_
              rintro e v10 ⟨rfl, h10, k10⟩
              have B10 : Hid (Below w.heap.size w v10) := hrd.out.fresh.below B9.out rfl k10
              clear k10 HP
              go_wp2_with fail
              refine (copy_any D tv sv z v10 (by omega) (by omega) h10).mono ?_
              rintro e v11 ⟨D', tv', sv', rfl, h11, b11, f1, f2, f3⟩
              have HR1 : Hid (rndDev w c false D' tv' sv' z v11) := ⟨h11, HPZ.out.1, HPZ.out.2.2, (fun hb => by cases hb), ⟨Nat.le_trans B10.out.size f1, fun k hk => Nat.le_trans B10.out.size (f2 k hk), fun k hk => Nat.le_trans B10.out.size (f3 k hk)⟩, B10.out.trans (b11.mono B10.out.size)⟩
              have HSt := stands_any n D' tv' sv' z v11 (by omega) (by omega) h11
              generalize decide (Dp.pRead z n.size = some n.data.toList) = sd at *
              clear h11 b11 f1 f2 f3 h10
              go_wp2_with fail
              refine HSt.mono ?_
              rintro e v12 ⟨rfl, h0⟩
              rw [h0]
              clear h0 v12
              go_wp2_with fail
              exact ⟨⟨D', tv', sv', z, false, i + 1, rfl, rfl, by go_num, by omega, HR1⟩, by simp [intOf]; omega⟩
      · have dz2 : decide ((i : Int) < (zs2.length : Int)) = false := decide_eq_false (by omega)
        have HDo := doK_any c T D tv sv x wr HC.out hrd.out.sure hrd.out.dev hLx
        go_wp2_with fail
        refine HDo.mono ?_
        rintro e v9 ⟨y, hy, ly, -, h9', k9⟩
        have h9 : Hid (devAt D tv sv y v9) := h9'
        have B9 : Hid (Below w.heap.size w v9) := hrd.out.fresh.below hrd.out.bel rfl k9
        have hly := ly hrd.out.life
        clear h9' k9 HDo ly
        have hy' : e = .returned (.int .i64 0) ∧ kDone c y := by
          rcases hy with h | ⟨_, hyl, _⟩
          · exact h
          · rw [hyl] at hly; exact absurd hly (by decide)
        obtain ⟨rfl, hkd⟩ := hy'
        have HKA : kAny c y := .inl (.inr (.inr hkd))
        have hsz := kAny_sizes HKA
        have HP := power_any D tv sv y (.slice a3 zs3.length c3) zs3 v9 (by omega) (by omega) hsz.2.2.1 (by omega) ok3 h9.out (fun v k => h3.out.below (hrd.out.fresh.below B9.out rfl k))
        obtain ⟨P1, P2, P3⟩ := power_spec c y HKA zs3
        have hpz := kAny_sizes (.inl P1 : kAny c (pPower y zs3))
        generalize pPower y zs3 = z at *
        have HPZ : Hid (kSure c z ∧ kDone c z ∧ z.life = -1) := ⟨P1, P2 hkd, P3⟩
        clear P1 P2 P3 hkd HKA
        go_wp2_with fail
        refine HP.mono ?_
        rintro e v10 ⟨rfl, h10, k10⟩
        have H10 : Hid (devAt D tv sv z v10) := h10
        have B10 : Hid (Below w.heap.size w v10) := hrd.out.fresh.below B9.out rfl k10
        clear k10 HP h10
        have HSt := stands_any n D tv sv z v10 (by omega) (by omega) H10
        have hrdz : decide (Dp.pRead z n.size = some n.data.toList) = true := by
          have hq := kDone_reads HPZ.out.2.1 (by rw [HPZ.out.2.2]; decide)
          rw [HCn.out, data_len] at hq
          exact decide_eq_true hq
        rw [hrdz] at HSt
        clear hrdz
        go_wp2_with fail
        refine HSt.mono ?_
        rintro e v12 ⟨rfl, h0⟩
        rw [h0]
        clear h0 v12 HSt
        go_wp2_with fail
        refine (copy_any D tv sv z v10 (by omega) (by omega) H10).mono ?_
        rintro e v11 ⟨D', tv', sv', rfl, h11, b11, f1, f2, f3⟩
        have HFr : Hid (freshDev w.heap.size D' tv' sv') := ⟨Nat.le_trans B10.out.size f1, fun k hk => Nat.le_trans B10.out.size (f2 k hk), fun k hk => Nat.le_trans B10.out.size (f3 k hk)⟩
        have B11 : Hid (Below w.heap.size w v11) := B10.out.trans (b11.mono B10.out.size)
        have HDo2 := doK_any c T D' tv' sv' z v11 HC.out HPZ.out.1 h11 (by have := HPZ.out.2.2; exact ⟨by omega, by omega⟩)
        clear b11 f1 f2 f3
        go_wp2_with fail
        refine HDo2.mono ?_
        rintro e v13 ⟨y2, hy2, ly2, -, -, k13⟩
        have B13 : Hid (Below w.heap.size w v13) := HFr.out.below B11.out rfl k13
        have hly2 := ly2 HPZ.out.2.2
        clear k13 ly2 HDo2
        have hy' : e = .returned (.int .i64 0) := by
          rcases hy2 with h | ⟨_, hyl, _⟩
          · exact h.1
          · rw [hyl] at hly2; exact absurd hly2 (by decide)
        subst hy'
        go_wp2_with fail
        go_ret
        exact ⟨rfl, B13.out⟩
    · have d20 : decide ((i : Int) < 20) = false := decide_eq_false (by omega)
      by_cases hi2 : i < zs2.length
      · have dz2 : decide ((i : Int) < (zs2.length : Int)) = true := decide_eq_true (by omega)
        have HDo := doK_any c T D tv sv x wr HC.out hrd.out.sure hrd.out.dev hLx
        go_wp2_with fail
        refine HDo.mono ?_
        rintro e v9 ⟨y, hy, ly, -, h9', k9⟩
        have h9 : Hid (devAt D tv sv y v9) := h9'
        have B9 : Hid (Below w.heap.size w v9) := hrd.out.fresh.below hrd.out.bel rfl k9
        have hly := ly hrd.out.life
        clear h9' k9 HDo ly
        have hy' : e = .returned (.int .i64 0) ∧ kDone c y := by
          rcases hy with h | ⟨_, hyl, _⟩
          · exact h
          · rw [hyl] at hly; exact absurd hly (by decide)
        obtain ⟨rfl, hkd⟩ := hy'
        have HKA : kAny c y := .inl (.inr (.inr hkd))
        have hsz := kAny_sizes HKA
        have HP := power_any D tv sv y (.slice a3 zs3.length c3) zs3 v9 (by omega) (by omega) hsz.2.2.1 (by omega) ok3 h9.out (fun v k => h3.out.below (hrd.out.fresh.below B9.out rfl k))
        obtain ⟨P1, P2, P3⟩ := power_spec c y HKA zs3
        have hpz := kAny_sizes (.inl P1 : kAny c (pPower y zs3))
        generalize pPower y zs3 = z at *
        have HPZ : Hid (kSure c z ∧ kDone c z ∧ z.life = -1) := ⟨P1, P2 hkd, P3⟩
        clear P1 P2 P3 hkd HKA
        go_wp2_with fail
        refine HP.mono ?_
        rintro e v10 ⟨rfl, h10, k10⟩
        have H10 : Hid (devAt D tv sv z v10) := h10
        have B10 : Hid (Below w.heap.size w v10) := hrd.out.fresh.below B9.out rfl k10
        clear k10 HP h10
        have HSt := stands_any n D tv sv z v10 (by omega) (by omega) H10
        have hrdz : decide (Dp.pRead z n.size = some n.data.toList) = true := by
          have hq := kDone_reads HPZ.out.2.1 (by rw [HPZ.out.2.2]; decide)
          rw [HCn.out, data_len] at hq
          exact decide_eq_true hq
        rw [hrdz] at HSt
        clear hrdz
        go_wp2_with fail
        refine HSt.mono ?_
        rintro e v12 ⟨rfl, h0⟩
        rw [h0]
        clear h0 v12 HSt
        go_wp2_with fail
        refine (copy_any D tv sv z v10 (by omega) (by omega) H10).mono ?_
        rintro e v11 ⟨D', tv', sv', rfl, h11, b11, f1, f2, f3⟩
        have HFr : Hid (freshDev w.heap.size D' tv' sv') := ⟨Nat.le_trans B10.out.size f1, fun k hk => Nat.le_trans B10.out.size (f2 k hk), fun k hk => Nat.le_trans B10.out.size (f3 k hk)⟩
        have B11 : Hid (Below w.heap.size w v11) := B10.out.trans (b11.mono B10.out.size)
        have HDo2 := doK_any c T D' tv' sv' z v11 HC.out HPZ.out.1 h11 (by have := HPZ.out.2.2; exact ⟨by omega, by omega⟩)
        clear b11 f1 f2 f3
        go_wp2_with fail
        refine HDo2.mono ?_
        rintro e v13 ⟨y2, hy2, ly2, -, -, k13⟩
        have B13 : Hid (Below w.heap.size w v13) := HFr.out.below B11.out rfl k13
        have hly2 := ly2 HPZ.out.2.2
        clear k13 ly2 HDo2
        have hy' : e = .returned (.int .i64 0) := by
          rcases hy2 with h | ⟨_, hyl, _⟩
          · exact h.1
          · rw [hyl] at hly2; exact absurd hly2 (by decide)
        subst hy'
        go_wp2_with fail
        go_ret
        exact ⟨rfl, B13.out⟩
      · have dz2 : decide ((i : Int) < (zs2.length : Int)) = false := decide_eq_false (by omega)
        have HDo := doK_any c T D tv sv x wr HC.out hrd.out.sure hrd.out.dev hLx
        go_wp2_with fail
        refine HDo.mono ?_
        rintro e v9 ⟨y, hy, ly, -, h9', k9⟩
        have h9 : Hid (devAt D tv sv y v9) := h9'
        have B9 : Hid (Below w.heap.size w v9) := hrd.out.fresh.below hrd.out.bel rfl k9
        have hly := ly hrd.out.life
        clear h9' k9 HDo ly
        have hy' : e = .returned (.int .i64 0) ∧ kDone c y := by
          rcases hy with h | ⟨_, hyl, _⟩
          · exact h
          · rw [hyl] at hly; exact absurd hly (by decide)
        obtain ⟨rfl, hkd⟩ := hy'
        have HKA : kAny c y := .inl (.inr (.inr hkd))
        have hsz := kAny_sizes HKA
        have HP := power_any D tv sv y (.slice a3 zs3.length c3) zs3 v9 (by omega) (by omega) hsz.2.2.1 (by omega) ok3 h9.out (fun v k => h3.out.below (hrd.out.fresh.below B9.out rfl k))
        obtain ⟨P1, P2, P3⟩ := power_spec c y HKA zs3
        have hpz := kAny_sizes (.inl P1 : kAny c (pPower y zs3))
        generalize pPower y zs3 = z at *
        have HPZ : Hid (kSure c z ∧ kDone c z ∧ z.life = -1) := ⟨P1, P2 hkd, P3⟩
        clear P1 P2 P3 hkd HKA
        go_wp2_with fail
        refine HP.mono ?_
        rintro e v10 ⟨rfl, h10, k10⟩
        have H10 : Hid (devAt D tv sv z v10) := h10
        have B10 : Hid (Below w.heap.size w v10) := hrd.out.fresh.below B9.out rfl k10
        clear k10 HP h10
        have HSt := stands_any n D tv sv z v10 (by omega) (by omega) H10
        have hrdz : decide (Dp.pRead z n.size = some n.data.toList) = true := by
          have hq := kDone_reads HPZ.out.2.1 (by rw [HPZ.out.2.2]; decide)
          rw [HCn.out, data_len] at hq
          exact decide_eq_true hq
        rw [hrdz] at HSt
        clear hrdz
        go_wp2_with fail
        refine HSt.mono ?_
        rintro e v12 ⟨rfl, h0⟩
        rw [h0]
        clear h0 v12 HSt
        go_wp2_with fail
        refine (copy_any D tv sv z v10 (by omega) (by omega) H10).mono ?_
        rintro e v11 ⟨D', tv', sv', rfl, h11, b11, f1, f2, f3⟩
        have HFr : Hid (freshDev w.heap.size D' tv' sv') := ⟨Nat.le_trans B10.out.size f1, fun k hk => Nat.le_trans B10.out.size (f2 k hk), fun k hk => Nat.le_trans B10.out.size (f3 k hk)⟩
        have B11 : Hid (Below w.heap.size w v11) := B10.out.trans (b11.mono B10.out.size)
        have HDo2 := doK_any c T D' tv' sv' z v11 HC.out HPZ.out.1 h11 (by have := HPZ.out.2.2; exact ⟨by omega, by omega⟩)
        clear b11 f1 f2 f3
        go_wp2_with fail
        refine HDo2.mono ?_
        rintro e v13 ⟨y2, hy2, ly2, -, -, k13⟩
        have B13 : Hid (Below w.heap.size w v13) := HFr.out.below B11.out rfl k13
        have hly2 := ly2 HPZ.out.2.2
        clear k13 ly2 HDo2
        have hy' : e = .returned (.int .i64 0) := by
          rcases hy2 with h | ⟨_, hyl, _⟩
          · exact h.1
          · rw [hyl] at hly2; exact absurd hly2 (by decide)
        subst hy'
        go_wp2_with fail
        go_ret
        exact ⟨rfl, B13.out⟩

end Go.Proofs.Ytjjmcnippjpclab
