/-
  The walk of shortestOfRing: a Copy of a ring.
-/
import Derived.Test.YtjjmcnippjpclabNewWebs
namespace Go.Proofs.Ytjjmcnippjpclab

open Go.RowKit

theorem waiting_any (n : Int) (w : World) : Calls Try.prog 76 #[.int .i64 n] w fun e w' => e = .returned (.bool (decide (0 < n))) ∧ w' = w := by
  go_enter Try.func76, Try.ntmps76
  go_wp2
  go_ret
  exact ⟨rfl, rfl⟩

set_option maxRecDepth 100000 in
set_option maxHeartbeats 2000000 in
theorem indexFunc_any (gw n : Nat) (Wt : Nat → Nat) (w : World) (hn : n ≤ 4000) (hr : Hid (w.rowIs gw 3 n (fun i => .int .i64 (Wt i : Nat)))) (hex : Hid (∃ i, i < n ∧ 0 < Wt i)) :
    Calls Try.prog 75 #[.slice (some ⟨gw, 0, none⟩) n n, .func (.func 76) #[] #[]] w fun e w' => (∃ i : Nat, e = .returned (.int .i64 i) ∧ i < n ∧ 0 < Wt i) ∧ w' = w := by
  go_enter Try.func75, Try.ntmps75
  go_wp2_with fail
  go_loop [8] (fun x => ∃ k : Nat, x = .int .i64 k ∧ k ≤ n ∧ Hid (∀ i, i < k → Wt i = 0)) (fun x => n - (intOf x).toNat)
  case atStart => exact ⟨0, rfl, Nat.zero_le _, fun i hi => absurd hi (Nat.not_lt_zero _)⟩
  case round =>
    obtain ⟨k, rfl, hk, hno⟩ := hrel
    by_cases hlt : k < n
    · have hk0 : (k : Int) < (n : Int) := by omega
      have c0 := hr.out.cell (i := k) hlt
      go_wp2_with fail
      refine (waiting_any _ _).mono ?_
      rintro e v ⟨rfl, rfl⟩
      by_cases hz : Wt k = 0
      · have d : decide ((0 : Int) < ((Wt k : Nat) : Int)) = false := decide_eq_false (by omega)
        rw [d]
        go_wp2_with fail
        refine ⟨⟨k + 1, by go_num, by omega, fun i hi => ?_⟩, by simp [intOf]; omega⟩
        rcases Nat.lt_succ_iff_lt_or_eq.1 hi with h | rfl
        · exact hno.out i h
        · exact hz
      · have d : decide ((0 : Int) < ((Wt k : Nat) : Int)) = true := decide_eq_true (by omega)
        rw [d]
        go_wp2_with fail
        go_ret
        exact ⟨⟨k, rfl, hlt, by omega⟩, rfl⟩
    · exfalso
      obtain ⟨i, h1, h2⟩ := hex.out
      have := hno.out i (by omega)
      omega

set_option maxRecDepth 100000 in
set_option maxHeartbeats 2000000 in
theorem holder_any (sv : Value) (l : List _root_.Pl.Sp) (B Wb ga gb gw k : Nat) (L : Nat → List Nat) (Wt : Nat → Nat) (V : Nat → Value) (w : World) (hl : l.length ≤ 4000) (hk : k < l.length) (hLa : Hid (L k = _root_.Pl.aheadOf l k)) (hin : Hid (WebIn Wb B sv l.length L Wt ga gb gw V w)) :
    Calls Try.prog 77 #[.pointer (some ⟨Wb, 0, none⟩), .int .i64 k] w fun e w' => e = .returned (.int .i64 (_root_.Pl.holdOf l Wt k : Nat)) ∧ w' = w := by
  have hO := hin.out.own k (by omega)
  rw [hLa.out] at hO
  obtain ⟨vo, vc, hV⟩ : ∃ vo vc, V k = .slice vo (_root_.Pl.aheadOf l k).length vc := by
    rcases hO.2 with ⟨hv, hz⟩ | ⟨g, cap, cur, hv, _⟩
    · exact ⟨none, 0, by rw [hv, hz]⟩
    · exact ⟨_, _, hv⟩
  have HO : Hid (w.ownsRow B 3 1 (.slice vo (_root_.Pl.aheadOf l k).length vc) (_root_.Pl.aheadOf l k).length (nums (_root_.Pl.aheadOf l k))) := by rw [hV] at hO; exact hO
  have cA := hin.out.rowA.cell (i := k) hk
  rw [hV] at cA
  obtain ⟨_, p1, _, p3⟩ := hin.out.cells
  have hbl : (_root_.Pl.aheadOf l k).length ≤ 4000 := by
    have := List.length_filter_le (fun c => _root_.Pl.tied l c k) (List.range l.length)
    rw [List.length_range] at this
    exact Nat.le_trans this hl
  have HM : Hid (∀ c ∈ _root_.Pl.aheadOf l k, c < l.length) := fun c hc => (_root_.Pl.tied_lt (_root_.Pl.mem_ahead.1 hc)).1
  have HF : Hid (_root_.Pl.holdOf l Wt k = ((_root_.Pl.aheadOf l k).find? fun c => decide (0 < Wt c)).getD k) := rfl
  generalize _root_.Pl.aheadOf l k = A at *
  generalize _root_.Pl.holdOf l Wt k = R at *
  have hk0 : (k : Int) < (l.length : Int) := by omega
  clear hO hV
  go_enter Try.func77, Try.ntmps77
  go_wp2_with fail
  go_loop [15] (fun x => ∃ j : Nat, x = .int .i64 j ∧ j ≤ A.length ∧ Hid (∀ c ∈ A.take j, ¬ 0 < Wt c)) (fun x => A.length - (intOf x).toNat)
  case atStart => exact ⟨0, rfl, Nat.zero_le _, fun c hc => by simp at hc⟩
  case round =>
    obtain ⟨j, rfl, hj, hno⟩ := hrel
    by_cases hlt : j < A.length
    · obtain ⟨c, hc⟩ : ∃ c, A[j]? = some c := ⟨A[j], List.getElem?_eq_getElem hlt⟩
      obtain ⟨gv, hvo⟩ : ∃ gv, vo = some ⟨gv, 0, none⟩ := by
        obtain ⟨g, cap, hv, _⟩ := HO.out.form (by omega)
        simp only [Value.slice.injEq] at hv
        exact ⟨g, hv.1⟩
      subst hvo
      have cV : w.cell? ⟨gv, j, none⟩ = some (.int .i64 (c : Nat)) := quAt.cells HO.out j c hc
      have hcl := HM.out c (List.mem_of_getElem? hc)
      have cW := hin.out.rowW.cell (i := c) hcl
      have hj0 : (j : Int) < (A.length : Int) := by omega
      have hc0 : (c : Int) < (l.length : Int) := by omega
      have HC : Hid (A[j]? = some c) := hc
      clear hc
      go_wp2_with fail
      refine (waiting_any _ _).mono ?_
      rintro e v ⟨rfl, h0⟩
      rw [h0]
      clear h0 v
      by_cases hz : 0 < Wt c
      · have d : decide ((0 : Int) < ((Wt c : Nat) : Int)) = true := decide_eq_true (by omega)
        rw [d]
        have hR : R = c := by
          rw [HF.out]
          have e : A.find? (fun c => decide (0 < Wt c)) = some c := by
            rw [List.find?_eq_some_iff_append]
            refine ⟨by simpa using hz, A.take j, A.drop (j + 1), ?_, fun x hx => by simpa using hno.out x hx⟩
            have h2 := List.take_append_drop j A
            rw [List.drop_eq_getElem_cons hlt, (List.getElem?_eq_some_iff.1 HC.out).2] at h2
            exact h2.symm
          rw [e]; rfl
        have HR : Hid (R = c) := hR
        clear hR
        go_wp2_with fail
        go_ret
        exact ⟨by rw [HR.out]; rfl, rfl⟩
      · have d : decide ((0 : Int) < ((Wt c : Nat) : Int)) = false := decide_eq_false (by omega)
        rw [d]
        go_wp2_with fail
        refine ⟨⟨j + 1, by go_num, by omega, fun x hx => ?_⟩, by simp [intOf]; omega⟩
        rw [List.take_add_one, HC.out] at hx
        rcases List.mem_append.1 hx with hx | hx
        · exact hno.out x hx
        · simp only [Option.toList_some, List.mem_singleton] at hx; subst hx; exact hz
    · have hje : j = A.length := by omega
      subst hje
      have hR : R = k := by
        rw [HF.out]
        have e : A.find? (fun c => decide (0 < Wt c)) = none := by
          rw [List.find?_eq_none]
          intro x hx
          have := hno.out x (by rw [List.take_length]; exact hx)
          simpa using this
        rw [e]; rfl
      have HR : Hid (R = k) := hR
      clear hR
      go_wp2_with fail
      go_ret
      exact ⟨by rw [HR.out]; rfl, rfl⟩

theorem sub_len : ∀ (a b : List Nat), a.Nodup → (∀ x ∈ a, x ∈ b) → a.length ≤ b.length
  | [], _, _, _ => Nat.zero_le _
  | x :: r, b, hn, h => by
    rw [List.nodup_cons] at hn
    have hx : x ∈ b := h x (by simp)
    have h1 := sub_len r (b.erase x) hn.2 (fun y hy => (List.mem_erase_of_ne (fun e => hn.1 (by rw [← e]; exact hy))).2 (h y (by simp [hy])))
    rw [List.length_erase_of_mem hx] at h1
    have := List.length_pos_of_mem hx
    simp only [List.length_cons]
    omega

theorem srt_some {l : List _root_.Pl.Sp} {D : List Nat} (h : _root_.Pl.Srt l D []) (hne : D.length ≠ l.length) : ∃ i, i < l.length ∧ 0 < _root_.Pl.waitsOf l D i := by
  have hnd : D.Nodup := by have := h.nd; rwa [List.append_nil] at this
  have hlt : ∀ i ∈ D, i < l.length := fun i hi => h.lt i (by rw [List.append_nil]; exact hi)
  have hle := _root_.Pl.nodup_le l.length D hnd hlt
  rcases Classical.em (∃ i, i < l.length ∧ i ∉ D) with ⟨i, hi, hD⟩ | hno
  · refine ⟨i, hi, ?_⟩
    have h2 := h.zero i hi
    rw [List.append_nil] at h2
    have : _root_.Pl.waitsOf l D i ≠ 0 := fun e => hD (h2.2 e)
    omega
  · exfalso
    have hall : ∀ i ∈ List.range l.length, i ∈ D := fun i hi => (Classical.em (i ∈ D)).resolve_right (fun hn => hno ⟨i, List.mem_range.1 hi, hn⟩)
    have := sub_len _ D (_root_.Pl.nodup_range l.length) hall
    rw [List.length_range] at this
    omega

set_option maxRecDepth 100000 in
set_option maxHeartbeats 4000000 in
theorem ring_any (nx : ByteArray) (sv : Value) (l : List _root_.Pl.Sp) (D : List Nat) (B Bs Wb ga gb gw : Nat) (L : Nat → List Nat) (V : Nat → Value) (w : World) (hl : l.length ≤ 4000) (hS : Hid (_root_.Pl.Srt l D [])) (hne : D.length ≠ l.length) (hLa : Hid (∀ k, k < l.length → L k = _root_.Pl.aheadOf l k))
    (hw : Hid (w.ownsRow Bs 37 5 sv l.length (spCells nx l))) (hin : Hid (WebIn Wb B sv l.length L (_root_.Pl.waitsOf l D) ga gb gw V w)) :
    Calls Try.prog 41 #[.pointer (some ⟨Wb, 0, none⟩)] w fun e w' => (∃ (k : Nat) (s : _root_.Pl.Sp) (f : Nat), e = .returned (.int .i64 k) ∧ l[k]? = some s ∧ s.src = some f) ∧ Below w.heap.size w w' := by
  have hex : Hid (∃ i, i < l.length ∧ 0 < _root_.Pl.waitsOf l D i) := srt_some hS.out hne
  have hl1 : 1 ≤ l.length := by obtain ⟨i, hi, _⟩ := hex.out; omega
  obtain ⟨gs, sc, rfl⟩ : ∃ gs sc, sv = .slice (some ⟨gs, 0, none⟩) l.length sc := by
    obtain ⟨g, cap, hv, _⟩ := hw.out.form hl1
    exact ⟨g, cap, hv⟩
  obtain ⟨p0, _, _, p3⟩ := hin.out.cells
  have hrow : Hid (w.rowIs gw 3 l.length (fun i => .int .i64 (_root_.Pl.waitsOf l D i : Nat))) := hin.out.rowW
  have HH : Hid (∀ k, k < l.length → ∀ m, Calls Try.prog 77 #[.pointer (some ⟨Wb, 0, none⟩), .int .i64 k] (w.drewN m) fun e w' => e = .returned (.int .i64 (_root_.Pl.holdOf l (_root_.Pl.waitsOf l D) k : Nat)) ∧ w' = (w.drewN m)) := fun k hk m =>
    holder_any _ l B Wb ga gb gw k L _ V (w.drewN m) hl hk (hLa.out k hk) (hin.out.kept (fun _ _ => rfl) (Nat.le_refl _) rfl rfl rfl)
  have HIT : Hid (∀ k, k < l.length → 0 < _root_.Pl.waitsOf l D k → ∀ m, _root_.Pl.it (_root_.Pl.holdOf l (_root_.Pl.waitsOf l D)) m k < l.length ∧ (1 ≤ m → ∃ i, _root_.Pl.tied l (_root_.Pl.it (_root_.Pl.holdOf l (_root_.Pl.waitsOf l D)) m k) i = true)) := fun k hk hw m =>
    ⟨(_root_.Pl.hold_it hS.out hk hw m).1, (_root_.Pl.hold_it hS.out hk hw m).2.2⟩
  generalize _root_.Pl.holdOf l (_root_.Pl.waitsOf l D) = F at *
  generalize _root_.Pl.waitsOf l D = WD at *
  clear hin hS
  go_enter Try.func41, Try.ntmps41
  go_wp2_with fail
  refine (indexFunc_any gw l.length WD w hl hrow hex).mono ?_
  rintro e v1 ⟨⟨a0, rfl, ha0, hwa0⟩, h0⟩
  rw [h0]
  clear h0 v1
  have HA : Hid (∀ m, _root_.Pl.it F m a0 < l.length ∧ (1 ≤ m → ∃ i, _root_.Pl.tied l (_root_.Pl.it F m a0) i = true)) := HIT.out a0 ha0 hwa0
  obtain ⟨P, hP1, hP2, hP3⟩ := _root_.Pl.it_ring (f := F) (n := l.length) (x := a0) (fun m => (HA.out m).1)
  have HP3 : Hid (_root_.Pl.it F P (_root_.Pl.it F l.length a0) = _root_.Pl.it F l.length a0) := hP3
  clear hP3 HIT hex hwa0
  go_wp2_with fail
  go_loop [3, 16] (fun y x => ∃ m : Nat, x = .int .i64 m ∧ m ≤ l.length ∧ ∃ a : Nat, y = .int .i64 a ∧ Hid (a = _root_.Pl.it F m a0)) (fun _ x => l.length - (intOf x).toNat)
  case atStart => exact ⟨0, rfl, Nat.zero_le _, a0, rfl, rfl⟩
  case round =>
    obtain ⟨m, rfl, hm, a, rfl, ha⟩ := hrel
    have hal : a < l.length := by rw [ha.out]; exact (HA.out m).1
    by_cases hlt : m < l.length
    · have hH := HH.out a hal 0
      have HH0 : Hid (Calls Try.prog 77 #[.pointer (some ⟨Wb, 0, none⟩), .int .i64 a] w fun e w' => e = .returned (.int .i64 (F a : Nat)) ∧ w' = w) := hH
      clear hH
      have HN : Hid (F a = _root_.Pl.it F (m + 1) a0) := by show _ = _; rw [ha.out]; rfl
      go_wp2_with fail
      refine HH0.out.mono ?_
      rintro e v1 ⟨rfl, h0⟩
      rw [h0]
      clear h0 v1
      go_wp2_with fail
      exact ⟨⟨m + 1, by go_num, by omega, F a, rfl, HN⟩, by simp [intOf]; omega⟩
    · have hme : m = l.length := by omega
      subst hme
      have HH0 : Hid (Calls Try.prog 77 #[.pointer (some ⟨Wb, 0, none⟩), .int .i64 a] w fun e w' => e = .returned (.int .i64 (F a : Nat)) ∧ w' = w) := HH.out a hal 0
      go_wp2_with fail
      refine HH0.out.mono ?_
      rintro e v1 ⟨rfl, h0⟩
      rw [h0]
      clear h0 v1
      rw [← ha.out] at HP3
      have HB : Hid (∀ m, _root_.Pl.it F m a < l.length ∧ ∃ i, _root_.Pl.tied l (_root_.Pl.it F m a) i = true) := by
        intro m
        rw [ha.out, _root_.Pl.it_add]
        exact ⟨(HA.out _).1, (HA.out _).2 (by omega)⟩
      clear HH0 HA ha
      go_wp2_with fail
      go_loopg [4, 5] P (fun g y x wr => ∃ (m r : Nat), m + g = P + 1 ∧ 1 ≤ m ∧ m ≤ P ∧ (∃ k : Nat, x = .int .i64 k ∧ Hid (k = _root_.Pl.it F m a)) ∧ (∃ s : Nat, y = .int .i64 s ∧ Hid (s = _root_.Pl.it F r a)) ∧ ∃ d, wr = w.drewN d)
      case atStart => exact ⟨1, 0, by omega, by omega, by omega, ⟨_, rfl, rfl⟩, ⟨_, rfl, rfl⟩, 0, rfl⟩
      case round =>
        obtain ⟨m, r, hmg, hm1, hmP, ⟨k, rfl, hk⟩, ⟨s, rfl, hs⟩, d, rfl⟩ := hrel
        by_cases hka : k = a
        · have d0 : ((k : Int) != (a : Int)) = false := by rw [bne_eq_false_iff_eq]; omega
          clear hka
          go_wp2_with fail
          go_ret
          refine ⟨?_, below_drewN (Below.refl _ _) d⟩
          obtain ⟨h1, i, h2⟩ := HB.out r
          rw [← hs.out] at h1 h2
          obtain ⟨x, b, f, hx, _, hf, _⟩ := _root_.Pl.tied_spec h2
          exact ⟨s, x, f, rfl, hx, hf⟩
        · have d0 : ((k : Int) != (a : Int)) = true := by rw [bne_iff_ne]; omega
          have hkl : k < l.length := by rw [hk.out]; exact (HB.out m).1
          have hsl : s < l.length := by rw [hs.out]; exact (HB.out r).1
          have hmP' : m < P := by
            rcases Nat.lt_or_eq_of_le hmP with h | h
            · exact h
            · exact absurd (by rw [hk.out, h]; exact HP3.out) hka
          obtain ⟨x, hx⟩ : ∃ x, l[k]? = some x := ⟨l[k], List.getElem?_eq_getElem hkl⟩
          obtain ⟨y, hy⟩ : ∃ y, l[s]? = some y := ⟨l[s], List.getElem?_eq_getElem hsl⟩
          have hlen5 := spCells_length nx l
          have cx := (hw.out.cellAt (k * 5 + 2) (by omega)).trans (spCells_at nx l k x hx).2.2.1
          have cy := (hw.out.cellAt (s * 5 + 2) (by omega)).trans (spCells_at nx l s y hy).2.2.1
          have hk0 : (k : Int) < (l.length : Int) := by omega
          have hs0 : (s : Int) < (l.length : Int) := by omega
          have hk1 : (0 : Int) ≤ (k : Int) := by omega
          have hs1 : (0 : Int) ≤ (s : Int) := by omega
          have HN : Hid (F k = _root_.Pl.it F (m + 1) a) := by show _ = _; rw [hk.out]; rfl
          have HHk : Hid (∀ m, Calls Try.prog 77 #[.pointer (some ⟨Wb, 0, none⟩), .int .i64 k] (w.drewN m) fun e w' => e = .returned (.int .i64 (F k : Nat)) ∧ w' = (w.drewN m)) := HH.out k hkl
          clear hka hx hy
          go_wp2_with fail
          go_quiet (fail)
          go_wp2_with fail
          · refine (HHk.out _).mono ?_
            rintro e v1 ⟨rfl, h0⟩
            rw [h0]
            clear h0 v1
            go_wp2_with fail
            go_roundg (gk - 1)
            case measure => omega
            case rel => exact ⟨m + 1, m, by omega, by omega, by omega, ⟨F k, rfl, HN⟩, ⟨k, rfl, hk⟩, _, rfl⟩
          · refine (HHk.out _).mono ?_
            rintro e v1 ⟨rfl, h0⟩
            rw [h0]
            clear h0 v1
            go_wp2_with fail
            go_roundg (gk - 1)
            case measure => omega
            case rel => exact ⟨m + 1, r, by omega, by omega, by omega, ⟨F k, rfl, HN⟩, ⟨s, rfl, hs⟩, _, rfl⟩

end Go.Proofs.Ytjjmcnippjpclab
