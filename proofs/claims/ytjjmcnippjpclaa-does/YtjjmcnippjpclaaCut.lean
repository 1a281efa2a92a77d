/-
  The walks of the document's cut and numbers.
-/
import Derived.Test.YtjjmcnippjpclaaReadP
import Derived.Test.YtjjmcnippjpclaaSums
import Derived.Test.YtjjmcnippjpclaaRefs
namespace Go.Proofs.Ytjjmcnippjpclaa

open Go.RowKit

/-- a place in a text as the document counts it: -1 if there is none. -/
def qI (q : Option Nat) : Int := match q with
  | none => -1
  | some a => a

/-- a place that lies in the text. -/
def qIn (s : ByteArray) (q : Option Nat) : Prop := ∀ a, q = some a → a ≤ s.size

theorem numQ_in (s : ByteArray) (q : Option Nat) (h : qIn s q) : qIn s (numQ s q) := by
  intro a e
  cases q with
  | none => simp [numQ] at e
  | some b =>
    have hb := h b rfl
    cases hr : Pl.rd (s.data.toList.drop b) with
    | none => simp [numQ, hr] at e
    | some p =>
      simp [numQ, hr] at e
      have := (Pl.rd_bd _ _ hr).2.2
      have hl : s.data.toList.length = s.size := by simp
      rw [List.length_drop] at this
      omega

theorem pieceQ_in (s : ByteArray) (q : Option Nat) (n : Nat) : qIn s (pieceQ s q n) := by
  intro a e
  cases q with
  | none => simp [pieceQ] at e
  | some b =>
    simp only [pieceQ] at e
    split at e
    · simp at e; omega
    · simp at e

set_option maxRecDepth 100000 in
set_option maxHeartbeats 2000000 in
theorem cut_any (s : ByteArray) (q : Option Nat) (n : Nat) (w : World) (hs : s.size ≤ 140737488355328) (hn : n ≤ 2147483647) (hq : qIn s q) :
    Calls Try.prog 34 #[.string s, .int .i64 (qI q), .int .i64 n] w fun e w' => e = .returned (.tuple #[.string (pieceS s q n), .int .i64 (qI (pieceQ s q n))]) ∧ Below w.heap.size w w' := by
  cases q with
  | none =>
    show Calls Try.prog 34 #[.string s, .int .i64 (-1), .int .i64 n] w _
    go_enter Try.func34, Try.ntmps34
    go_wp2
    go_ret2
    exact ⟨rfl, by first | exact Below.refl _ _ | exact (Below.refl _ _).drew⟩
  | some a =>
    show Calls Try.prog 34 #[.string s, .int .i64 (a : Int), .int .i64 n] w _
    have ha := hq a rfl
    have d0 : decide ((a : Int) < 0) = false := decide_eq_false (by omega)
    by_cases hfit : a + n ≤ s.size
    · have hv : Hid (pieceS s (some a) n = s.extract a (a + n) ∧ pieceQ s (some a) n = some (a + n)) := by simp [Hid, pieceS, pieceQ, hfit]
      have d2 : decide ((s.size : Int) - (a : Int) < (n : Int)) = false := decide_eq_false (by omega)
      go_enter Try.func34, Try.ntmps34
      go_wp2
      go_ret2
      exact ⟨by rw [hv.out.1, hv.out.2]; rfl, by first | exact Below.refl _ _ | exact (Below.refl _ _).drew⟩
    · have hv : Hid (pieceS s (some a) n = ⟨#[]⟩ ∧ pieceQ s (some a) n = none) := by simp [Hid, pieceS, pieceQ, hfit]
      have d2 : decide ((s.size : Int) - (a : Int) < (n : Int)) = true := decide_eq_true (by omega)
      go_enter Try.func34, Try.ntmps34
      go_wp2
      go_ret2
      exact ⟨by rw [hv.out.1, hv.out.2]; rfl, by first | exact Below.refl _ _ | exact (Below.refl _ _).drew⟩

theorem rr_eq (s : ByteArray) (a : Nat) : rrRes a (Pl.rd (s.data.toList.drop a)) = .returned (.tuple #[.int .i64 (numV s (some a)), .int .i64 (qI (numQ s (some a)))]) := by
  cases h : Pl.rd (s.data.toList.drop a) with
  | none => simp [rrRes, numV, numQ, h, qI]
  | some p => simp [rrRes, numV, numQ, h, qI]

theorem rread_q (s : ByteArray) (a : Nat) (w : World) (hs : s.size ≤ 140737488355328) (h : a ≤ s.size) :
    Calls Try.prog 33 #[.string s, .int .i64 a] w fun e w' => e = .returned (.tuple #[.int .i64 (numV s (some a)), .int .i64 (qI (numQ s (some a)))]) ∧ Below w.heap.size w w' := by
  rw [← rr_eq]
  exact rread_any s a w (by omega) h

/-- so many numbers, one behind the other: where they end, and they. -/
def nsQ (s : ByteArray) (a : Nat) : Nat → Option Nat
  | 0 => some a
  | k + 1 => numQ s (nsQ s a k)

def nsL (s : ByteArray) (a : Nat) : Nat → List Value
  | 0 => []
  | k + 1 => nsL s a k ++ [.int .i64 (numV s (nsQ s a k))]

theorem info3 : (Try.prog.info? 3).map (fun i => (i.zero, i.size, i.bytes)) = some (some (.int .i64 0), 1, 8) := by kernel_rfl

set_option maxRecDepth 100000 in
set_option maxHeartbeats 2000000 in
theorem numbers_any (s : ByteArray) (a : Nat) (w : World) (hs : s.size ≤ 140737488355328) (ha : a ≤ s.size) :
    Calls Try.prog 35 #[.string s, .int .i64 (a : Int), .int .i64 2] w fun e w' => Below w.heap.size w w' ∧ ∃ v k, e = .returned (.tuple #[v, .int .i64 (qI (numQ s (numQ s (some a))))]) ∧ (numQ s (numQ s (some a)) ≠ none → k = 2) ∧ w'.ownsRow w.heap.size 3 1 v k (nsL s a k) := by
  obtain ⟨i0, hi, hzz⟩ := Option.map_eq_some_iff.1 info3
  simp only [Prod.mk.injEq] at hzz
  go_enter Try.func35, Try.ntmps35
  go_wp2_with fail
  go_loopw [1, 8, 9] (fun at' out i wr => ∃ (k : Nat), k ≤ 2 ∧ i = .int .i64 k ∧ at' = .int .i64 (qI (nsQ s a k)) ∧ Hid (wr.ownsRow w.heap.size 3 1 out k (nsL s a k)) ∧ Hid (qIn s (nsQ s a k)) ∧ Hid (Below w.heap.size w wr)) (fun _ _ i _ => 2 - (intOf i).toNat)
  case atStart => exact ⟨0, by omega, rfl, rfl, World.ownsRow_nil _ _ _ _, fun b h => by simp [nsQ] at h; omega, Below.refl _ _⟩
  case round =>
    obtain ⟨k, hk, rfl, rfl, hown, hin, hb⟩ := hrel
    have hsl : ∃ ao n' cp, u8 = .slice ao n' cp := by
      rcases hown.out.2 with ⟨hv, _⟩ | ⟨g, cap, cur, hv, _⟩ <;> exact ⟨_, _, _, hv⟩
    obtain ⟨ao, n', cp, rfl⟩ := hsl
    by_cases h2 : k < 2
    · cases hq : nsQ s a k with
      | none =>
        have hE : numQ s (numQ s (some a)) = none := by
          rcases (by omega : k = 0 ∨ k = 1) with rfl | rfl
          · simp [nsQ] at hq
          · simp only [nsQ] at hq; rw [hq]; rfl
        have e1 : qI none = -1 := rfl
        go_wp2_with fail
        go_ret2
        exact ⟨hb.out, _, k, by rw [hE]; rfl, fun h => absurd hE h, hown.out⟩
      | some b =>
        have hbs : b ≤ s.size := hin.out b hq
        have HQ : Hid (nsQ s a k = some b) := hq
        have e1 : qI (some b) = (b : Int) := rfl
        have d0 : decide ((0 : Int) ≤ (b : Int)) = true := decide_eq_true (by omega)
        clear hq
        go_wp2_with fail
        refine (rread_q s b _ hs hbs).mono ?_
        rintro e w1 ⟨rfl, b1⟩
        have O1 : Hid (w1.ownsRow w.heap.size 3 1 (.slice ao n' cp) k (nsL s a k)) := hown.out.kept (row := none) ⟨b1.os, b1.tape, b1.output, b1.size, fun i hi _ => b1.block i hi⟩ (by cases hv : (Value.slice ao n' cp).ownBlock <;> simp)
        have B1 : Hid (Below w.heap.size w w1) := hb.out.trans (b1.mono hb.out.size)
        have hsz := B1.out.size
        have L1 : Hid (nsL s a (k + 1) = nsL s a k ++ [.int .i64 (numV s (some b))] ∧ nsQ s a (k + 1) = numQ s (some b)) := ⟨by rw [nsL, HQ.out], by rw [nsQ, HQ.out]⟩
        have IN1 : Hid (qIn s (numQ s (some b))) := numQ_in s _ (fun c h => by cases h; exact hbs)
        clear b1
        generalize nsL s a k = xs at *
        generalize numV s (some b) = x at *
        generalize numQ s (some b) = q' at *
        go_wp2_with (at_builtin; refine wpList_append_own _ rfl _ _ 58 rfl w.heap.size 3 i0 (.int .i64 0) 1 8 Try.underlying58 hi hzz.1 hzz.2.1 hzz.2.2 rfl (by decide) _ _ _ rfl (O1.out.alloc _) ⟨w1.heap.size, 0, none⟩ 1 1 [.int .i64 x] rfl rfl ?c1 ?c2 ?c3 ?c4 ?c5 ?_)
        case c1 =>
          intro j u hj
          match j, hj with
          | 0, hj => simp at hj; subst hj; simp [Addr.add]
        case c2 => intro u hu; simp at hu; subst hu; rfl
        case c3 => unfold maxLen; omega
        case c4 => omega
        case c5 => simp; omega
        intro v' w2 hown' hgrow _
        have B2 : Hid (Below w.heap.size w w2) := (B1.out.alloc (by omega) _).grown hgrow (by simp; omega) (fun j hj => (O1.out.lt j hj).1)
        go_wp2_with fail
        exact ⟨⟨k + 1, by omega, by go_num, by rw [L1.out.2], by rw [L1.out.1]; exact hown', by rw [L1.out.2]; exact IN1, B2⟩, by simp [intOf]; omega⟩
    · have hke : k = 2 := by omega
      subst hke
      have HE : Hid (numQ s (numQ s (some a)) = nsQ s a 2) := rfl
      generalize nsQ s a 2 = q at *
      go_wp2_with fail
      go_ret2
      exact ⟨hb.out, _, 2, by rw [HE.out]; rfl, fun _ => rfl, hown.out⟩

end Go.Proofs.Ytjjmcnippjpclaa
