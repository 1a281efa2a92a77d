/-
  The walk of the document's own write: a plan that may be is laid down.
-/
import Derived.Test.YtjjmcnippjpclaaWritePlan
import Derived.Test.YtjjmcnippjpclaaSums
import Derived.Deep.CutRange
import Derived.WalkSmall
namespace Go.Proofs.Ytjjmcnippjpclaa

open Go.RowKit

def pbox (w0 W1 : World) (ol nl : Int) (os ns : ByteArray) (sl : Value) (w : World) : Prop :=
  w0.heap.size < w.heap.size ∧ Hid (Below (w0.heap.size + 1) W1 w) ∧ w.cell? ⟨w0.heap.size, 0, none⟩ = some (.int .i64 ol) ∧ w.cell? ⟨w0.heap.size, 1, none⟩ = some (.int .i64 nl) ∧ w.cell? ⟨w0.heap.size, 2, none⟩ = some (.string os) ∧ w.cell? ⟨w0.heap.size, 3, none⟩ = some (.string ns) ∧ w.cell? ⟨w0.heap.size, 4, none⟩ = some sl

theorem pbox_below {w0 W1 w v : World} {ol nl : Int} {os ns : ByteArray} {sl : Value} (h : pbox w0 W1 ol nl os ns sl w) (b : Below w.heap.size w v) : pbox w0 W1 ol nl os ns sl v := by
  obtain ⟨h0, hb, h1, h2, h3, h4, h5⟩ := h
  exact ⟨Nat.lt_of_lt_of_le h0 b.size, hb.out.trans (b.mono h0), by rw [b.cell h0, h1], by rw [b.cell h0, h2], by rw [b.cell h0, h3], by rw [b.cell h0, h4], by rw [b.cell h0, h5]⟩

def sbox (w0 : World) (B : Nat) (W1 : World) (k t n : Int) (d : ByteArray) (f : Int) (w : World) : Prop :=
  w0.heap.size < w.heap.size ∧ Hid (Below B W1 w) ∧ w.cell? ⟨w0.heap.size, 0, none⟩ = some (.int .i64 k) ∧ w.cell? ⟨w0.heap.size, 1, none⟩ = some (.int .i64 t) ∧ w.cell? ⟨w0.heap.size, 2, none⟩ = some (.int .i64 n) ∧ w.cell? ⟨w0.heap.size, 3, none⟩ = some (.string d) ∧ w.cell? ⟨w0.heap.size, 4, none⟩ = some (.int .i64 f)

theorem sbox_below {w0 W1 w v : World} {B : Nat} {k t n : Int} {d : ByteArray} {f : Int} (hB : B ≤ w0.heap.size) (h : sbox w0 B W1 k t n d f w) (b : Below w.heap.size w v) : sbox w0 B W1 k t n d f v := by
  obtain ⟨h0, hb, h1, h2, h3, h4, h5⟩ := h
  exact ⟨Nat.lt_of_lt_of_le h0 b.size, hb.out.trans (b.mono (by omega)), by rw [b.cell h0, h1], by rw [b.cell h0, h2], by rw [b.cell h0, h3], by rw [b.cell h0, h4], by rw [b.cell h0, h5]⟩

theorem sbox_alloc {w0 W1 w : World} {B : Nat} {k t n : Int} {d : ByteArray} {f : Int} (hB : B ≤ w0.heap.size) (h : sbox w0 B W1 k t n d f w) (ob : Obj) : sbox w0 B W1 k t n d f (w.alloc ob) :=
  sbox_below hB h ((Below.refl _ _).alloc (Nat.le_refl _) _)

theorem sbox_new {w0 W1 : World} {B : Nat} {k t n : Int} {d : ByteArray} {f : Int} (hb : Below B W1 (w0.alloc (Obj.cells #[.int .i64 k, .int .i64 t, .int .i64 n, .string d, .int .i64 f] 40))) :
    sbox w0 B W1 k t n d f (w0.alloc (Obj.cells #[.int .i64 k, .int .i64 t, .int .i64 n, .string d, .int .i64 f] 40)) := by
  refine ⟨by simp, hb, ?_, ?_, ?_, ?_, ?_⟩ <;> simp [go_sem]

theorem conv_at (a x : Int) (hx : x = a) (W : World) (b : Nat) (h : W.cell? ⟨b, 0, none⟩ = some (.int .u8 x)) :
    (convert 65 9 (.slice (some ⟨b, 0, none⟩) 1 1)).run Try.prog W = .ok (.string (strOfNums [a])) W := by
  subst hx
  refine run_convert_bytes_arg (P := Try.prog) _ 65 5 Try.underlying65 Try.underlying5 b 0 1 1 [x] rfl (fun i hi => ?_) 9 Try.underlying9
  match i, hi with
  | 0, _ => simpa using h

theorem conv_1 (W : World) (b : Nat) (h : W.cell? ⟨b, 0, none⟩ = some (.int .u8 (IntKind.u8.wrap 1))) : (convert 65 9 (.slice (some ⟨b, 0, none⟩) 1 1)).run Try.prog W = .ok (.string (strOfNums [1])) W := conv_at 1 _ rfl W b h

theorem conv_3 (W : World) (b : Nat) (h : W.cell? ⟨b, 0, none⟩ = some (.int .u8 (IntKind.u8.wrap 3))) : (convert 65 9 (.slice (some ⟨b, 0, none⟩) 1 1)).run Try.prog W = .ok (.string (strOfNums [3])) W := conv_at 3 _ rfl W b h

theorem below_cells {w v : World} (b : Below w.heap.size w v) (k i : Nat) (h : k < w.heap.size) : v.cell? ⟨k, i, none⟩ = w.cell? ⟨k, i, none⟩ := b.cell h

theorem slc_new {v0 v : World} {x : Value} (b : Below (v0.alloc (.cells #[x] 5)).heap.size (v0.alloc (.cells #[x] 5)) v) : v0.heap.size < v.heap.size ∧ v.cell? ⟨v0.heap.size, 0, none⟩ = some x :=
  ⟨by have := b.size; simp at this; omega, by rw [b.cell (by simp)]; simp [go_sem]⟩

theorem slc_drew {v0 v : World} {x : Value} (b : Below (v0.alloc (.cells #[x] 5)).drew.heap.size (v0.alloc (.cells #[x] 5)).drew v) : v0.heap.size < v.heap.size ∧ v.cell? ⟨v0.heap.size, 0, none⟩ = some x :=
  slc_new ⟨b.os, b.tape, b.output, b.size, b.block⟩

theorem slc_keep {v0 v : World} {p : Nat} {x : Int} (h : p < v0.heap.size ∧ v0.cell? ⟨p, 0, none⟩ = some (.int .u8 x)) (b : Below v0.heap.size v0 v) : p < v.heap.size ∧ v.cell? ⟨p, 0, none⟩ = some (.int .u8 x) :=
  ⟨Nat.lt_of_lt_of_le h.1 b.size, by rw [b.cell h.1]; exact h.2⟩

theorem wpAnyH_weaken {P : Program} {ops : Array Oper} {Q : Exit → Act → World → Prop} {md : Region.Mode} {S S' : World → Prop} (hS : ∀ w, S' w → S w) :
    ∀ (fuel : Nat) (listed : Array Bool) (a : Act) (w : World), wpAnyH P md ops Q S' fuel listed a w → wpAnyH P md ops Q S fuel listed a w
  | 0, _, _, _, h => h
  | fuel + 1, _, _, _, h => ⟨h.1, fun i hi => wpOp_mono (fun a' w' h' => ⟨hS _ h'.1, wpAnyH_weaken hS fuel _ a' w' h'.2⟩) (h.2 i hi)⟩

theorem weaken_with {P : Program} {ops : Array Oper} {Q : Exit → Act → World → Prop} {md : Region.Mode} {S S' : World → Prop} {fuel : Nat} {listed : Array Bool} {a : Act} {w : World} (hS : ∀ w, S' w → S w) (h0 : S' w)
    (h : S' w → wpAnyH P md ops Q S' fuel listed a w) : wpAnyH P md ops Q S fuel listed a w := wpAnyH_weaken hS fuel listed a w (h h0)

theorem sbox_drew {w0 W1 w : World} {B : Nat} {k t n : Int} {d : ByteArray} {f : Int} (h : sbox w0 B W1 k t n d f w) : sbox w0 B W1 k t n d f w.drew := by
  obtain ⟨h0, hb, h1, h2, h3, h4, h5⟩ := h
  exact ⟨h0, hb.out.drew, h1, h2, h3, h4, h5⟩

end Go.Proofs.Ytjjmcnippjpclaa
