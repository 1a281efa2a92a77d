/-
  The walks of the reader: the next number, the next bytes, and whether it has failed.
-/
import Derived.Test.YtjjmcnippjpclaaSums
import Derived.Deep.QuietTactic
import Derived.BigQuiet
import Derived.WalkSmall
import Derived.Deep.RegionHeld3
import Derived.Lib.Builder
import Derived.Lib.Strings
import Derived.Lib.LazyBuf
import Derived.Lib.UnsafeStr
import Derived.Deep.OwnRows
namespace Go.Proofs.Ytjjmcnippjpclaa

open Go.RowKit

/-- a reader of a text, at a place ('none': it has failed). -/
def rdrAt (R : Nat) (s : ByteArray) (q : Option Nat) (w : World) : Prop :=
  ∃ i : Nat, i ≤ s.size ∧ w.heap[R]? = some (.cells #[.string s, .int .i64 i, .bool q.isNone] 141 (0, 0)) ∧ ∀ a, q = some a → i = a

/-- what a call of a reader's leaves as it was: all but the reader. -/
def only (R : Nat) (w w' : World) : Prop := Below R w w' ∧ ∀ k, k < w.heap.size → k ≠ R → w'.heap[k]? = w.heap[k]?

theorem only.refl (R : Nat) (w : World) : only R w w := ⟨Below.refl _ _, fun _ _ _ => rfl⟩

theorem only.trans {R : Nat} {a b c : World} (h : only R a b) (k : only R b c) : only R a c :=
  ⟨h.1.trans k.1, fun i hi hn => by rw [k.2 i (Nat.lt_of_lt_of_le hi h.1.size) hn, h.2 i hi hn]⟩

theorem only.of_below {R : Nat} {a b : World} (h : Below a.heap.size a b) (hR : R ≤ a.heap.size) : only R a b := ⟨h.mono hR, fun k hk _ => h.block k hk⟩

theorem only.drewN {R : Nat} {a b : World} (h : only R a b) (n : Nat) : only R a (b.drewN n) := ⟨below_drewN h.1 n, h.2⟩

theorem only.set {R : Nat} {a b : World} (h : only R a b) (i : Nat) (v : Value) : only R a (b.setCell ⟨R, i, none⟩ v) :=
  ⟨h.1.setCell (Nat.le_refl _) v, fun k hk hn => by rw [Below.heap_setCell _ _ _ _ hn, h.2 k hk hn]⟩

theorem rdrAt.lt {R : Nat} {s : ByteArray} {q : Option Nat} {w : World} (h : rdrAt R s q w) : R < w.heap.size := by
  obtain ⟨i, _, hb, _⟩ := h
  exact (Array.getElem?_eq_some_iff.1 hb).1

theorem rdrAt.below {R : Nat} {s : ByteArray} {q : Option Nat} {w v : World} (h : rdrAt R s q w) (hb : Below w.heap.size w v) : rdrAt R s q v := by
  have hl := h.lt
  obtain ⟨i, h1, h2, h3⟩ := h
  exact ⟨i, h1, by rw [hb.block R hl]; exact h2, h3⟩

/-- the next number: the number, and where the reader is then. -/
def numV (s : ByteArray) (q : Option Nat) : Nat := match q with
  | none => 0
  | some a => match Pl.rd (s.data.toList.drop a) with
    | none => 0
    | some p => p.1

def numQ (s : ByteArray) (q : Option Nat) : Option Nat := match q with
  | none => none
  | some a => match Pl.rd (s.data.toList.drop a) with
    | none => none
    | some p => some (a + p.2)

theorem set3 {w : World} {R : Nat} {x y z : Value} (h : w.heap[R]? = some (.cells #[x, y, z] 141 (0, 0))) (v : Value) :
    (w.setCell ⟨R, 1, none⟩ v).heap[R]? = some (.cells #[x, v, z] 141 (0, 0)) ∧ (w.setCell ⟨R, 2, none⟩ v).heap[R]? = some (.cells #[x, y, v] 141 (0, 0)) := by
  constructor <;> simp [World.setCell, Array.getElem?_modify, h]

theorem of_any (s : ByteArray) (w : World) :
    Calls Try.prog 59 #[.string s] w fun e w' => e = .returned (.pointer (some ⟨w.heap.size, 0, none⟩)) ∧ rdrAt w.heap.size s (some 0) w' ∧ Below w.heap.size w w' := by
  go_enter Try.func59, Try.ntmps59
  go_wp2
  go_ret
  exact ⟨rfl, ⟨0, Nat.zero_le _, heap_alloc_new w _, fun a h => by cases h; rfl⟩, by go_grown⟩

theorem failed_any (R : Nat) (s : ByteArray) (q : Option Nat) (w : World) (h : Hid (rdrAt R s q w)) :
    Calls Try.prog 63 #[.pointer (some ⟨R, 0, none⟩)] w fun e w' => e = .returned (.bool q.isNone) ∧ w' = w := by
  obtain ⟨i, h1, h2, h3⟩ := h.out
  have c2 : w.cell? ⟨R, 2, none⟩ = some (.bool q.isNone) := by rw [Lib.cell_of_heap h2]; rfl
  clear h2 h3
  go_enter Try.func63, Try.ntmps63
  go_wp2
  go_ret
  exact ⟨rfl, rfl⟩

set_option maxRecDepth 100000 in
set_option maxHeartbeats 2000000 in
theorem rNumber_any (R : Nat) (s : ByteArray) (q : Option Nat) (w : World) (hs : s.size ≤ maxLen) (h : Hid (rdrAt R s q w)) :
    Calls Try.prog 61 #[.pointer (some ⟨R, 0, none⟩)] w fun e w' => e = .returned (.int .i64 (numV s q)) ∧ rdrAt R s (numQ s q) w' ∧ only R w w' := by
  obtain ⟨i, h1, h2, h3⟩ := h.out
  have H2 : Hid (w.heap[R]? = some (.cells #[.string s, .int .i64 i, .bool q.isNone] 141 (0, 0))) := h2
  cases q with
  | none =>
    have c2 : w.cell? ⟨R, 2, none⟩ = some (.bool true) := by rw [Lib.cell_of_heap h2]; rfl
    clear h2 h3
    go_enter Try.func61, Try.ntmps61
    go_wp2_with fail
    go_ret
    exact ⟨rfl, h.out, only.refl _ _⟩
  | some a =>
    obtain rfl := h3 a rfl
    have c0 : w.cell? ⟨R, 0, none⟩ = some (.string s) := by rw [Lib.cell_of_heap h2]; rfl
    have c1 : w.cell? ⟨R, 1, none⟩ = some (.int .i64 i) := by rw [Lib.cell_of_heap h2]; rfl
    have c2 : w.cell? ⟨R, 2, none⟩ = some (.bool false) := by rw [Lib.cell_of_heap h2]; rfl
    have f1 : w.frozen? ⟨R, 1, none⟩ = false := Lib.frozen_of_heap h2 _
    have f2 : w.frozen? ⟨R, 2, none⟩ = false := Lib.frozen_of_heap h2 _
    clear h2 h3
    have hbd := Pl.rd_bd (s.data.toList.drop i)
    have hl : s.data.toList.length = s.size := by simp
    have hr := fun w => read_any s i w hs h1
    cases hrd : Pl.rd (s.data.toList.drop i) with
    | none =>
      rw [hrd] at hr
      have HR : Hid (∀ w, Calls Try.prog 12 #[.string s, .int .i64 i] w fun e w' => e = .returned (.tuple #[.int .i64 0, .int .i64 0, .int .i64 3]) ∧ w' = w) := hr
      have hv : Hid (numV s (some i) = 0 ∧ numQ s (some i) = none) := by simp [Hid, numV, numQ, hrd]
      clear hr hrd hbd
      go_enter Try.func61, Try.ntmps61
      go_wp2_with fail
      go_quiet ((go_at_call 12; refine Calls.quiet_of_same (HR.out _)))
      go_wp2_with fail
      go_ret
      refine ⟨by rw [hv.out.1]; rfl, ⟨i, h1, ?_, fun a h => by rw [hv.out.2] at h; cases h⟩, ((only.refl R w).drewN _).set 2 _⟩
      rw [hv.out.2]
      exact (set3 (w := w.drewN _) H2.out _).2
    | some p =>
      have hb := hbd p hrd
      rw [List.length_drop, hl] at hb
      rw [hrd] at hr
      have HR : Hid (∀ w, Calls Try.prog 12 #[.string s, .int .i64 i] w fun e w' => e = .returned (.tuple #[.int .i64 p.1, .int .i64 ((i + p.2 : Nat) : Int), .int .i64 0]) ∧ w' = w) := hr
      have hv : Hid (numV s (some i) = p.1 ∧ numQ s (some i) = some (i + p.2)) := by simp [Hid, numV, numQ, hrd]
      clear hr hrd hbd
      go_enter Try.func61, Try.ntmps61
      go_wp2_with fail
      go_quiet ((go_at_call 12; refine Calls.quiet_of_same (HR.out _)))
      go_wp2_with fail
      go_ret
      refine ⟨by rw [hv.out.1]; rfl, ⟨i + p.2, by omega, ?_, fun a h => by rw [hv.out.2] at h; cases h; rfl⟩, ((only.refl R w).drewN _).set 1 _⟩
      rw [hv.out.2]
      exact (set3 (w := w.drewN _) H2.out _).1

/-- the next bytes, and where the reader is then. -/
def pieceS (s : ByteArray) (q : Option Nat) (n : Nat) : ByteArray := match q with
  | none => ⟨#[]⟩
  | some a => if a + n ≤ s.size then s.extract a (a + n) else ⟨#[]⟩

def pieceQ (s : ByteArray) (q : Option Nat) (n : Nat) : Option Nat := match q with
  | none => none
  | some a => if a + n ≤ s.size then some (a + n) else none

set_option maxRecDepth 100000 in
set_option maxHeartbeats 2000000 in
theorem piece_any (R : Nat) (s : ByteArray) (q : Option Nat) (n : Nat) (w : World) (hs : s.size ≤ maxLen) (hn : n ≤ 2147483647) (h : Hid (rdrAt R s q w)) :
    Calls Try.prog 60 #[.pointer (some ⟨R, 0, none⟩), .int .i64 n] w fun e w' => e = .returned (.string (pieceS s q n)) ∧ rdrAt R s (pieceQ s q n) w' ∧ only R w w' := by
  unfold maxLen at hs
  obtain ⟨i, h1, h2, h3⟩ := h.out
  have H2 : Hid (w.heap[R]? = some (.cells #[.string s, .int .i64 i, .bool q.isNone] 141 (0, 0))) := h2
  have f1 : w.frozen? ⟨R, 1, none⟩ = false := Lib.frozen_of_heap h2 _
  have f2 : w.frozen? ⟨R, 2, none⟩ = false := Lib.frozen_of_heap h2 _
  have d1 : decide ((n : Int) < 0) = false := decide_eq_false (by omega)
  cases q with
  | none =>
    have c2 : w.cell? ⟨R, 2, none⟩ = some (.bool true) := by rw [Lib.cell_of_heap h2]; rfl
    have hb : Hid (∀ m, (w.drewN m).heap[R]? = some (.cells #[.string s, .int .i64 i, .bool true] 141 (0, 0))) := fun m => H2.out
    clear h2 h3
    go_enter Try.func60, Try.ntmps60
    go_wp2_with fail
    go_quiet (fail)
    go_wp2_with fail
    go_ret
    exact ⟨rfl, ⟨i, h1, (set3 (hb.out _) _).2, fun a h => by cases h⟩, ((only.refl R w).drewN _).set 2 _⟩
  | some a =>
    obtain rfl := h3 a rfl
    have c0 : w.cell? ⟨R, 0, none⟩ = some (.string s) := by rw [Lib.cell_of_heap h2]; rfl
    have c1 : w.cell? ⟨R, 1, none⟩ = some (.int .i64 i) := by rw [Lib.cell_of_heap h2]; rfl
    have c2 : w.cell? ⟨R, 2, none⟩ = some (.bool false) := by rw [Lib.cell_of_heap h2]; rfl
    have hb : Hid (∀ m, (w.drewN m).heap[R]? = some (.cells #[.string s, .int .i64 i, .bool false] 141 (0, 0))) := fun m => H2.out
    clear h2 h3
    by_cases hfit : i + n ≤ s.size
    · have hv : Hid (pieceS s (some i) n = s.extract i (i + n) ∧ pieceQ s (some i) n = some (i + n)) := by simp [Hid, pieceS, pieceQ, hfit]
      have d2 : decide ((s.size : Int) - (i : Int) < (n : Int)) = false := decide_eq_false (by omega)
      have e1 : wrap64 ((s.size : Int) - (i : Int)) = (s.size : Int) - (i : Int) := by unfold wrap64; omega
      have e2 : IntKind.i64.wrap ((s.size : Int) - (i : Int)) = (s.size : Int) - (i : Int) := by rw [IntKind.wrap_i64]; omega
      go_enter Try.func60, Try.ntmps60
      go_wp2_with fail
      go_quiet (fail)
      go_wp2_with fail
      have g1 : (i : Int) + (n : Int) ≤ (s.size : Int) := by omega
      have g2 : (0 : Int) ≤ (i : Int) := by omega
      have g3 : (i : Int) ≤ (i : Int) + (n : Int) := by omega
      have g4 : ((i : Int) + (n : Int)).toNat = i + n := by omega
      have g5 : IntKind.i64.wrap ((i : Int) + (n : Int)) = (i : Int) + (n : Int) := by rw [IntKind.wrap_i64]; omega
      have g6 : IntKind.i64.wrap (i : Int) = (i : Int) := by rw [IntKind.wrap_i64]; omega
      go_quiet (fail)
      go_wp2_with fail
      go_ret
      refine ⟨by rw [hv.out.1]; rfl, ⟨i + n, hfit, ?_, fun a h => by rw [hv.out.2] at h; cases h; rfl⟩, (((only.refl R w).drewN _).set 1 _).drewN _⟩
      rw [hv.out.2]
      exact (set3 (hb.out _) _).1
    · have hv : Hid (pieceS s (some i) n = ⟨#[]⟩ ∧ pieceQ s (some i) n = none) := by simp [Hid, pieceS, pieceQ, hfit]
      have d2 : decide ((s.size : Int) - (i : Int) < (n : Int)) = true := decide_eq_true (by omega)
      have e1 : wrap64 ((s.size : Int) - (i : Int)) = (s.size : Int) - (i : Int) := by unfold wrap64; omega
      have e2 : IntKind.i64.wrap ((s.size : Int) - (i : Int)) = (s.size : Int) - (i : Int) := by rw [IntKind.wrap_i64]; omega
      go_enter Try.func60, Try.ntmps60
      go_wp2_with fail
      go_quiet (fail)
      go_wp2_with fail
      go_ret
      refine ⟨by rw [hv.out.1]; rfl, ⟨i, h1, ?_, fun a h => by rw [hv.out.2] at h; cases h⟩, ((only.refl R w).drewN _).set 2 _⟩
      rw [hv.out.2]
      exact (set3 (hb.out _) _).2

/-- the next byte as a number; 0 if there is none. -/
def byteV (s : ByteArray) (q : Option Nat) : Nat := match q with
  | none => 0
  | some a => (s.data.toList.getD a 0).toNat

set_option maxRecDepth 100000 in
set_option maxHeartbeats 2000000 in
theorem byte_any (R : Nat) (s : ByteArray) (q : Option Nat) (w : World) (hs : s.size ≤ maxLen) (h : Hid (rdrAt R s q w)) :
    Calls Try.prog 97 #[.pointer (some ⟨R, 0, none⟩)] w fun e w' => e = .returned (.int .i64 (byteV s q)) ∧ rdrAt R s (pieceQ s q 1) w' ∧ only R w w' := by
  have hcase : (pieceS s q 1 = ⟨#[]⟩ ∧ byteV s q = 0) ∨ ∃ x : UInt8, pieceS s q 1 = ⟨#[x]⟩ ∧ byteV s q = x.toNat := by
    cases q with
    | none => exact .inl ⟨rfl, rfl⟩
    | some a =>
      have hl : s.data.toList.length = s.size := by simp
      by_cases hf : a + 1 ≤ s.size
      · right
        refine ⟨s.data.toList.getD a 0, ?_, rfl⟩
        simp only [pieceS, hf, if_true]
        apply ByteArray.ext
        apply Array.ext'
        rw [Lib.extract_data, show a + 1 - a = 1 by omega]
        have h2 : a < s.data.toList.length := by omega
        rw [List.drop_eq_getElem_cons h2, List.take_succ_cons, List.take_zero]
        simp [List.getD, List.getElem?_eq_getElem h2]
      · left
        simp only [pieceS, hf, if_false, byteV]
        refine ⟨trivial, ?_⟩
        rw [List.getD, List.getElem?_eq_none (by omega)]
        rfl
  have HP : Hid (Calls Try.prog 60 #[.pointer (some ⟨R, 0, none⟩), .int .i64 1] w fun e w' => e = .returned (.string (pieceS s q 1)) ∧ rdrAt R s (pieceQ s q 1) w' ∧ only R w w') := piece_any R s q 1 w hs (by omega) h
  generalize pieceS s q 1 = S1 at *
  generalize pieceQ s q 1 = Q1 at *
  generalize byteV s q = V at *
  rcases hcase with ⟨rfl, rfl⟩ | ⟨x, rfl, rfl⟩
  · go_enter Try.func97, Try.ntmps97
    go_wp2_with fail
    refine HP.out.mono ?_
    rintro e v1 ⟨rfl, h1, h2⟩
    have H1 : Hid (rdrAt R s Q1 v1 ∧ only R w v1) := ⟨h1, h2⟩
    clear h1 h2
    go_wp2_with fail
    go_ret
    exact ⟨rfl, H1.out⟩
  · go_enter Try.func97, Try.ntmps97
    go_wp2_with fail
    refine HP.out.mono ?_
    rintro e v1 ⟨rfl, h1, h2⟩
    have H1 : Hid (rdrAt R s Q1 v1 ∧ only R w v1) := ⟨h1, h2⟩
    clear h1 h2
    go_wp2_with fail
    go_ret
    refine ⟨?_, H1.out⟩
    have hx := x.toNat_lt
    simp
    show wrap64 (x.toNat : Int) = x.toNat
    unfold wrap64
    omega

set_option maxRecDepth 100000 in
set_option maxHeartbeats 2000000 in
theorem whole_any (R : Nat) (s : ByteArray) (q : Option Nat) (w : World) (h : Hid (rdrAt R s q w)) :
    Calls Try.prog 65 #[.pointer (some ⟨R, 0, none⟩)] w fun e w' => e = .returned (.bool (decide (q = some s.size))) ∧ Below w.heap.size w w' := by
  obtain ⟨i, h1, h2, h3⟩ := h.out
  cases q with
  | none =>
    have c2 : w.cell? ⟨R, 2, none⟩ = some (.bool true) := by rw [Lib.cell_of_heap h2]; rfl
    clear h2 h3
    go_enter Try.func65, Try.ntmps65
    go_wp2_with fail
    go_quiet (fail)
    go_wp2_with fail
    go_ret
    exact ⟨rfl, below_drewN (Below.refl _ _) _⟩
  | some a =>
    obtain rfl := h3 a rfl
    have c0 : w.cell? ⟨R, 0, none⟩ = some (.string s) := by rw [Lib.cell_of_heap h2]; rfl
    have c1 : w.cell? ⟨R, 1, none⟩ = some (.int .i64 i) := by rw [Lib.cell_of_heap h2]; rfl
    have c2 : w.cell? ⟨R, 2, none⟩ = some (.bool false) := by rw [Lib.cell_of_heap h2]; rfl
    clear h2 h3
    go_enter Try.func65, Try.ntmps65
    go_wp2_with fail
    go_quiet (fail)
    go_wp2_with fail
    go_ret
    refine ⟨?_, below_drewN (Below.refl _ _) _⟩
    by_cases he : i = s.size
    · subst he; simp
    · simp [he]; omega

theorem infoU8 : (Try.prog.info? 5).map (fun i => (i.zero, i.size, i.bytes)) = some (some (.int .u8 0), 1, 1) := by kernel_rfl

theorem cellsU8 : Try.prog.cellsOf 5 = 1 := by kernel_rfl

theorem sizeU8 (w : World) : (Go.sizeOf 5).run Try.prog w = .ok 1 w := by
  obtain ⟨i, hi, hzz⟩ := Option.map_eq_some_iff.1 infoU8
  simp only [Prod.mk.injEq] at hzz
  simp [sizeOf, typeInfo, hi, hzz.2.1]

set_option maxRecDepth 100000 in
set_option maxHeartbeats 2000000 in
theorem clone_any (s : ByteArray) (w : World) (hs : s.size ≤ 140737488355328) :
    Calls Try.prog 62 #[.string s] w fun e w' => e = .returned (.string s) ∧ Below w.heap.size w w' := by
  by_cases h0 : s.size = 0
  · have hl : s.data.toList.length = s.size := by simp
    have he : s = ⟨#[]⟩ := by
      apply ByteArray.ext
      apply Array.ext'
      exact List.eq_nil_of_length_eq_zero (by omega)
    subst he
    go_enter Try.func62, Try.ntmps62
    go_wp2
    go_ret
    exact ⟨rfl, Below.refl _ _⟩
  · have hmk := run_make_row' (P := Try.prog) 65 5 (.int .u8 0) 1 Try.underlying65 infoU8 rfl .i64 .i64 s.size (by omega) (by omega)
    have hrow := World.rowIs_made w (.int .u8 0) s.size 5
    have hcp0 := fun ty => run_copy_string (P := Try.prog) (w.alloc (.cells (madeCells #[.int .u8 0] s.size) 5)) 65 9 ty 5 w.heap.size 0 s.size s.size s Try.underlying65 sizeU8 (Nat.le_refl _) (fun j hj => by rw [Nat.zero_add, hrow.cell hj]; rfl) (fun j _ => hrow.frozen _)
    have hl : s.data.toList.length = s.size := by simp
    obtain ⟨W, hW⟩ : ∃ W, W = (w.alloc (.cells (madeCells #[.int .u8 0] s.size) 5)).setCells w.heap.size 0 (s.data.toList.map fun x => Value.int .u8 (x.toNat : Int)) := ⟨_, rfl⟩
    have hrowW := rowIs_setCells (s.data.toList.map fun x => Value.int .u8 (x.toNat : Int)) 0 _ _ hrow
    rw [← hW] at hrowW
    have hcp := hcp0 3
    rw [← hW] at hcp
    have HB : Hid (Below w.heap.size w W) := by
      show Below _ _ _
      rw [hW]
      exact below_setCells (Nat.le_refl _) _ _ _ ((Below.refl _ _).alloc (Nat.le_refl _) _)
    have hsh : W.shape? w.heap.size = some (5, s.size) := by
      obtain ⟨cs, h1, h2, _⟩ := hrowW
      simp [World.shape?, h1, h2]
    have hUS := Lib.run_unsafeString_row (P := Try.prog) W 144 3 9 5 Try.underlying144 cellsU8 w.heap.size s.size hsh s.data.toList (by intro h; rw [h] at hl; simp at hl; omega) (by omega) (by omega) (fun j x hx => by
      have hj : j < s.size := by rw [← hl]; exact (List.getElem?_eq_some_iff.1 hx).1
      have := hrowW.cell hj
      rw [show ((⟨w.heap.size, 0, none⟩ : Addr).add j) = ⟨w.heap.size, j, none⟩ by unfold Addr.add; split <;> simp_all, this]
      rw [if_pos (by rw [List.length_map]; omega), Nat.sub_zero, List.getElem?_map, hx]
      rfl)
    rw [hl, show (⟨s.data.toList.toArray⟩ : ByteArray) = s by rfl] at hUS
    have HF : Hid (Below w.heap.size w (W.freeze ⟨w.heap.size, 0, none⟩ s.size)) := Lib.below_freeze HB.out (p := ⟨w.heap.size, 0, none⟩) (Nat.le_refl _) _
    have hpos : (0 : Int) < (s.size : Int) := by omega
    have hne : ¬ (s.size : Int) = 0 := by omega
    generalize W.freeze ⟨w.heap.size, 0, none⟩ s.size = W4 at *
    clear hcp0 hW hrow hrowW hsh
    go_enter Try.func62, Try.ntmps62
    go_wp2
    go_ret
    exact ⟨rfl, HF.out⟩

end Go.Proofs.Ytjjmcnippjpclaa
