/-
  The walks of the writer: a number, a step, a plan laid down.
-/
import Derived.Test.YtjjmcnippjpclaaBuild
import Derived.Test.YtjjmcnippjpclaaMays
import Derived.Test.YtjjmcnippjpclaaPlainT
import Derived.Test.YtjjmcnippjpclaaSums
namespace Go.Proofs.Ytjjmcnippjpclaa

open Go.RowKit

def nb (n : Nat) : List UInt8 := Pl.bytes (Pl.num n)

theorem nb_str (n : Nat) : strOfNums (Pl.num n) = ⟨(nb n).toArray⟩ := rfl

theorem nb_cells (n : Nat) : Lib.strCells (strOfNums (Pl.num n)) = Lib.byteCells (nb n) := rfl

theorem nb_len (n : Nat) (h : n ≤ 2147483647) : (nb n).length ≤ 5 := Pl.num_len5 n h

theorem kept_below {w v : World} {e : TypeId} {b : Option Nat} (h : Below w.heap.size w v) : Lib.OthersKept e b w v := by
  intro k o hk _ _
  have hlt : k < w.heap.size := (Array.getElem?_eq_some_iff.1 hk).1
  rw [h.block k hlt]; exact hk

theorem builderAt_below {w v : World} {T e : TypeId} {B b : Nat} {p : Value} {bs : List Value} (hb : Lib.BuilderAt T e B b p bs w) (h : Below w.heap.size w v) : Lib.BuilderAt T e B b p bs v := by
  have hlt := hb.lt
  obtain ⟨hB, u, hbk, hown, hne⟩ := hb
  exact ⟨hB, u, by rw [h.block b hlt]; exact hbk, hown.kept (row := none) ⟨h.os, h.tape, h.output, h.size, fun k hk _ => h.block k hk⟩ (by cases hv : u.ownBlock <;> simp), hne⟩

theorem isBuilder_below {w v : World} {T e : TypeId} {B b : Nat} {bs : List Value} (hb : Lib.IsBuilder T e B b bs w) (h : Below w.heap.size w v) : Lib.IsBuilder T e B b bs v :=
  hb.elim (fun x => .inl (builderAt_below x h)) (fun x => .inr (builderAt_below x h))

/-- a writer that holds these bytes. -/
def wrAt (B b : Nat) (l : List UInt8) (w : World) : Prop := Lib.IsBuilder 114 5 B b (Lib.byteCells l) w

/-- what a call of a writer's leaves as it was. -/
def wrKept (B b : Nat) (w w' : World) : Prop := Below B w w' ∧ Lib.OthersKept 5 (some b) w w'

theorem wrKept.refl (B b : Nat) (w : World) : wrKept B b w w := ⟨Below.refl _ _, Lib.OthersKept.refl _ _ _⟩

theorem wrKept.trans {B b : Nat} {w v u : World} (h : wrKept B b w v) (k : wrKept B b v u) : wrKept B b w u := ⟨h.1.trans k.1, h.2.trans k.2⟩

theorem wrKept.of_below {B b : Nat} {w v : World} (h : Below w.heap.size w v) (hB : B ≤ w.heap.size) : wrKept B b w v := ⟨h.mono hB, kept_below h⟩

theorem wrKept.cell {B b : Nat} {w v : World} (h : wrKept B b w v) {k : Nat} {cs : Array Value} {t : TypeId} {fz : Nat × Nat} (hk : w.heap[k]? = some (.cells cs t fz)) (hb : k ≠ b) (ht : t ≠ 5) : v.heap[k]? = some (.cells cs t fz) :=
  h.2 k _ hk (fun e => hb (Option.some.inj e)) (fun c f e => ht (by cases e; rfl))

set_option maxHeartbeats 1000000 in
theorem wrNumber (B b : Nat) (l : List UInt8) (n : Nat) (w : World) (h : Hid (wrAt B b l w)) (hn : n ≤ 2147483647) (hl : l.length ≤ 100000000) (hBw : B ≤ w.heap.size) :
    Calls Try.prog 71 #[.pointer (some ⟨b, 0, none⟩), .int .i64 n] w fun e w' => e = .returned (.tuple #[]) ∧ wrAt B b (l ++ nb n) w' ∧ wrKept B b w w' := by
  have hN := nb_len n hn
  go_enter Try.func71, Try.ntmps71
  go_wp2_with fail
  refine (number_yes n w hn).mono ?_
  rintro e v1 ⟨rfl, b1⟩
  have h1 : Hid (wrAt B b l v1) := isBuilder_below h.out b1
  have hs1 := b1.size
  go_wp2_with fail
  refine (writeString_any B b (Lib.byteCells l) (strOfNums (Pl.num n)) v1 h1.out (by rw [Lib.byteCells_length, Pl.strOfNums_size]; unfold nb Pl.bytes at hN; rw [List.length_map] at hN; omega) (by omega)).mono ?_
  rintro e v2 ⟨rfl, h2, b2, k2⟩
  have H2 : Hid (wrAt B b (l ++ nb n) v2) := by
    show Lib.IsBuilder _ _ _ _ _ _
    rw [Lib.byteCells_append, ← nb_cells]; exact h2
  have hK : Hid (wrKept B b w v2) := (wrKept.of_below b1 hBw).trans ⟨b2, k2⟩
  clear h2 b2 k2
  go_wp2_with fail
  go_returns
  exact ⟨rfl, H2.out, hK.out⟩

/-- a step's bytes. -/
def stepB (s : Pl.St) : List UInt8 := [UInt8.ofNat s.k.toNat] ++ nb s.t.toNat ++ nb s.n.toNat ++ (if s.k = 3 then nb s.f.toNat else s.d.data.toList)

theorem kind_cell (l : List UInt8) (k : Int) (hk : k = 1 ∨ k = 3) : Lib.byteCells l ++ [Value.int .u8 (IntKind.u8.wrap k)] = Lib.byteCells (l ++ [UInt8.ofNat k.toNat]) := by
  rcases hk with rfl | rfl <;> rw [Lib.byteCells_append] <;> rfl

set_option maxHeartbeats 2000000 in
theorem wrStep (B b : Nat) (l : List UInt8) (s : Pl.St) (w : World) (h : Hid (wrAt B b l w)) (hk : Hid (s.k = 1 ∨ s.k = 3)) (ht : 0 ≤ s.t ∧ s.t ≤ 4000) (hn : 0 ≤ s.n ∧ s.n ≤ 4000) (hf : 0 ≤ s.f ∧ s.f ≤ 4000) (hd : s.d.size ≤ 4000) (hl : l.length ≤ 90000000) (hBw : B ≤ w.heap.size) :
    Calls Try.prog 72 #[.pointer (some ⟨b, 0, none⟩), .agg #[.int .i64 s.k, .int .i64 s.t, .int .i64 s.n, .string s.d, .int .i64 s.f]] w fun e w' => e = .returned (.tuple #[]) ∧ wrAt B b (l ++ stepB s) w' ∧ wrKept B b w w' := by
  obtain ⟨T, hT⟩ := Int.eq_ofNat_of_zero_le ht.1
  obtain ⟨M, hM⟩ := Int.eq_ofNat_of_zero_le hn.1
  obtain ⟨F, hF⟩ := Int.eq_ofNat_of_zero_le hf.1
  rw [hT, hM, hF]
  have hsz : b < w.heap.size := by rcases h.out with h | h <;> exact h.lt
  have HD : Hid (wrAt B b l (w.alloc (Obj.cells #[.int .i64 s.k, .int .i64 T, .int .i64 M, .string s.d, .int .i64 F] 40)).drew) := isBuilder_below h.out ((Below.refl _ _).alloc (Nat.le_refl _) _).drew
  have HB : Hid (wrKept B b w (w.alloc (Obj.cells #[.int .i64 s.k, .int .i64 T, .int .i64 M, .string s.d, .int .i64 F] 40)).drew) := wrKept.of_below ((Below.refl _ _).alloc (Nat.le_refl _) _).drew hBw
  have HX : Hid ((w.alloc (Obj.cells #[.int .i64 s.k, .int .i64 T, .int .i64 M, .string s.d, .int .i64 F] 40)).drew.heap[w.heap.size]? = some (Obj.cells #[.int .i64 s.k, .int .i64 T, .int .i64 M, .string s.d, .int .i64 F] 40 (0, 0))) := heap_alloc_new w _
  have HS : Hid (stepB s = [UInt8.ofNat s.k.toNat] ++ nb s.t.toNat ++ nb s.n.toNat ++ (if s.k = 3 then nb s.f.toNat else s.d.data.toList)) := rfl
  go_enter Try.func72, Try.ntmps72
  go_wp2_with fail
  go_region_with (go_at_call 100; refine (writeByte_any B b (Lib.byteCells l) _ _ HD.out (by rw [Lib.byteCells_length]; omega) (by simp; omega)).mono ?_; rintro e v1 ⟨rfl, h1, b1, k1⟩)
  rw [kind_cell l s.k hk.out] at h1
  have H1 : Hid (wrAt B b (l ++ [UInt8.ofNat s.k.toNat]) v1) := h1
  have K1 : Hid (wrKept B b w v1) := HB.out.trans ⟨b1, k1⟩
  have X1 : Hid (v1.heap[w.heap.size]? = some (Obj.cells #[.int .i64 s.k, .int .i64 T, .int .i64 M, .string s.d, .int .i64 F] 40 (0, 0))) := wrKept.cell ⟨b1, k1⟩ HX.out (by omega) (by decide)
  have s1 : w.heap.size ≤ v1.heap.size := K1.out.1.size
  have e1 : v1.cell? ⟨w.heap.size, 1, none⟩ = some (.int .i64 T) := by rw [Lib.cell_of_heap X1.out]; rfl
  clear h1 b1 k1 HD HB HX
  go_wp2_with fail
  refine (wrNumber B b _ T v1 H1 (by omega) (by simp; omega) (by omega)).mono ?_
  rintro e v2 ⟨rfl, h2, k2⟩
  have H2 : Hid (wrAt B b (l ++ [UInt8.ofNat s.k.toNat] ++ nb T) v2) := h2
  have K2 : Hid (wrKept B b w v2) := K1.out.trans k2
  have X2 : Hid (v2.heap[w.heap.size]? = some (Obj.cells #[.int .i64 s.k, .int .i64 T, .int .i64 M, .string s.d, .int .i64 F] 40 (0, 0))) := k2.cell X1.out (by omega) (by decide)
  have s2 : w.heap.size ≤ v2.heap.size := K2.out.1.size
  have e2 : v2.cell? ⟨w.heap.size, 2, none⟩ = some (.int .i64 M) := by rw [Lib.cell_of_heap X2.out]; rfl
  have l2 := nb_len T (by omega)
  clear h2 k2 H1 K1 X1 e1
  go_wp2_with fail
  refine (wrNumber B b _ M v2 H2 (by omega) (by simp; omega) (by omega)).mono ?_
  rintro e v3 ⟨rfl, h3, k3⟩
  have H3 : Hid (wrAt B b (l ++ [UInt8.ofNat s.k.toNat] ++ nb T ++ nb M) v3) := h3
  have K3 : Hid (wrKept B b w v3) := K2.out.trans k3
  have X3 : Hid (v3.heap[w.heap.size]? = some (Obj.cells #[.int .i64 s.k, .int .i64 T, .int .i64 M, .string s.d, .int .i64 F] 40 (0, 0))) := k3.cell X2.out (by omega) (by decide)
  have s3 : w.heap.size ≤ v3.heap.size := K3.out.1.size
  have e0 : v3.cell? ⟨w.heap.size, 0, none⟩ = some (.int .i64 s.k) := by rw [Lib.cell_of_heap X3.out]; rfl
  have e3 : v3.cell? ⟨w.heap.size, 3, none⟩ = some (.string s.d) := by rw [Lib.cell_of_heap X3.out]; rfl
  have e4 : v3.cell? ⟨w.heap.size, 4, none⟩ = some (.int .i64 F) := by rw [Lib.cell_of_heap X3.out]; rfl
  have l3 := nb_len M (by omega)
  clear h3 k3 H2 K2 X2 e2
  by_cases h3 : s.k = 3
  · have HF : Hid (l ++ stepB s = l ++ [UInt8.ofNat s.k.toNat] ++ nb T ++ nb M ++ nb F) := by
      show _ = _
      rw [HS.out, if_pos h3, hT, hM, hF]
      simp only [Int.toNat_natCast, List.append_assoc]
    rw [h3] at e0
    go_wp2_with fail
    refine (wrNumber B b _ F v3 H3 (by omega) (by simp; omega) (by omega)).mono ?_
    rintro e v4 ⟨rfl, h4, k4⟩
    have H4 : Hid (wrAt B b (l ++ stepB s) v4) := by
      show wrAt _ _ _ _
      rw [HF.out]; exact h4
    have K4 : Hid (wrKept B b w v4) := K3.out.trans k4
    clear h4 k4
    go_wp2_with fail
    go_returns
    exact ⟨rfl, H4.out, K4.out⟩
  · have HF : Hid (l ++ stepB s = l ++ [UInt8.ofNat s.k.toNat] ++ nb T ++ nb M ++ s.d.data.toList) := by
      show _ = _
      rw [HS.out, if_neg h3, hT, hM]
      simp only [Int.toNat_natCast, List.append_assoc]
    have H3d : Hid (wrAt B b (l ++ [UInt8.ofNat s.k.toNat] ++ nb T ++ nb M) v3.drew) := H3.out
    go_wp2_with fail
    go_region_with (go_at_call 70; refine (writeString_any B b (Lib.byteCells (l ++ [UInt8.ofNat s.k.toNat] ++ nb T ++ nb M)) s.d _ H3d.out (by rw [Lib.byteCells_length]; simp; omega) (by show B ≤ v3.heap.size; omega)).mono ?_; rintro e v4 ⟨rfl, h4, b4, k4⟩)
    have H4 : Hid (wrAt B b (l ++ stepB s) v4) := by
      show wrAt _ _ _ _
      rw [HF.out]
      show Lib.IsBuilder _ _ _ _ _ _
      rw [Lib.byteCells_append, ← Lib.strCells_eq]; exact h4
    have K4 : Hid (wrKept B b w v4) := K3.out.trans ⟨⟨b4.os, b4.tape, b4.output, b4.size, b4.block⟩, k4⟩
    clear h4 k4 b4
    go_wp2_with fail
    go_returns
    exact ⟨rfl, H4.out, K4.out⟩

end Go.Proofs.Ytjjmcnippjpclaa
