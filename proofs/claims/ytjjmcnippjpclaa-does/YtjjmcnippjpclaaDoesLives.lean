/-
  The walk of the law's lives: the document's example in place.
-/
import Derived.Test.YtjjmcnippjpclaaDoErr
import Derived.Test.YtjjmcnippjpclaaDoesFns
import Derived.Test.YtjjmcnippjpclaaWrite
namespace Go.Proofs.Ytjjmcnippjpclaa

open Go.RowKit

def exA : ByteArray := ⟨#[97, 98, 99, 100]⟩

def exB : ByteArray := ⟨#[99, 100, 97, 98]⟩

def exS (s : ByteArray) : ByteArray := Pl.sumOf (Pl.ad s.data.toList).1 (Pl.ad s.data.toList).2

def exSt : List Pl.St := [((3 : Int), (0 : Int), (2 : Int), ⟨#[]⟩, (2 : Int)), ((1 : Int), (2 : Int), (2 : Int), ⟨#[97, 98]⟩, (0 : Int))]

def exP : ByteArray := wText 4 4 (exS exA) (exS exB) exSt

def exD : Dp.Dv := ⟨[97, 98, 99, 100], [97, 98, 99, 100], [], 0, -1⟩

theorem ex_err : wErr 4 4 (exS exA) (exS exB) exSt = 0 := by decide +kernel

theorem ex_fair : pErr exP = 0 ∧ exP.size ≤ 1000 := by decide +kernel

theorem ex_do : (pDo exD exP.data.toList (hOL exP) (hNL exP) (hOS exP) (hNS exP) (pSt exP) (DE exD exP.data.toList (hOL exP) (hNL exP) (hOS exP) (pSt exP))).1 = 0 ∧ (pDo exD exP.data.toList (hOL exP) (hNL exP) (hOS exP) (hNS exP) (pSt exP) (DE exD exP.data.toList (hOL exP) (hNL exP) (hOS exP) (pSt exP))).2.text = [99, 100, 97, 98] ∧ (pDo exD exP.data.toList (hOL exP) (hNL exP) (hOS exP) (hNS exP) (pSt exP) (DE exD exP.data.toList (hOL exP) (hNL exP) (hOS exP) (pSt exP))).2.life = -1 := by decide +kernel

theorem ex_steps (v : World) (ob : Obj) : stepsAt ((v.alloc (Obj.cells #[.int .i64 3, .int .i64 0, .int .i64 2, .string ⟨#[]⟩, .int .i64 2, .int .i64 1, .int .i64 2, .int .i64 2, .string ⟨#[97, 98]⟩, .int .i64 0] 40)).alloc ob) (some ⟨v.heap.size, 0, none⟩) v.heap.size 0 exSt := by
  have h1 := heap_alloc_new v (Obj.cells #[.int .i64 3, .int .i64 0, .int .i64 2, .string ⟨#[]⟩, .int .i64 2, .int .i64 1, .int .i64 2, .int .i64 2, .string ⟨#[97, 98]⟩, .int .i64 0] 40)
  have h2 : (v.alloc (Obj.cells (stCells exSt ++ []).toArray 40)).heap[v.heap.size]? = some (.cells (stCells exSt ++ []).toArray 40 (0, 0)) := heap_alloc_new v _
  have h3 : stepsAt (v.alloc (Obj.cells #[.int .i64 3, .int .i64 0, .int .i64 2, .string ⟨#[]⟩, .int .i64 2, .int .i64 1, .int .i64 2, .int .i64 2, .string ⟨#[97, 98]⟩, .int .i64 0] 40)) (some ⟨v.heap.size, 0, none⟩) v.heap.size 0 exSt := ⟨.inr rfl, lt_of_heap h1, stAt_block h2⟩
  exact stepsAt_below h3 ((Below.refl _ _).alloc (Nat.le_refl _) ob) h3.2.1

set_option maxRecDepth 100000 in
theorem livesD_any (w : World) : Calls Try.prog 26 #[] w fun e w' => e = .returned (.bool true) ∧ Below w.heap.size w w' := by
  have HS1 : ∀ v, Calls Try.prog 15 #[.string ⟨#[97, 98, 99, 100]⟩] v fun e w' => e = .returned (.string (exS exA)) ∧ Below v.heap.size v w' := fun v => refsum_any exA v (by unfold maxLen; decide)
  have HS2 : ∀ v, Calls Try.prog 15 #[.string ⟨#[99, 100, 97, 98]⟩] v fun e w' => e = .returned (.string (exS exB)) ∧ Below v.heap.size v w' := fun v => refsum_any exB v (by unfold maxLen; decide)
  have HWr : ∀ v a b c, Hid (stepsAt v (some ⟨a, 0, none⟩) b 0 exSt) → Calls Try.prog 21 #[.agg #[.int .i64 4, .int .i64 4, .string (exS exA), .string (exS exB), .slice (some ⟨a, 0, none⟩) 2 c]] v fun e w' => e = .returned (.tuple #[.string exP, .int .i64 0]) ∧ Below v.heap.size v w' := fun v a b c hst => by
    have := write_any 4 4 (exS exA) (exS exB) (some ⟨a, 0, none⟩) b 0 c exSt v (by decide) hst
    rw [ex_err] at this
    exact this
  have HNw : ∀ v, Calls Try.prog 28 #[.int .i64 4, .string ⟨#[97, 98, 99, 100]⟩] v fun e w' => ∃ D tv sv, e = .returned (.pointer (some ⟨D, 0, none⟩)) ∧ devAt D tv sv exD w' ∧ Below v.heap.size v w' ∧ v.heap.size ≤ D ∧ (∀ k, tv.ownBlock = some k → v.heap.size ≤ k) ∧ (∀ k, sv.ownBlock = some k → v.heap.size ≤ k) := fun v => new_any 4 exA 4 v (by decide) (by omega)
  obtain ⟨xd1, xd2, xd3⟩ := ex_do
  obtain ⟨xf1, xf2⟩ := ex_fair
  have HDo : Hid (∀ D tv sv v, devAt D tv sv exD v → Calls Try.prog 27 #[.pointer (some ⟨D, 0, none⟩), .string exP] v fun e w' => e = .returned (.int .i64 0) ∧ (∃ y : Dp.Dv, y.text = [99, 100, 97, 98] ∧ y.life = -1 ∧ devAt D tv sv y w') ∧ kept3 D tv.ownBlock sv.ownBlock v w') := fun D tv sv v hv => by
    refine (do_det D tv sv exD exP v (by omega) xf1 rfl (by decide) (by decide) (by decide) hv ⟨by decide, by decide⟩).mono ?_
    rintro e w' ⟨E, rfl, rfl, h1, h2⟩
    rw [xd1]
    exact ⟨rfl, ⟨_, xd2, xd3, h1⟩, h2⟩
  clear xd1 xd2 xd3 xf1 xf2
  generalize exP = P at *
  generalize exS exA = SA at *
  generalize exS exB = SB at *
  go_enter Try.func26, Try.ntmps26
  go_wp2_with fail
  refine (HS1 _).mono ?_
  rintro e v1 ⟨rfl, b1⟩
  go_wp2_with fail
  refine (HS2 _).mono ?_
  rintro e v2 ⟨rfl, b2⟩
  have B2 : Hid (Below w.heap.size w v2) := b1.trans (b2.mono b1.size)
  clear b1 b2 HS1 HS2
  go_wp2_with fail
  have hA := (B2.out.alloc B2.out.size (Obj.cells #[.int .i64 3, .int .i64 0, .int .i64 2, .string ⟨#[]⟩, .int .i64 2, .int .i64 1, .int .i64 2, .int .i64 2, .string ⟨#[97, 98]⟩, .int .i64 0] 40)).alloc (by have := B2.out.size; simp; omega) (Obj.cells #[.int .i64 4, .int .i64 4, .string SA, .string SB, .slice (some ⟨v2.heap.size, 0, none⟩) 2 2] 31)
  refine (HWr _ v2.heap.size v2.heap.size 2 (ex_steps v2 _)).mono ?_
  rintro e v3 ⟨rfl, b3⟩
  have B3 : Hid (Below w.heap.size w v3) := hA.trans (b3.mono hA.size)
  clear b3 hA HWr B2
  go_wp2_with fail
  refine (HNw _).mono ?_
  rintro e v4 ⟨D, tv, sv, rfl, h4, b4, f1, f2, f3⟩
  have B4 : Hid (Below w.heap.size w v4) := B3.out.trans (b4.mono B3.out.size)
  have hs3 := B3.out.size
  go_wp2_with fail
  refine (HDo.out D tv sv v4 h4).mono ?_
  rintro e v5 ⟨rfl, ⟨y, y1, y2, h5⟩, k5⟩
  have B5 : Hid (Below w.heap.size w v5) := B4.out.trans (k5.below B4.out.size (by omega) (fun k hk => by have := f2 k hk; omega) (fun k hk => by have := f3 k hk; omega))
  have HT : Calls Try.prog 44 #[.pointer (some ⟨D, 0, none⟩), .int .i64 4] v5 fun e w' => e = .returned (.tuple #[.string ⟨#[99, 100, 97, 98]⟩, .bool true]) ∧ w' = v5 := by
    have := lawText_any D tv sv y 4 v5 (by omega) (by rw [y1]; decide) h5
    have hr : Dp.pRead y 4 = some [99, 100, 97, 98] := by unfold Dp.pRead; rw [if_neg (by rw [y1, y2]; decide), y1]; rfl
    rw [hr] at this
    exact this
  clear b4 f1 f2 f3 k5 h4 h5 y1 y2 HDo HNw
  go_wp2_with fail
  refine HT.mono ?_
  rintro e v6 ⟨rfl, h0⟩
  rw [h0]
  clear h0 v6
  have hxx : (ByteArray.mk #[99, 100, 97, 98]).toList = [99, 100, 97, 98] := by decide +kernel
  go_wp2_with fail
  go_ret
  exact ⟨rfl, B5.out⟩

end Go.Proofs.Ytjjmcnippjpclaa
