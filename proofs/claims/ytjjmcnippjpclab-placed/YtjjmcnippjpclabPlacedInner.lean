/-
  The walk of the law Placed.
-/
import Derived.Test.YtjjmcnippjpclabPlacedPlain
import Derived.Test.YtjjmcnippjpclabEdited
import Derived.Test.YtjjmcnippjpclabLives
import Derived.Test.YtjjmcnippjpclabWrite
namespace Go.Proofs.Ytjjmcnippjpclab

open Go.RowKit

theorem short_1500 (s : ByteArray) (w : World) : Calls Try.prog 6 #[.string s, .int .i64 1500] w fun e w' => e = .returned (.string (shortS s 1500)) ∧ w' = w := short_any s 1500 w (by omega)

theorem row0 (o n : ByteArray) (M : List _root_.Pl.Sp) (j : Nat) :
    (if 0 ≤ j ∧ j < 0 + (o.data.toList.map fun x => Value.int .u8 (x.toNat : Int)).length then (o.data.toList.map fun x => Value.int .u8 (x.toNat : Int))[j - 0]?.getD default else .int .u8 0) = Value.int .u8 ((inPl o n (covS (M.take 0) j) j).toNat : Nat) := by
  have e : covS (M.take 0) j = false := rfl
  rw [e]
  unfold inPl
  rw [if_neg (show ¬ (false = true) by decide), Array.getD_eq_getD_getElem?]
  by_cases h : j < o.size
  · rw [if_pos (by rw [List.length_map, data_len]; omega), Nat.sub_zero, List.getElem?_map, Array.getElem?_eq_getElem h, List.getElem?_eq_getElem (by rw [data_len]; exact h), Array.getElem_toList]
    rfl
  · rw [if_neg (by rw [List.length_map, data_len]; omega), Array.getElem?_eq_none (by exact Nat.le_of_not_lt h)]
    rfl

theorem covK_free {l M : List _root_.Pl.Sp} (hM : _root_.Pl.Sorted l M) {i k : Nat} {s : _root_.Pl.Sp} (hs : M[i]? = some s) (hk : k < s.n) : covK (M.take i) s k (s.t + k) = false := by
  unfold covK
  rw [to_free hM hs (by omega) (by omega), decide_eq_false (by omega)]
  rfl

theorem brings (n : ByteArray) (t m k : Nat) (hk : k < m) (ht : t + m ≤ n.size) (h : k < (n.extract t (t + m)).size) : (n.extract t (t + m))[k] = n.data.getD (t + k) 0 := by
  have e := extract_at n t (t + m) k (by omega) ht
  rw [Array.getD_eq_getD_getElem?, ← e, data_at _ k h]
  rfl

theorem conv_part {w : World} {b n : Nat} {g : Nat → UInt8} (h : w.rowIs b 5 n (fun j => .int .u8 ((g j).toNat : Nat))) (f m c : Nat) (hfm : f + m ≤ n) : (convert 34 9 (.slice (some ⟨b, f, none⟩) m c)).run Try.prog w = .ok (.string ⟨((List.range m).map fun k => g (f + k)).toArray⟩) w := by
  have e := run_convert_bytes_back (P := Try.prog) w 34 9 5 ⟨b, f, none⟩ c ((List.range m).map fun k => g (f + k)) Try.underlying34 Try.underlying5 Try.underlying9 (fun j hj => by
    have hj' : j < m := by simpa using hj
    have hadd : (⟨b, f, none⟩ : Addr).add j = ⟨b, f + j, none⟩ := by unfold Addr.add; split <;> simp_all
    rw [hadd, h.cell (by omega)]
    simp)
  rw [List.length_map, List.length_range] at e
  exact e

theorem part_is {x : ByteArray} {t m f : Nat} {g : Nat → UInt8} (h : ∀ k, k < m → g (f + k) = x.data.getD (t + k) 0) (ht : t + m ≤ x.size) : (⟨((List.range m).map fun k => g (f + k)).toArray⟩ : ByteArray) = x.extract t (t + m) := by
  apply ByteArray.ext
  apply Array.ext
  · rw [List.size_toArray, List.length_map, List.length_range]
    show m = (x.extract t (t + m)).size
    rw [ByteArray.size_extract]; omega
  · intro k h1 h2
    have hk : k < m := by rw [List.size_toArray, List.length_map, List.length_range] at h1; exact h1
    have e := brings x t m k hk ht h2
    rw [List.getElem_toArray, List.getElem_map, List.getElem_range, h k hk, ← e]
    rfl

theorem whole_is {x : ByteArray} {g : Nat → UInt8} (h : ∀ k, k < x.size → g k = x.data.getD k 0) : (⟨((List.range x.size).map fun k => g (0 + k)).toArray⟩ : ByteArray) = x := by
  rw [part_is (x := x) (t := 0) (m := x.size) (f := 0) (g := g) (fun k hk => by rw [Nat.zero_add]; exact h k hk) (by omega), Nat.zero_add]
  exact ByteArray.extract_zero_size

theorem rowIs_below {w v : World} {b n : Nat} {t : TypeId} {f : Nat → Value} (h : w.rowIs b t n f) (hb : Below w.heap.size w v) : v.rowIs b t n f := h.of_block (hb.block _ h.lt)

theorem take_snoc {α : Type} {l : List α} {i : Nat} {x : α} (h : l[i]? = some x) : l.take (i + 1) = l.take i ++ [x] := by
  rw [List.take_add_one, h]
  rfl


def firstLoop : Code → Option Code
  | .loop c => some c
  | .seq a b => match firstLoop a with
    | some c => some c
    | none => firstLoop b
  | .block _ c => firstLoop c
  | .scope c => firstLoop c
  | .cond _ a b => match firstLoop a with
    | some c => some c
    | none => firstLoop b
  | _ => none

/-- the loop within the loop. -/
noncomputable def lpIn : Code := ((Try.f3.body.bind firstLoop).bind firstLoop).getD .skip

set_option maxRecDepth 1000000 in
set_option maxHeartbeats 8000000 in
theorem placed_inner (o n : ByteArray) (l M : List _root_.Pl.Sp) (L B G X i : Nat) (s : _root_.Pl.Sp) (KK FF : Int) (DD : ByteArray) (v5 W1 : World) (hM : Hid (_root_.Pl.Sorted l M)) (HS : Hid (M[i]? = some s)) (HTK : Hid (M.take (i + 1) = M.take i ++ [s]))
    (hLn : n.size ≤ L) (hL4 : L ≤ 1500) (t2 : s.t + s.n ≤ n.size) (hDs : (n.extract s.t (s.t + s.n)).size = s.n) (hBG : B < G) (hGX : G < X)
    (hrow1 : Hid (W1.rowIs B 5 L (fun j => .int .u8 ((inPl o n (covS (M.take i) j) j).toNat : Nat)))) (hgone1 : Hid (W1.rowIs G 4 n.size (fun j => .bool (covS (M.take i) j)))) (hbox1 : Hid (W1.heap[X]? = some (.cells #[.int .i64 KK, .int .i64 s.t, .int .i64 s.n, .string DD, .int .i64 FF] 37 (0, 0)))) (hbel1 : Hid (Below B v5 W1))
    (Q : Exit → Act → World → Prop)
    (c0 c1 c2 c3 c5 c6 c7 c8 c9 c10 c11 c14 c18 c19 c20 c21 c22 c23 c24 c25 c26 c27 c28 c29 c30 c31 c32 c33 c34 c35 c36 c37 c38 c39 c40 c41 c42 c43 c44 c45 c46 c47 c48 c49 c50 c51 c52 c53 c54 c55 c56 c57 c58 c59 c60 c61 c62 c63 c64 c65 c66 c67 c68 c69 c70 c71 c72 c73 c74 c75 c76 c77 c78 c79 c80 c81 c82 c83 c84 c85 c86 c87 c88 c89 c90 c91 c92 c93 c94 c95 c96 c97 c98 c99 c100 c101 c102 c103 c104 c105 c106 c107 c108 c109 c110 c111 c112 c113 c114 c115 c116 c117 c118 c119 c120 c121 c122 c123 c124 c125 c126 c127 c128 c129 c130 c131 c132 c133 c134 c135 c136 c137 c138 c139 c140 c141 c142 c143 c144 c145 c146 c147 c148 c149 c150 c151 c152 c153 c154 c155 c156 c157 c158 c159 c160 c189 c190 c191 c192 c193 c194 c195 c196 c197 c198 c199 c200 c201 c202 c203 c204 c205 c206 c207 c208 c209 c210 c211 c212 c213 c214 c215 c216 c217 c218 c219 c220 c221 c222 c223 c224 : Value)
    (hexit : ∀ (wq : World) (u4 u17 u161 u162 u163 u164 u165 u166 u167 u168 u169 u170 u171 u172 u173 u174 u175 u176 u177 u178 u179 u180 u181 u182 u183 u184 u185 u186 u187 u188 : Value), Hid (wq.rowIs B 5 L (fun j => .int .u8 ((inPl o n (covS (M.take (i + 1)) j) j).toNat : Nat))) → Hid (wq.rowIs G 4 n.size (fun j => .bool (covS (M.take (i + 1)) j))) → Hid (Below B v5 wq) → Q (.exit 2) ⟨#[c0, c1, c2, c3, u4, c5, c6, c7, c8, c9, c10, c11, .slice (some ⟨B, 0, none⟩) L L, .slice (some ⟨G, 0, none⟩) n.size n.size, c14, .pointer (some ⟨X, 0, none⟩), .string (n.extract s.t (s.t + s.n)), u17, c18, c19, c20, c21, c22, c23, c24, c25, c26, c27, c28, c29, c30, c31, c32, c33, c34, c35, c36, c37, c38, c39, c40, c41, c42, c43, c44, c45, c46, c47, c48, c49, c50, c51, c52, c53, c54, c55, c56, c57, c58, c59, c60, c61, c62, c63, c64, c65, c66, c67, c68, c69, c70, c71, c72, c73, c74, c75, c76, c77, c78, c79, c80, c81, c82, c83, c84, c85, c86, c87, c88, c89, c90, c91, c92, c93, c94, c95, c96, c97, c98, c99, c100, c101, c102, c103, c104, c105, c106, c107, c108, c109, c110, c111, c112, c113, c114, c115, c116, c117, c118, c119, c120, c121, c122, c123, c124, c125, c126, c127, c128, c129, c130, c131, c132, c133, c134, c135, c136, c137, c138, c139, c140, c141, c142, c143, c144, c145, c146, c147, c148, c149, c150, c151, c152, c153, c154, c155, c156, c157, c158, c159, c160, u161, u162, u163, u164, u165, u166, u167, u168, u169, u170, u171, u172, u173, u174, u175, u176, u177, u178, u179, u180, u181, u182, u183, u184, u185, u186, u187, u188, c189, c190, c191, c192, c193, c194, c195, c196, c197, c198, c199, c200, c201, c202, c203, c204, c205, c206, c207, c208, c209, c210, c211, c212, c213, c214, c215, c216, c217, c218, c219, c220, c221, c222, c223, c224], []⟩ wq) :
    ∀ (u4 u161 u162 u163 u164 u165 u166 u167 u168 u169 u170 u171 u172 u173 u174 u175 u176 u177 u178 u179 u180 u181 u182 u183 u184 u185 u186 u187 u188 : Value), Code.wp Try.prog (.loop lpIn) Q ⟨#[c0, c1, c2, c3, u4, c5, c6, c7, c8, c9, c10, c11, .slice (some ⟨B, 0, none⟩) L L, .slice (some ⟨G, 0, none⟩) n.size n.size, c14, .pointer (some ⟨X, 0, none⟩), .string (n.extract s.t (s.t + s.n)), .int .i64 0, c18, c19, c20, c21, c22, c23, c24, c25, c26, c27, c28, c29, c30, c31, c32, c33, c34, c35, c36, c37, c38, c39, c40, c41, c42, c43, c44, c45, c46, c47, c48, c49, c50, c51, c52, c53, c54, c55, c56, c57, c58, c59, c60, c61, c62, c63, c64, c65, c66, c67, c68, c69, c70, c71, c72, c73, c74, c75, c76, c77, c78, c79, c80, c81, c82, c83, c84, c85, c86, c87, c88, c89, c90, c91, c92, c93, c94, c95, c96, c97, c98, c99, c100, c101, c102, c103, c104, c105, c106, c107, c108, c109, c110, c111, c112, c113, c114, c115, c116, c117, c118, c119, c120, c121, c122, c123, c124, c125, c126, c127, c128, c129, c130, c131, c132, c133, c134, c135, c136, c137, c138, c139, c140, c141, c142, c143, c144, c145, c146, c147, c148, c149, c150, c151, c152, c153, c154, c155, c156, c157, c158, c159, c160, u161, u162, u163, u164, u165, u166, u167, u168, u169, u170, u171, u172, u173, u174, u175, u176, u177, u178, u179, u180, u181, u182, u183, u184, u185, u186, u187, u188, c189, c190, c191, c192, c193, c194, c195, c196, c197, c198, c199, c200, c201, c202, c203, c204, c205, c206, c207, c208, c209, c210, c211, c212, c213, c214, c215, c216, c217, c218, c219, c220, c221, c222, c223, c224], []⟩ W1 := by
  intro u4 u161 u162 u163 u164 u165 u166 u167 u168 u169 u170 u171 u172 u173 u174 u175 u176 u177 u178 u179 u180 u181 u182 u183 u184 u185 u186 u187 u188
  conv => arg 2; arg 1; whnf
  conv => arg 4; dsimp only
  go_loopw [17] (fun y wq => ∃ k : Nat, y = .int .i64 k ∧ k ≤ s.n ∧ Hid (wq.rowIs B 5 L (fun j => .int .u8 ((inPl o n (covK (M.take i) s k j) j).toNat : Nat))) ∧ Hid (wq.rowIs G 4 n.size (fun j => .bool (covK (M.take i) s k j))) ∧ Hid (wq.heap[X]? = some (.cells #[.int .i64 KK, .int .i64 s.t, .int .i64 s.n, .string DD, .int .i64 FF] 37 (0, 0))) ∧ Hid (Below B v5 wq)) (fun y _ => s.n - (intOf y).toNat)
  case atStart => exact ⟨0, rfl, Nat.zero_le _, hrow1.out.congr (fun j _ => by rw [covK_zero]), hgone1.out.congr (fun j _ => by rw [covK_zero]), hbox1, hbel1⟩
  case round =>
    clear hrow1 hgone1 hbox1 hbel1
    obtain ⟨k, rfl, hk, hrow2, hgone2, hbox, hbel2⟩ := hrel
    obtain ⟨B0, B1, B2, B3, B4, _⟩ := box_cells hbox.out
    by_cases hkM : k < s.n
    · have hfree : covK (M.take i) s k (s.t + k) = false := covK_free hM.out HS.out hkM
      have hq0 := hgone2.out.cell (i := s.t + k) (by omega)
      rw [hfree] at hq0
      have hq1 := hgone2.out.frozen (s.t + k)
      have ht1 : (s.t : Int) + (k : Int) < (n.size : Int) := by omega
      have ht2 : (0 : Int) ≤ (s.t : Int) + (k : Int) := by omega
      have ht4 : ((s.t : Int) + (k : Int)).toNat = s.t + k := by omega
      have ht5 : IntKind.i64.wrap ((s.t : Int) + (k : Int)) = (s.t : Int) + (k : Int) := by rw [IntKind.wrap_i64]; omega
      have ht6 : (s.t : Int) + (k : Int) < (L : Int) := by omega
      clear hfree
      go_wp2_with fail
      have hrow3 := hrow2.out.setOther (a := ⟨G, s.t + k, none⟩) (by show B ≠ G; omega) (.bool true)
      have hgone3 : Hid ((wr.setCell ⟨G, s.t + k, none⟩ (.bool true)).rowIs G 4 n.size (fun j => .bool (covK (M.take i) s (k + 1) j))) := (hgone2.out.set (s.t + k) (.bool true)).congr (fun j _ => by rw [covK_succ]; split <;> rfl)
      have hbox3 : Hid ((wr.setCell ⟨G, s.t + k, none⟩ (.bool true)).heap[X]? = some (.cells #[.int .i64 KK, .int .i64 s.t, .int .i64 s.n, .string DD, .int .i64 FF] 37 (0, 0))) := by
        show _ = _
        rw [Below.heap_setCell _ _ _ _ (show X ≠ G by omega)]; exact hbox.out
      have hbel3 : Hid (Below B v5 (wr.setCell ⟨G, s.t + k, none⟩ (.bool true))) := hbel2.out.setCell (by show B ≤ G; omega) _
      clear B0 B1 B2 B3 B4 hq0 hq1 hrow2 hgone2 hbox hbel2
      generalize wr.setCell ⟨G, s.t + k, none⟩ (.bool true) = W3 at *
      obtain ⟨B0, B1, B2, B3, B4, _⟩ := box_cells hbox3.out
      have hq0 := hrow3.cell (i := s.t + k) (by omega)
      have hq1 := hrow3.frozen (s.t + k)
      have HR3 : Hid (W3.rowIs B 5 L (fun j => .int .u8 ((inPl o n (covK (M.take i) s k j) j).toNat : Nat))) := hrow3
      clear hrow3
      have gk1 : k < (n.extract s.t (s.t + s.n)).size := by omega
      have gk2 : (k : Int) < ((n.extract s.t (s.t + s.n)).size : Int) := by omega
      have hby : Hid ((n.extract s.t (s.t + s.n))[k] = n.data.getD (s.t + k) 0) := brings n s.t s.n k (by omega) (by omega) gk1
      go_region
      have hrow4 : Hid (((W3.setCell ⟨B, s.t + k, none⟩ (.int .u8 (((n.extract s.t (s.t + s.n))[k]).toNat : Nat))).drew).rowIs B 5 L (fun j => .int .u8 ((inPl o n (covK (M.take i) s (k + 1) j) j).toNat : Nat))) := by
        refine (HR3.out.set (s.t + k) _).congr (fun j _ => ?_)
        rw [covK_succ, hby.out]
        by_cases hj : j = s.t + k
        · rw [if_pos hj, if_pos hj, hj]; rfl
        · rw [if_neg hj, if_neg hj]
      have hgone4 : Hid (((W3.setCell ⟨B, s.t + k, none⟩ (.int .u8 (((n.extract s.t (s.t + s.n))[k]).toNat : Nat))).drew).rowIs G 4 n.size (fun j => .bool (covK (M.take i) s (k + 1) j))) := hgone3.out.setOther (a := ⟨B, s.t + k, none⟩) (by show G ≠ B; omega) _
      have hbox4 : Hid (((W3.setCell ⟨B, s.t + k, none⟩ (.int .u8 (((n.extract s.t (s.t + s.n))[k]).toNat : Nat))).drew).heap[X]? = some (.cells #[.int .i64 KK, .int .i64 s.t, .int .i64 s.n, .string DD, .int .i64 FF] 37 (0, 0))) := by
        show (W3.setCell ⟨B, s.t + k, none⟩ (.int .u8 (((n.extract s.t (s.t + s.n))[k]).toNat : Nat))).heap[X]? = _
        rw [Below.heap_setCell _ _ _ _ (show X ≠ B by omega)]; exact hbox3.out
      have hbel4 : Hid (Below B v5 ((W3.setCell ⟨B, s.t + k, none⟩ (.int .u8 (((n.extract s.t (s.t + s.n))[k]).toNat : Nat))).drew)) := (hbel3.out.setCell (Nat.le_refl _) _).drew
      go_wp2_with fail
      exact ⟨⟨k + 1, by go_num, by omega, hrow4, hgone4, hbox4, hbel4⟩, by simp [intOf]; omega⟩
    · have hke : k = s.n := by omega
      subst hke
      have hfin : Hid (wr.rowIs B 5 L (fun j => .int .u8 ((inPl o n (covS (M.take (i + 1)) j) j).toNat : Nat))) := hrow2.out.congr (fun j _ => by rw [HTK.out, covS_snoc])
      have hfin2 : Hid (wr.rowIs G 4 n.size (fun j => .bool (covS (M.take (i + 1)) j))) := hgone2.out.congr (fun j _ => by rw [HTK.out, covS_snoc])
      go_wp2_with fail
      exact hexit _ _ _ _ _ _ _ _ _ _ _ _ _ _ _ _ _ _ _ _ _ _ _ _ _ _ _ _ _ _ _ hfin hfin2 hbel2

end Go.Proofs.Ytjjmcnippjpclab
