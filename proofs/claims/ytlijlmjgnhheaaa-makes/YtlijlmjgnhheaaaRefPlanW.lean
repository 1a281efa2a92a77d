/-
  The document's ReadPlan: what holds ahead of each round.
-/
import Derived.Test.YtlijlmjgnhheaaaRefPlanC
namespace Go.Proofs.Ytlijlmjgnhheaaa
open Go.RowKit

/-- what holds ahead of each round. -/
def Rel16 (s : ByteArray) (w : World) (OL NL N a6 : Nat) (OS NS : ByteArray) (k a : Nat) (v : Value) (wr : World) : Prop :=
  k ≤ N ∧ a ≤ s.size ∧ Hid (stepsQ s k (some a6) = some a) ∧ Hid (wr.heap[w.heap.size + 1]? = some (.cells #[.int .i64 OL, .int .i64 NL, .string OS, .string NS, v] 31 (0, 0)) ∧ wr.heap[w.heap.size]? = some (.cells #[.int .i64 0, .int .i64 0, .string ⟨#[]⟩, .string ⟨#[]⟩, .slice none 0 0] 31 (0, 0))) ∧ Hid (wr.ownsRow w.heap.size 40 5 v k (stCells (stepsV s k (some a6)))) ∧ Hid (Below w.heap.size w wr)

set_option maxRecDepth 1000000 in
def WI16 (s : ByteArray) (w : World) (OL NL N a6 : Nat) (OS NS : ByteArray) (c1 c3 c5 c7 c8 c9 c10 c11 c23 c24 c25 c26 c27 c28 c29 c30 c31 c32 c33 c34 c35 c36 c37 c38 c39 c40 c41 c42 c43 c44 c45 c46 c47 c48 c49 c50 c51 c52 c53 c54 c55 c56 c57 c58 c59 c60 c61 c62 c63 c64 c65 c66 c67 c68 c69 c70 c71 c72 c73 c74 c75 c76 c77 c78 c79 c80 c81 c82 c83 c84 c85 c86 c165 c166 c167 c168 c169 c170 c171 c172 c173 c174 c175 c176 c177 c178 c179 c180 : Value) (act : Act) (wr : World) : Prop :=
  ∃ u14 u15 u16 u17 u18 u19 u20 u21 u22 u87 u88 u89 u90 u91 u92 u93 u94 u95 u96 u97 u98 u99 u100 u101 u102 u103 u104 u105 u106 u107 u108 u109 u110 u111 u112 u113 u114 u115 u116 u117 u118 u119 u120 u121 u122 u123 u124 u125 u126 u127 u128 u129 u130 u131 u132 u133 u134 u135 u136 u137 u138 u139 u140 u141 u142 u143 u144 u145 u146 u147 u148 u149 u150 u151 u152 u153 u154 u155 u156 u157 u158 u159 u160 u161 u162 u163 u164 : Value, ∃ (k a : Nat) (v : Value), Rel16 s w OL NL N a6 OS NS k a v wr ∧ act = ⟨#[.string s, c1, .pointer (some ⟨w.heap.size, 0, none⟩), c3, .pointer (some ⟨w.heap.size + 1, 0, none⟩), c5, .int .i64 a, c7, c8, c9, c10, c11, .int .i64 N, .int .i64 k, u14, u15, u16, u17, u18, u19, u20, u21, u22, c23, c24, c25, c26, c27, c28, c29, c30, c31, c32, c33, c34, c35, c36, c37, c38, c39, c40, c41, c42, c43, c44, c45, c46, c47, c48, c49, c50, c51, c52, c53, c54, c55, c56, c57, c58, c59, c60, c61, c62, c63, c64, c65, c66, c67, c68, c69, c70, c71, c72, c73, c74, c75, c76, c77, c78, c79, c80, c81, c82, c83, c84, c85, c86, u87, u88, u89, u90, u91, u92, u93, u94, u95, u96, u97, u98, u99, u100, u101, u102, u103, u104, u105, u106, u107, u108, u109, u110, u111, u112, u113, u114, u115, u116, u117, u118, u119, u120, u121, u122, u123, u124, u125, u126, u127, u128, u129, u130, u131, u132, u133, u134, u135, u136, u137, u138, u139, u140, u141, u142, u143, u144, u145, u146, u147, u148, u149, u150, u151, u152, u153, u154, u155, u156, u157, u158, u159, u160, u161, u162, u163, u164, c165, c166, c167, c168, c169, c170, c171, c172, c173, c174, c175, c176, c177, c178, c179, c180], []⟩
def Wmu16 (N : Nat) (act : Act) (_ : World) : Nat := N - (intOf (act.tmps.getD 13 (.bool false))).toNat


end Go.Proofs.Ytlijlmjgnhheaaa
