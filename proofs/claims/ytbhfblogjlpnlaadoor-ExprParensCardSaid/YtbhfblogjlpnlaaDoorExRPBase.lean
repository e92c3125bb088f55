/-
  What each branch of a round of the reference's Parse leans on: the loop's body, taken out of the translation; the facts that hold throughout. No program's contract.
-/
import Derived.Test.YtbhfblogjlpnlaaDoorExRSpec
namespace Go.Proofs.YtbhfblogjlpnlaaDoor
open Go.RowKit

theorem toks_drop2 {w : World} {b o c j : Nat} {ts : List Tk6} (h : Toks w (.slice (some ⟨b, o, none⟩) ts.length c) ts) (hj : j < ts.length) : Toks w (.slice (some ⟨b, o + j * 6, none⟩) (ts.length - j) (c - j)) (ts.drop j) := by
  rcases h with ⟨A, c', hv, _, h0⟩ | ⟨b', o', c', hv, h2, h3, h4, h5⟩
  · rw [h0] at hj
    exact absurd hj (by simp)
  · injection hv with hv1 _ hv3
    injection hv1 with hv1
    injection hv1 with hv1 hv2
    subst hv1 hv2 hv3
    refine .inr ⟨b, o + j * 6, c - j, by rw [List.length_drop], by rw [List.length_drop]; omega, by omega, h4, fun i t hi k u hk => ?_⟩
    rw [List.getElem?_drop] at hi
    have := h5 (j + i) t hi k u hk
    rwa [show o + (j + i) * 6 + k = o + j * 6 + i * 6 + k by omega] at this

/-- The first loop's body. -/
def firstLoop : Code → Option Code
  | .loop c => some c
  | .seq a b => match firstLoop a with
    | some c => some c
    | none => firstLoop b
  | .block _ c => firstLoop c
  | .scope c => firstLoop c
  | .cond _ a b => match firstLoop a with
    | some c => some c
    | none => firstLoop b
  | _ => none
noncomputable def rpBody : Code := ((Tryd.f18.body.bind firstLoop).getD .skip)

/-- What holds throughout the call. -/
structure RPBase (ts : List Tk6) (w wB : World) (A : Option Addr) (c : Nat) : Prop where
  bb : Below w.heap.size w wB
  rb : Blk wB w.heap.size 47 #[.slice none 0 0, .slice none 0 0, .int .i64 0, .int .i64 0, .int .i64 0]
  lw : w.heap.size < wB.heap.size
  v0 : Toks w (.slice A ts.length c) ts
  tm : Tame ts
  hc : ts.length ≤ c
  hcm : c ≤ maxLen

set_option maxRecDepth 100000 in
/-- The loop's relation, with the frame written out. -/
def RPI (ts : List Tk6) (r : (Nat × List Nd) ⊕ (Nat × Int)) (w wB : World) (A : Option Addr) (c : Nat) (k : Nat) (a' : Act) (w' : World) : Prop := ∃ u3 u4 u5 u6 u7 u8 u9 u10 u11 u12 u13 u14 u15 u16 u17 u18 u19 u20 u21 u22 u23 u24 u25 u26 u27 u28 u29 u30 u31 u32 u33 u34 u35 u36 u37 u38 u39 u40 u41 u42 u43 u44 u45 u46 u47 u48 u49 u50 u51 u52 u53 u54 u55 u56 u57 u58 u59 u60 u61 u62 u63 u64 u65 u66 u67 u68 u69 u70 u71 u72 u73 u74 u75 u76 u77 u78 u79 u80 u81 u82 u83 u84 u85 u86 u87 u88 u89 u90 u91 u92 u93 u94 u95 u96 u97 u98 u99 u100 u101 u102 u103 u104 u105 u106 u107 u108 u109 u110 u111 u112 u113 u114 u115 u116 u117 u118 u119 u120 u121 u122 u123 u124 u125 u126 u127 u128 u129 u130 u131 u132 u133 u134 u135 u136 u137 u138 u139 u140 u141 u142 u143 u144 u145 u146 u147 u148 u149 u150 u151 u152 u153 u154 u155 u156 u157 u158 u159 u160 u161 u162 u163 u164 u165 u166 u167 u168 u169 u170 u171 u172 u173 u174 u175 u176 u177 u178 u179 u180 u181 u182 u183 u184 u185 u186 u187 u188 u189 u190 u191 u192 u193 u194 u195 u196 u197 u198 u199 u200 u201 u202 u203 u204 u205 u206 u207 u208 u209 u210 u211 u212 u213 u214 u215 u216 u217 u218 u219 u220 u221 u222 u223 u224 : Value, (∃ (P : Bool) (I : Nat) (out : List Nd) (S : List Wt), u5 = .bool P ∧ u6 = .int .i64 I ∧ ts.length + 1 ≤ I + k ∧ Hid (RPInv wB ts r P I out S u3 u4 w')) ∧ a' = ⟨#[.slice A ts.length c, undef, .pointer (some ⟨w.heap.size, 0, none⟩), u3, u4, u5, u6, u7, u8, u9, u10, u11, u12, u13, u14, u15, u16, u17, u18, u19, u20, u21, u22, u23, u24, u25, u26, u27, u28, u29, u30, u31, u32, u33, u34, u35, u36, u37, u38, u39, u40, u41, u42, u43, u44, u45, u46, u47, u48, u49, u50, u51, u52, u53, u54, u55, u56, u57, u58, u59, u60, u61, u62, u63, u64, u65, u66, u67, u68, u69, u70, u71, u72, u73, u74, u75, u76, u77, u78, u79, u80, u81, u82, u83, u84, u85, u86, u87, u88, u89, u90, u91, u92, u93, u94, u95, u96, u97, u98, u99, u100, u101, u102, u103, u104, u105, u106, u107, u108, u109, u110, u111, u112, u113, u114, u115, u116, u117, u118, u119, u120, u121, u122, u123, u124, u125, u126, u127, u128, u129, u130, u131, u132, u133, u134, u135, u136, u137, u138, u139, u140, u141, u142, u143, u144, u145, u146, u147, u148, u149, u150, u151, u152, u153, u154, u155, u156, u157, u158, u159, u160, u161, u162, u163, u164, u165, u166, u167, u168, u169, u170, u171, u172, u173, u174, u175, u176, u177, u178, u179, u180, u181, u182, u183, u184, u185, u186, u187, u188, u189, u190, u191, u192, u193, u194, u195, u196, u197, u198, u199, u200, u201, u202, u203, u204, u205, u206, u207, u208, u209, u210, u211, u212, u213, u214, u215, u216, u217, u218, u219, u220, u221, u222, u223, u224], []⟩
end Go.Proofs.YtbhfblogjlpnlaaDoor
