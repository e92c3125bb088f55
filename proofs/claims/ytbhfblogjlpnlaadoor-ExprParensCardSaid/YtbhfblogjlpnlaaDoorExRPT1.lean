/-
  A round of the reference's Parse where it meets: a leaf, nothing, too much that is deep, one token that opens, the end. Conditions: RPBase; the loop's relation; the branch's own facts.
-/
import Derived.Test.YtbhfblogjlpnlaaDoorExRPBase
namespace Go.Proofs.YtbhfblogjlpnlaaDoor
open Go.RowKit

set_option maxRecDepth 100000 in
set_option maxHeartbeats 40000000 in
theorem rp_leaf (ts : List Tk6) (r : (Nat × List Nd) ⊕ (Nat × Int)) (w wB : World) (A : Option Addr) (c : Nat) (B : RPBase ts w wB A c) (I : Nat) (out : List Nd) (S : List Wt) (Ao : Option Addr) (co : Nat) (As : Option Addr) (cs : Nat) (wr : World) (gK : Nat) (hgk : ts.length + 1 ≤ I + gK) (HI : Hid (RPInv wB ts r true I out S (.slice Ao out.length co) (.slice As S.length cs) wr))
    (u7 u8 u9 u10 u11 u12 u13 u14 u15 u16 u17 u18 u19 u20 u21 u22 u23 u24 u25 u26 u27 u28 u29 u30 u31 u32 u33 u34 u35 u36 u37 u38 u39 u40 u41 u42 u43 u44 u45 u46 u47 u48 u49 u50 u51 u52 u53 u54 u55 u56 u57 u58 u59 u60 u61 u62 u63 u64 u65 u66 u67 u68 u69 u70 u71 u72 u73 u74 u75 u76 u77 u78 u79 u80 u81 u82 u83 u84 u85 u86 u87 u88 u89 u90 u91 u92 u93 u94 u95 u96 u97 u98 u99 u100 u101 u102 u103 u104 u105 u106 u107 u108 u109 u110 u111 u112 u113 u114 u115 u116 u117 u118 u119 u120 u121 u122 u123 u124 u125 u126 u127 u128 u129 u130 u131 u132 u133 u134 u135 u136 u137 u138 u139 u140 u141 u142 u143 u144 u145 u146 u147 u148 u149 u150 u151 u152 u153 u154 u155 u156 u157 u158 u159 u160 u161 u162 u163 u164 u165 u166 u167 u168 u169 u170 u171 u172 u173 u174 u175 u176 u177 u178 u179 u180 u181 u182 u183 u184 u185 u186 u187 u188 u189 u190 u191 u192 u193 u194 u195 u196 u197 u198 u199 u200 u201 u202 u203 u204 u205 u206 u207 u208 u209 u210 u211 u212 u213 u214 u215 u216 u217 u218 u219 u220 u221 u222 u223 u224 : Value) (J : Nat → Act → World → Prop) (K : Act → World → Prop)
    (hJ : ∀ k a' w', RPI ts r w wB A c k a' w' → J k a' w')
    (hK : ∀ a' w', Handed J gK a' w' → K a' w')
    (t : Tk6) (hlt : I < ts.length) (ht : ts[I]? = some t) (n : Nd) (hl : t.leaf = some n) :
    Code.wp Tryd.prog rpBody (Exit.then K (Exit.inBlock 0 (bodyPost Tryd.prog Tryd.f18 (RParseOut w ts r)))) ⟨#[.slice A ts.length c, undef, .pointer (some ⟨w.heap.size, 0, none⟩), .slice Ao out.length co, .slice As S.length cs, .bool true, .int .i64 I, u7, u8, u9, u10, u11, u12, u13, u14, u15, u16, u17, u18, u19, u20, u21, u22, u23, u24, u25, u26, u27, u28, u29, u30, u31, u32, u33, u34, u35, u36, u37, u38, u39, u40, u41, u42, u43, u44, u45, u46, u47, u48, u49, u50, u51, u52, u53, u54, u55, u56, u57, u58, u59, u60, u61, u62, u63, u64, u65, u66, u67, u68, u69, u70, u71, u72, u73, u74, u75, u76, u77, u78, u79, u80, u81, u82, u83, u84, u85, u86, u87, u88, u89, u90, u91, u92, u93, u94, u95, u96, u97, u98, u99, u100, u101, u102, u103, u104, u105, u106, u107, u108, u109, u110, u111, u112, u113, u114, u115, u116, u117, u118, u119, u120, u121, u122, u123, u124, u125, u126, u127, u128, u129, u130, u131, u132, u133, u134, u135, u136, u137, u138, u139, u140, u141, u142, u143, u144, u145, u146, u147, u148, u149, u150, u151, u152, u153, u154, u155, u156, u157, u158, u159, u160, u161, u162, u163, u164, u165, u166, u167, u168, u169, u170, u171, u172, u173, u174, u175, u176, u177, u178, u179, u180, u181, u182, u183, u184, u185, u186, u187, u188, u189, u190, u191, u192, u193, u194, u195, u196, u197, u198, u199, u200, u201, u202, u203, u204, u205, u206, u207, u208, u209, u210, u211, u212, u213, u214, u215, u216, u217, u218, u219, u220, u221, u222, u223, u224], []⟩ wr := by
  conv => arg 2; whnf
  obtain ⟨i1, hi1, nz0, nz1, nz2⟩ := info_parts Tryd.infoNode
  obtain ⟨i2, hi2, wz0, wz1, wz2⟩ := info_parts Tryd.infoWait
  have hn := B.tm.few
  have HBB := Lib.hid B.bb
  have HRB := Lib.hid B.rb
  have HV := Lib.hid (fun W (hW : Below wB.heap.size wB W) => (B.v0.below B.bb).below hW)
  have HTM := Lib.hid B.tm
  have HV0 := Lib.hid B.v0
  have HLW := Lib.hid B.lw
  have hc := B.hc
  have hcm := B.hcm
  have hle := HI.out.le
  have hfew := HI.out.few
  have hIb : (I : Int) ≤ 100000 := by omega
  have hop : (out.length : Int) ≤ 100000 := by omega
  have hsp : (S.length : Int) ≤ 100000 := by omega
  clear B
  have hki : ¬ (ts.length : Int) ≤ I := by omega
  have hki2 : (I : Int) < ts.length := by omega
  have hkc : (I : Int) < c := by omega
  obtain ⟨A', c', hvv, -, -, hcell⟩ := (HV.out wr HI.out.mem.below).form
  injection hvv with hvv1 _ hvv2
  subst hvv1 hvv2
  obtain ⟨b, o, rfl, hcs⟩ := hcell I t ht
  obtain ⟨e0, e1, e2, e3, e4, e5⟩ := hcs wr (Below.refl _ _)
  have HT := Lib.hid ht
  have hL := rleaf_is t wr (HTM.out.spare t (List.mem_of_getElem? ht)) (HTM.out.text t (List.mem_of_getElem? ht))
  have HO := Lib.hid (fun W (hW : Below wr.heap.size wr W) => ropens_is ts _ I t W ht (HV.out W (HI.out.mem.below.trans (hW.mono HI.out.mem.below.size))))
  clear hcell hcs
  have hN : t.leafN = n := by unfold Tk6.leafN; rw [hl]
  rw [hN, hl] at hL
  have HL := Lib.hid hL
  have HRUN := Lib.hid (mtrue_leaf HI.out.run ht hl)
  clear hL hN hl ht
  go_wp2_with fail
  refine HL.out.mono ?_
  rintro e w1 ⟨rfl, hb1⟩
  have HB1 := Lib.hid hb1
  have HU1 : Hid (∀ o, Below wr.heap.size wr (w1.alloc o)) := Lib.hid (fun o => HB1.out.alloc HB1.out.size o)
  have kn := Blk.new w1 54 #[.int .i64 n.kind, .int .i64 n.line, .int .i64 n.col, .int .u32 n.num, .string n.name]
  clear hb1 e0 e1 e2 e3 e4 e5
  go_wp2_with fail
  refine (HO.out _ (HU1.out _)).mono ?_
  rintro e w2 ⟨rfl, hb2⟩
  have kn2 := kn.below hb2 kn.lt
  have HB2 := Lib.hid ((HU1.out _).trans (hb2.mono (HU1.out _).size))
  have HM2 := Lib.hid (HI.out.mem.next HB2.out)
  have n0 : ∀ o', (w2.alloc o').cell? ⟨w1.heap.size, 0, none⟩ = some (.int .i64 n.kind) := fun o' => (kn2.alloc o').cell 0
  have n1 : ∀ o', (w2.alloc o').cell? ⟨w1.heap.size, 1, none⟩ = some (.int .i64 n.line) := fun o' => (kn2.alloc o').cell 1
  have n2 : ∀ o', (w2.alloc o').cell? ⟨w1.heap.size, 2, none⟩ = some (.int .i64 n.col) := fun o' => (kn2.alloc o').cell 2
  have n3 : ∀ o', (w2.alloc o').cell? ⟨w1.heap.size, 3, none⟩ = some (.int .u32 n.num) := fun o' => (kn2.alloc o').cell 3
  have n4 : ∀ o', (w2.alloc o').cell? ⟨w1.heap.size, 4, none⟩ = some (.string n.name) := fun o' => (kn2.alloc o').cell 4
  have HM4 : Hid (∀ o o', RPW wB out S (.slice Ao out.length co) (.slice As S.length cs) ((w2.alloc o).alloc o')) := Lib.hid (fun o o' => (HM2.out.next ((Below.refl _ _).alloc (Nat.le_refl _) o)).next ((Below.refl _ _).alloc (Nat.le_refl _) o'))
  have HCN := Lib.hid (fun o => cells_new (w2.alloc o) #[.int .i64 n.kind, .int .i64 n.line, .int .i64 n.col, .int .u32 n.num, .string n.name] 54 (w2.heap.size + 1) (by simp))
  clear hb2 kn kn2 HM2 HB2
  go_wp2_with (first | (at_builtin; refine wpList_append_own _ rfl _ _ 43 rfl wB.heap.size 54 i1 (.agg #[.int .i64 0, .int .i64 0, .int .i64 0, .int .u32 0, .string ByteArray.empty]) 5 48 Tryd.underlying43 hi1 nz0 nz1 nz2 rfl (by decide) _ _ _ rfl (HM4.out _ _).outs ⟨w2.heap.size + 1, 0, none⟩ 1 1 n.cells rfl rfl (HCN.out _) (by intro u hu; simp [Nd.cells] at hu; rcases hu with rfl | rfl | rfl | rfl | rfl <;> rfl) (by unfold maxLen; omega) (by omega) (HM4.out _ _).below.size ?_; intro v' w5 hown' hgrow _; have HM5 := Lib.hid ((HM4.out _ _).push (n := n) hown' hgrow); obtain ⟨A5, c5, rfl⟩ := own_shape hown'; clear hown' hgrow))
  go_roundg (gK - 1)
  case measure => omega
  case rel => exact ⟨false, I + 1, out ++ [n], S, rfl, by go_num, by omega, Lib.hid ⟨HRUN.out, hlt, by simp; omega, HM5.out, fun _ => Nat.succ_pos _⟩⟩

set_option maxRecDepth 100000 in
set_option maxHeartbeats 40000000 in
theorem rp_bad (ts : List Tk6) (r : (Nat × List Nd) ⊕ (Nat × Int)) (w wB : World) (A : Option Addr) (c : Nat) (B : RPBase ts w wB A c) (I : Nat) (out : List Nd) (S : List Wt) (Ao : Option Addr) (co : Nat) (As : Option Addr) (cs : Nat) (wr : World) (gK : Nat) (_hgk : ts.length + 1 ≤ I + gK) (HI : Hid (RPInv wB ts r true I out S (.slice Ao out.length co) (.slice As S.length cs) wr))
    (u7 u8 u9 u10 u11 u12 u13 u14 u15 u16 u17 u18 u19 u20 u21 u22 u23 u24 u25 u26 u27 u28 u29 u30 u31 u32 u33 u34 u35 u36 u37 u38 u39 u40 u41 u42 u43 u44 u45 u46 u47 u48 u49 u50 u51 u52 u53 u54 u55 u56 u57 u58 u59 u60 u61 u62 u63 u64 u65 u66 u67 u68 u69 u70 u71 u72 u73 u74 u75 u76 u77 u78 u79 u80 u81 u82 u83 u84 u85 u86 u87 u88 u89 u90 u91 u92 u93 u94 u95 u96 u97 u98 u99 u100 u101 u102 u103 u104 u105 u106 u107 u108 u109 u110 u111 u112 u113 u114 u115 u116 u117 u118 u119 u120 u121 u122 u123 u124 u125 u126 u127 u128 u129 u130 u131 u132 u133 u134 u135 u136 u137 u138 u139 u140 u141 u142 u143 u144 u145 u146 u147 u148 u149 u150 u151 u152 u153 u154 u155 u156 u157 u158 u159 u160 u161 u162 u163 u164 u165 u166 u167 u168 u169 u170 u171 u172 u173 u174 u175 u176 u177 u178 u179 u180 u181 u182 u183 u184 u185 u186 u187 u188 u189 u190 u191 u192 u193 u194 u195 u196 u197 u198 u199 u200 u201 u202 u203 u204 u205 u206 u207 u208 u209 u210 u211 u212 u213 u214 u215 u216 u217 u218 u219 u220 u221 u222 u223 u224 : Value) (J : Nat → Act → World → Prop) (K : Act → World → Prop)
    (hJ : ∀ k a' w', RPI ts r w wB A c k a' w' → J k a' w')
    (_hK : ∀ a' w', Handed J gK a' w' → K a' w')
    (t : Tk6) (hlt : I < ts.length) (ht : ts[I]? = some t) (hl : t.leaf = none) (hf : t.first = none) :
    Code.wp Tryd.prog rpBody (Exit.then K (Exit.inBlock 0 (bodyPost Tryd.prog Tryd.f18 (RParseOut w ts r)))) ⟨#[.slice A ts.length c, undef, .pointer (some ⟨w.heap.size, 0, none⟩), .slice Ao out.length co, .slice As S.length cs, .bool true, .int .i64 I, u7, u8, u9, u10, u11, u12, u13, u14, u15, u16, u17, u18, u19, u20, u21, u22, u23, u24, u25, u26, u27, u28, u29, u30, u31, u32, u33, u34, u35, u36, u37, u38, u39, u40, u41, u42, u43, u44, u45, u46, u47, u48, u49, u50, u51, u52, u53, u54, u55, u56, u57, u58, u59, u60, u61, u62, u63, u64, u65, u66, u67, u68, u69, u70, u71, u72, u73, u74, u75, u76, u77, u78, u79, u80, u81, u82, u83, u84, u85, u86, u87, u88, u89, u90, u91, u92, u93, u94, u95, u96, u97, u98, u99, u100, u101, u102, u103, u104, u105, u106, u107, u108, u109, u110, u111, u112, u113, u114, u115, u116, u117, u118, u119, u120, u121, u122, u123, u124, u125, u126, u127, u128, u129, u130, u131, u132, u133, u134, u135, u136, u137, u138, u139, u140, u141, u142, u143, u144, u145, u146, u147, u148, u149, u150, u151, u152, u153, u154, u155, u156, u157, u158, u159, u160, u161, u162, u163, u164, u165, u166, u167, u168, u169, u170, u171, u172, u173, u174, u175, u176, u177, u178, u179, u180, u181, u182, u183, u184, u185, u186, u187, u188, u189, u190, u191, u192, u193, u194, u195, u196, u197, u198, u199, u200, u201, u202, u203, u204, u205, u206, u207, u208, u209, u210, u211, u212, u213, u214, u215, u216, u217, u218, u219, u220, u221, u222, u223, u224], []⟩ wr := by
  conv => arg 2; whnf
  obtain ⟨i1, hi1, nz0, nz1, nz2⟩ := info_parts Tryd.infoNode
  obtain ⟨i2, hi2, wz0, wz1, wz2⟩ := info_parts Tryd.infoWait
  have hn := B.tm.few
  have HBB := Lib.hid B.bb
  have HRB := Lib.hid B.rb
  have HV := Lib.hid (fun W (hW : Below wB.heap.size wB W) => (B.v0.below B.bb).below hW)
  have HTM := Lib.hid B.tm
  have HV0 := Lib.hid B.v0
  have HLW := Lib.hid B.lw
  have hc := B.hc
  have hcm := B.hcm
  have hle := HI.out.le
  have hfew := HI.out.few
  have hIb : (I : Int) ≤ 100000 := by omega
  have hop : (out.length : Int) ≤ 100000 := by omega
  have hsp : (S.length : Int) ≤ 100000 := by omega
  clear B
  have hki : ¬ (ts.length : Int) ≤ I := by omega
  have hki2 : (I : Int) < ts.length := by omega
  have hkc : (I : Int) < c := by omega
  obtain ⟨A', c', hvv, -, -, hcell⟩ := (HV.out wr HI.out.mem.below).form
  injection hvv with hvv1 _ hvv2
  subst hvv1 hvv2
  obtain ⟨b, o, rfl, hcs⟩ := hcell I t ht
  obtain ⟨e0, e1, e2, e3, e4, e5⟩ := hcs wr (Below.refl _ _)
  have HT := Lib.hid ht
  have hL := rleaf_is t wr (HTM.out.spare t (List.mem_of_getElem? ht)) (HTM.out.text t (List.mem_of_getElem? ht))
  have HO := Lib.hid (fun W (hW : Below wr.heap.size wr W) => ropens_is ts _ I t W ht (HV.out W (HI.out.mem.below.trans (hW.mono HI.out.mem.below.size))))
  clear hcell hcs
  have hN : t.leafN = t.node 0 := by unfold Tk6.leafN; rw [hl]
  rw [hN, hl] at hL
  have HL := Lib.hid hL
  have hres := mtrue_bad HI.out.run ht hl hf
  have hO1 : t.opensN = 0 := by unfold Tk6.opensN; rw [hf]
  rw [hO1] at HO
  subst hres
  clear hL hN hl ht hf hO1
  go_wp2_with fail
  refine HL.out.mono ?_
  rintro e w1 ⟨rfl, hb1⟩
  have HB1 := Lib.hid hb1
  have HU1 : Hid (∀ o, Below wr.heap.size wr (w1.alloc o)) := Lib.hid (fun o => HB1.out.alloc HB1.out.size o)
  clear hb1 e0 e1 e2 e3 e4 e5
  go_wp2_with fail
  refine (HO.out _ (HU1.out _)).mono ?_
  rintro e w2 ⟨rfl, hb2⟩
  have HB2 := Lib.hid ((HU1.out _).trans (hb2.mono (HU1.out _).size))
  have HU2 : Hid (∀ o, Below wr.heap.size wr (w2.alloc o)) := Lib.hid (fun o => HB2.out.alloc HB2.out.size o)
  have HW2 : Hid (∀ o, Below wB.heap.size wB (w2.alloc o)) := Lib.hid (fun o => HI.out.mem.below.trans ((HU2.out o).mono HI.out.mem.below.size))
  have HM2 : Hid (∀ o, RPW wB out S (.slice Ao out.length co) (.slice As S.length cs) (w2.alloc o)) := Lib.hid (fun o => HI.out.mem.next (HU2.out o))
  clear hb2
  go_wp2_with fail
  refine (rat_is ts _ (I) 6 _ (by omega) (by omega) (HV.out _ (HW2.out _))).mono ?_
  rintro e wf ⟨rfl, hbf⟩
  have HF := Lib.hid ((HW2.out _).trans (hbf.mono (HW2.out _).size))
  clear hbf
  have kbf := HRB.out.below HF.out HRB.out.lt
  have x0 : wf.cell? ⟨w.heap.size, 0, none⟩ = some (.slice none 0 0) := kbf.cell 0
  have x1 : wf.cell? ⟨w.heap.size, 1, none⟩ = some (.slice none 0 0) := kbf.cell 1
  have x2 : wf.cell? ⟨w.heap.size, 2, none⟩ = some (.int .i64 0) := kbf.cell 2
  have x3 : wf.cell? ⟨w.heap.size, 3, none⟩ = some (.int .i64 0) := kbf.cell 3
  have x4 : wf.cell? ⟨w.heap.size, 4, none⟩ = some (.int .i64 0) := kbf.cell 4
  have z0 := kbf.frozen 0
  have z1 := kbf.frozen 1
  have z2 := kbf.frozen 2
  have z3 := kbf.frozen 3
  have z4 := kbf.frozen 4
  have HBW : Hid (Below w.heap.size w wf) := Lib.hid (HBB.out.trans (HF.out.mono HBB.out.size))
  clear kbf
  go_wp2_with fail
  exact bodyPost_ret (v := .agg #[.slice none 0 0, .slice none 0 0, .int .i64 (placeAt ts (I)).1, .int .i64 (placeAt ts (I)).2, .int .i64 6]) (by simp [results, Tryd.results18, go_sem, x0, x1, x2, x3, x4]; done) rfl ⟨rfl, ((((HBW.out.setCell (Nat.le_refl _) _).setCell (Nat.le_refl _) _).setCell (Nat.le_refl _) _).setCell (Nat.le_refl _) _).setCell (Nat.le_refl _) _⟩

set_option maxRecDepth 100000 in
set_option maxHeartbeats 40000000 in
theorem rp_deep1 (ts : List Tk6) (r : (Nat × List Nd) ⊕ (Nat × Int)) (w wB : World) (A : Option Addr) (c : Nat) (B : RPBase ts w wB A c) (I : Nat) (out : List Nd) (S : List Wt) (Ao : Option Addr) (co : Nat) (As : Option Addr) (cs : Nat) (wr : World) (gK : Nat) (_hgk : ts.length + 1 ≤ I + gK) (HI : Hid (RPInv wB ts r true I out S (.slice Ao out.length co) (.slice As S.length cs) wr))
    (u7 u8 u9 u10 u11 u12 u13 u14 u15 u16 u17 u18 u19 u20 u21 u22 u23 u24 u25 u26 u27 u28 u29 u30 u31 u32 u33 u34 u35 u36 u37 u38 u39 u40 u41 u42 u43 u44 u45 u46 u47 u48 u49 u50 u51 u52 u53 u54 u55 u56 u57 u58 u59 u60 u61 u62 u63 u64 u65 u66 u67 u68 u69 u70 u71 u72 u73 u74 u75 u76 u77 u78 u79 u80 u81 u82 u83 u84 u85 u86 u87 u88 u89 u90 u91 u92 u93 u94 u95 u96 u97 u98 u99 u100 u101 u102 u103 u104 u105 u106 u107 u108 u109 u110 u111 u112 u113 u114 u115 u116 u117 u118 u119 u120 u121 u122 u123 u124 u125 u126 u127 u128 u129 u130 u131 u132 u133 u134 u135 u136 u137 u138 u139 u140 u141 u142 u143 u144 u145 u146 u147 u148 u149 u150 u151 u152 u153 u154 u155 u156 u157 u158 u159 u160 u161 u162 u163 u164 u165 u166 u167 u168 u169 u170 u171 u172 u173 u174 u175 u176 u177 u178 u179 u180 u181 u182 u183 u184 u185 u186 u187 u188 u189 u190 u191 u192 u193 u194 u195 u196 u197 u198 u199 u200 u201 u202 u203 u204 u205 u206 u207 u208 u209 u210 u211 u212 u213 u214 u215 u216 u217 u218 u219 u220 u221 u222 u223 u224 : Value) (J : Nat → Act → World → Prop) (K : Act → World → Prop)
    (hJ : ∀ k a' w', RPI ts r w wB A c k a' w' → J k a' w')
    (_hK : ∀ a' w', Handed J gK a' w' → K a' w')
    (t : Tk6) (hlt : I < ts.length) (ht : ts[I]? = some t) (hl : t.leaf = none) (k : Option Int) (q : EKind) (hf : t.first = some (k, q)) (hs : esize q = 1) (hd : 32 ≤ deepOf S) :
    Code.wp Tryd.prog rpBody (Exit.then K (Exit.inBlock 0 (bodyPost Tryd.prog Tryd.f18 (RParseOut w ts r)))) ⟨#[.slice A ts.length c, undef, .pointer (some ⟨w.heap.size, 0, none⟩), .slice Ao out.length co, .slice As S.length cs, .bool true, .int .i64 I, u7, u8, u9, u10, u11, u12, u13, u14, u15, u16, u17, u18, u19, u20, u21, u22, u23, u24, u25, u26, u27, u28, u29, u30, u31, u32, u33, u34, u35, u36, u37, u38, u39, u40, u41, u42, u43, u44, u45, u46, u47, u48, u49, u50, u51, u52, u53, u54, u55, u56, u57, u58, u59, u60, u61, u62, u63, u64, u65, u66, u67, u68, u69, u70, u71, u72, u73, u74, u75, u76, u77, u78, u79, u80, u81, u82, u83, u84, u85, u86, u87, u88, u89, u90, u91, u92, u93, u94, u95, u96, u97, u98, u99, u100, u101, u102, u103, u104, u105, u106, u107, u108, u109, u110, u111, u112, u113, u114, u115, u116, u117, u118, u119, u120, u121, u122, u123, u124, u125, u126, u127, u128, u129, u130, u131, u132, u133, u134, u135, u136, u137, u138, u139, u140, u141, u142, u143, u144, u145, u146, u147, u148, u149, u150, u151, u152, u153, u154, u155, u156, u157, u158, u159, u160, u161, u162, u163, u164, u165, u166, u167, u168, u169, u170, u171, u172, u173, u174, u175, u176, u177, u178, u179, u180, u181, u182, u183, u184, u185, u186, u187, u188, u189, u190, u191, u192, u193, u194, u195, u196, u197, u198, u199, u200, u201, u202, u203, u204, u205, u206, u207, u208, u209, u210, u211, u212, u213, u214, u215, u216, u217, u218, u219, u220, u221, u222, u223, u224], []⟩ wr := by
  conv => arg 2; whnf
  obtain ⟨i1, hi1, nz0, nz1, nz2⟩ := info_parts Tryd.infoNode
  obtain ⟨i2, hi2, wz0, wz1, wz2⟩ := info_parts Tryd.infoWait
  have hn := B.tm.few
  have HBB := Lib.hid B.bb
  have HRB := Lib.hid B.rb
  have HV := Lib.hid (fun W (hW : Below wB.heap.size wB W) => (B.v0.below B.bb).below hW)
  have HTM := Lib.hid B.tm
  have HV0 := Lib.hid B.v0
  have HLW := Lib.hid B.lw
  have hc := B.hc
  have hcm := B.hcm
  have hle := HI.out.le
  have hfew := HI.out.few
  have hIb : (I : Int) ≤ 100000 := by omega
  have hop : (out.length : Int) ≤ 100000 := by omega
  have hsp : (S.length : Int) ≤ 100000 := by omega
  clear B
  have hki : ¬ (ts.length : Int) ≤ I := by omega
  have hki2 : (I : Int) < ts.length := by omega
  have hkc : (I : Int) < c := by omega
  obtain ⟨A', c', hvv, -, -, hcell⟩ := (HV.out wr HI.out.mem.below).form
  injection hvv with hvv1 _ hvv2
  subst hvv1 hvv2
  obtain ⟨b, o, rfl, hcs⟩ := hcell I t ht
  obtain ⟨e0, e1, e2, e3, e4, e5⟩ := hcs wr (Below.refl _ _)
  have HT := Lib.hid ht
  have hL := rleaf_is t wr (HTM.out.spare t (List.mem_of_getElem? ht)) (HTM.out.text t (List.mem_of_getElem? ht))
  have HO := Lib.hid (fun W (hW : Below wr.heap.size wr W) => ropens_is ts _ I t W ht (HV.out W (HI.out.mem.below.trans (hW.mono HI.out.mem.below.size))))
  clear hcell hcs
  have hN : t.leafN = t.node 0 := by unfold Tk6.leafN; rw [hl]
  rw [hN, hl] at hL
  have HL := Lib.hid hL
  have hW1 : t.opensW = t.wait k q := by unfold Tk6.opensW; rw [hf]
  have hO1 : t.opensN = 1 := by unfold Tk6.opensN; rw [hf]; exact congrArg Int.ofNat hs
  have hinv := mtrue_first HI.out.run ht hl hf
  rw [hW1, hO1] at HO
  clear hL hN hl ht hf hW1 hO1
  have hres := hinv.1 hd
  have hdi : (32 : Int) ≤ deepOf S := by omega
  subst hres
  clear hinv
  go_wp2_with fail
  refine HL.out.mono ?_
  rintro e w1 ⟨rfl, hb1⟩
  have HB1 := Lib.hid hb1
  have HU1 : Hid (∀ o, Below wr.heap.size wr (w1.alloc o)) := Lib.hid (fun o => HB1.out.alloc HB1.out.size o)
  clear hb1 e0 e1 e2 e3 e4 e5
  go_wp2_with fail
  refine (HO.out _ (HU1.out _)).mono ?_
  rintro e w2 ⟨rfl, hb2⟩
  have HB2 := Lib.hid ((HU1.out _).trans (hb2.mono (HU1.out _).size))
  have HU2 : Hid (∀ o, Below wr.heap.size wr (w2.alloc o)) := Lib.hid (fun o => HB2.out.alloc HB2.out.size o)
  have HW2 : Hid (∀ o, Below wB.heap.size wB (w2.alloc o)) := Lib.hid (fun o => HI.out.mem.below.trans ((HU2.out o).mono HI.out.mem.below.size))
  have HM2 : Hid (∀ o, RPW wB out S (.slice Ao out.length co) (.slice As S.length cs) (w2.alloc o)) := Lib.hid (fun o => HI.out.mem.next (HU2.out o))
  clear hb2
  go_wp2_with fail
  refine (rdeep_is S (.slice As S.length cs) wB.heap.size _ (by omega) (HM2.out _).stk).mono ?_
  rintro e w3 ⟨rfl, rfl⟩
  go_wp2_with fail
  refine (rat_is ts _ (I) 14 _ (by omega) (by omega) (HV.out _ (HW2.out _))).mono ?_
  rintro e wf ⟨rfl, hbf⟩
  have HF := Lib.hid ((HW2.out _).trans (hbf.mono (HW2.out _).size))
  clear hbf
  have kbf := HRB.out.below HF.out HRB.out.lt
  have x0 : wf.cell? ⟨w.heap.size, 0, none⟩ = some (.slice none 0 0) := kbf.cell 0
  have x1 : wf.cell? ⟨w.heap.size, 1, none⟩ = some (.slice none 0 0) := kbf.cell 1
  have x2 : wf.cell? ⟨w.heap.size, 2, none⟩ = some (.int .i64 0) := kbf.cell 2
  have x3 : wf.cell? ⟨w.heap.size, 3, none⟩ = some (.int .i64 0) := kbf.cell 3
  have x4 : wf.cell? ⟨w.heap.size, 4, none⟩ = some (.int .i64 0) := kbf.cell 4
  have z0 := kbf.frozen 0
  have z1 := kbf.frozen 1
  have z2 := kbf.frozen 2
  have z3 := kbf.frozen 3
  have z4 := kbf.frozen 4
  have HBW : Hid (Below w.heap.size w wf) := Lib.hid (HBB.out.trans (HF.out.mono HBB.out.size))
  clear kbf
  go_wp2_with fail
  exact bodyPost_ret (v := .agg #[.slice none 0 0, .slice none 0 0, .int .i64 (placeAt ts (I)).1, .int .i64 (placeAt ts (I)).2, .int .i64 14]) (by simp [results, Tryd.results18, go_sem, x0, x1, x2, x3, x4]; done) rfl ⟨rfl, ((((HBW.out.setCell (Nat.le_refl _) _).setCell (Nat.le_refl _) _).setCell (Nat.le_refl _) _).setCell (Nat.le_refl _) _).setCell (Nat.le_refl _) _⟩

set_option maxRecDepth 100000 in
set_option maxHeartbeats 40000000 in
theorem rp_deep2 (ts : List Tk6) (r : (Nat × List Nd) ⊕ (Nat × Int)) (w wB : World) (A : Option Addr) (c : Nat) (B : RPBase ts w wB A c) (I : Nat) (out : List Nd) (S : List Wt) (Ao : Option Addr) (co : Nat) (As : Option Addr) (cs : Nat) (wr : World) (gK : Nat) (_hgk : ts.length + 1 ≤ I + gK) (HI : Hid (RPInv wB ts r true I out S (.slice Ao out.length co) (.slice As S.length cs) wr))
    (u7 u8 u9 u10 u11 u12 u13 u14 u15 u16 u17 u18 u19 u20 u21 u22 u23 u24 u25 u26 u27 u28 u29 u30 u31 u32 u33 u34 u35 u36 u37 u38 u39 u40 u41 u42 u43 u44 u45 u46 u47 u48 u49 u50 u51 u52 u53 u54 u55 u56 u57 u58 u59 u60 u61 u62 u63 u64 u65 u66 u67 u68 u69 u70 u71 u72 u73 u74 u75 u76 u77 u78 u79 u80 u81 u82 u83 u84 u85 u86 u87 u88 u89 u90 u91 u92 u93 u94 u95 u96 u97 u98 u99 u100 u101 u102 u103 u104 u105 u106 u107 u108 u109 u110 u111 u112 u113 u114 u115 u116 u117 u118 u119 u120 u121 u122 u123 u124 u125 u126 u127 u128 u129 u130 u131 u132 u133 u134 u135 u136 u137 u138 u139 u140 u141 u142 u143 u144 u145 u146 u147 u148 u149 u150 u151 u152 u153 u154 u155 u156 u157 u158 u159 u160 u161 u162 u163 u164 u165 u166 u167 u168 u169 u170 u171 u172 u173 u174 u175 u176 u177 u178 u179 u180 u181 u182 u183 u184 u185 u186 u187 u188 u189 u190 u191 u192 u193 u194 u195 u196 u197 u198 u199 u200 u201 u202 u203 u204 u205 u206 u207 u208 u209 u210 u211 u212 u213 u214 u215 u216 u217 u218 u219 u220 u221 u222 u223 u224 : Value) (J : Nat → Act → World → Prop) (K : Act → World → Prop)
    (hJ : ∀ k a' w', RPI ts r w wB A c k a' w' → J k a' w')
    (_hK : ∀ a' w', Handed J gK a' w' → K a' w')
    (t : Tk6) (hlt : I < ts.length) (ht : ts[I]? = some t) (hl : t.leaf = none) (k : Option Int) (q : EKind) (hf : t.first = some (k, q)) (hs : esize q = 2) (hd : 32 ≤ deepOf S) :
    Code.wp Tryd.prog rpBody (Exit.then K (Exit.inBlock 0 (bodyPost Tryd.prog Tryd.f18 (RParseOut w ts r)))) ⟨#[.slice A ts.length c, undef, .pointer (some ⟨w.heap.size, 0, none⟩), .slice Ao out.length co, .slice As S.length cs, .bool true, .int .i64 I, u7, u8, u9, u10, u11, u12, u13, u14, u15, u16, u17, u18, u19, u20, u21, u22, u23, u24, u25, u26, u27, u28, u29, u30, u31, u32, u33, u34, u35, u36, u37, u38, u39, u40, u41, u42, u43, u44, u45, u46, u47, u48, u49, u50, u51, u52, u53, u54, u55, u56, u57, u58, u59, u60, u61, u62, u63, u64, u65, u66, u67, u68, u69, u70, u71, u72, u73, u74, u75, u76, u77, u78, u79, u80, u81, u82, u83, u84, u85, u86, u87, u88, u89, u90, u91, u92, u93, u94, u95, u96, u97, u98, u99, u100, u101, u102, u103, u104, u105, u106, u107, u108, u109, u110, u111, u112, u113, u114, u115, u116, u117, u118, u119, u120, u121, u122, u123, u124, u125, u126, u127, u128, u129, u130, u131, u132, u133, u134, u135, u136, u137, u138, u139, u140, u141, u142, u143, u144, u145, u146, u147, u148, u149, u150, u151, u152, u153, u154, u155, u156, u157, u158, u159, u160, u161, u162, u163, u164, u165, u166, u167, u168, u169, u170, u171, u172, u173, u174, u175, u176, u177, u178, u179, u180, u181, u182, u183, u184, u185, u186, u187, u188, u189, u190, u191, u192, u193, u194, u195, u196, u197, u198, u199, u200, u201, u202, u203, u204, u205, u206, u207, u208, u209, u210, u211, u212, u213, u214, u215, u216, u217, u218, u219, u220, u221, u222, u223, u224], []⟩ wr := by
  conv => arg 2; whnf
  obtain ⟨i1, hi1, nz0, nz1, nz2⟩ := info_parts Tryd.infoNode
  obtain ⟨i2, hi2, wz0, wz1, wz2⟩ := info_parts Tryd.infoWait
  have hn := B.tm.few
  have HBB := Lib.hid B.bb
  have HRB := Lib.hid B.rb
  have HV := Lib.hid (fun W (hW : Below wB.heap.size wB W) => (B.v0.below B.bb).below hW)
  have HTM := Lib.hid B.tm
  have HV0 := Lib.hid B.v0
  have HLW := Lib.hid B.lw
  have hc := B.hc
  have hcm := B.hcm
  have hle := HI.out.le
  have hfew := HI.out.few
  have hIb : (I : Int) ≤ 100000 := by omega
  have hop : (out.length : Int) ≤ 100000 := by omega
  have hsp : (S.length : Int) ≤ 100000 := by omega
  clear B
  have hki : ¬ (ts.length : Int) ≤ I := by omega
  have hki2 : (I : Int) < ts.length := by omega
  have hkc : (I : Int) < c := by omega
  obtain ⟨A', c', hvv, -, -, hcell⟩ := (HV.out wr HI.out.mem.below).form
  injection hvv with hvv1 _ hvv2
  subst hvv1 hvv2
  obtain ⟨b, o, rfl, hcs⟩ := hcell I t ht
  obtain ⟨e0, e1, e2, e3, e4, e5⟩ := hcs wr (Below.refl _ _)
  have HT := Lib.hid ht
  have hL := rleaf_is t wr (HTM.out.spare t (List.mem_of_getElem? ht)) (HTM.out.text t (List.mem_of_getElem? ht))
  have HO := Lib.hid (fun W (hW : Below wr.heap.size wr W) => ropens_is ts _ I t W ht (HV.out W (HI.out.mem.below.trans (hW.mono HI.out.mem.below.size))))
  clear hcell hcs
  have hN : t.leafN = t.node 0 := by unfold Tk6.leafN; rw [hl]
  rw [hN, hl] at hL
  have HL := Lib.hid hL
  have hW1 : t.opensW = t.wait k q := by unfold Tk6.opensW; rw [hf]
  have hO1 : t.opensN = 2 := by unfold Tk6.opensN; rw [hf]; exact congrArg Int.ofNat hs
  have hinv := mtrue_first HI.out.run ht hl hf
  rw [hW1, hO1] at HO
  clear hL hN hl ht hf hW1 hO1
  have hres := hinv.1 hd
  have hdi : (32 : Int) ≤ deepOf S := by omega
  subst hres
  clear hinv
  go_wp2_with fail
  refine HL.out.mono ?_
  rintro e w1 ⟨rfl, hb1⟩
  have HB1 := Lib.hid hb1
  have HU1 : Hid (∀ o, Below wr.heap.size wr (w1.alloc o)) := Lib.hid (fun o => HB1.out.alloc HB1.out.size o)
  clear hb1 e0 e1 e2 e3 e4 e5
  go_wp2_with fail
  refine (HO.out _ (HU1.out _)).mono ?_
  rintro e w2 ⟨rfl, hb2⟩
  have HB2 := Lib.hid ((HU1.out _).trans (hb2.mono (HU1.out _).size))
  have HU2 : Hid (∀ o, Below wr.heap.size wr (w2.alloc o)) := Lib.hid (fun o => HB2.out.alloc HB2.out.size o)
  have HW2 : Hid (∀ o, Below wB.heap.size wB (w2.alloc o)) := Lib.hid (fun o => HI.out.mem.below.trans ((HU2.out o).mono HI.out.mem.below.size))
  have HM2 : Hid (∀ o, RPW wB out S (.slice Ao out.length co) (.slice As S.length cs) (w2.alloc o)) := Lib.hid (fun o => HI.out.mem.next (HU2.out o))
  clear hb2
  go_wp2_with fail
  refine (rdeep_is S (.slice As S.length cs) wB.heap.size _ (by omega) (HM2.out _).stk).mono ?_
  rintro e w3 ⟨rfl, rfl⟩
  go_wp2_with fail
  refine (rat_is ts _ (I) 14 _ (by omega) (by omega) (HV.out _ (HW2.out _))).mono ?_
  rintro e wf ⟨rfl, hbf⟩
  have HF := Lib.hid ((HW2.out _).trans (hbf.mono (HW2.out _).size))
  clear hbf
  have kbf := HRB.out.below HF.out HRB.out.lt
  have x0 : wf.cell? ⟨w.heap.size, 0, none⟩ = some (.slice none 0 0) := kbf.cell 0
  have x1 : wf.cell? ⟨w.heap.size, 1, none⟩ = some (.slice none 0 0) := kbf.cell 1
  have x2 : wf.cell? ⟨w.heap.size, 2, none⟩ = some (.int .i64 0) := kbf.cell 2
  have x3 : wf.cell? ⟨w.heap.size, 3, none⟩ = some (.int .i64 0) := kbf.cell 3
  have x4 : wf.cell? ⟨w.heap.size, 4, none⟩ = some (.int .i64 0) := kbf.cell 4
  have z0 := kbf.frozen 0
  have z1 := kbf.frozen 1
  have z2 := kbf.frozen 2
  have z3 := kbf.frozen 3
  have z4 := kbf.frozen 4
  have HBW : Hid (Below w.heap.size w wf) := Lib.hid (HBB.out.trans (HF.out.mono HBB.out.size))
  clear kbf
  go_wp2_with fail
  exact bodyPost_ret (v := .agg #[.slice none 0 0, .slice none 0 0, .int .i64 (placeAt ts (I)).1, .int .i64 (placeAt ts (I)).2, .int .i64 14]) (by simp [results, Tryd.results18, go_sem, x0, x1, x2, x3, x4]; done) rfl ⟨rfl, ((((HBW.out.setCell (Nat.le_refl _) _).setCell (Nat.le_refl _) _).setCell (Nat.le_refl _) _).setCell (Nat.le_refl _) _).setCell (Nat.le_refl _) _⟩

set_option maxRecDepth 100000 in
set_option maxHeartbeats 40000000 in
theorem rp_one (ts : List Tk6) (r : (Nat × List Nd) ⊕ (Nat × Int)) (w wB : World) (A : Option Addr) (c : Nat) (B : RPBase ts w wB A c) (I : Nat) (out : List Nd) (S : List Wt) (Ao : Option Addr) (co : Nat) (As : Option Addr) (cs : Nat) (wr : World) (gK : Nat) (hgk : ts.length + 1 ≤ I + gK) (HI : Hid (RPInv wB ts r true I out S (.slice Ao out.length co) (.slice As S.length cs) wr))
    (u7 u8 u9 u10 u11 u12 u13 u14 u15 u16 u17 u18 u19 u20 u21 u22 u23 u24 u25 u26 u27 u28 u29 u30 u31 u32 u33 u34 u35 u36 u37 u38 u39 u40 u41 u42 u43 u44 u45 u46 u47 u48 u49 u50 u51 u52 u53 u54 u55 u56 u57 u58 u59 u60 u61 u62 u63 u64 u65 u66 u67 u68 u69 u70 u71 u72 u73 u74 u75 u76 u77 u78 u79 u80 u81 u82 u83 u84 u85 u86 u87 u88 u89 u90 u91 u92 u93 u94 u95 u96 u97 u98 u99 u100 u101 u102 u103 u104 u105 u106 u107 u108 u109 u110 u111 u112 u113 u114 u115 u116 u117 u118 u119 u120 u121 u122 u123 u124 u125 u126 u127 u128 u129 u130 u131 u132 u133 u134 u135 u136 u137 u138 u139 u140 u141 u142 u143 u144 u145 u146 u147 u148 u149 u150 u151 u152 u153 u154 u155 u156 u157 u158 u159 u160 u161 u162 u163 u164 u165 u166 u167 u168 u169 u170 u171 u172 u173 u174 u175 u176 u177 u178 u179 u180 u181 u182 u183 u184 u185 u186 u187 u188 u189 u190 u191 u192 u193 u194 u195 u196 u197 u198 u199 u200 u201 u202 u203 u204 u205 u206 u207 u208 u209 u210 u211 u212 u213 u214 u215 u216 u217 u218 u219 u220 u221 u222 u223 u224 : Value) (J : Nat → Act → World → Prop) (K : Act → World → Prop)
    (hJ : ∀ k a' w', RPI ts r w wB A c k a' w' → J k a' w')
    (hK : ∀ a' w', Handed J gK a' w' → K a' w')
    (t : Tk6) (hlt : I < ts.length) (ht : ts[I]? = some t) (hl : t.leaf = none) (k : Option Int) (q : EKind) (hf : t.first = some (k, q)) (hs : esize q = 1) (hqa : q ≠ .argument) (hd : ¬ 32 ≤ deepOf S) :
    Code.wp Tryd.prog rpBody (Exit.then K (Exit.inBlock 0 (bodyPost Tryd.prog Tryd.f18 (RParseOut w ts r)))) ⟨#[.slice A ts.length c, undef, .pointer (some ⟨w.heap.size, 0, none⟩), .slice Ao out.length co, .slice As S.length cs, .bool true, .int .i64 I, u7, u8, u9, u10, u11, u12, u13, u14, u15, u16, u17, u18, u19, u20, u21, u22, u23, u24, u25, u26, u27, u28, u29, u30, u31, u32, u33, u34, u35, u36, u37, u38, u39, u40, u41, u42, u43, u44, u45, u46, u47, u48, u49, u50, u51, u52, u53, u54, u55, u56, u57, u58, u59, u60, u61, u62, u63, u64, u65, u66, u67, u68, u69, u70, u71, u72, u73, u74, u75, u76, u77, u78, u79, u80, u81, u82, u83, u84, u85, u86, u87, u88, u89, u90, u91, u92, u93, u94, u95, u96, u97, u98, u99, u100, u101, u102, u103, u104, u105, u106, u107, u108, u109, u110, u111, u112, u113, u114, u115, u116, u117, u118, u119, u120, u121, u122, u123, u124, u125, u126, u127, u128, u129, u130, u131, u132, u133, u134, u135, u136, u137, u138, u139, u140, u141, u142, u143, u144, u145, u146, u147, u148, u149, u150, u151, u152, u153, u154, u155, u156, u157, u158, u159, u160, u161, u162, u163, u164, u165, u166, u167, u168, u169, u170, u171, u172, u173, u174, u175, u176, u177, u178, u179, u180, u181, u182, u183, u184, u185, u186, u187, u188, u189, u190, u191, u192, u193, u194, u195, u196, u197, u198, u199, u200, u201, u202, u203, u204, u205, u206, u207, u208, u209, u210, u211, u212, u213, u214, u215, u216, u217, u218, u219, u220, u221, u222, u223, u224], []⟩ wr := by
  conv => arg 2; whnf
  obtain ⟨i1, hi1, nz0, nz1, nz2⟩ := info_parts Tryd.infoNode
  obtain ⟨i2, hi2, wz0, wz1, wz2⟩ := info_parts Tryd.infoWait
  have hn := B.tm.few
  have HBB := Lib.hid B.bb
  have HRB := Lib.hid B.rb
  have HV := Lib.hid (fun W (hW : Below wB.heap.size wB W) => (B.v0.below B.bb).below hW)
  have HTM := Lib.hid B.tm
  have HV0 := Lib.hid B.v0
  have HLW := Lib.hid B.lw
  have hc := B.hc
  have hcm := B.hcm
  have hle := HI.out.le
  have hfew := HI.out.few
  have hIb : (I : Int) ≤ 100000 := by omega
  have hop : (out.length : Int) ≤ 100000 := by omega
  have hsp : (S.length : Int) ≤ 100000 := by omega
  clear B
  have hki : ¬ (ts.length : Int) ≤ I := by omega
  have hki2 : (I : Int) < ts.length := by omega
  have hkc : (I : Int) < c := by omega
  obtain ⟨A', c', hvv, -, -, hcell⟩ := (HV.out wr HI.out.mem.below).form
  injection hvv with hvv1 _ hvv2
  subst hvv1 hvv2
  obtain ⟨b, o, rfl, hcs⟩ := hcell I t ht
  obtain ⟨e0, e1, e2, e3, e4, e5⟩ := hcs wr (Below.refl _ _)
  have HT := Lib.hid ht
  have hL := rleaf_is t wr (HTM.out.spare t (List.mem_of_getElem? ht)) (HTM.out.text t (List.mem_of_getElem? ht))
  have HO := Lib.hid (fun W (hW : Below wr.heap.size wr W) => ropens_is ts _ I t W ht (HV.out W (HI.out.mem.below.trans (hW.mono HI.out.mem.below.size))))
  clear hcell hcs
  have hN : t.leafN = t.node 0 := by unfold Tk6.leafN; rw [hl]
  rw [hN, hl] at hL
  have HL := Lib.hid hL
  have hW1 : t.opensW = t.wait k q := by unfold Tk6.opensW; rw [hf]
  have hO1 : t.opensN = 1 := by unfold Tk6.opensN; rw [hf]; exact congrArg Int.ofNat hs
  have hinv := mtrue_first HI.out.run ht hl hf
  rw [hW1, hO1] at HO
  clear hL hN hl ht hf hW1 hO1
  have hdi : ¬ (32 : Int) ≤ deepOf S := by omega
  have hinv2 := hinv.2 (by omega)
  clear hinv
  have hrun := hinv2.2 (fun h => absurd h hqa)
  rw [hs] at hrun
  have HRUN := Lib.hid hrun
  generalize t.wait k q = x at HO HRUN hrun
  clear hinv2 hrun
  go_wp2_with fail
  refine HL.out.mono ?_
  rintro e w1 ⟨rfl, hb1⟩
  have HB1 := Lib.hid hb1
  have HU1 : Hid (∀ o, Below wr.heap.size wr (w1.alloc o)) := Lib.hid (fun o => HB1.out.alloc HB1.out.size o)
  clear hb1 e0 e1 e2 e3 e4 e5
  go_wp2_with fail
  refine (HO.out _ (HU1.out _)).mono ?_
  rintro e w2 ⟨rfl, hb2⟩
  have HB2 := Lib.hid ((HU1.out _).trans (hb2.mono (HU1.out _).size))
  have HU2 : Hid (∀ o, Below wr.heap.size wr (w2.alloc o)) := Lib.hid (fun o => HB2.out.alloc HB2.out.size o)
  have HW2 : Hid (∀ o, Below wB.heap.size wB (w2.alloc o)) := Lib.hid (fun o => HI.out.mem.below.trans ((HU2.out o).mono HI.out.mem.below.size))
  have HM2 : Hid (∀ o, RPW wB out S (.slice Ao out.length co) (.slice As S.length cs) (w2.alloc o)) := Lib.hid (fun o => HI.out.mem.next (HU2.out o))
  clear hb2
  go_wp2_with fail
  refine (rdeep_is S (.slice As S.length cs) wB.heap.size _ (by omega) (HM2.out _).stk).mono ?_
  rintro e w3 ⟨rfl, rfl⟩
  have HCX := Lib.hid (fun o => cells_new (w2.alloc o) #[.int .i64 x.n.kind, .int .i64 x.n.line, .int .i64 x.n.col, .int .u32 x.n.num, .string x.n.name, .int .i64 (x.how : Int), .bool x.opn] 78 (w2.heap.size + 1) (by simp))
  have HM4 : Hid (∀ o o', RPW wB out S (.slice Ao out.length co) (.slice As S.length cs) ((w2.alloc o).alloc o')) := Lib.hid (fun o o' => (HM2.out o).next ((Below.refl _ _).alloc (Nat.le_refl _) o'))
  go_wp2_with (first | (at_builtin; refine wpList_append_own _ rfl _ _ 73 rfl wB.heap.size 78 i2 (.agg #[.int .i64 0, .int .i64 0, .int .i64 0, .int .u32 0, .string ByteArray.empty, .int .i64 0, .bool false]) 7 64 Tryd.underlying73 hi2 wz0 wz1 wz2 rfl (by decide) _ _ _ rfl (HM4.out _ _).stk ⟨w2.heap.size + 1, 0, none⟩ 1 1 x.cells rfl rfl (HCX.out _) (by intro u hu; simp [Wt.cells] at hu; rcases hu with rfl | rfl | rfl | rfl | rfl | rfl | rfl <;> rfl) (by unfold maxLen; omega) (by omega) (HM4.out _ _).below.size ?_; intro v' w5 hown' hgrow _; have HM5 := Lib.hid ((HM4.out _ _).wait (x := x) hown' hgrow); obtain ⟨A5, c5, rfl⟩ := own_shape hown'; clear hown' hgrow))
  go_roundg (gK - 1)
  case measure => omega
  case rel => exact ⟨true, I + 1, out, S ++ [x], rfl, by go_num, by omega, Lib.hid ⟨HRUN.out, by omega, by simp; omega, HM5.out, nofun⟩⟩

set_option maxRecDepth 100000 in
set_option maxHeartbeats 40000000 in
theorem rp_end (ts : List Tk6) (r : (Nat × List Nd) ⊕ (Nat × Int)) (w wB : World) (A : Option Addr) (c : Nat) (B : RPBase ts w wB A c) (I : Nat) (out : List Nd) (S : List Wt) (Ao : Option Addr) (co : Nat) (As : Option Addr) (cs : Nat) (wr : World) (gK : Nat) (hgk : ts.length + 1 ≤ I + gK) (HI : Hid (RPInv wB ts r true I out S (.slice Ao out.length co) (.slice As S.length cs) wr))
    (u7 u8 u9 u10 u11 u12 u13 u14 u15 u16 u17 u18 u19 u20 u21 u22 u23 u24 u25 u26 u27 u28 u29 u30 u31 u32 u33 u34 u35 u36 u37 u38 u39 u40 u41 u42 u43 u44 u45 u46 u47 u48 u49 u50 u51 u52 u53 u54 u55 u56 u57 u58 u59 u60 u61 u62 u63 u64 u65 u66 u67 u68 u69 u70 u71 u72 u73 u74 u75 u76 u77 u78 u79 u80 u81 u82 u83 u84 u85 u86 u87 u88 u89 u90 u91 u92 u93 u94 u95 u96 u97 u98 u99 u100 u101 u102 u103 u104 u105 u106 u107 u108 u109 u110 u111 u112 u113 u114 u115 u116 u117 u118 u119 u120 u121 u122 u123 u124 u125 u126 u127 u128 u129 u130 u131 u132 u133 u134 u135 u136 u137 u138 u139 u140 u141 u142 u143 u144 u145 u146 u147 u148 u149 u150 u151 u152 u153 u154 u155 u156 u157 u158 u159 u160 u161 u162 u163 u164 u165 u166 u167 u168 u169 u170 u171 u172 u173 u174 u175 u176 u177 u178 u179 u180 u181 u182 u183 u184 u185 u186 u187 u188 u189 u190 u191 u192 u193 u194 u195 u196 u197 u198 u199 u200 u201 u202 u203 u204 u205 u206 u207 u208 u209 u210 u211 u212 u213 u214 u215 u216 u217 u218 u219 u220 u221 u222 u223 u224 : Value) (J : Nat → Act → World → Prop) (K : Act → World → Prop)
    (hJ : ∀ k a' w', RPI ts r w wB A c k a' w' → J k a' w')
    (_hK : ∀ a' w', Handed J gK a' w' → K a' w')
    (hlt : ¬ I < ts.length) :
    Code.wp Tryd.prog rpBody (Exit.then K (Exit.inBlock 0 (bodyPost Tryd.prog Tryd.f18 (RParseOut w ts r)))) ⟨#[.slice A ts.length c, undef, .pointer (some ⟨w.heap.size, 0, none⟩), .slice Ao out.length co, .slice As S.length cs, .bool true, .int .i64 I, u7, u8, u9, u10, u11, u12, u13, u14, u15, u16, u17, u18, u19, u20, u21, u22, u23, u24, u25, u26, u27, u28, u29, u30, u31, u32, u33, u34, u35, u36, u37, u38, u39, u40, u41, u42, u43, u44, u45, u46, u47, u48, u49, u50, u51, u52, u53, u54, u55, u56, u57, u58, u59, u60, u61, u62, u63, u64, u65, u66, u67, u68, u69, u70, u71, u72, u73, u74, u75, u76, u77, u78, u79, u80, u81, u82, u83, u84, u85, u86, u87, u88, u89, u90, u91, u92, u93, u94, u95, u96, u97, u98, u99, u100, u101, u102, u103, u104, u105, u106, u107, u108, u109, u110, u111, u112, u113, u114, u115, u116, u117, u118, u119, u120, u121, u122, u123, u124, u125, u126, u127, u128, u129, u130, u131, u132, u133, u134, u135, u136, u137, u138, u139, u140, u141, u142, u143, u144, u145, u146, u147, u148, u149, u150, u151, u152, u153, u154, u155, u156, u157, u158, u159, u160, u161, u162, u163, u164, u165, u166, u167, u168, u169, u170, u171, u172, u173, u174, u175, u176, u177, u178, u179, u180, u181, u182, u183, u184, u185, u186, u187, u188, u189, u190, u191, u192, u193, u194, u195, u196, u197, u198, u199, u200, u201, u202, u203, u204, u205, u206, u207, u208, u209, u210, u211, u212, u213, u214, u215, u216, u217, u218, u219, u220, u221, u222, u223, u224], []⟩ wr := by
  conv => arg 2; whnf
  obtain ⟨i1, hi1, nz0, nz1, nz2⟩ := info_parts Tryd.infoNode
  obtain ⟨i2, hi2, wz0, wz1, wz2⟩ := info_parts Tryd.infoWait
  have hn := B.tm.few
  have HBB := Lib.hid B.bb
  have HRB := Lib.hid B.rb
  have HV := Lib.hid (fun W (hW : Below wB.heap.size wB W) => (B.v0.below B.bb).below hW)
  have HTM := Lib.hid B.tm
  have HV0 := Lib.hid B.v0
  have HLW := Lib.hid B.lw
  have hc := B.hc
  have hcm := B.hcm
  have hle := HI.out.le
  have hfew := HI.out.few
  have hIb : (I : Int) ≤ 100000 := by omega
  have hop : (out.length : Int) ≤ 100000 := by omega
  have hsp : (S.length : Int) ≤ 100000 := by omega
  clear B
  obtain rfl : I = ts.length := by omega
  have hki : (ts.length : Int) ≤ ts.length := Int.le_refl _
  have hres := mtrue_none HI.out.run (List.getElem?_eq_none (Nat.le_refl _))
  subst hres
  go_wp2_with fail
  refine (rat_is ts _ (ts.length) 6 wr (by omega) (by omega) (HV.out _ HI.out.mem.below)).mono ?_
  rintro e wf ⟨rfl, hbf⟩
  have HF := Lib.hid (HI.out.mem.below.trans (hbf.mono HI.out.mem.below.size))
  clear hbf
  have kbf := HRB.out.below HF.out HRB.out.lt
  have x0 : wf.cell? ⟨w.heap.size, 0, none⟩ = some (.slice none 0 0) := kbf.cell 0
  have x1 : wf.cell? ⟨w.heap.size, 1, none⟩ = some (.slice none 0 0) := kbf.cell 1
  have x2 : wf.cell? ⟨w.heap.size, 2, none⟩ = some (.int .i64 0) := kbf.cell 2
  have x3 : wf.cell? ⟨w.heap.size, 3, none⟩ = some (.int .i64 0) := kbf.cell 3
  have x4 : wf.cell? ⟨w.heap.size, 4, none⟩ = some (.int .i64 0) := kbf.cell 4
  have z0 := kbf.frozen 0
  have z1 := kbf.frozen 1
  have z2 := kbf.frozen 2
  have z3 := kbf.frozen 3
  have z4 := kbf.frozen 4
  have HBW : Hid (Below w.heap.size w wf) := Lib.hid (HBB.out.trans (HF.out.mono HBB.out.size))
  clear kbf
  go_wp2_with fail
  exact bodyPost_ret (v := .agg #[.slice none 0 0, .slice none 0 0, .int .i64 (placeAt ts (ts.length)).1, .int .i64 (placeAt ts (ts.length)).2, .int .i64 6]) (by simp [results, Tryd.results18, go_sem, x0, x1, x2, x3, x4]; done) rfl ⟨rfl, ((((HBW.out.setCell (Nat.le_refl _) _).setCell (Nat.le_refl _) _).setCell (Nat.le_refl _) _).setCell (Nat.le_refl _) _).setCell (Nat.le_refl _) _⟩
end Go.Proofs.YtbhfblogjlpnlaaDoor
