/-
  A round of the reference's Parse where it meets: a closing parenthesis. Conditions: RPBase; the loop's relation; the branch's own facts.
-/
import Derived.Test.YtbhfblogjlpnlaaDoorExRPBase
namespace Go.Proofs.YtbhfblogjlpnlaaDoor
open Go.RowKit

set_option maxRecDepth 100000 in
set_option maxHeartbeats 40000000 in
theorem rp_close (ts : List Tk6) (r : (Nat × List Nd) ⊕ (Nat × Int)) (w wB : World) (A : Option Addr) (c : Nat) (B : RPBase ts w wB A c) (I : Nat) (out : List Nd) (S : List Wt) (Ao : Option Addr) (co : Nat) (As : Option Addr) (cs : Nat) (wr : World) (gK : Nat) (hgk : ts.length + 1 ≤ I + gK) (HI : Hid (RPInv wB ts r false I out S (.slice Ao out.length co) (.slice As S.length cs) wr))
    (u7 u8 u9 u10 u11 u12 u13 u14 u15 u16 u17 u18 u19 u20 u21 u22 u23 u24 u25 u26 u27 u28 u29 u30 u31 u32 u33 u34 u35 u36 u37 u38 u39 u40 u41 u42 u43 u44 u45 u46 u47 u48 u49 u50 u51 u52 u53 u54 u55 u56 u57 u58 u59 u60 u61 u62 u63 u64 u65 u66 u67 u68 u69 u70 u71 u72 u73 u74 u75 u76 u77 u78 u79 u80 u81 u82 u83 u84 u85 u86 u87 u88 u89 u90 u91 u92 u93 u94 u95 u96 u97 u98 u99 u100 u101 u102 u103 u104 u105 u106 u107 u108 u109 u110 u111 u112 u113 u114 u115 u116 u117 u118 u119 u120 u121 u122 u123 u124 u125 u126 u127 u128 u129 u130 u131 u132 u133 u134 u135 u136 u137 u138 u139 u140 u141 u142 u143 u144 u145 u146 u147 u148 u149 u150 u151 u152 u153 u154 u155 u156 u157 u158 u159 u160 u161 u162 u163 u164 u165 u166 u167 u168 u169 u170 u171 u172 u173 u174 u175 u176 u177 u178 u179 u180 u181 u182 u183 u184 u185 u186 u187 u188 u189 u190 u191 u192 u193 u194 u195 u196 u197 u198 u199 u200 u201 u202 u203 u204 u205 u206 u207 u208 u209 u210 u211 u212 u213 u214 u215 u216 u217 u218 u219 u220 u221 u222 u223 u224 : Value) (J : Nat → Act → World → Prop) (K : Act → World → Prop)
    (hJ : ∀ k a' w', RPI ts r w wB A c k a' w' → J k a' w')
    (hK : ∀ a' w', Handed J gK a' w' → K a' w')
    (t : Tk6) (hlt : I < ts.length) (ht : ts[I]? = some t) (h7 : t.kind = 7) (hm : (t.text.toList == [41]) = true) :
    Code.wp Tryd.prog rpBody (Exit.then K (Exit.inBlock 0 (bodyPost Tryd.prog Tryd.f18 (RParseOut w ts r)))) ⟨#[.slice A ts.length c, undef, .pointer (some ⟨w.heap.size, 0, none⟩), .slice Ao out.length co, .slice As S.length cs, .bool false, .int .i64 I, u7, u8, u9, u10, u11, u12, u13, u14, u15, u16, u17, u18, u19, u20, u21, u22, u23, u24, u25, u26, u27, u28, u29, u30, u31, u32, u33, u34, u35, u36, u37, u38, u39, u40, u41, u42, u43, u44, u45, u46, u47, u48, u49, u50, u51, u52, u53, u54, u55, u56, u57, u58, u59, u60, u61, u62, u63, u64, u65, u66, u67, u68, u69, u70, u71, u72, u73, u74, u75, u76, u77, u78, u79, u80, u81, u82, u83, u84, u85, u86, u87, u88, u89, u90, u91, u92, u93, u94, u95, u96, u97, u98, u99, u100, u101, u102, u103, u104, u105, u106, u107, u108, u109, u110, u111, u112, u113, u114, u115, u116, u117, u118, u119, u120, u121, u122, u123, u124, u125, u126, u127, u128, u129, u130, u131, u132, u133, u134, u135, u136, u137, u138, u139, u140, u141, u142, u143, u144, u145, u146, u147, u148, u149, u150, u151, u152, u153, u154, u155, u156, u157, u158, u159, u160, u161, u162, u163, u164, u165, u166, u167, u168, u169, u170, u171, u172, u173, u174, u175, u176, u177, u178, u179, u180, u181, u182, u183, u184, u185, u186, u187, u188, u189, u190, u191, u192, u193, u194, u195, u196, u197, u198, u199, u200, u201, u202, u203, u204, u205, u206, u207, u208, u209, u210, u211, u212, u213, u214, u215, u216, u217, u218, u219, u220, u221, u222, u223, u224], []⟩ wr := by
  conv => arg 2; whnf
  obtain ⟨i1, hi1, nz0, nz1, nz2⟩ := info_parts Tryd.infoNode
  obtain ⟨i2, hi2, wz0, wz1, wz2⟩ := info_parts Tryd.infoWait
  have hn := B.tm.few
  have HBB := Lib.hid B.bb
  have HRB := Lib.hid B.rb
  have HV := Lib.hid (fun W (hW : Below wB.heap.size wB W) => (B.v0.below B.bb).below hW)
  have HTM := Lib.hid B.tm
  have HV0 := Lib.hid B.v0
  have HLW := Lib.hid B.lw
  have hc := B.hc
  have hcm := B.hcm
  have hle := HI.out.le
  have hfew := HI.out.few
  have hIb : (I : Int) ≤ 100000 := by omega
  have hop : (out.length : Int) ≤ 100000 := by omega
  have hsp : (S.length : Int) ≤ 100000 := by omega
  clear B
  have hki2 : (I : Int) < ts.length := by omega
  have hkc : (I : Int) < c := by omega
  obtain ⟨A', c', hvv, -, -, hcell⟩ := (HV.out wB (Below.refl _ _)).form
  injection hvv with hvv1 _ hvv2
  subst hvv1 hvv2
  obtain ⟨b, o, rfl, hcs⟩ := hcell I t ht
  have HCW := Lib.hid hcs
  have HT := Lib.hid ht
  have HRU0 := Lib.hid HI.out.run
  have hTA : tightAt ts I = t.tight := tightAt_some ht
  have hW2 := rtwo_is t wr
  have hmk : markAt ts I ⟨#[41]⟩ = t.isM ⟨#[41]⟩ := by unfold markAt; rw [ht]
  have htl := tight_le t
  obtain ⟨e0, e1, e2, e3, e4, e5⟩ := HCW.out wr HI.out.mem.below
  clear hcell hcs ht
  have k7 : (t.kind == 7) = true := by rw [h7]; rfl
  have hlit := isM_lit h7 ⟨#[41]⟩ [41] rfl
  rw [hlit] at hmk
  have h0 : t.tight = 0 := tight_mark (by rw [hlit]; exact hm)
  rw [h0] at hW2 hTA
  have HTW := Lib.hid hW2
  have HTA := Lib.hid hTA
  have HMK := Lib.hid (hmk.trans hm)
  clear hW2 hTA hmk h7 hlit h0
  go_wp2_with fail
  refine HTW.out.mono ?_
  rintro e w1 ⟨rfl, hb1⟩
  have HM1 := Lib.hid (HI.out.mem.next hb1)
  clear hb1 e0 e1 e2 e3 e4 e5
  obtain ⟨e0, e1, e2, e3, e4, e5⟩ := HCW.out w1 HM1.out.below
  go_wp2_with fail
  clear e0 e1 e2 e3 e4 e5
  go_loopg [3, 4] (ts.length + 1) (fun g vo vs wx => ∃ (out2 : List Nd) (S2 : List Wt), S2.length ≤ g ∧ out2.length + S2.length ≤ I ∧ Hid (MRun ts false I out2 S2 r) ∧ Hid (RPW wB out2 S2 vo vs wx))
  case atStart => exact ⟨out, S, by omega, hfew, HRU0, HM1⟩
  case round =>
    obtain ⟨out2, S2, hg2, hf2, HRU, HMM⟩ := hrel
    obtain ⟨Ao2, co2, rfl⟩ := own_shape HMM.out.outs
    have hol : (out2.length : Int) ≤ 100000 := by omega
    have HWX : Hid (Below wB.heap.size wB wr) := Lib.hid HMM.out.below
    rcases List.eq_nil_or_concat S2 with hS | ⟨S3, x, hS⟩
    · subst hS
      obtain ⟨As2, cs2, rfl⟩ := own_shape HMM.out.stk
      have hl0 : ([] : List Wt).length = 0 := rfl
      rw [hl0]
      have hres := mfalse_done HRU.out HTA.out
      subst hres
      have HMF := Lib.hid HMM.out.outs
      clear HRU HMM
      have kbf := HRB.out.below HWX.out HRB.out.lt
      have x0 : wr.cell? ⟨w.heap.size, 0, none⟩ = some (.slice none 0 0) := kbf.cell 0
      have x1 : wr.cell? ⟨w.heap.size, 1, none⟩ = some (.slice none 0 0) := kbf.cell 1
      have x2 : wr.cell? ⟨w.heap.size, 2, none⟩ = some (.int .i64 0) := kbf.cell 2
      have x3 : wr.cell? ⟨w.heap.size, 3, none⟩ = some (.int .i64 0) := kbf.cell 3
      have x4 : wr.cell? ⟨w.heap.size, 4, none⟩ = some (.int .i64 0) := kbf.cell 4
      have z0 := kbf.frozen 0
      have z1 := kbf.frozen 1
      have z2 := kbf.frozen 2
      have z3 := kbf.frozen 3
      have z4 := kbf.frozen 4
      have HBW : Hid (Below w.heap.size w wr) := Lib.hid (HBB.out.trans (HWX.out.mono HBB.out.size))
      clear kbf
      go_wp2_with fail
      exact bodyPost_ret (v := .agg #[.slice Ao2 out2.length co2, .slice (some ⟨b, o + I * 6, none⟩) (ts.length - I) (c - I), .int .i64 0, .int .i64 0, .int .i64 0]) (by simp [results, Tryd.results18, go_sem, x0, x1, x2, x3, x4]; done) rfl ⟨⟨_, _, _, rfl, own_base (ownsRow_setCell_below (ownsRow_setCell_below (ownsRow_setCell_below (ownsRow_setCell_below (ownsRow_setCell_below HMF.out HLW.out _) HLW.out _) HLW.out _) HLW.out _) HLW.out _) HBB.out.size, (toks_drop2 HV0.out hlt).below (((((HBW.out.setCell (Nat.le_refl _) _).setCell (Nat.le_refl _) _).setCell (Nat.le_refl _) _).setCell (Nat.le_refl _) _).setCell (Nat.le_refl _) _)⟩, ((((HBW.out.setCell (Nat.le_refl _) _).setCell (Nat.le_refl _) _).setCell (Nat.le_refl _) _).setCell (Nat.le_refl _) _).setCell (Nat.le_refl _) _⟩
    · have hS' : S2 = S3 ++ [x] := by rw [hS, List.concat_eq_append]
      have HS := Lib.hid hS'
      have hlen : S2.length = S3.length + 1 := by rw [hS', List.length_append, List.length_singleton]
      obtain ⟨gs, cs2, hvs, hcs2, hcsm, hgs, hgl, hcell⟩ := stack_form HMM.out.stk (by omega)
      subst hvs
      rw [hlen] at hcs2
      have hx := hcell wr (Below.refl _ _) S3.length x (by rw [hS']; simp)
      have y0 : wr.cell? ⟨gs, S3.length * 7, none⟩ = some (.int .i64 x.n.kind) := hx 0 _ rfl
      have y1 : wr.cell? ⟨gs, S3.length * 7 + 1, none⟩ = some (.int .i64 x.n.line) := hx 1 _ rfl
      have y2 : wr.cell? ⟨gs, S3.length * 7 + 2, none⟩ = some (.int .i64 x.n.col) := hx 2 _ rfl
      have y3 : wr.cell? ⟨gs, S3.length * 7 + 3, none⟩ = some (.int .u32 x.n.num) := hx 3 _ rfl
      have y4 : wr.cell? ⟨gs, S3.length * 7 + 4, none⟩ = some (.string x.n.name) := hx 4 _ rfl
      have y5 : wr.cell? ⟨gs, S3.length * 7 + 5, none⟩ = some (.int .i64 (x.how : Int)) := hx 5 _ rfl
      have y6 : wr.cell? ⟨gs, S3.length * 7 + 6, none⟩ = some (.bool x.opn) := hx 6 _ rfl
      have HMM2 : Hid (RPW wB out2 S2 (.slice Ao2 out2.length co2) (.slice (some ⟨gs, 0, none⟩) (S3.length + 1) cs2) wr) := Lib.hid (by rw [← hlen]; exact HMM.out)
      have HGL := Lib.hid hgl
      have HLEN := Lib.hid hlen
      have hs3 : (S3.length : Int) + 1 ≤ 100000 := by omega
      have hs4 : (S3.length : Int) < (S3.length : Int) + 1 := by omega
      have hz : ((S3.length : Int) + 1 == 0) = false := beq_eq_false_iff_ne.2 (by omega)
      have hz2 : (0 : Int) < (S3.length : Int) + 1 := by omega
      have hs5 : (S3.length : Int) < cs2 := by omega
      have hs6 : (S3.length : Int) ≤ cs2 := by omega
      have hg3 : S3.length + 1 ≤ gk := by omega
      rw [hlen]
      clear hS hS' hlen hx hcell HMM hcs2 hgl hgs hg2
      cases ho : x.opn with
      | true =>
        rw [ho] at y6
        have HO := Lib.hid ho
        clear ho
        have HRU3 := (mfalse_open (HS.out ▸ HRU.out) HTA.out HO.out).2 HMK.out
        clear HRU
        have hfew3 : out2.length + 1 + S3.length ≤ I + 1 := by have := HLEN.out; omega
        have HFEW3 := Lib.hid hfew3
        clear hfew3 hf2 hg3
        have HM4 : Hid (∀ o o', RPW wB out2 S2 (.slice Ao2 out2.length co2) (.slice (some ⟨gs, 0, none⟩) (S3.length + 1) cs2) ((wr.alloc o).alloc o')) := Lib.hid (fun o o' => (HMM2.out.next ((Below.refl _ _).alloc (Nat.le_refl _) o)).next ((Below.refl _ _).alloc (Nat.le_refl _) o'))
        have hlit := World.ownsRow_made (base := wB.heap.size) (e := 78) (size := 7) (wr.alloc (.cells #[.int .i64 x.n.kind, .int .i64 x.n.line, .int .i64 x.n.col, .int .u32 x.n.num, .string x.n.name, .int .i64 (x.how : Int), .bool true] 78)) #[] 0 (by have := HWX.out.size; simp; omega) (Nat.zero_le _) rfl
        rw [show (wr.alloc (.cells #[.int .i64 x.n.kind, .int .i64 x.n.line, .int .i64 x.n.col, .int .u32 x.n.num, .string x.n.name, .int .i64 (x.how : Int), .bool true] 78)).heap.size = wr.heap.size + 1 by simp] at hlit
        have HLIT := Lib.hid hlit
        have HNW : Hid (∀ o o' j u, (wtCells S3)[j]? = some u → ((wr.alloc o).alloc o').cell? ((⟨gs, 0, none⟩ : Addr).add j) = some u) := Lib.hid (fun o o' j u hu => (HM4.out o o').stk.cells (g := gs) rfl j u (by rw [HS.out]; exact wtCells_front S3 x j u hu))
        have HTP := Lib.hid (fun o => (Blk.new wr 78 #[.int .i64 x.n.kind, .int .i64 x.n.line, .int .i64 x.n.col, .int .u32 x.n.num, .string x.n.name, .int .i64 (x.how : Int), .bool true]).alloc o)
        clear hlit
        by_cases hkn : 0 < x.n.kind
        · have hadds : x.adds = [x.n] := if_pos hkn
          rw [hadds] at HRU3
          have HRU4 := Lib.hid HRU3
          clear HRU3 hadds
          go_wp2_with (first | (at_builtin; refine wpList_append_own _ rfl _ _ 73 rfl wB.heap.size 78 i2 (.agg #[.int .i64 0, .int .i64 0, .int .i64 0, .int .u32 0, .string ByteArray.empty, .int .i64 0, .bool false]) 7 64 Tryd.underlying73 hi2 wz0 wz1 wz2 rfl (by decide) _ 0 [] rfl HLIT.out ⟨gs, 0, none⟩ S3.length cs2 (wtCells S3) rfl (wtCells_len S3) (HNW.out _ _) (wtCells_one S3) (by unfold maxLen; omega) (by omega) (HM4.out _ _).below.size ?_; intro v2 w7 hown2 hgrow2 _; have HM7 := Lib.hid (RPW.drop (x := x) (HS.out ▸ HM4.out _ _) hown2 hgrow2 (fun e => by have := (HMM2.out.outs.lt _ e).2; omega) (by have := HWX.out.size; omega)); have kt7 := Blk.grown (HTP.out _) hgrow2 (by show (Value.slice (some ⟨wr.heap.size + 1, 0, none⟩) 0 0).ownBlock ≠ some wr.heap.size; simp [Value.ownBlock]); obtain ⟨A7, c7, rfl⟩ := own_shape hown2; have k0 : w7.cell? ⟨wr.heap.size, 0, none⟩ = some (.int .i64 x.n.kind) := kt7.cell 0; have k1 : w7.cell? ⟨wr.heap.size, 1, none⟩ = some (.int .i64 x.n.line) := kt7.cell 1; have k2 : w7.cell? ⟨wr.heap.size, 2, none⟩ = some (.int .i64 x.n.col) := kt7.cell 2; have k3 : w7.cell? ⟨wr.heap.size, 3, none⟩ = some (.int .u32 x.n.num) := kt7.cell 3; have k4 : w7.cell? ⟨wr.heap.size, 4, none⟩ = some (.string x.n.name) := kt7.cell 4; have HM8 : Hid (∀ o, RPW wB out2 S3 (.slice Ao2 out2.length co2) (.slice A7 (0 + S3.length) c7) (w7.alloc o)) := Lib.hid (fun o => HM7.out.next ((Below.refl _ _).alloc (Nat.le_refl _) o)); clear hown2 hgrow2 kt7) | (at_builtin; refine wpList_append_own _ rfl _ _ 43 rfl wB.heap.size 54 i1 (.agg #[.int .i64 0, .int .i64 0, .int .i64 0, .int .u32 0, .string ByteArray.empty]) 5 48 Tryd.underlying43 hi1 nz0 nz1 nz2 rfl (by decide) _ _ _ rfl (HM8.out _).outs ⟨w7.heap.size, 0, none⟩ 1 1 x.n.cells rfl rfl (cells_new w7 #[.int .i64 x.n.kind, .int .i64 x.n.line, .int .i64 x.n.col, .int .u32 x.n.num, .string x.n.name] 54 w7.heap.size rfl) (by intro u hu; simp [Nd.cells] at hu; rcases hu with rfl | rfl | rfl | rfl | rfl <;> rfl) (by unfold maxLen; omega) (by omega) (HM8.out _).below.size ?_; intro v9 w9 hown9 hgrow9 _; have HM9 := Lib.hid ((HM8.out _).push (n := x.n) hown9 hgrow9); obtain ⟨A9, c9, rfl⟩ := own_shape hown9; clear hown9 hgrow9))
          go_roundg (gK - 1)
          case measure => omega
          case rel => exact ⟨false, I + 1, out2 ++ [x.n], S3, rfl, by go_num, by omega, Lib.hid ⟨HRU4.out, hlt, by have := HFEW3.out; simp; omega, by rw [Nat.zero_add] at HM9; exact HM9.out, fun _ => Nat.succ_pos _⟩⟩
        · have hadds : x.adds = [] := if_neg hkn
          rw [hadds, List.append_nil] at HRU3
          have HRU4 := Lib.hid HRU3
          clear HRU3 hadds
          go_wp2_with (first | (at_builtin; refine wpList_append_own _ rfl _ _ 73 rfl wB.heap.size 78 i2 (.agg #[.int .i64 0, .int .i64 0, .int .i64 0, .int .u32 0, .string ByteArray.empty, .int .i64 0, .bool false]) 7 64 Tryd.underlying73 hi2 wz0 wz1 wz2 rfl (by decide) _ 0 [] rfl HLIT.out ⟨gs, 0, none⟩ S3.length cs2 (wtCells S3) rfl (wtCells_len S3) (HNW.out _ _) (wtCells_one S3) (by unfold maxLen; omega) (by omega) (HM4.out _ _).below.size ?_; intro v2 w7 hown2 hgrow2 _; have HM7 := Lib.hid (RPW.drop (x := x) (HS.out ▸ HM4.out _ _) hown2 hgrow2 (fun e => by have := (HMM2.out.outs.lt _ e).2; omega) (by have := HWX.out.size; omega)); have kt7 := Blk.grown (HTP.out _) hgrow2 (by show (Value.slice (some ⟨wr.heap.size + 1, 0, none⟩) 0 0).ownBlock ≠ some wr.heap.size; simp [Value.ownBlock]); obtain ⟨A7, c7, rfl⟩ := own_shape hown2; have k0 : w7.cell? ⟨wr.heap.size, 0, none⟩ = some (.int .i64 x.n.kind) := kt7.cell 0; have k1 : w7.cell? ⟨wr.heap.size, 1, none⟩ = some (.int .i64 x.n.line) := kt7.cell 1; have k2 : w7.cell? ⟨wr.heap.size, 2, none⟩ = some (.int .i64 x.n.col) := kt7.cell 2; have k3 : w7.cell? ⟨wr.heap.size, 3, none⟩ = some (.int .u32 x.n.num) := kt7.cell 3; have k4 : w7.cell? ⟨wr.heap.size, 4, none⟩ = some (.string x.n.name) := kt7.cell 4; have HM8 : Hid (∀ o, RPW wB out2 S3 (.slice Ao2 out2.length co2) (.slice A7 (0 + S3.length) c7) (w7.alloc o)) := Lib.hid (fun o => HM7.out.next ((Below.refl _ _).alloc (Nat.le_refl _) o)); clear hown2 hgrow2 kt7))
          go_roundg (gK - 1)
          case measure => omega
          case rel => exact ⟨false, I + 1, out2, S3, rfl, by go_num, by omega, Lib.hid ⟨HRU4.out, hlt, by have := HFEW3.out; omega, by rw [Nat.zero_add] at HM7; exact HM7.out, fun _ => Nat.succ_pos _⟩⟩
      | false =>
        rw [ho] at y6
        have HO := Lib.hid ho
        clear ho
        have hhi : (0 : Int) ≤ x.how := by omega
        have HRU3 := Lib.hid (mfalse_pop (HS.out ▸ HRU.out) HO.out (by rw [HTA.out]; exact Nat.zero_le _))
        have hf3 : (out2 ++ [x.n]).length + S3.length ≤ I := by have := HLEN.out; simp; omega
        have HCN := Lib.hid (cells_new wr #[.int .i64 x.n.kind, .int .i64 x.n.line, .int .i64 x.n.col, .int .u32 x.n.num, .string x.n.name] 54 wr.heap.size rfl)
        have HM4 : Hid (∀ o, RPW wB out2 S2 (.slice Ao2 out2.length co2) (.slice (some ⟨gs, 0, none⟩) (S3.length + 1) cs2) (wr.alloc o)) := Lib.hid (fun o => HMM2.out.next ((Below.refl _ _).alloc (Nat.le_refl _) o))
        go_wp2_with (first | (at_builtin; refine wpList_append_own _ rfl _ _ 43 rfl wB.heap.size 54 i1 (.agg #[.int .i64 0, .int .i64 0, .int .i64 0, .int .u32 0, .string ByteArray.empty]) 5 48 Tryd.underlying43 hi1 nz0 nz1 nz2 rfl (by decide) _ _ _ rfl (HM4.out _).outs ⟨wr.heap.size, 0, none⟩ 1 1 x.n.cells rfl rfl HCN.out (by intro u hu; simp [Nd.cells] at hu; rcases hu with rfl | rfl | rfl | rfl | rfl <;> rfl) (by unfold maxLen; omega) (by omega) (HM4.out _).below.size ?_; intro v' w5 hown' hgrow _; have HM5 := Lib.hid ((HM4.out _).push (n := x.n) hown' hgrow); obtain ⟨A5, c5, rfl⟩ := own_shape hown'; clear hown' hgrow; have HLIT := Lib.hid (World.ownsRow_made (base := wB.heap.size) (e := 78) (size := 7) w5 #[] 0 HM5.out.below.size (Nat.zero_le _) rfl); have HNW : Hid (∀ j u, (wtCells S3)[j]? = some u → (w5.alloc (.cells #[] 78)).cell? ((⟨gs, 0, none⟩ : Addr).add j) = some u) := Lib.hid (fun j u hu => (HM5.out.next ((Below.refl _ _).alloc (Nat.le_refl _) _)).stk.cells (g := gs) rfl j u (by rw [HS.out]; exact wtCells_front S3 x j u hu))) | (at_builtin; refine wpList_append_own _ rfl _ _ 73 rfl wB.heap.size 78 i2 (.agg #[.int .i64 0, .int .i64 0, .int .i64 0, .int .u32 0, .string ByteArray.empty, .int .i64 0, .bool false]) 7 64 Tryd.underlying73 hi2 wz0 wz1 wz2 rfl (by decide) _ 0 [] rfl HLIT.out ⟨gs, 0, none⟩ S3.length cs2 (wtCells S3) rfl (wtCells_len S3) HNW.out (wtCells_one S3) (by unfold maxLen; omega) (by omega) (HM5.out.next ((Below.refl _ _).alloc (Nat.le_refl _) _)).below.size ?_; intro v2 w7 hown2 hgrow2 _; have HM7 := Lib.hid (RPW.drop (x := x) (HS.out ▸ HM5.out.next ((Below.refl _ _).alloc (Nat.le_refl _) _)) hown2 hgrow2 (fun e => by have := (HM5.out.outs.lt _ e).2; omega) HM5.out.below.size); obtain ⟨A7, c7, rfl⟩ := own_shape hown2; clear hown2 hgrow2))
        go_roundg S3.length
        case measure => omega
        case rel => exact ⟨out2 ++ [x.n], S3, Nat.le_refl _, hf3, HRU3, by rw [Nat.zero_add] at HM7; exact HM7⟩
end Go.Proofs.YtbhfblogjlpnlaaDoor
