/-
  A round of the reference's Parse where it meets: a Mark that binds two. Conditions: RPBase; the loop's relation; the branch's own facts.
-/
import Derived.Test.YtbhfblogjlpnlaaDoorExRPBase
namespace Go.Proofs.YtbhfblogjlpnlaaDoor
open Go.RowKit

set_option maxRecDepth 100000 in
set_option maxHeartbeats 40000000 in
theorem rp_markp (ts : List Tk6) (r : (Nat × List Nd) ⊕ (Nat × Int)) (w wB : World) (A : Option Addr) (c : Nat) (B : RPBase ts w wB A c) (I : Nat) (out : List Nd) (S : List Wt) (Ao : Option Addr) (co : Nat) (As : Option Addr) (cs : Nat) (wr : World) (gK : Nat) (hgk : ts.length + 1 ≤ I + gK) (HI : Hid (RPInv wB ts r false I out S (.slice Ao out.length co) (.slice As S.length cs) wr))
    (u7 u8 u9 u10 u11 u12 u13 u14 u15 u16 u17 u18 u19 u20 u21 u22 u23 u24 u25 u26 u27 u28 u29 u30 u31 u32 u33 u34 u35 u36 u37 u38 u39 u40 u41 u42 u43 u44 u45 u46 u47 u48 u49 u50 u51 u52 u53 u54 u55 u56 u57 u58 u59 u60 u61 u62 u63 u64 u65 u66 u67 u68 u69 u70 u71 u72 u73 u74 u75 u76 u77 u78 u79 u80 u81 u82 u83 u84 u85 u86 u87 u88 u89 u90 u91 u92 u93 u94 u95 u96 u97 u98 u99 u100 u101 u102 u103 u104 u105 u106 u107 u108 u109 u110 u111 u112 u113 u114 u115 u116 u117 u118 u119 u120 u121 u122 u123 u124 u125 u126 u127 u128 u129 u130 u131 u132 u133 u134 u135 u136 u137 u138 u139 u140 u141 u142 u143 u144 u145 u146 u147 u148 u149 u150 u151 u152 u153 u154 u155 u156 u157 u158 u159 u160 u161 u162 u163 u164 u165 u166 u167 u168 u169 u170 u171 u172 u173 u174 u175 u176 u177 u178 u179 u180 u181 u182 u183 u184 u185 u186 u187 u188 u189 u190 u191 u192 u193 u194 u195 u196 u197 u198 u199 u200 u201 u202 u203 u204 u205 u206 u207 u208 u209 u210 u211 u212 u213 u214 u215 u216 u217 u218 u219 u220 u221 u222 u223 u224 : Value) (J : Nat → Act → World → Prop) (K : Act → World → Prop)
    (hJ : ∀ k a' w', RPI ts r w wB A c k a' w' → J k a' w')
    (hK : ∀ a' w', Handed J gK a' w' → K a' w')
    (t : Tk6) (hlt : I < ts.length) (ht : ts[I]? = some t) (h7 : t.kind = 7) (hm : (t.text.toList == [41]) = false) (hp : 0 < t.tight) :
    Code.wp Tryd.prog rpBody (Exit.then K (Exit.inBlock 0 (bodyPost Tryd.prog Tryd.f18 (RParseOut w ts r)))) ⟨#[.slice A ts.length c, undef, .pointer (some ⟨w.heap.size, 0, none⟩), .slice Ao out.length co, .slice As S.length cs, .bool false, .int .i64 I, u7, u8, u9, u10, u11, u12, u13, u14, u15, u16, u17, u18, u19, u20, u21, u22, u23, u24, u25, u26, u27, u28, u29, u30, u31, u32, u33, u34, u35, u36, u37, u38, u39, u40, u41, u42, u43, u44, u45, u46, u47, u48, u49, u50, u51, u52, u53, u54, u55, u56, u57, u58, u59, u60, u61, u62, u63, u64, u65, u66, u67, u68, u69, u70, u71, u72, u73, u74, u75, u76, u77, u78, u79, u80, u81, u82, u83, u84, u85, u86, u87, u88, u89, u90, u91, u92, u93, u94, u95, u96, u97, u98, u99, u100, u101, u102, u103, u104, u105, u106, u107, u108, u109, u110, u111, u112, u113, u114, u115, u116, u117, u118, u119, u120, u121, u122, u123, u124, u125, u126, u127, u128, u129, u130, u131, u132, u133, u134, u135, u136, u137, u138, u139, u140, u141, u142, u143, u144, u145, u146, u147, u148, u149, u150, u151, u152, u153, u154, u155, u156, u157, u158, u159, u160, u161, u162, u163, u164, u165, u166, u167, u168, u169, u170, u171, u172, u173, u174, u175, u176, u177, u178, u179, u180, u181, u182, u183, u184, u185, u186, u187, u188, u189, u190, u191, u192, u193, u194, u195, u196, u197, u198, u199, u200, u201, u202, u203, u204, u205, u206, u207, u208, u209, u210, u211, u212, u213, u214, u215, u216, u217, u218, u219, u220, u221, u222, u223, u224], []⟩ wr := by
  conv => arg 2; whnf
  obtain ⟨i1, hi1, nz0, nz1, nz2⟩ := info_parts Tryd.infoNode
  obtain ⟨i2, hi2, wz0, wz1, wz2⟩ := info_parts Tryd.infoWait
  have hn := B.tm.few
  have HBB := Lib.hid B.bb
  have HRB := Lib.hid B.rb
  have HV := Lib.hid (fun W (hW : Below wB.heap.size wB W) => (B.v0.below B.bb).below hW)
  have HTM := Lib.hid B.tm
  have HV0 := Lib.hid B.v0
  have HLW := Lib.hid B.lw
  have hc := B.hc
  have hcm := B.hcm
  have hle := HI.out.le
  have hfew := HI.out.few
  have hIb : (I : Int) ≤ 100000 := by omega
  have hop : (out.length : Int) ≤ 100000 := by omega
  have hsp : (S.length : Int) ≤ 100000 := by omega
  clear B
  have hki2 : (I : Int) < ts.length := by omega
  have hkc : (I : Int) < c := by omega
  obtain ⟨A', c', hvv, -, -, hcell⟩ := (HV.out wB (Below.refl _ _)).form
  injection hvv with hvv1 _ hvv2
  subst hvv1 hvv2
  obtain ⟨b, o, rfl, hcs⟩ := hcell I t ht
  have HCW := Lib.hid hcs
  have HT := Lib.hid ht
  have HRU0 := Lib.hid HI.out.run
  have hTA : tightAt ts I = t.tight := tightAt_some ht
  have hW2 := rtwo_is t wr
  have hmk : markAt ts I ⟨#[41]⟩ = t.isM ⟨#[41]⟩ := by unfold markAt; rw [ht]
  have htl := tight_le t
  obtain ⟨e0, e1, e2, e3, e4, e5⟩ := HCW.out wr HI.out.mem.below
  clear hcell hcs ht
  have k7 : (t.kind == 7) = true := by rw [h7]; rfl
  have hlit := isM_lit h7 ⟨#[41]⟩ [41] rfl
  rw [hlit] at hmk
  have HMK := Lib.hid (hmk.trans hm)
  clear hmk h7 hlit
  have hk2 : t.kind2 = twoKind t.text := if_pos hp
  rw [hk2] at hW2
  have HTW := Lib.hid hW2
  have HTA := Lib.hid hTA
  have HTPOS := Lib.hid hp
  have hpi : (0 : Int) < t.tight := by omega
  have hti : (t.tight : Int) ≤ 6 := by omega
  clear hW2 hTA hp hk2
  go_wp2_with fail
  refine HTW.out.mono ?_
  rintro e w1 ⟨rfl, hb1⟩
  have HM1 := Lib.hid (HI.out.mem.next hb1)
  clear hb1 e0 e1 e2 e3 e4 e5
  obtain ⟨e0, e1, e2, e3, e4, e5⟩ := HCW.out w1 HM1.out.below
  go_wp2_with fail
  clear e0 e1 e2 e3 e4 e5
  go_loopg [3, 4] (ts.length + 1) (fun g vo vs wx => ∃ (out2 : List Nd) (S2 : List Wt), S2.length ≤ g ∧ out2.length + S2.length ≤ I ∧ Hid (MRun ts false I out2 S2 r) ∧ Hid (RPW wB out2 S2 vo vs wx))
  case atStart => exact ⟨out, S, by omega, hfew, HRU0, HM1⟩
  case round =>
    obtain ⟨out2, S2, hg2, hf2, HRU, HMM⟩ := hrel
    obtain ⟨Ao2, co2, rfl⟩ := own_shape HMM.out.outs
    have hol : (out2.length : Int) ≤ 100000 := by omega
    have HWX : Hid (Below wB.heap.size wB wr) := Lib.hid HMM.out.below
    rcases List.eq_nil_or_concat S2 with hS | ⟨S3, x, hS⟩
    · subst hS
      obtain ⟨As2, cs2, rfl⟩ := own_shape HMM.out.stk
      have hl0 : ([] : List Wt).length = 0 := rfl
      rw [hl0]
      have HRU3 := Lib.hid (mfalse_two HRU.out HT.out HTPOS.out (fun w hw => by cases hw))
      clear HRU
      have f1 : wr.cell? ⟨b, o + I * 6 + 1, none⟩ = some (.int .i64 t.line) := (HCW.out wr HWX.out).2.1
      have f2 : wr.cell? ⟨b, o + I * 6 + 2, none⟩ = some (.int .i64 t.col) := (HCW.out wr HWX.out).2.2.1
      have HMD : Hid (∀ o, RPW wB out2 [] (.slice Ao2 out2.length co2) (.slice As2 ([] : List Wt).length cs2) (wr.drew.alloc o)) := Lib.hid (fun o => (HMM.out.next (Below.refl _ _).drew).next ((Below.refl _ _).alloc (Nat.le_refl _) o))
      have HFEW2 : Hid (out2.length + ([] ++ [(⟨t.node (twoKind t.text), t.tight, false⟩ : Wt)]).length ≤ I + 1) := Lib.hid (by rw [List.length_append, List.length_singleton]; omega)
      have HLS : Hid (([] : List Wt).length ≤ 100000) := Lib.hid (by first | (have := HLEN.out; omega) | (simp; done))
      go_wp2_with fail
      go_region_law (refine step_append_own_at rfl (.tmp 191) (.tmp 206) 73 rfl wB.heap.size 78 i2 (.agg #[.int .i64 0, .int .i64 0, .int .i64 0, .int .u32 0, .string ByteArray.empty, .int .i64 0, .bool false]) 7 64 Tryd.underlying73 hi2 wz0 wz1 wz2 rfl (by decide) _ ([] : List Wt).length (wtCells []) (by simp [Act.eval]) (HMD.out _).stk ⟨wr.heap.size, 0, none⟩ 1 1 [.int .i64 (twoKind t.text), .int .i64 t.line, .int .i64 t.col, .int .u32 0, .string ⟨#[]⟩, .int .i64 (t.tight : Int), .bool false] (by simp [Act.eval]) rfl (cells_new _ #[.int .i64 (twoKind t.text), .int .i64 t.line, .int .i64 t.col, .int .u32 0, .string ⟨#[]⟩, .int .i64 (t.tight : Int), .bool false] _ _ (by simp)) (by intro u hu; simp at hu; rcases hu with rfl | rfl | rfl | rfl | rfl | rfl | rfl <;> rfl) (by have := HLS.out; unfold maxLen; omega) (by have := HLS.out; omega) (HMD.out _).below.size ?_; intro v' w7 hown7 hg7 _ _; have hm7 := (HMD.out _).wait (x := ⟨t.node (twoKind t.text), t.tight, false⟩) hown7 hg7; obtain ⟨A7, c7, rfl⟩ := own_shape hown7)
      all_goals
        have HM7 := Lib.hid hm7
        clear hm7 hown7 hg7
        go_wp2_with fail
        go_roundg (gK - 1)
        case measure => omega
        case rel => exact ⟨true, I + 1, out2, [] ++ [⟨t.node (twoKind t.text), t.tight, false⟩], rfl, by go_num, by omega, Lib.hid ⟨HRU3.out, hlt, HFEW2.out, HM7.out, nofun⟩⟩
    · have hS' : S2 = S3 ++ [x] := by rw [hS, List.concat_eq_append]
      have HS := Lib.hid hS'
      have hlen : S2.length = S3.length + 1 := by rw [hS', List.length_append, List.length_singleton]
      obtain ⟨gs, cs2, hvs, hcs2, hcsm, hgs, hgl, hcell⟩ := stack_form HMM.out.stk (by omega)
      subst hvs
      rw [hlen] at hcs2
      have hx := hcell wr (Below.refl _ _) S3.length x (by rw [hS']; simp)
      have y0 : wr.cell? ⟨gs, S3.length * 7, none⟩ = some (.int .i64 x.n.kind) := hx 0 _ rfl
      have y1 : wr.cell? ⟨gs, S3.length * 7 + 1, none⟩ = some (.int .i64 x.n.line) := hx 1 _ rfl
      have y2 : wr.cell? ⟨gs, S3.length * 7 + 2, none⟩ = some (.int .i64 x.n.col) := hx 2 _ rfl
      have y3 : wr.cell? ⟨gs, S3.length * 7 + 3, none⟩ = some (.int .u32 x.n.num) := hx 3 _ rfl
      have y4 : wr.cell? ⟨gs, S3.length * 7 + 4, none⟩ = some (.string x.n.name) := hx 4 _ rfl
      have y5 : wr.cell? ⟨gs, S3.length * 7 + 5, none⟩ = some (.int .i64 (x.how : Int)) := hx 5 _ rfl
      have y6 : wr.cell? ⟨gs, S3.length * 7 + 6, none⟩ = some (.bool x.opn) := hx 6 _ rfl
      have HMM2 : Hid (RPW wB out2 S2 (.slice Ao2 out2.length co2) (.slice (some ⟨gs, 0, none⟩) (S3.length + 1) cs2) wr) := Lib.hid (by rw [← hlen]; exact HMM.out)
      have HGL := Lib.hid hgl
      have HLEN := Lib.hid hlen
      have hs3 : (S3.length : Int) + 1 ≤ 100000 := by omega
      have hs4 : (S3.length : Int) < (S3.length : Int) + 1 := by omega
      have hz : ((S3.length : Int) + 1 == 0) = false := beq_eq_false_iff_ne.2 (by omega)
      have hz2 : (0 : Int) < (S3.length : Int) + 1 := by omega
      have hs5 : (S3.length : Int) < cs2 := by omega
      have hs6 : (S3.length : Int) ≤ cs2 := by omega
      have hg3 : S3.length + 1 ≤ gk := by omega
      rw [hlen]
      clear hS hS' hlen hx hcell HMM hcs2 hgl hgs hg2
      cases ho : x.opn with
      | true =>
        rw [ho] at y6
        have HO := Lib.hid ho
        clear ho
        have HRU3 := Lib.hid (mfalse_two HRU.out HT.out HTPOS.out (by rw [HS.out]; exact topLow_app S3 x _ (.inl HO.out)))
        clear HRU
        have f1 : wr.cell? ⟨b, o + I * 6 + 1, none⟩ = some (.int .i64 t.line) := (HCW.out wr HWX.out).2.1
        have f2 : wr.cell? ⟨b, o + I * 6 + 2, none⟩ = some (.int .i64 t.col) := (HCW.out wr HWX.out).2.2.1
        have HMD : Hid (∀ o, RPW wB out2 S2 (.slice Ao2 out2.length co2) (.slice (some ⟨gs, 0, none⟩) (S3.length + 1) cs2) (wr.drew.alloc o)) := Lib.hid (fun o => (HMM2.out.next (Below.refl _ _).drew).next ((Below.refl _ _).alloc (Nat.le_refl _) o))
        have HFEW2 : Hid (out2.length + (S2 ++ [(⟨t.node (twoKind t.text), t.tight, false⟩ : Wt)]).length ≤ I + 1) := Lib.hid (by rw [List.length_append, List.length_singleton]; omega)
        have HLS : Hid ((S2 : List Wt).length ≤ 100000) := Lib.hid (by first | (have := HLEN.out; omega) | (simp; done))
        have hs7 : (S3.length : Int) + 1 ≤ 9223372036854775807 := by omega
        clear hs3 hg3 hf2 hol
        go_upto_region 35 with fail
        clear hs7 hs4 hz hz2 hs5 hs6 y0 y1 y2 y3 y4 y5 y6
        go_wp2_with fail
        go_region_law (refine step_append_own_at rfl (.tmp 191) (.tmp 206) 73 rfl wB.heap.size 78 i2 (.agg #[.int .i64 0, .int .i64 0, .int .i64 0, .int .u32 0, .string ByteArray.empty, .int .i64 0, .bool false]) 7 64 Tryd.underlying73 hi2 wz0 wz1 wz2 rfl (by decide) _ (S2 : List Wt).length (wtCells S2) (by simp [Act.eval]) (HMD.out _).stk ⟨wr.heap.size, 0, none⟩ 1 1 [.int .i64 (twoKind t.text), .int .i64 t.line, .int .i64 t.col, .int .u32 0, .string ⟨#[]⟩, .int .i64 (t.tight : Int), .bool false] (by simp [Act.eval]) rfl (cells_new _ #[.int .i64 (twoKind t.text), .int .i64 t.line, .int .i64 t.col, .int .u32 0, .string ⟨#[]⟩, .int .i64 (t.tight : Int), .bool false] _ _ (by simp)) (by intro u hu; simp at hu; rcases hu with rfl | rfl | rfl | rfl | rfl | rfl | rfl <;> rfl) (by have := HLS.out; unfold maxLen; omega) (by have := HLS.out; omega) (HMD.out _).below.size ?_; intro v' w7 hown7 hg7 _ _; have hm7 := (HMD.out _).wait (x := ⟨t.node (twoKind t.text), t.tight, false⟩) hown7 hg7; obtain ⟨A7, c7, rfl⟩ := own_shape hown7)
        all_goals
          have HM7 := Lib.hid hm7
          clear hm7 hown7 hg7
          go_wp2_with fail
          go_roundg (gK - 1)
          case measure => omega
          case rel => exact ⟨true, I + 1, out2, S2 ++ [⟨t.node (twoKind t.text), t.tight, false⟩], rfl, by go_num, by omega, Lib.hid ⟨HRU3.out, hlt, HFEW2.out, HM7.out, nofun⟩⟩
      | false =>
        rw [ho] at y6
        have HO := Lib.hid ho
        clear ho
        by_cases hh : t.tight ≤ x.how
        · have hhi : (t.tight : Int) ≤ x.how := by omega
          have HRU3 := Lib.hid (mfalse_pop (HS.out ▸ HRU.out) HO.out (by rw [HTA.out]; exact hh))
          have hf3 : (out2 ++ [x.n]).length + S3.length ≤ I := by have := HLEN.out; simp; omega
          have HCN := Lib.hid (cells_new wr #[.int .i64 x.n.kind, .int .i64 x.n.line, .int .i64 x.n.col, .int .u32 x.n.num, .string x.n.name] 54 wr.heap.size rfl)
          have HM4 : Hid (∀ o, RPW wB out2 S2 (.slice Ao2 out2.length co2) (.slice (some ⟨gs, 0, none⟩) (S3.length + 1) cs2) (wr.alloc o)) := Lib.hid (fun o => HMM2.out.next ((Below.refl _ _).alloc (Nat.le_refl _) o))
          go_wp2_with (first | (at_builtin; refine wpList_append_own _ rfl _ _ 43 rfl wB.heap.size 54 i1 (.agg #[.int .i64 0, .int .i64 0, .int .i64 0, .int .u32 0, .string ByteArray.empty]) 5 48 Tryd.underlying43 hi1 nz0 nz1 nz2 rfl (by decide) _ _ _ rfl (HM4.out _).outs ⟨wr.heap.size, 0, none⟩ 1 1 x.n.cells rfl rfl HCN.out (by intro u hu; simp [Nd.cells] at hu; rcases hu with rfl | rfl | rfl | rfl | rfl <;> rfl) (by unfold maxLen; omega) (by omega) (HM4.out _).below.size ?_; intro v' w5 hown' hgrow _; have HM5 := Lib.hid ((HM4.out _).push (n := x.n) hown' hgrow); obtain ⟨A5, c5, rfl⟩ := own_shape hown'; clear hown' hgrow; have HLIT := Lib.hid (World.ownsRow_made (base := wB.heap.size) (e := 78) (size := 7) w5 #[] 0 HM5.out.below.size (Nat.zero_le _) rfl); have HNW : Hid (∀ j u, (wtCells S3)[j]? = some u → (w5.alloc (.cells #[] 78)).cell? ((⟨gs, 0, none⟩ : Addr).add j) = some u) := Lib.hid (fun j u hu => (HM5.out.next ((Below.refl _ _).alloc (Nat.le_refl _) _)).stk.cells (g := gs) rfl j u (by rw [HS.out]; exact wtCells_front S3 x j u hu))) | (at_builtin; refine wpList_append_own _ rfl _ _ 73 rfl wB.heap.size 78 i2 (.agg #[.int .i64 0, .int .i64 0, .int .i64 0, .int .u32 0, .string ByteArray.empty, .int .i64 0, .bool false]) 7 64 Tryd.underlying73 hi2 wz0 wz1 wz2 rfl (by decide) _ 0 [] rfl HLIT.out ⟨gs, 0, none⟩ S3.length cs2 (wtCells S3) rfl (wtCells_len S3) HNW.out (wtCells_one S3) (by unfold maxLen; omega) (by omega) (HM5.out.next ((Below.refl _ _).alloc (Nat.le_refl _) _)).below.size ?_; intro v2 w7 hown2 hgrow2 _; have HM7 := Lib.hid (RPW.drop (x := x) (HS.out ▸ HM5.out.next ((Below.refl _ _).alloc (Nat.le_refl _) _)) hown2 hgrow2 (fun e => by have := (HM5.out.outs.lt _ e).2; omega) HM5.out.below.size); obtain ⟨A7, c7, rfl⟩ := own_shape hown2; clear hown2 hgrow2))
          go_roundg S3.length
          case measure => omega
          case rel => exact ⟨out2 ++ [x.n], S3, Nat.le_refl _, hf3, HRU3, by rw [Nat.zero_add] at HM7; exact HM7⟩
        · have hhi : ¬ (t.tight : Int) ≤ x.how := by omega
          have HRU3 := Lib.hid (mfalse_two HRU.out HT.out HTPOS.out (by rw [HS.out]; exact topLow_app S3 x _ (.inr (by omega))))
          clear HRU
          have f1 : wr.cell? ⟨b, o + I * 6 + 1, none⟩ = some (.int .i64 t.line) := (HCW.out wr HWX.out).2.1
          have f2 : wr.cell? ⟨b, o + I * 6 + 2, none⟩ = some (.int .i64 t.col) := (HCW.out wr HWX.out).2.2.1
          have HMD : Hid (∀ o, RPW wB out2 S2 (.slice Ao2 out2.length co2) (.slice (some ⟨gs, 0, none⟩) (S3.length + 1) cs2) (wr.drew.alloc o)) := Lib.hid (fun o => (HMM2.out.next (Below.refl _ _).drew).next ((Below.refl _ _).alloc (Nat.le_refl _) o))
          have HFEW2 : Hid (out2.length + (S2 ++ [(⟨t.node (twoKind t.text), t.tight, false⟩ : Wt)]).length ≤ I + 1) := Lib.hid (by rw [List.length_append, List.length_singleton]; omega)
          have HLS : Hid ((S2 : List Wt).length ≤ 100000) := Lib.hid (by first | (have := HLEN.out; omega) | (simp; done))
          have hs7 : (S3.length : Int) + 1 ≤ 9223372036854775807 := by omega
          clear hs3 hg3 hf2 hol
          go_upto_region 35 with fail
          clear hs7 hs4 hz hz2 hs5 hs6 y0 y1 y2 y3 y4 y5 y6
          go_wp2_with fail
          go_region_law (refine step_append_own_at rfl (.tmp 191) (.tmp 206) 73 rfl wB.heap.size 78 i2 (.agg #[.int .i64 0, .int .i64 0, .int .i64 0, .int .u32 0, .string ByteArray.empty, .int .i64 0, .bool false]) 7 64 Tryd.underlying73 hi2 wz0 wz1 wz2 rfl (by decide) _ (S2 : List Wt).length (wtCells S2) (by simp [Act.eval]) (HMD.out _).stk ⟨wr.heap.size, 0, none⟩ 1 1 [.int .i64 (twoKind t.text), .int .i64 t.line, .int .i64 t.col, .int .u32 0, .string ⟨#[]⟩, .int .i64 (t.tight : Int), .bool false] (by simp [Act.eval]) rfl (cells_new _ #[.int .i64 (twoKind t.text), .int .i64 t.line, .int .i64 t.col, .int .u32 0, .string ⟨#[]⟩, .int .i64 (t.tight : Int), .bool false] _ _ (by simp)) (by intro u hu; simp at hu; rcases hu with rfl | rfl | rfl | rfl | rfl | rfl | rfl <;> rfl) (by have := HLS.out; unfold maxLen; omega) (by have := HLS.out; omega) (HMD.out _).below.size ?_; intro v' w7 hown7 hg7 _ _; have hm7 := (HMD.out _).wait (x := ⟨t.node (twoKind t.text), t.tight, false⟩) hown7 hg7; obtain ⟨A7, c7, rfl⟩ := own_shape hown7)
          all_goals
            have HM7 := Lib.hid hm7
            clear hm7 hown7 hg7
            go_wp2_with fail
            go_roundg (gK - 1)
            case measure => omega
            case rel => exact ⟨true, I + 1, out2, S2 ++ [⟨t.node (twoKind t.text), t.tight, false⟩], rfl, by go_num, by omega, Lib.hid ⟨HRU3.out, hlt, HFEW2.out, HM7.out, nofun⟩⟩
end Go.Proofs.YtbhfblogjlpnlaaDoor
