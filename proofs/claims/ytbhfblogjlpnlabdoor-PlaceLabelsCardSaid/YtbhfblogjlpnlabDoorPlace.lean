/-
  The contract of place.Place. Conditions: numbers in their bounds; the items' and the sizes' cells are there; the handle of the type error.
-/
import Derived.Test.YtbhfblogjlpnlabDoorPlInv
namespace Go.Proofs.YtbhfblogjlpnlabDoor
open Go.RowKit Go.Shelf
attribute [local go_sem] Oper.semAt_some

/-- What Place answers. -/
def PlaceOut (p : Pl) (w0 : World) (e : Ending) (w' : World) : Prop :=
  (((∀ k, k < p.n → p.wrong k = 0) ∧ ∃ g, e = .returned (.tuple #[.slice (some ⟨g, 0, none⟩) (p.n + 1) (p.n + 1), .nilIface]) ∧ w'.ownsRow w0.heap.size 35 1 (.slice (some ⟨g, 0, none⟩) (p.n + 1) (p.n + 1)) (p.n + 1) ((List.range (p.n + 1)).map fun k => .int .u32 (p.at_ k))) ∨
   (∃ k, k < p.n ∧ (∀ j, j < k → p.wrong j = 0) ∧ p.wrong k ≠ 0 ∧ ∃ b, e = .returned (.tuple #[.slice none 0 0, .iface 107 (.pointer (some ⟨b, 0, none⟩))]) ∧ w0.heap.size ≤ b ∧ Blk w' b 113 #[.int .i64 (p.F k).L, .int .i64 (p.F k).C, .iface 111 (.int .i64 (p.wrong k))])) ∧ Below w0.heap.size w0 w'

set_option maxRecDepth 100000 in
set_option maxHeartbeats 16000000 in
theorem place_in (p : Pl) (hp : p.Ok) (A : Option Addr) (cap : Nat) (As : Option Addr) (caps : Nat) (w : World) (hg : Handle w) (hF : ItsIn w.heap.size p.F w A p.n) (hS : SzsB w.heap.size p.S w As p.m) :
    CallsIn Fence.wide 6 Tryd.prog 33 #[.slice A p.n cap, .slice As p.m caps, .int .u32 p.base] w (PlaceOut p w) := by
  obtain ⟨i0, hi0, hz0, hz1, hz2⟩ := info_parts Tryd.infoU32
  have hfew := hp.few
  have hmk : ∀ W : World, (Instr.makeSlice 70 (.int .i64 0) (.int .i64 ((p.n : Int) + 1))).run Tryd.prog W = .ok (.slice (some ⟨W.heap.size, 0, none⟩) 0 (p.n + 1)) (W.alloc (.cells (madeCells #[.int .u32 0] (p.n + 1)) 35)) := by
    intro W
    have h := run_make (P := Tryd.prog) W 70 35 i0 (.int .u32 0) Tryd.underlying70 hi0 hz0 .i64 .i64 0 ((p.n : Int) + 1) (Int.le_refl _) (by omega) (by rw [hz2]; omega) (by omega)
    rw [hz1] at h
    have e : ((p.n : Int) + 1).toNat = p.n + 1 := by omega
    rw [e, Nat.mul_one] at h
    exact h
  have HF := Lib.hid hF
  have HS := Lib.hid hS
  have HP := Lib.hid hp
  clear hF hS hp
  refine callsIn_of_wp_marks Tryd.func33 rfl trivial ?_ rfl
  simp only [Tryd.ntmps33, List.size_toArray, List.length_cons, List.length_nil, Nat.reduceAdd, Nat.reduceSub, Array.replicate_succ, Array.replicate_zero, List.push_toArray, List.append_toArray, List.nil_append, List.cons_append]
  gi_wp2_with fail
  refine ⟨trivial, (lying_in 5 A p.n cap As p.m caps p.base _).mono ?_⟩
  rintro e w1 ⟨rfl, rfl⟩
  gi_wp2_with fail
  clear hmk
  obtain ⟨hI0, l1, l2, l3, hsz⟩ := plInv_start p A cap As caps w hfew
  obtain ⟨W0, hW0⟩ : ∃ W0, W0 = ((((((((((w.alloc (.cells #[.slice A p.n cap] 67)).alloc (.cells #[.int .u32 p.base] 35)).alloc (.cells #[.slice none 0 0] 70)).alloc (.cells #[.nilIface] 32)).alloc (.cells (madeCells #[.int .u32 0] (p.n + 1)) 35)).alloc (.cells #[.slice (some ⟨w.heap.size + 1 + 1 + 1 + 1, 0, none⟩) 0 (p.n + 1)] 70)).alloc (.cells #[.int .u32 p.base] 35)).alloc (.cells #[.slice A p.n cap] 67)).alloc (.cells #[.slice As p.m caps] 68)).alloc (.cells #[.int .u32 p.base] 35)) := ⟨_, rfl⟩
  rw [← hW0] at hI0 l1 l2 l3 hsz
  rw [← hW0]
  clear hW0
  refine wpIn_rangeFunc_ownH rfl (by omega) (gf := 74) (lb := #[.pointer (some ⟨w.heap.size + 1 + 1 + 1 + 1 + 1 + 1 + 1 + 1 + 1, 0, none⟩), .pointer (some ⟨w.heap.size + 1 + 1 + 1 + 1 + 1 + 1 + 1, 0, none⟩), .pointer (some ⟨w.heap.size + 1 + 1 + 1 + 1 + 1 + 1 + 1 + 1, 0, none⟩)]) rfl trivial (enters_of Tryd.func74 (by kernel_rfl) rfl)
    (lying_stops p HP.out 5 (by omega) (w.heap.size + 1 + 1 + 1 + 1 + 1 + 1 + 1) w.heap.size (by omega) A cap As caps W0 l1 l2 l3 (HF.out.below hI0.below) (HS.out.below hI0.below)) KpL.trans (fun W l o o' hl => kpL_b (by omega) W l o o' hl) (Below.refl _ _) (fun _ => rfl)
    (PlInv p A cap w.heap.size w) (PlBad p w.heap.size w) (plInv_own (by omega)) (fun c => plBad_own rfl (by omega) c) hI0
    (fun x a' W => ∃ Bx, w.heap.size + 1 + 1 + 1 + 1 + 1 + 1 + 1 + 1 + 1 < Bx ∧ Blk W Bx 122 #[.int .i64 (p.at_ x.1), .int .i64 (p.by_ x.1)] ∧ a' = { tmps := #[.slice A p.n cap, .slice As p.m caps, .int .u32 p.base, .pointer (some ⟨w.heap.size, 0, none⟩), undef, .pointer (some ⟨w.heap.size + 1, 0, none⟩), .pointer (some ⟨w.heap.size + 1 + 1, 0, none⟩), .pointer (some ⟨w.heap.size + 1 + 1 + 1, 0, none⟩), .pointer (some ⟨w.heap.size + 1 + 1 + 1 + 1 + 1, 0, none⟩), .pointer (some ⟨w.heap.size + 1 + 1 + 1 + 1 + 1 + 1, 0, none⟩), .int .i64 (x.1 : Int), .pointer (some ⟨Bx, 0, none⟩), undef, undef, .slice A p.n cap, .int .i64 p.n, .int .i64 ((p.n : Int) + 1), .slice (some ⟨w.heap.size + 1 + 1 + 1 + 1, 0, none⟩) 0 (p.n + 1), .int .u32 p.base, .slice A p.n cap, .slice As p.m caps, .int .u32 p.base, .func (.func 74) #[] #[.pointer (some ⟨w.heap.size + 1 + 1 + 1 + 1 + 1 + 1 + 1 + 1 + 1, 0, none⟩), .pointer (some ⟨w.heap.size + 1 + 1 + 1 + 1 + 1 + 1 + 1, 0, none⟩), .pointer (some ⟨w.heap.size + 1 + 1 + 1 + 1 + 1 + 1 + 1 + 1, 0, none⟩)], .int .i64 (x.1 : Int), .agg #[.int .i64 (p.at_ x.1), .int .i64 (p.by_ x.1)], undef, undef, undef, undef, undef, undef, undef, undef, undef, undef, undef, undef, undef, undef, undef, undef, undef, undef, undef, undef, undef, undef, undef, undef, undef, undef, undef, undef, undef, undef], defers := [] })
    (fun x a' _ X Y row hs hg hr => by obtain ⟨Bx, h1, h2, h3⟩ := hs; exact ⟨Bx, h1, blk_kept h2 hg (fun r e => (hr r e).2), h3⟩)
    ?assign ?body ?done ?stop
  case assign =>
    rintro l pre x W K hI hK
    dsimp only [encL]
    gi_wp2
    have hb := (Below.refl W.heap.size W).alloc (Nat.le_refl _) (.cells #[.int .i64 (p.at_ x.1), .int .i64 (p.by_ x.1)] 122)
    exact hK _ _ ((keepsOthers_below hb).from _) (kpL_below hb (Nat.le_of_lt (Nat.lt_of_le_of_lt (by omega) hI.b9.lt))) (hI.grow hb) ⟨W.heap.size, hI.b9.lt, Blk.new _ _ _, rfl⟩
  case body =>
    rintro l pre x a' W hl ⟨r, hr⟩ hI ⟨Bx, hBx, bX, rfl⟩ hlt
    have hsz9 := hI.b9.lt
    obtain ⟨B, O, hA, hB, hit⟩ := (HF.out.below hI.below) x.1 x.2
    subst hA
    obtain ⟨c0, c1, c2, c3, c4, c5, c6, c7, c8, c9, c10, c11, c12, c13, c14⟩ := hit
    have d0 := hI.b0.cell
    have d1 := hI.b1.cell
    have x0 := bX.cell 0
    have x1 := bX.cell 1
    simp at x0 x1
    have hBl := bX.lt
    have hne5 : Bx ≠ w.heap.size + 1 + 1 + 1 + 1 + 1 := by omega
    have g1 : w.heap.size + 1 < W.heap.size := hI.b1.lt
    have g0 : w.heap.size < W.heap.size := hI.b0.lt
    obtain ⟨s1, s2, s3, s4, s5, s6⟩ := Pl.small HP.out x.2
    obtain ⟨b0, b1⟩ : 0 ≤ p.base ∧ p.base < 4294967296 := ⟨HP.out.b0, HP.out.b1⟩
    have hx := x.2
    have hw := fun W' => wrong_any (p.F x.1) (p.at_ x.1) (p.by_ x.1) p.base s1 (by omega) (by omega) (by omega) b0 b1 W'
    have hgW := hg.below hI.below hg.pos
    have q5 : pre.length + 1 ≤ p.n + 1 := by omega
    clear hfew
    gi_wp2_with fail
    refine ⟨trivial, (CallsIn.inRound l (callsIn_wide.2 (hw _))).mono ?_⟩
    rintro e w2 ⟨rfl, hb2⟩
    have hB2 : Below W.heap.size W w2 := ((Below.refl _ _).alloc (Nat.le_refl _) (.cells (p.F x.1).cs 89)).trans (hb2.mono (by simp))
    have hI2 := hI.grow hB2
    have bX2 := bX.below hB2 hBl
    have y0 := bX2.cell 0
    have y1 := bX2.cell 1
    simp at y0 y1
    have q1 := hb2.cell (p := ⟨W.heap.size, 1, none⟩) (by simp)
    have q2 := hb2.cell (p := ⟨W.heap.size, 2, none⟩) (by simp)
    simp at q1 q2
    have e5 := hI2.b5.cell
    have e6 := hI2.b6.cell
    have hBl2 := bX2.lt
    by_cases hwr : p.wrong x.1 = 0
    · have hcv : codeV (wrongN (p.F x.1) (p.at_ x.1) (p.by_ x.1) p.base) = .nilIface := by
        show codeV (p.wrong x.1) = _
        rw [hwr]; rfl
      rw [hcv]
      obtain ⟨z1, z2, z3⟩ := wrong_zero hwr
      clear hw hcv x0 x1 c0 c1 c2 c3 c4 c5 c6 c7 c8 c9 c10 c11 c12 c13 c14 d0 d1 q1 q2
      gi_wp2_with (gi_at_builtin; refine wpListIn_append_fits _ rfl _ _ 70 rfl w.heap.size 35 i0 1 Tryd.underlying70 hi0 hz1 (w.heap.size + 1 + 1 + 1 + 1) pre.length (p.n + 1) (ats p pre) rfl (hI2.row.alloc _) ⟨w2.heap.size, 0, none⟩ 1 1 [.int .u32 (p.at_ x.1)] rfl rfl (cell_one_new _ _ _) (by intro u hu; simp at hu; subst hu; rfl) q5 ?_; intro w3 hown3 hg3; have ha := (Below.refl w2.heap.size w2).alloc (Nat.le_refl _) (.cells #[.int .u32 (p.at_ x.1)] 35); have hIa := hI2.grow ha; have v5 := hIa.b5.kept hg3 (fun e => by have := Option.some.inj e; omega); have v6 := hIa.b6.kept hg3 (fun e => by have := Option.some.inj e; omega); have bX3 : Blk w3 Bx 122 #[.int .i64 (p.at_ x.1), .int .i64 (p.by_ x.1)] := (hg3.block Bx (Nat.lt_of_lt_of_le hBl2 (by simp)) (fun e => by have := Option.some.inj e; omega)).trans (bX2.alloc _); have v5c := v5.cell; have v5f := v5.frozen; have v6c := v6.cell; have v6f := v6.frozen; have u0 := bX3.cell 0; have u1 := bX3.cell 1; simp at u0 u1; have hl6 := v6.lt; have hlx := bX3.lt; have HN := Lib.hid (plInv_next (o2 := .cells #[.int .i64 (p.at_ x.1), .int .i64 (p.by_ x.1)] 122) hI2 hwr hown3 hg3); clear hown3 hg3 ha hIa v5 v6 bX3 y0 y1 e5 e6)
      refine ⟨trivial, (CallsIn.inRound l (callsIn_wide.2 (end_any (p.at_ x.1) (p.by_ x.1) _ (by omega) (by omega)))).mono ?_⟩
      rintro e w4 ⟨rfl, rfl⟩
      gi_wp2
      exact ⟨((keepsOthers_below hB2).trans HN.out.2.1).from _, (kpL_below hB2 (by omega)).trans HN.out.2.2, HN.out.1⟩
    · have hcv : codeV (wrongN (p.F x.1) (p.at_ x.1) (p.by_ x.1) p.base) = .iface 111 (.int .i64 (p.wrong x.1)) := by
        show codeV (p.wrong x.1) = _
        unfold codeV
        rw [if_neg hwr]
      rw [hcv]
      have hg2 : Handle w2 := hgW.below hB2 hgW.pos
      have hat := at_any (p.F x.1).L (p.F x.1).C (p.wrong x.1) w2 hg2
      have hl0 : W.heap.size < w2.heap.size := World.block_lt_of_cell? _ _ q1
      clear hw hcv x0 x1 c0 c1 c2 c3 c4 c5 c6 c7 c8 c9 c10 c11 c12 c13 c14 d0 d1 y0 y1 e5 e6
      gi_wp2_with fail
      refine ⟨trivial, (CallsIn.inRound l (callsIn_wide.2 hat)).mono ?_⟩
      rintro e w3 ⟨b, rfl, hbs, hblk, hb3⟩
      have hI3 := hI2.grow hb3
      have v2c := hI3.b2.cell
      have v2f := hI3.b2.frozen
      have v3c := hI3.b3.cell
      have v3f := hI3.b3.frozen
      have HN := Lib.hid (plBad_next hI3 hwr (by omega) hblk)
      clear hI3 hblk
      gi_wp2
      exact ⟨(((keepsOthers_below hB2).trans (keepsOthers_below hb3)).trans HN.out.2).from _, HN.out.1⟩
  case done =>
    rintro D ys W hD rfl hI hK
    have e5 := hI.b5.cell
    have e6 := hI.b6.cell
    have hlen : (upF p.n p.n).length = p.n := upF_length (Nat.le_refl _)
    have hrow := hI.row
    rw [hlen] at e5 hrow
    have hsz9 := hI.b9.lt
    gi_wp2_with (gi_at_builtin; refine wpListIn_append_fits _ rfl _ _ 70 rfl w.heap.size 35 i0 1 Tryd.underlying70 hi0 hz1 (w.heap.size + 1 + 1 + 1 + 1) p.n (p.n + 1) (ats p (upF p.n p.n)) rfl (hrow.alloc _) ⟨W.heap.size, 0, none⟩ 1 1 [.int .u32 (endOf p (upF p.n p.n))] rfl rfl (cell_one_new _ _ _) (by intro u hu; simp at hu; subst hu; rfl) (Nat.le_refl _) ?_; intro w3 hown3 hg3; have ha := (Below.refl W.heap.size W).alloc (Nat.le_refl _) (.cells #[.int .u32 (endOf p (upF p.n p.n))] 35); have hIa := hI.grow ha; have v2 := hIa.b2.kept hg3 (fun e => by have := Option.some.inj e; omega); have v3 := hIa.b3.kept hg3 (fun e => by have := Option.some.inj e; omega); have v2c := v2.cell; have v2f := v2.frozen; have v3c := v3.cell; have v3f := v3.frozen; have HN := Lib.hid (plDone hI hown3 hg3); clear hown3 hg3 ha hIa v2 v3 e5 e6)
    obtain ⟨h1, h2, h3, h4, h5⟩ := HN.out
    have hK' := h1.same D _ hK rfl
    refine ⟨by simp, .inl ⟨_, _, rfl, run_takeDeferred hK', ?_⟩⟩
    have r2 := cell_kept h3.cell (grownBy_putObj' _ D (.deferred none)) (fun r e => by cases e; exact ⟨_, hK', rfl⟩)
    have r3 := cell_kept h4.cell (grownBy_putObj' _ D (.deferred none)) (fun r e => by cases e; exact ⟨_, hK', rfl⟩)
    refine ⟨.tuple #[.slice (some ⟨w.heap.size + 1 + 1 + 1 + 1, 0, none⟩) (p.n + 1) (p.n + 1), .nilIface], by simp [results, Tryd.f33, go_sem, r2, r3], .inl ⟨fun k hk => hI.good ⟨k, hk⟩ (mem_upF hk (Nat.le_refl _) hk), _, rfl, ownsRow_putObj h5 _ hK' rfl⟩, h2.trans (belowK_b (w := w) (Nat.le_refl _) _ D _ _ (by omega) hK' rfl rfl)⟩
  case stop =>
    rintro D c pre W hD ⟨k, hk, rfl⟩ ⟨⟨rfl, ini, last, e1, e2, e3, b, e4, e5, e6, e7⟩, hB⟩ hK
    gi_wp2
    refine ⟨by simp, .inl ⟨_, _, rfl, run_takeDeferred hK, ?_⟩⟩
    have r2 := cell_kept e4.cell (grownBy_putObj' _ D (.deferred none)) (fun r e => by cases e; exact ⟨_, hK, rfl⟩)
    have r3 := cell_kept e5.cell (grownBy_putObj' _ D (.deferred none)) (fun r e => by cases e; exact ⟨_, hK, rfl⟩)
    obtain ⟨k', rfl⟩ : ∃ k', k = k' + 1 := by
      cases k with
      | zero => simp [upF] at e1
      | succ k' => exact ⟨k', rfl⟩
    have hkn : k' < p.n := by omega
    rw [upF_succ hkn] at e1
    obtain ⟨rfl, e8⟩ := List.append_inj' e1 rfl
    obtain rfl : (⟨k', hkn⟩ : Fin p.n) = last := by simpa using e8
    refine ⟨.tuple #[.slice none 0 0, .iface 107 (.pointer (some ⟨b, 0, none⟩))], by simp [results, Tryd.f33, go_sem, r2, r3], .inr ⟨k', hkn, fun j hj => e2 ⟨j, by omega⟩ (mem_upF (by omega) (by omega) hj), e3, b, rfl, by omega, blk_kept e7 (grownBy_putObj' _ D (.deferred none)) (fun r e => by cases e; exact ⟨_, hK, rfl⟩)⟩, hB.trans (belowK_b (w := w) (Nat.le_refl _) W D _ _ (by omega) hK rfl rfl)⟩

/-- The same, without the fence. -/
theorem place_any (p : Pl) (hp : p.Ok) (A : Option Addr) (cap : Nat) (As : Option Addr) (caps : Nat) (w : World) (hg : Handle w) (hF : ItsIn w.heap.size p.F w A p.n) (hS : SzsB w.heap.size p.S w As p.m) :
    Calls Tryd.prog 33 #[.slice A p.n cap, .slice As p.m caps, .int .u32 p.base] w (PlaceOut p w) := callsIn_wide.1 (place_in p hp A cap As caps w hg hF hS)
end Go.Proofs.YtbhfblogjlpnlabDoor
