/-
  The contract of the program's Fill where no token of the lines is a Param: the lines. Conditions: the lines lie in the memory, at most 100000 of them, each of at most 100000 tokens.
-/
import Derived.Test.YtbhfblogjlpnlabDoorMacShape
import Derived.Test.YtbhfblogjlpnlabDoorErr
namespace Go.Proofs.YtbhfblogjlpnlabDoor
open Go.RowKit

theorem blk_grown {w w' : World} {g : Nat} {t : TypeId} {cs : Array Value} {r : Option Nat} (h : Blk w g t cs) (hg : w.grownBy w' r) (hr : r ≠ some g) : Blk w' g t cs := (hg.block g h.lt (fun e => hr e.symm)).trans h
theorem cellsOf_one_tok (t : Tk6) : cellsOf [t] = t.cells := by
  show t.cells ++ [] = t.cells
  rw [List.append_nil]
theorem cellsOf_snoc (ts : List Tk6) (k : Nat) (t : Tk6) (h : ts[k]? = some t) : cellsOf (ts.take (k + 1)) = cellsOf (ts.take k) ++ [.int .i64 t.kind, .int .i64 t.line, .int .i64 t.col, .string t.text, .int .u32 t.num, .int .i64 t.spare] := by
  obtain ⟨hk, rfl⟩ := List.getElem?_eq_some_iff.1 h
  rw [List.take_succ_eq_append_getElem hk, cellsOf_app, cellsOf_one_tok]
  rfl
theorem tok_one (t : Tk6) : ∀ u ∈ [Value.int .i64 t.kind, .int .i64 t.line, .int .i64 t.col, .string t.text, .int .u32 t.num, .int .i64 t.spare], u.oneCell' = true := by
  intro u hu
  simp at hu
  rcases hu with rfl | rfl | rfl | rfl | rfl | rfl <;> rfl

set_option maxRecDepth 100000 in
set_option maxHeartbeats 4000000 in
theorem filled_is (ts : List Tk6) (nm : ByteArray) (Ap Al Av : Option Addr) (np cp nl cl nv cv : Nat) (lv : Value) (w : World) (hv : Toks w lv ts) (hn : ts.length ≤ 100000) (hk : ∀ t ∈ ts, t.kind ≠ 3) :
    Calls Tryd.prog 52 #[.agg #[.string nm, .slice Ap np cp, .slice Al nl cl], lv, .slice Av nv cv] w fun e w' => (∃ A c, e = .returned (.slice A ts.length c) ∧ w'.ownsRow w.heap.size 56 6 (.slice A ts.length c) ts.length (cellsOf ts)) ∧ Below w.heap.size w w' := by
  obtain ⟨i0, hi, hz0, hz1, hz2⟩ := info_parts Tryd.infoTok
  obtain ⟨A, c, rfl, hc, hcm, hcell⟩ := hv.form
  have HCELL := Lib.hid hcell
  have HK := Lib.hid hk
  have HB0 : Hid (Below w.heap.size w (w.alloc (.cells #[.string nm, .slice Ap np cp, .slice Al nl cl] 41))) := Lib.hid ((Below.refl _ _).alloc (Nat.le_refl _) _)
  clear hv hcell hk
  go_enter Tryd.func52, Tryd.ntmps52
  go_wp2_with fail
  go_loopw [7, 13] (fun v i wr => ∃ k : Nat, k ≤ ts.length ∧ i = .int .i64 k ∧ Hid (wr.ownsRow w.heap.size 56 6 v k (cellsOf (ts.take k))) ∧ Hid (Below w.heap.size w wr)) (fun _ i _ => ts.length - (intOf i).toNat)
  case atStart => exact ⟨0, Nat.zero_le _, rfl, Lib.hid (World.ownsRow_nil _ _ _ _), HB0⟩
  case round =>
    obtain ⟨k, hk, rfl, HO, HX⟩ := hrel
    obtain ⟨Ab, cb, rfl⟩ := own_shape HO.out
    by_cases hlt : k < ts.length
    · have hki : (k : Int) < ts.length := by omega
      have hkc : (k : Int) < c := by omega
      have hkb : (k : Int) ≤ 100000 := by omega
      obtain ⟨t, ht⟩ : ∃ t, ts[k]? = some t := ⟨_, List.getElem?_eq_getElem hlt⟩
      obtain ⟨b, o, rfl, hcs⟩ := HCELL.out k t ht
      obtain ⟨e0, e1, e2, e3, e4, e5⟩ := hcs wr HX.out
      have hkn := HK.out t (List.mem_of_getElem? ht)
      have hkd : (t.kind == 3) = false := beq_eq_false_iff_ne.2 hkn
      have HSN := Lib.hid (cellsOf_snoc ts k t ht)
      have HC2 := Lib.hid (fun (w1 : World) => cells_new w1 #[.int .i64 t.kind, .int .i64 t.line, .int .i64 t.col, .string t.text, .int .u32 t.num, .int .i64 t.spare] 56 w1.heap.size rfl)
      have HWA : Hid (∀ o', Below w.heap.size w (wr.alloc o')) := Lib.hid (fun o' => HX.out.alloc HX.out.size o')
      have hbase : w.heap.size ≤ wr.heap.size := HX.out.size
      clear hcs ht hkn
      go_wp2_with (first | (at_builtin; refine wpList_append_own _ rfl _ _ 30 rfl w.heap.size 56 i0 (.agg #[.int .i64 0, .int .i64 0, .int .i64 0, .string ByteArray.empty, .int .u32 0, .int .i64 0]) 6 56 Tryd.underlying30 hi hz0 hz1 hz2 rfl (by decide) _ _ _ rfl ((HO.out.alloc _).alloc _) ⟨wr.heap.size + 1, 0, none⟩ 1 1 [.int .i64 t.kind, .int .i64 t.line, .int .i64 t.col, .string t.text, .int .u32 t.num, .int .i64 t.spare] (by first | rfl | simp) rfl (by have := HC2.out (wr.alloc (.cells #[.int .i64 t.kind, .int .i64 t.line, .int .i64 t.col, .string t.text, .int .u32 t.num, .int .i64 t.spare] 56)); simpa using this) (tok_one t) (by unfold maxLen; omega) (by omega) (by simp; omega) ?_; intro v' w9 hown' hgrow _; rw [← HSN.out] at hown'; have hb9 : Below w.heap.size w w9 := Below.grown ((HWA.out _).alloc (HWA.out _).size _) hgrow (by simp; omega) (fun x hx => (HO.out.lt x hx).1)))
      have HO9 := Lib.hid hown'
      have HX9 := Lib.hid hb9
      clear hown' hgrow hb9
      go_roundw
      case rel => exact ⟨k + 1, by omega, by go_num, HO9, HX9⟩
      case measure => simp [intOf]; omega
    · obtain rfl : k = ts.length := by omega
      have ho := HO.out
      rw [List.take_length] at ho
      have HO2 := Lib.hid ho
      clear ho
      go_wp2_with fail
      go_ret
      exact ⟨⟨Ab, cb, rfl, HO2.out⟩, HX.out⟩

set_option maxRecDepth 100000 in
set_option maxHeartbeats 4000000 in
theorem fill_is (pss : List (List Tk6)) (nm : ByteArray) (Ap Av : Option Addr) (np cp nv cv : Nat) (vl : Value) (w : World) (hv : TokRows w vl pss) (hn : pss.length ≤ 100000) (hn2 : ∀ ps ∈ pss, ps.length ≤ 100000) (hk : ∀ ps ∈ pss, ∀ t ∈ ps, t.kind ≠ 3) :
    Calls Tryd.prog 30 #[.agg #[.string nm, .slice Ap np cp, vl], .slice Av nv cv] w fun e w' => (∃ A c, e = .returned (.slice A pss.length c) ∧ TokRows w' (.slice A pss.length c) pss) ∧ Below w.heap.size w w' := by
  obtain ⟨i1, hi1, hz0, hz1, hz2⟩ := info_parts Tryd.infoLine
  obtain ⟨Al, cl, rfl, hlc, hlm, hcell⟩ := hv.form
  have HCELL := Lib.hid hcell
  have HK := Lib.hid hk
  have HN2 := Lib.hid hn2
  obtain ⟨wB, hwB⟩ : ∃ wB, w.alloc (.cells #[.string nm, .slice Ap np cp, .slice Al pss.length cl] 41) = wB := ⟨_, rfl⟩
  have hMb : Blk wB w.heap.size 41 #[.string nm, .slice Ap np cp, .slice Al pss.length cl] := by rw [← hwB]; exact Blk.new _ _ _
  have hBb : Below w.heap.size w wB := by rw [← hwB]; exact (Below.refl _ _).alloc (Nat.le_refl _) _
  have hsB : wB.heap.size = w.heap.size + 1 := by rw [← hwB]; simp
  have HWB := Lib.hid hwB
  have HMB := Lib.hid hMb
  have HBB := Lib.hid hBb
  have HSB := Lib.hid hsB
  clear hv hcell hk hn2 hwB hMb hBb hsB
  go_enter Tryd.func30, Tryd.ntmps30
  go_wp2_with (first
    | (at_make; refine wpList_make_own _ rfl _ _ 23 rfl wB.heap.size 30 i1 (.slice none 0 0) 1 Tryd.underlying23 hi1 hz0 hz1 .i64 .i64 _ pss.length rfl rfl (by first | rfl | omega) (by rw [hz2]; omega) (by unfold maxLen; omega) (by rw [HWB.out]; exact Nat.le_refl _) ?_; intro w0 hown0 hgrow0; rw [HWB.out] at hown0 hgrow0; have hm0 : w0.cell? ⟨w.heap.size, 2, none⟩ = some (.slice Al pss.length cl) := (blk_grown HMB.out hgrow0 (by simp)).cell 2))
  have HO0 : Hid (w0.ownsRow wB.heap.size 30 1 (.slice (some ⟨wB.heap.size, 0, none⟩) 0 pss.length) 0 [] ∧ Below wB.heap.size wB w0) := Lib.hid ⟨hown0, Below.grown (Below.refl _ _) hgrow0 (Nat.le_refl _) (fun g h => by cases h)⟩
  rw [HSB.out] at HO0
  clear hown0 hgrow0 hm0
  go_loopw [5, 15] (fun v i wr => ∃ (k : Nat) (us : List Value), k ≤ pss.length ∧ i = .int .i64 k ∧ Hid (wr.ownsRow (w.heap.size + 1) 30 1 v k us) ∧ Hid (RowsAt wr (w.heap.size + 1) us (pss.take k)) ∧ Hid (Below wB.heap.size wB wr)) (fun _ i _ => pss.length - (intOf i).toNat)
  case atStart => exact ⟨0, [], Nat.zero_le _, rfl, Lib.hid HO0.out.1, Lib.hid ⟨rfl, fun i p h => by simp at h⟩, Lib.hid (by rw [HSB.out]; exact HO0.out.2)⟩
  case round =>
    obtain ⟨k, us, hk, rfl, HO, HRW, HX⟩ := hrel
    obtain ⟨Ab, cb, rfl⟩ := own_shape HO.out
    have HBW : Hid (Below w.heap.size w wr) := Lib.hid (HBB.out.trans (HX.out.mono HBB.out.size))
    by_cases hlt : k < pss.length
    · have hki : (k : Int) < pss.length := by omega
      have hkc : (k : Int) < cl := by omega
      have hkb : (k : Int) ≤ 100000 := by omega
      obtain ⟨ps, hps⟩ : ∃ ps, pss[k]? = some ps := ⟨_, List.getElem?_eq_getElem hlt⟩
      obtain ⟨b, o, d, rfl, hd, hdc⟩ := HCELL.out k ps hps
      obtain ⟨Ad, cd, rfl, -⟩ := hd.form
      have r0 := hdc wr HBW.out
      have hMw := HMB.out.below HX.out HMB.out.lt
      have m0 : wr.cell? ⟨w.heap.size, 0, none⟩ = some (.string nm) := hMw.cell 0
      have m1 : wr.cell? ⟨w.heap.size, 1, none⟩ = some (.slice Ap np cp) := hMw.cell 1
      have m2 : wr.cell? ⟨w.heap.size, 2, none⟩ = some (.slice (some ⟨b, o, none⟩) pss.length cl) := hMw.cell 2
      have HFL := Lib.hid (filled_is ps nm Ap (some ⟨b, o, none⟩) Av np cp pss.length cl nv cv (.slice Ad ps.length cd) wr (hd.below HBW.out) (HN2.out ps (List.mem_of_getElem? hps)) (HK.out ps (List.mem_of_getElem? hps)))
      have HTK : Hid (pss.take (k + 1) = pss.take k ++ [ps]) := Lib.hid (by
        obtain ⟨hk2, rfl⟩ := List.getElem?_eq_some_iff.1 hps
        exact List.take_succ_eq_append_getElem hk2)
      have hbase : w.heap.size + 1 ≤ wr.heap.size := by have := HX.out.size; have := HSB.out; omega
      clear hps hd hdc hMw
      go_wp2_with fail
      refine HFL.out.mono ?_
      rintro e w1 ⟨⟨A3, c3, rfl, hu⟩, hb1⟩
      have HB1 := Lib.hid hb1
      have hs1 := hb1.size
      have HUU : Hid (w1.ownsRow (w.heap.size + 1) 56 6 (.slice A3 ps.length c3) ps.length (cellsOf ps)) := Lib.hid (own_base hu hbase)
      have HC2 := Lib.hid (fun (w1 : World) => cells_new w1 #[.slice A3 ps.length c3] 30 w1.heap.size rfl)
      have HX1 : Hid (Below wB.heap.size wB w1) := Lib.hid (HX.out.trans (hb1.mono HX.out.size))
      clear hu hb1
      go_wp2_with (first | (at_builtin; refine wpList_append_own _ rfl _ _ 23 rfl (w.heap.size + 1) 30 i1 (.slice none 0 0) 1 24 Tryd.underlying23 hi1 hz0 hz1 hz2 rfl (by decide) _ _ _ rfl ((own_below HO.out HB1.out).alloc _) ⟨w1.heap.size, 0, none⟩ 1 1 [.slice A3 ps.length c3] rfl rfl (HC2.out w1) (by intro x hx; simp at hx; subst hx; rfl) (by unfold maxLen; omega) (by omega) (by rw [World.size_alloc]; omega) ?_; intro v' w9 hown' hgrow _; have hr9 : RowsAt w9 (w.heap.size + 1) (us ++ [.slice A3 ps.length c3]) (pss.take (k + 1)) := (by rw [HTK.out]; exact (((HRW.out.below HB1.out).snoc HUU.out).below ((Below.refl _ _).alloc (Nat.le_refl _) _)).grown ((own_below HO.out HB1.out).alloc _) hgrow); have hb9 : Below wB.heap.size wB w9 := Below.grown (HX1.out.alloc HX1.out.size _) hgrow (by rw [World.size_alloc]; have := HX1.out.size; omega) (fun x hx => by have := (HO.out.lt x hx).1; have := HSB.out; omega)))
      have HO9 := Lib.hid hown'
      have HR9 := Lib.hid hr9
      have HX9 := Lib.hid hb9
      clear hown' hgrow hr9 hb9
      go_roundw
      case rel => exact ⟨k + 1, _, by omega, by go_num, HO9, HR9, HX9⟩
      case measure => simp [intOf]; omega
    · obtain rfl : k = pss.length := by omega
      have hr := HRW.out
      rw [List.take_length] at hr
      have HTR := Lib.hid (tokRows_of_own HO.out hr)
      clear hr
      go_wp2_with fail
      go_ret
      exact ⟨⟨Ab, cb, rfl, HTR.out⟩, HBW.out⟩
end Go.Proofs.YtbhfblogjlpnlabDoor
