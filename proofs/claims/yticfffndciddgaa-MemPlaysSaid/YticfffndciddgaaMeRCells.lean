/-
  The contract of the reference's Cells (draft).
-/
import Derived.Test.YticfffndciddgaaMeRApp
import Derived.Deep.DeepCutAuto
import Derived.Deep.RegionHeld3
import Derived.Deep.CutBlock
namespace Go.Proofs.Yticfffndciddgaa
open Go.RowKit Go.Maps

/-- The list so far: in order, and what it holds. -/
structure OutIs (l : List (Int × Int)) (i : Nat) (out : List (Int × Int)) : Prop where
  rise : out.Pairwise (fun x y => x.1 < y.1)
  mem : ∀ x, x ∈ out ↔ x ∈ l.take i ∧ x.2 ≠ 0
  le : out.length ≤ i

theorem OutIs.upto {l out : List (Int × Int)} {i t : Nat} {a : Int} {y : Int × Int} (h : OutIs l i out) (hy : out[t]? = some y) (hlt : y.1 < a) : ∀ z ∈ out.take (t + 1), z.1 < a := by
  intro z hz
  rw [List.take_add_one, hy] at hz
  rcases List.mem_append.1 hz with q | q
  · have hr := h.rise
    rw [← List.take_append_drop t out, List.pairwise_append] at hr
    have hyd : y ∈ out.drop t := List.mem_iff_getElem?.2 ⟨0, by rw [List.getElem?_drop]; exact hy⟩
    have := hr.2.2 z q y hyd
    omega
  · simp at q
    subst q
    exact hlt
theorem OutIs.from {l out : List (Int × Int)} {i t : Nat} {a : Int} {y : Int × Int} (_ : OutIs l i out) (hy : out[t]? = some y) (hlt : a < y.1) (hd : ∀ z ∈ out.drop (t + 1), a < z.1) : ∀ z ∈ out.drop t, a < z.1 := by
  intro z hz
  obtain ⟨ht, e⟩ := List.getElem?_eq_some_iff.1 hy
  rw [List.drop_eq_getElem_cons ht, e] at hz
  rcases List.mem_cons.1 hz with q | q
  · subst q; exact hlt
  · exact hd z q
theorem OutIs.apart {l out : List (Int × Int)} {i : Nat} {x y : Int × Int} (h : OutIs l i out) (hd : (l.map (·.1)).Nodup) (hx : l[i]? = some x) (hy : y ∈ out) : y.1 ≠ x.1 := by
  intro e
  have h1 := ((h.mem y).1 hy).1
  obtain ⟨hi, hxe⟩ := List.getElem?_eq_some_iff.1 hx
  rw [← List.take_append_drop i l, List.map_append, List.nodup_append] at hd
  refine hd.2.2 y.1 (List.mem_map.2 ⟨y, h1, rfl⟩) x.1 (List.mem_map.2 ⟨x, ?_, rfl⟩) e
  rw [List.drop_eq_getElem_cons hi, hxe]
  exact List.mem_cons_self ..
theorem OutIs.step {l out : List (Int × Int)} {i j : Nat} {x : Int × Int} (h : OutIs l i out) (hx : l[i]? = some x) (hz : ¬ x.2 = 0) (h1 : ∀ y ∈ out.take j, y.1 < x.1) (h2 : ∀ y ∈ out.drop j, x.1 < y.1) : OutIs l (i + 1) (out.take j ++ x :: out.drop j) := by
  refine ⟨rise_ins h.rise h1 h2, fun y => ?_, ?_⟩
  · rw [List.take_add_one, hx]
    have hm : y ∈ out ↔ y ∈ out.take j ∨ y ∈ out.drop j := by
      rw [← List.mem_append, List.take_append_drop]
    have := h.mem y
    simp only [List.mem_append, List.mem_cons, Option.toList_some, List.mem_singleton]
    constructor
    · rintro (q | q | q)
      · exact ⟨.inl (this.1 (hm.2 (.inl q))).1, (this.1 (hm.2 (.inl q))).2⟩
      · subst q; exact ⟨.inr (by simp), hz⟩
      · exact ⟨.inl (this.1 (hm.2 (.inr q))).1, (this.1 (hm.2 (.inr q))).2⟩
    · rintro ⟨q | q, q2⟩
      · rcases hm.1 (this.2 ⟨q, q2⟩) with q3 | q3
        · exact .inl q3
        · exact .inr (.inr q3)
      · exact .inr (.inl (by simpa using q))
  · have := h.le
    have e := congrArg List.length (List.take_append_drop j out)
    rw [List.length_append] at e ⊢
    rw [List.length_cons]
    omega
theorem ownsRow_one (w : World) (B : Nat) (a b : Value) (t : TypeId) (hB : B ≤ w.heap.size) : (w.alloc (.cells #[a, b] t)).ownsRow B t 2 (.slice (some ⟨w.heap.size, 0, none⟩) 1 1) 1 [a, b] :=
  ⟨rfl, .inr ⟨_, 1, _, rfl, hB, heap_alloc_new w _, Nat.le_refl _, by simp [maxLen], rfl, rfl⟩⟩
theorem ownsRow_zero (w : World) (B : Nat) (t : TypeId) (hB : B ≤ w.heap.size) : (w.alloc (.cells #[] t)).ownsRow B t 2 (.slice (some ⟨w.heap.size, 0, none⟩) 0 0) 0 [] :=
  ⟨rfl, .inr ⟨_, 0, _, rfl, hB, heap_alloc_new w _, Nat.le_refl _, by simp [maxLen], rfl, rfl⟩⟩

set_option maxRecDepth 100000 in
set_option maxHeartbeats 2000000 in
theorem rcells_is {B r : Nat} {w : World} {l : List (Int × Int)} (h : RefIs B w r l) (hl : l.length ≤ 90000) :
    Calls Try.prog 19 #[.pointer (some ⟨r, 0, none⟩)] w (CellsOut w (lookF l)) := by
  obtain ⟨i1, hi1, hz0, hz1, hz2⟩ := info_parts Try.infoCell
  obtain ⟨A, c, h1, hR⟩ := h.open
  have hrl := h.lt
  have hlc := hR.le
  have HR := Lib.hid hR
  have H := Lib.hid h
  have H1 := Lib.hid h1
  clear hR h h1
  go_enter Try.func19, Try.ntmps19
  go_wp2_with fail
  go_loopg [3, 4] (l.length + 1) (fun k vo vi wr => ∃ (i : Nat) (Ao : Option Addr) (n co : Nat) (out : List (Int × Int)), vo = .slice Ao n co ∧ vi = .int .i64 i ∧ i ≤ l.length ∧ l.length + 1 ≤ i + k ∧ out.length = n ∧ n ≤ 90000 ∧ Hid (OutIs l i out ∧ RowAt w.heap.size wr Ao co out ∧ Below w.heap.size w wr))
  case atStart => exact ⟨0, none, 0, 0, [], rfl, rfl, Nat.zero_le _, by omega, rfl, by omega, Lib.hid ⟨⟨List.Pairwise.nil, fun x => by simp, Nat.le_refl _⟩, ⟨World.ownsRow_nil _ _ _ _, Nat.le_refl _, by simp [maxLen], fun i x hx => by simp at hx⟩, Below.refl _ _⟩⟩
  case round =>
    obtain ⟨i, Ao, n, co, out, rfl, rfl, hi, hk, hn, hn9, HI⟩ := hrel
    have hb := HI.out.2.2
    have hcr : wr.cell? ⟨r, 0, none⟩ = some (.slice A l.length c) := by
      have := (hb.block r hrl).trans H1.out
      simp [World.cell?, this]
    by_cases hlt : i < l.length
    · have hlti : (i : Int) < l.length := by omega
      have hic : (i : Int) < c := by omega
      obtain ⟨x, hx⟩ : ∃ x, l[i]? = some x := ⟨_, List.getElem?_eq_getElem hlt⟩
      obtain ⟨g, rfl, hBg, hg, e0, e1, _⟩ := HR.out.at_ i x hx
      have e2 := (hb.cell (p := ⟨g, i * 2, none⟩) hg).trans e0
      have e3 := (hb.cell (p := ⟨g, i * 2 + 1, none⟩) hg).trans e1
      clear hb e0 e1
      by_cases hz : x.2 = 0
      · have hzb : (x.2 == 0) = true := by rw [hz]; simp
        have HX : Hid (OutIs l (i + 1) out ∧ RowAt w.heap.size wr Ao co out ∧ Below w.heap.size w wr) := Lib.hid ⟨⟨HI.out.1.rise, fun y => (HI.out.1.mem y).trans (by
          rw [List.take_add_one, hx]
          simp only [Option.toList_some, List.mem_append, List.mem_singleton]
          constructor
          · rintro ⟨q1, q2⟩; exact ⟨.inl q1, q2⟩
          · rintro ⟨q1 | q1, q2⟩
            · exact ⟨q1, q2⟩
            · subst q1; exact absurd hz q2), Nat.le_succ_of_le HI.out.1.le⟩, HI.out.2⟩
        clear hx
        go_wp2_with fail
        go_roundg (l.length - i)
        case measure => omega
        case rel => exact ⟨i + 1, Ao, n, co, out, rfl, by go_num, by omega, by omega, hn, hn9, HX⟩
      · have hzb : (x.2 == 0) = false := beq_eq_false_iff_ne.2 hz
        have hRB := HI.out.2.1
        have hco := hRB.le
        have hcm := hRB.max
        have HX : Hid (l[i]? = some x) := Lib.hid hx
        clear hx hRB
        have hrk : r < wr.heap.size := Nat.lt_of_lt_of_le hrl HI.out.2.2.size
        have hgk2 : g < wr.heap.size := Nat.lt_of_lt_of_le hg HI.out.2.2.size
        go_upto_block 2 with fail
        go_cut [5] (fun vk wx => ∃ (j : Nat), vk = .int .i64 j ∧ j ≤ n ∧ Hid (Below wr.heap.size wr wx ∧ (∀ y ∈ out.take j, y.1 < x.1) ∧ (∀ y ∈ out.drop j, x.1 < y.1)))
        case first =>
          refine wp_block ?_
          go_loopg [5] (n + 1) (fun fu vk wx => ∃ (j : Nat), vk = .int .i64 j ∧ j ≤ n ∧ j + 1 ≤ fu ∧ Hid (Below wr.heap.size wr wx ∧ (∀ y ∈ out.drop j, x.1 < y.1)))
          case atStart => exact ⟨n, rfl, Nat.le_refl _, Nat.le_refl _, Lib.hid ⟨Below.refl _ _, fun y hy => by rw [← hn, List.drop_length] at hy; cases hy⟩⟩
          case round =>
            obtain ⟨j, rfl, hj, hf, HJ⟩ := hrel
            have hbk := HJ.out.1
            have ck := (hbk.cell (p := ⟨r, 0, none⟩) hrk).trans hcr
            have d2 := (hbk.cell (p := ⟨g, i * 2, none⟩) hgk2).trans e2
            clear hcr e2 e3
            go_wp2_with fail
            by_cases h0 : 0 < j
            · obtain ⟨t, rfl⟩ : ∃ t, j = t + 1 := ⟨j - 1, by omega⟩
              have h0i : (0 : Int) < ((t + 1 : Nat) : Int) := by omega
              have ht : t < out.length := by omega
              obtain ⟨y, hy⟩ : ∃ y, out[t]? = some y := ⟨_, List.getElem?_eq_getElem ht⟩
              obtain ⟨ga, rfl, _, hga, f0, _, _⟩ := HI.out.2.1.at_ t y hy
              have f2 := (hbk.cell (p := ⟨ga, t * 2, none⟩) hga).trans f0
              clear f0
              by_cases hgt : x.1 < y.1
              · have HN : Hid (∀ z ∈ out.drop t, x.1 < z.1) := Lib.hid (HI.out.1.from hy hgt HJ.out.2)
                clear hy hbk
                go_quiet (fail)
                go_wp2_with fail
                go_roundg (t + 1)
                case measure => omega
                case rel => exact ⟨t, by go_num, by omega, by omega, Lib.hid ⟨(HJ.out.1.trans (bdrew (Below.refl _ _))), HN.out⟩⟩
              · have HN : Hid (∀ z ∈ out.take (t + 1), z.1 < x.1) := Lib.hid (HI.out.1.upto hy (by
                  have := HI.out.1.apart H.out.nodup HX.out (List.mem_of_getElem? hy)
                  omega))
                clear hy hbk
                go_quiet (fail)
                go_wp2_with fail
                go_meet
                case rel => exact ⟨t + 1, rfl, hj, Lib.hid ⟨(HJ.out.1.trans (bdrew (Below.refl _ _))), HN.out, HJ.out.2⟩⟩
            · obtain rfl : j = 0 := by omega
              have h0i : ¬ (0 : Int) < ((0 : Nat) : Int) := by omega
              clear hbk
              go_quiet (fail)
              go_wp2_with fail
              go_meet
              case rel => exact ⟨0, rfl, hj, Lib.hid ⟨(HJ.out.1.trans (bdrew (Below.refl _ _))), fun y hy => by simp at hy, HJ.out.2⟩⟩
        case rest =>
          obtain ⟨j, rfl, hj, HJ⟩ := hcut
          have hbk := HJ.out.1
          have c0 := (hbk.cell (p := ⟨r, 0, none⟩) hrk).trans hcr
          have c1 := (hbk.cell (p := ⟨g, i * 2, none⟩) hgk2).trans e2
          have c2 := (hbk.cell (p := ⟨g, i * 2 + 1, none⟩) hgk2).trans e3
          clear hcr e2 e3
          go_wp2_with fail
          have hrc : r < wc.heap.size := Nat.lt_of_lt_of_le hrk hbk.size
          have hgc : g < wc.heap.size := Nat.lt_of_lt_of_le hgk2 hbk.size
          have hwc : w.heap.size ≤ wc.heap.size := Nat.le_trans HI.out.2.2.size hbk.size
          have C := Lib.hid (And.intro c0 (And.intro c1 c2))
          have UA : Hid (∀ W, Below wc.heap.size wc W → W.cell? ⟨r, 0, none⟩ = some (.slice (some ⟨g, 0, none⟩) l.length c) ∧ W.cell? ⟨g, i * 2, none⟩ = some (.int .u32 x.1) ∧ W.cell? ⟨g, i * 2 + 1, none⟩ = some (.int .u8 x.2)) := Lib.hid fun W h => ⟨(h.cell (p := ⟨r, 0, none⟩) hrc).trans C.out.1, (h.cell (p := ⟨g, i * 2, none⟩) hgc).trans C.out.2.1, (h.cell (p := ⟨g, i * 2 + 1, none⟩) hgc).trans C.out.2.2⟩
          have hji0 : (0 : Int) ≤ (j : Int) := by omega
          have hji : (j : Int) ≤ (n : Int) := by omega
          have HB := Lib.hid hbk
          clear hbk
          go_region_held3 (fun W => W.cell? ⟨r, 0, none⟩ = some (.slice (some ⟨g, 0, none⟩) l.length c) ∧ W.cell? ⟨g, i * 2, none⟩ = some (.int .u32 x.1) ∧ W.cell? ⟨g, i * 2 + 1, none⟩ = some (.int .u8 x.2))
            (first | exact ⟨c0, c1, c2⟩ | exact UA.out _ (by assumption) | exact UA.out _ (Below.refl _ _).drew | exact UA.out _ (((Below.refl _ _).drew).alloc (Nat.le_refl _) _) | go_keep)
            (first | ((refine step_append_own_src rfl (.tmp 55) (.tmp 58) 22 rfl w.heap.size 47 i1 (.agg #[.int .u32 0, .int .u8 0]) 2 8 Try.underlying22 hi1 hz0 hz1 hz2 rfl (by decide) (.slice (some ⟨wc.heap.size, 0, none⟩) 1 1) 1 [.int .u32 x.1, .int .u8 x.2] (by simp [Act.eval]) (ownsRow_one wc.drew _ _ _ _ hwc) _ (n - j) (co - j) (flat (out.drop j)) (by simp [Act.eval]; rfl) (by rw [flat_len, List.length_drop, hn]) (HI.out.2.1.from (HB.out.drew.alloc HB.out.size _) (fun g hk hA => by subst hA; rw [if_neg hk]; simp [Addr.add]; intro _; omega)) (flat_one _) (by unfold maxLen; omega) (by omega) (Nat.le_trans hwc (by simp)) ?_); intro v' w3 hown3 hg3; have hb3 : Below wc.heap.size wc w3 := (((Below.refl _ _).drew).alloc (Nat.le_refl _) _).grown hg3 (by simp) (fun k q => Nat.le_of_eq (Option.some.inj q))))
          have hl3 : (x :: out.drop j).length = 1 + (n - j) := by rw [List.length_cons, List.length_drop, hn]; omega
          obtain ⟨A3, c3, rfl, R3⟩ := RowAt.of_own (l := x :: out.drop j) hl3 (by
            have e : flat (x :: out.drop j) = [.int .u32 x.1, .int .u8 x.2] ++ flat (out.drop j) := by simp [flat]
            rw [e]
            exact hown3)
          have HR3 := Lib.hid R3
          have HB3 := Lib.hid hb3
          have hw3 : w.heap.size ≤ w3.heap.size := Nat.le_trans hwc hb3.size
          have hn1 : n + 1 ≤ 90000 := by have := HI.out.1.le; omega
          have hl5 : (out.take j ++ x :: out.drop j).length = n + 1 := by
            rw [List.length_append, hl3, List.length_take]
            omega
          clear hown3 hg3 hb3 R3 c0 c1 c2
          go_wp2_with (first
            | (at_builtin; refine wpList_append_own_src _ rfl (.tmp 60) (.tmp 63) 22 rfl w.heap.size 47 i1 (.agg #[.int .u32 0, .int .u8 0]) 2 8 Try.underlying22 hi1 hz0 hz1 hz2 rfl (by decide) (.slice (some ⟨w3.heap.size, 0, none⟩) 0 0) 0 [] rfl (ownsRow_zero w3 _ _ hw3) _ j co (flat (out.take j)) rfl (by rw [flat_len, List.length_take, hn]; omega) (HI.out.2.1.upto ((HB.out.trans (HB3.out.mono HB.out.size)).alloc (Nat.le_trans HB.out.size HB3.out.size) _) (fun g hk hA => by subst hA; first | rfl | (rw [if_neg hk]; simp [Addr.add]))) (flat_one _) (by unfold maxLen; omega) (by omega) (Nat.le_trans hw3 (by simp)) ?_; intro v4 w4 hown4 hg4; have hb4 : Below w3.heap.size w3 w4 := ((Below.refl _ _).alloc (Nat.le_refl _) _).grown hg4 (by simp) (fun k q => Nat.le_of_eq (Option.some.inj q)))
            | (at_builtin; go_loud (refine wpList_append_own_src _ rfl (.tmp 64) (.tmp 65) 22 rfl w.heap.size 47 i1 (.agg #[.int .u32 0, .int .u8 0]) 2 8 Try.underlying22 hi1 hz0 hz1 hz2 rfl (by decide) _ (0 + j) ([] ++ flat (out.take j)) rfl hown4 _ (1 + (n - j)) c3 (flat (x :: out.drop j)) rfl (by rw [flat_len, hl3]) (HR3.out.all hb4) (flat_one _) (by unfold maxLen; omega) (by omega) (Nat.le_trans hw3 hb4.size) ?_); intro v5 w5 hown5 hg5; obtain ⟨A5, c5, rfl, R5⟩ := RowAt.of_own (l := out.take j ++ x :: out.drop j) (n := n + 1) hl5 (by rw [flat_app]; rw [show n + 1 = 0 + j + (1 + (n - j)) by omega]; exact hown5)))
          all_goals
            have HX : Hid (OutIs l (i + 1) (out.take j ++ x :: out.drop j) ∧ RowAt w.heap.size w5 A5 c5 (out.take j ++ x :: out.drop j) ∧ Below w.heap.size w w5) := Lib.hid ⟨HI.out.1.step HX.out hz HJ.out.2.1 HJ.out.2.2, R5, (HI.out.2.2.trans ((HB.out.trans ((HB3.out.trans (hb4.mono HB3.out.size)).mono HB.out.size)).mono HI.out.2.2.size)).grown hg5 (Nat.le_trans hw3 hb4.size) (fun k q => (hown4.lt k q).1)⟩
            clear R5 hown5 hown4 hg5 hg4 hb4
            go_roundg (l.length - i)
            case measure => omega
            case rel => exact ⟨i + 1, A5, n + 1, c5, _, rfl, by go_num, by omega, by omega, hl5, hn1, HX⟩
    · have hlti : ¬ (i : Int) < l.length := by omega
      obtain rfl : i = l.length := by omega
      have HL : Hid (Listed (lookF l) out) := Lib.hid (listed_look H.out.nodup H.out.ok HI.out.1.rise fun y => by
        have := HI.out.1.mem y
        rwa [List.take_length] at this)
      have HE : Hid (CellsOut w (lookF l) (.returned (.slice Ao n co)) wr) := Lib.hid (by
        have hR := HI.out.2.1
        refine CellsOut.mk hn.symm hR.le hR.max HL.out ⟨fun j y hy => ?_, fun y hy => H.out.ok y ?_⟩ (by omega) HI.out.2.2
        · obtain ⟨g, q1, _, q2, q3, q4, _⟩ := hR.at_ j y hy
          exact ⟨g, 0, q1, q2, by rw [Nat.zero_add]; exact q3, by rw [Nat.zero_add]; exact q4⟩
        · have := ((HI.out.1.mem y).1 hy).1
          exact List.mem_of_mem_take this)
      go_wp2_with fail
      go_ret
      exact HE.out
end Go.Proofs.Yticfffndciddgaa
