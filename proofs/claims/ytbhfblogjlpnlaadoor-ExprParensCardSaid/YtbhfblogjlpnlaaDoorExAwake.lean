/-
  The expressions' own check answers true. Condition: the handle of the type error.
-/
import Derived.Test.YtbhfblogjlpnlaaDoorExParse
import Derived.Test.YtbhfblogjlpnlaaDoorKept
import Derived.Lib.SlBytesConst
namespace Go.Proofs.YtbhfblogjlpnlaaDoor
open Go.RowKit

theorem lit_cells (w : World) (s : ByteArray) (cs : Array Value) (fz : Nat × Nat) (h : cs.toList = s.data.toList.map (fun c => Value.int .u8 (c.toNat : Int))) : ∀ j (hj : j < s.size), (w.alloc (.cells cs 5 fz)).cell? ⟨w.heap.size, 0 + j, none⟩ = some (.int .u8 ((s[j]'hj).toNat : Int)) := by
  intro j hj
  rw [Nat.zero_add, cell_of_row _ w.heap.size j _ 5 fz (heap_alloc_new w _), ← Array.getElem?_toList, h, List.getElem?_map]
  have h2 : j < s.data.toList.length := by simpa using hj
  rw [List.getElem?_eq_getElem h2]
  rfl
theorem tame_nil : Tame [] := ⟨by decide, (fun t ht => nomatch ht), (fun t ht => nomatch ht)⟩
theorem tame_E : Tame tkE := tame_line (s := srcE.data.toList) readE (by decide) (List.mem_singleton.2 rfl) 1

/-- Nodes in the memory. -/
theorem nodes_of_own {w : World} {base : Nat} {v : Value} {ns : List Nd} (h : w.ownsRow base 54 5 v ns.length (ndCells ns)) (h0 : 0 < ns.length) : ∃ g c, v = .slice (some ⟨g, 0, none⟩) ns.length c ∧ ns.length ≤ c ∧ c ≤ maxLen ∧ g < w.heap.size ∧ ∀ (i : Nat) (n : Nd), ns[i]? = some n → ∀ (j : Nat) (u : Value), n.cells[j]? = some u → w.cell? ⟨g, i * 5 + j, none⟩ = some u := by
  rcases h.2 with ⟨_, hz⟩ | ⟨g, cap, cur, hv, hg, hh, hc, hm, _⟩
  · omega
  · subst hv
    refine ⟨g, cap, rfl, hc, hm, (Array.getElem?_eq_some_iff.1 hh).1, fun i n hi j u hj => ?_⟩
    have hat : ∀ (ns : List Nd) (i : Nat), ns[i]? = some n → (ndCells ns)[i * 5 + j]? = some u := by
      intro ns
      have h5 : n.cells.length = 5 := rfl
      have hj5 : j < 5 := by have := (List.getElem?_eq_some_iff.1 hj).1; omega
      induction ns with
      | nil => intro i h; simp at h
      | cons m ms ih =>
        intro i h
        have hc : ndCells (m :: ms) = m.cells ++ ndCells ms := rfl
        have hm5 : m.cells.length = 5 := rfl
        cases i with
        | zero =>
          simp at h
          subst h
          rw [hc, List.getElem?_append_left (by omega), Nat.zero_mul, Nat.zero_add]
          exact hj
        | succ i =>
          simp at h
          rw [hc, List.getElem?_append_right (by omega), hm5]
          have := ih i h
          rwa [show (i + 1) * 5 + j - 5 = i * 5 + j by omega]
    have := h.cells (g := g) rfl _ u (hat ns i hi)
    rwa [addr0] at this

set_option maxRecDepth 100000 in
set_option maxHeartbeats 4000000 in
theorem eawake_any (w : World) (hg : Handle w) : Calls Tryd.prog 16 #[] w fun e w' => e = .returned (.bool true) ∧ Below w.heap.size w w' := by
  have hconst := fun (w : World) (C : Array Value) (n c : Nat) => Lib.run_convert_bytes_const (P := Tryd.prog) w 22 5 C n c Tryd.underlying22 Tryd.underlying5
  have HG := Lib.hid hg
  have HL := Lib.hid (lines_any srcE w.heap.size 0 7 [lineE] none (w.alloc (.cells (#[.int .u8 49, .int .u8 43, .int .u8 50, .int .u8 42, .int .u8 45, .int .u8 120, .int .u8 44] : Array Value) 5 (7, 8))) (by decide) (by decide) (by decide) readE (by simp) (lit_cells w srcE _ _ rfl))
  have HBA : Hid (∀ o, Below w.heap.size w (w.alloc o)) := Lib.hid (fun o => (Below.refl _ _).alloc (Nat.le_refl _) o)
  clear hg
  go_enter Tryd.func16, Tryd.ntmps16
  go_wp2_with fail
  refine HL.out.mono ?_
  rintro e w1 ⟨⟨v, us, rfl, hown, hlines⟩, hb1⟩
  have hl3 : ([lineE] : List (List Piece)).length = 1 := rfl
  obtain ⟨g, cp, rfl, hcp, hgl, hrow⟩ : ∃ g cp, v = .slice (some ⟨g, 0, none⟩) 1 cp ∧ 1 ≤ cp ∧ g < w1.heap.size ∧ ∀ (i : Nat) (u : Value), us[i]? = some u → w1.cell? ⟨g, i, none⟩ = some u := by
    rcases hown.2 with ⟨_, h0⟩ | ⟨g, cap, cur, hv, hg, hh, hc, hm, _⟩
    · rw [hl3] at h0
      cases h0
    · subst hv
      refine ⟨g, cap, rfl, hc, (Array.getElem?_eq_some_iff.1 hh).1, fun i u hu => ?_⟩
      have := hown.cells (g := g) rfl i u hu
      rwa [addr0] at this
  obtain ⟨u0, hu0, ho0⟩ := hlines.2 0 lineE rfl
  have ht0 : Toks w1 u0 tkE := toks_line hlines (i := 0) rfl hu0
  have HB1 : Hid (Below w.heap.size w w1) := Lib.hid ((HBA.out _).trans (hb1.mono (by simp)))
  obtain ⟨A0, d0, rfl, -⟩ := ht0.form
  have HROW := Lib.hid (fun W (hW : Below w1.heap.size w1 W) => ((hW.cell (p := ⟨g, 0, none⟩) hgl).trans (hrow 0 _ hu0) : W.cell? ⟨g, 0, none⟩ = some (.slice A0 tkE.length d0)))
  have HT0 := Lib.hid ht0
  have hcp2 : (1 : Int) ≤ cp := by omega
  clear hown hlines hb1 hrow hu0 ho0 ht0 HL HBA
  have hup : ∀ o, Below w1.heap.size w1 (w1.alloc o) := fun o => (Below.refl _ _).alloc (Nat.le_refl _) o
  have r0 : ∀ o', (w1.alloc o').cell? ⟨g, 0, none⟩ = some (.slice A0 tkE.length d0) := fun o' => HROW.out _ (hup o')
  have HH0 := Lib.hid (fun o' => parse_is tkE _ _ (w1.alloc o') (HG.out.below (HB1.out.alloc HB1.out.size o') HG.out.pos) tame_E (HT0.out.below (hup o')) runE)
  have HUP := Lib.hid hup
  clear hup
  go_wp2_with fail
  refine (HH0.out _).mono ?_
  rintro e w2 ⟨vn, A, cr, rfl, hown, htr, hb2⟩
  have HB2 : Hid (Below w1.heap.size w1 w2) := Lib.hid ((HUP.out _).trans (hb2.mono (by simp)))
  have h6 : ndE.length = 6 := rfl
  obtain ⟨gn, cn, rfl, hcn, _, hgn, hcells⟩ := nodes_of_own hown (by decide)
  rw [h6] at hcn ⊢
  have hcn2 : (6 : Int) ≤ cn := by omega
  have hr1 : tkE.length - 6 = 1 := rfl
  rw [hr1]
  have HN := Lib.hid (fun W (hW : Below w2.heap.size w2 W) => (⟨(hW.cell (p := ⟨gn, 3, none⟩) hgn).trans (hcells 0 _ rfl 3 _ rfl), (hW.cell (p := ⟨gn, 14, none⟩) hgn).trans (hcells 2 _ rfl 4 _ rfl), (hW.cell (p := ⟨gn, 15, none⟩) hgn).trans (hcells 3 _ rfl 0 _ rfl), (hW.cell (p := ⟨gn, 25, none⟩) hgn).trans (hcells 5 _ rfl 0 _ rfl)⟩ : W.cell? ⟨gn, 3, none⟩ = some (.int .u32 1) ∧ W.cell? ⟨gn, 14, none⟩ = some (.string (ba [120])) ∧ W.cell? ⟨gn, 15, none⟩ = some (.int .i64 4) ∧ W.cell? ⟨gn, 25, none⟩ = some (.int .i64 9)))
  have HW2 := Lib.hid (HB1.out.trans (HB2.out.mono HB1.out.size))
  have HP2 := Lib.hid (parse_is [] (.slice none 0 0) _ w2 (HG.out.below HW2.out HG.out.pos) tame_nil (.inl ⟨none, 0, rfl, Nat.zero_le _, rfl⟩) runNil)
  clear hown htr hb2 hcells r0 HH0
  go_wp2_with fail
  refine HP2.out.mono ?_
  rintro e w3 ⟨b, rfl, hbs, hbk, hb3⟩
  have HW3 := Lib.hid (HW2.out.trans (hb3.mono HW2.out.size))
  have HF := Lib.hid (fault_err b 0 0 6 w3 (HG.out.below HW3.out HG.out.pos) (by decide) (by decide) hbk)
  obtain ⟨n0, n1, n2, n3⟩ := HN.out w3 hb3
  have hef := fun W => eql_faults 0 0 6 W
  have hx : ((ba [120]).toList == [120]) = true := by rw [ByteArray.toList_eq]; rfl
  clear hbs hbk hb3 HP2
  go_wp2_with fail
  refine HF.out.mono ?_
  rintro e w4 ⟨rfl, hb4⟩
  have HB4 := Lib.hid (HW3.out.trans (hb4.mono HW3.out.size))
  clear hb4
  go_wp2_with fail
  go_ret
  exact ⟨rfl, HB4.out⟩
end Go.Proofs.YtbhfblogjlpnlaaDoor
