/-
  ExprCounts returns true: the walk. Conditions: the handle of the type error; the string's length is within the model's bound.
-/
import Derived.Test.YtbhfblogjlpnlabDoorExAwake
import Derived.Test.YtbhfblogjlpnlabDoorExCount
import Derived.Lib.SmallJoins
namespace Go.Proofs.YtbhfblogjlpnlabDoor
open Go.RowKit

/-- []byte of a string. -/
theorem conv_str (W : World) (s : ByteArray) (hs : s.size ≤ maxLen) : ∃ (c : Nat) (wB : World), (convert 9 28 (.string s)).run Tryd.prog W = .ok (.slice (some ⟨W.heap.size, 0, none⟩) s.size c) wB ∧ s.size ≤ c ∧ c ≤ maxLen ∧ W.heap.size < wB.heap.size ∧ Below W.heap.size W wB ∧ ∀ j (hj : j < s.size), wB.cell? ⟨W.heap.size, 0 + j, none⟩ = some (.int .u8 ((s[j]'hj).toNat : Int)) := by
  refine ⟨_, _, Lib.run_convert_string_bytes (P := Tryd.prog) W 9 28 5 s Tryd.underlying9 Tryd.underlying28 Tryd.underlying5, grownCap_ge .., grownCap_le_maxLen _ _ _ _ hs, by rw [Lib.bytesWorld_size]; omega, Joins.below_bytesWorld _ _ _ _ (Nat.le_refl _), fun j hj => ?_⟩
  rw [Nat.zero_add, Lib.bytesWorld_cell W _ s j hj]
  have : s.data.toList.getD j 0 = s[j]'hj := by
    have h2 : j < s.data.toList.length := by simpa using hj
    rw [List.getD, List.getElem?_eq_getElem h2]
    rfl
  rw [this]

theorem worth_succ {ns : List Nd} {k : Nat} {n : Nd} (h : ns[k]? = some n) : worth (ns.take (k + 1)) = worth (ns.take k) + n.worth := by
  rw [List.take_add_one, h]
  show worth (ns.take k ++ [n]) = _
  rw [worth_app, worth_one]
theorem worth_le (ns : List Nd) : worth ns ≤ ns.length := by
  induction ns with
  | nil => decide
  | cons n ns ih =>
    have h1 : worth (n :: ns) = n.worth + worth ns := by simp [worth]
    have h2 : n.worth ≤ 1 := by
      unfold Nd.worth
      split <;> split <;> omega
    rw [h1, List.length_cons]
    omega
theorem lines_ne {s : Bs} {all : List (List Piece)} {e : Option (Nat × Nat × Int)} (h : LinesR 0 (cut s) all e) (he : e = none) : ∃ ps rest, all = ps :: rest := by
  cases all with
  | cons ps rest => exact ⟨ps, rest, rfl⟩
  | nil =>
    have := h.len.2 he
    exact absurd (List.eq_nil_of_length_eq_zero this.symm) (cut_ne s)

set_option maxRecDepth 100000 in
set_option maxHeartbeats 4000000 in
theorem counts_long (s : ByteArray) (w : World) (hg : Handle w) (_hs : s.size ≤ maxLen) (hl : 200 < s.size) : Calls Tryd.prog 3 #[.string s] w fun e w' => e = .returned (.bool true) ∧ Below w.heap.size w w' := by
  have HAW := Lib.hid (eawake_any w hg)
  have hli : (200 : Int) < s.size := by omega
  clear hg
  go_enter Tryd.func3, Tryd.ntmps3
  go_wp2_with fail
  refine HAW.out.mono ?_
  rintro e w1 ⟨rfl, hb1⟩
  have HB1 := Lib.hid hb1
  clear hb1
  go_wp2_with fail
  go_ret
  exact ⟨rfl, HB1.out⟩

set_option maxRecDepth 100000 in
set_option maxHeartbeats 4000000 in
theorem counts_bad (s : ByteArray) (all : List (List Piece)) (l i : Nat) (cd : Int) (w : World) (hg : Handle w) (hl : s.size ≤ 200) (h : LinesR 0 (cut s.data.toList) all (some (l, i, cd))) : Calls Tryd.prog 3 #[.string s] w fun e w' => e = .returned (.bool true) ∧ Below w.heap.size w w' := by
  have HAW := Lib.hid (eawake_any w hg)
  have hli : ¬ (200 : Int) < s.size := by omega
  have hcd : (0 : Int) < cd := by have := (h.code _ _ _ rfl).2.2; omega
  have HLR := Lib.hid h
  clear hg h
  go_enter Tryd.func3, Tryd.ntmps3
  go_wp2_with fail
  refine HAW.out.mono ?_
  rintro e w1 ⟨rfl, hb1⟩
  obtain ⟨c, wB, hcv, hc1, hc2, hc3, hbB, hcell⟩ := conv_str w1 s (by unfold maxLen; omega)
  have HL := Lib.hid (lines_any s w1.heap.size 0 c all _ wB (by omega) hc1 hc2 HLR.out hc3 hcell)
  have HBB := Lib.hid (hb1.trans (hbB.mono hb1.size))
  clear hb1 hbB hcell hc1 hc2 hc3
  go_wp2_with fail
  refine HL.out.mono ?_
  rintro e w2 ⟨rfl, hb2⟩
  have HB2 := Lib.hid (HBB.out.trans (hb2.mono HBB.out.size))
  have HUP : Hid (∀ o, Below w.heap.size w (w2.alloc o)) := Lib.hid (fun o => HB2.out.alloc HB2.out.size o)
  clear hb2 hcv
  go_wp2_with fail
  go_ret
  exact ⟨rfl, HUP.out _⟩

set_option maxRecDepth 100000 in
set_option maxHeartbeats 1000000 in
theorem counts_ok (s : ByteArray) (ps : List Piece) (rest : List (List Piece)) (j : Nat) (ns : List Nd) (w : World) (hg : Handle w) (hl : s.size ≤ 200) (h : LinesR 0 (cut s.data.toList) (ps :: rest) none) (hr : ERun (ps.map (Piece.tk 1)) (.bound 1) 0 0 [] (.inl (j, ns))) : Calls Tryd.prog 3 #[.string s] w fun e w' => e = .returned (.bool true) ∧ Below w.heap.size w w' := by
  have HAW := Lib.hid (eawake_any w hg)
  have hli : ¬ (200 : Int) < s.size := by omega
  have HLR := Lib.hid h
  have HG := Lib.hid hg
  have htm := tame_line h (by simp; omega) (List.mem_cons_self ..) 1
  obtain ⟨ts, hts⟩ : ∃ ts, ps.map (Piece.tk 1) = ts := ⟨_, rfl⟩
  rw [hts] at htm hr
  have HTS := Lib.hid hts
  clear hts
  have HTM := Lib.hid htm
  have HRU := Lib.hid hr
  have HADD := Lib.hid (erun_adds hr)
  have HFEW := Lib.hid (erun_few hr)
  have HFAR := Lib.hid (erun_far hr (Nat.zero_le _))
  clear hg h hr htm
  go_enter Tryd.func3, Tryd.ntmps3
  go_wp2_with fail
  refine HAW.out.mono ?_
  rintro e w1 ⟨rfl, hb1⟩
  obtain ⟨c, wB, hcv, hc1, hc2, hc3, hbB, hcell⟩ := conv_str w1 s (by unfold maxLen; omega)
  have HL := Lib.hid (lines_any s w1.heap.size 0 c (ps :: rest) none wB (by omega) hc1 hc2 HLR.out hc3 hcell)
  have HBB := Lib.hid (hb1.trans (hbB.mono hb1.size))
  clear hb1 hbB hcell hc1 hc2 hc3
  go_wp2_with fail
  refine HL.out.mono ?_
  rintro e w2 ⟨⟨v, us, rfl, hown, hlines⟩, hb2⟩
  have HB2 := Lib.hid (HBB.out.trans (hb2.mono HBB.out.size))
  obtain ⟨g, cp, rfl, hcp, hgl, hrow⟩ : ∃ g cp, v = .slice (some ⟨g, 0, none⟩) (ps :: rest).length cp ∧ (ps :: rest).length ≤ cp ∧ g < w2.heap.size ∧ ∀ (i : Nat) (u : Value), us[i]? = some u → w2.cell? ⟨g, i, none⟩ = some u := by
    rcases hown.2 with ⟨_, h0⟩ | ⟨g, cap, cur, hv, hg, hh, hc, hm, _⟩
    · cases h0
    · subst hv
      refine ⟨g, cap, rfl, hc, (Array.getElem?_eq_some_iff.1 hh).1, fun i u hu => ?_⟩
      have := hown.cells (g := g) rfl i u hu
      rwa [addr0] at this
  obtain ⟨u0, hu0, ho0⟩ := hlines.2 0 ps rfl
  have ht0 : Toks w2 u0 ts := HTS.out ▸ toks_line hlines (i := 0) rfl hu0
  obtain ⟨A0, d0, rfl, -⟩ := ht0.form
  have hlen : (ps :: rest).length = rest.length + 1 := rfl
  rw [hlen] at hcp ⊢
  have hcp2 : (0 : Int) < cp := by omega
  have hpl : (0 : Int) < (rest.length : Int) + 1 := by omega
  have HT0 := Lib.hid (fun o => ht0.below ((Below.refl w2.heap.size w2).alloc (Nat.le_refl _) o))
  have r0 : ∀ o', (w2.alloc o').cell? ⟨g, 0, none⟩ = some (.slice A0 ts.length d0) := fun o' => (((Below.refl w2.heap.size w2).alloc (Nat.le_refl _) o').cell (p := ⟨g, 0, none⟩) hgl).trans (hrow 0 _ hu0)
  have HUP : Hid (∀ o, Below w.heap.size w (w2.alloc o)) := Lib.hid (fun o => HB2.out.alloc HB2.out.size o)
  have HPA := Lib.hid (fun o => parse_is _ _ (.inl (j, ns)) (w2.alloc o) (HG.out.below (HUP.out o) HG.out.pos) HTM.out (HT0.out o) HRU.out)
  clear hb2 hcv hown hlines hrow hu0 ho0 ht0 hgl
  go_wp2_with fail
  refine (HPA.out _).mono ?_
  rintro e w3 ⟨vn, A, cr, rfl, hown, -, hb3⟩
  obtain ⟨ns', he, hw⟩ := HADD.out
  rw [List.nil_append] at he
  subst he
  have hfew := HFEW.out _ _ rfl
  have hfar := HFAR.out
  simp only [EFar] at hfar
  have hn := HTM.out.few
  have hnl : ns.length ≤ 100000 := by simp at hfew; omega
  obtain ⟨gn, cn, rfl, hcn, _, hgn, hcells⟩ := nodes_of_own hown hw.pos
  have HW := Lib.hid hw
  have HB3 := Lib.hid ((HUP.out _).trans (hb3.mono (HUP.out _).size))
  have HC := Lib.hid hcells
  clear hb3 hown hw hcells hfew hfar hn r0 hgn
  go_wp2_with fail
  go_loopw [8, 9] (fun l i wr => ∃ k : Nat, k ≤ ns.length ∧ i = .int .i64 k ∧ l = .int .i64 (worth (ns.take k)) ∧ wr = w3) (fun _ i _ => ns.length - (intOf i).toNat)
  case atStart => exact ⟨0, Nat.zero_le _, rfl, rfl, rfl⟩
  case round =>
    obtain ⟨k, hk, rfl, rfl, rfl⟩ := hrel
    have hwl := worth_le (ns.take k)
    rw [List.length_take] at hwl
    have hwu : worth (ns.take k) ≤ 100000 := by omega
    have hw0 : 0 ≤ worth (ns.take k) := by
      rcases Nat.eq_zero_or_pos k with rfl | h0
      · exact Int.le_refl 0
      · have := HW.out.ahead k h0 hk
        omega
    by_cases hlt : k < ns.length
    · have hki : (k : Int) < ns.length := by omega
      have hkc : (k : Int) < cn := by omega
      have hkb : (k : Int) ≤ 100000 := by omega
      obtain ⟨n, hnk⟩ : ∃ n, ns[k]? = some n := ⟨_, List.getElem?_eq_getElem hlt⟩
      have e0 : wr.cell? ⟨gn, k * 5, none⟩ = some (.int .i64 n.kind) := HC.out k n hnk 0 _ rfl
      have hsucc := worth_succ hnk
      have hahead := HW.out.ahead (k + 1) (by omega) (by omega)
      rw [hsucc] at hahead
      have HS := Lib.hid hsucc
      generalize worth (ns.take k) = x at *
      clear hsucc hnk hwl
      by_cases h3 : n.kind ≤ 3
      · have h9 : ¬ 9 ≤ n.kind := by omega
        have hnw : n.worth = 1 := by unfold Nd.worth; rw [if_pos h3, if_neg h9]; rfl
        have hx1 : ¬ x + 1 < 1 := by omega
        have HS2 : Hid (worth (ns.take (k + 1)) = x + 1) := Lib.hid (by rw [HS.out, hnw])
        clear hnw hahead
        go_wp2_with fail
        go_roundw
        case rel => exact ⟨k + 1, by omega, by go_num, by rw [HS2.out], by trivial⟩
        case measure => simp [intOf]; omega
      · by_cases h9 : 9 ≤ n.kind
        · have hnw : n.worth = -1 := by unfold Nd.worth; rw [if_neg h3, if_pos h9]; rfl
          rw [hnw] at hahead
          have hx1 : ¬ x - 1 < 1 := by omega
          have HS2 : Hid (worth (ns.take (k + 1)) = x - 1) := Lib.hid (by rw [HS.out, hnw]; rfl)
          clear hnw
          go_wp2_with fail
          go_roundw
          case rel => exact ⟨k + 1, by omega, by go_num, by rw [HS2.out], by trivial⟩
          case measure => simp [intOf]; omega
        · have hnw : n.worth = 0 := by unfold Nd.worth; rw [if_neg h3, if_neg h9]; rfl
          rw [hnw] at hahead
          have hx1 : ¬ x < 1 := by omega
          have HS2 : Hid (worth (ns.take (k + 1)) = x) := Lib.hid (by rw [HS.out, hnw]; omega)
          clear hnw hahead
          go_wp2_with fail
          go_roundw
          case rel => exact ⟨k + 1, by omega, by go_num, by rw [HS2.out], by trivial⟩
          case measure => simp [intOf]; omega
    · obtain rfl : k = ns.length := by omega
      rw [List.take_length, HW.out.one] at *
      clear hwl hwu hw0
      go_wp2_with fail
      go_ret
      exact ⟨rfl, HB3.out⟩

set_option maxRecDepth 100000 in
set_option maxHeartbeats 1000000 in
theorem counts_fell (s : ByteArray) (ps : List Piece) (rest : List (List Piece)) (j : Nat) (cd : Int) (w : World) (hg : Handle w) (hl : s.size ≤ 200) (h : LinesR 0 (cut s.data.toList) (ps :: rest) none) (hr : ERun (ps.map (Piece.tk 1)) (.bound 1) 0 0 [] (.inr (j, cd))) : Calls Tryd.prog 3 #[.string s] w fun e w' => e = .returned (.bool true) ∧ Below w.heap.size w w' := by
  have HAW := Lib.hid (eawake_any w hg)
  have hli : ¬ (200 : Int) < s.size := by omega
  have HLR := Lib.hid h
  have HG := Lib.hid hg
  have htm := tame_line h (by simp; omega) (List.mem_cons_self ..) 1
  obtain ⟨ts, hts⟩ : ∃ ts, ps.map (Piece.tk 1) = ts := ⟨_, rfl⟩
  rw [hts] at htm hr
  have HTS := Lib.hid hts
  clear hts
  have HTM := Lib.hid htm
  have HRU := Lib.hid hr
  have HADD := Lib.hid (erun_adds hr)
  have HFEW := Lib.hid (erun_few hr)
  have HFAR := Lib.hid (erun_far hr (Nat.zero_le _))
  clear hg h hr htm
  go_enter Tryd.func3, Tryd.ntmps3
  go_wp2_with fail
  refine HAW.out.mono ?_
  rintro e w1 ⟨rfl, hb1⟩
  obtain ⟨c, wB, hcv, hc1, hc2, hc3, hbB, hcell⟩ := conv_str w1 s (by unfold maxLen; omega)
  have HL := Lib.hid (lines_any s w1.heap.size 0 c (ps :: rest) none wB (by omega) hc1 hc2 HLR.out hc3 hcell)
  have HBB := Lib.hid (hb1.trans (hbB.mono hb1.size))
  clear hb1 hbB hcell hc1 hc2 hc3
  go_wp2_with fail
  refine HL.out.mono ?_
  rintro e w2 ⟨⟨v, us, rfl, hown, hlines⟩, hb2⟩
  have HB2 := Lib.hid (HBB.out.trans (hb2.mono HBB.out.size))
  obtain ⟨g, cp, rfl, hcp, hgl, hrow⟩ : ∃ g cp, v = .slice (some ⟨g, 0, none⟩) (ps :: rest).length cp ∧ (ps :: rest).length ≤ cp ∧ g < w2.heap.size ∧ ∀ (i : Nat) (u : Value), us[i]? = some u → w2.cell? ⟨g, i, none⟩ = some u := by
    rcases hown.2 with ⟨_, h0⟩ | ⟨g, cap, cur, hv, hg, hh, hc, hm, _⟩
    · cases h0
    · subst hv
      refine ⟨g, cap, rfl, hc, (Array.getElem?_eq_some_iff.1 hh).1, fun i u hu => ?_⟩
      have := hown.cells (g := g) rfl i u hu
      rwa [addr0] at this
  obtain ⟨u0, hu0, ho0⟩ := hlines.2 0 ps rfl
  have ht0 : Toks w2 u0 ts := HTS.out ▸ toks_line hlines (i := 0) rfl hu0
  obtain ⟨A0, d0, rfl, -⟩ := ht0.form
  have hlen : (ps :: rest).length = rest.length + 1 := rfl
  rw [hlen] at hcp ⊢
  have hcp2 : (0 : Int) < cp := by omega
  have hpl : (0 : Int) < (rest.length : Int) + 1 := by omega
  have HT0 := Lib.hid (fun o => ht0.below ((Below.refl w2.heap.size w2).alloc (Nat.le_refl _) o))
  have r0 : ∀ o', (w2.alloc o').cell? ⟨g, 0, none⟩ = some (.slice A0 ts.length d0) := fun o' => (((Below.refl w2.heap.size w2).alloc (Nat.le_refl _) o').cell (p := ⟨g, 0, none⟩) hgl).trans (hrow 0 _ hu0)
  have HUP : Hid (∀ o, Below w.heap.size w (w2.alloc o)) := Lib.hid (fun o => HB2.out.alloc HB2.out.size o)
  have HPA := Lib.hid (fun o => parse_is _ _ (.inr (j, cd)) (w2.alloc o) (HG.out.below (HUP.out o) HG.out.pos) HTM.out (HT0.out o) HRU.out)
  clear hb2 hcv hown hlines hrow hu0 ho0 ht0 hgl
  go_wp2_with fail
  refine (HPA.out _).mono ?_
  rintro e w3 ⟨b, rfl, _, _, hb3⟩
  have HB3 := Lib.hid ((HUP.out _).trans (hb3.mono (HUP.out _).size))
  clear hb3 r0
  go_wp2_with fail
  go_ret
  exact ⟨rfl, HB3.out⟩

theorem counts_law (s : ByteArray) (w : World) (hg : Handle w) (hs : s.size ≤ maxLen) : Calls Tryd.prog 3 #[.string s] w fun e w' => e = .returned (.bool true) ∧ Below w.heap.size w w' := by
  by_cases hl : 200 < s.size
  · exact counts_long s w hg hs hl
  · obtain ⟨all, err, h⟩ := lines_all (cut s.data.toList) 0
    cases err with
    | some x =>
      obtain ⟨l, i, cd⟩ := x
      exact counts_bad s all l i cd w hg (by omega) h
    | none =>
      obtain ⟨ps, rest, rfl⟩ := lines_ne h rfl
      obtain ⟨r, hr⟩ := erun_all (ps.map (Piece.tk 1)) _ (.bound 1) 0 0 [] (Nat.zero_le _) (Nat.le_refl _)
      rcases r with ⟨j, ns⟩ | ⟨j, cd⟩
      · exact counts_ok s ps rest j ns w hg (by omega) h hr
      · exact counts_fell s ps rest j cd w hg (by omega) h hr
end Go.Proofs.YtbhfblogjlpnlabDoor
