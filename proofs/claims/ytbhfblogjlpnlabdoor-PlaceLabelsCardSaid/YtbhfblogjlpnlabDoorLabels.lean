/-
  The contract of place.Labels. Conditions: the handle of the type error; the items', the words' and the symbols' cells are there; few of them, with short names.
-/
import Derived.Test.YtbhfblogjlpnlabDoorLabSyms
import Derived.Test.YtbhfblogjlpnlabDoorLying
namespace Go.Proofs.YtbhfblogjlpnlabDoor
open Go.RowKit

/-- Words lie there, below n₀. -/
def WdsB (n₀ : Nat) (V : Nat → Int) (w : World) (A : Option Addr) (m : Nat) : Prop := ∀ j, j < m → ∃ B O, A = some ⟨B, O, none⟩ ∧ B < n₀ ∧ w.cell? ⟨B, O + j, none⟩ = some (.int .u32 (V j))
theorem WdsB.below {n₀ n₁ : Nat} {V : Nat → Int} {w w' : World} {A : Option Addr} {m : Nat} (h : WdsB n₀ V w A m) (hb : Below n₀ w w') (hn : n₀ ≤ n₁) : WdsB n₁ V w' A m := by
  intro j hj
  obtain ⟨B, O, hA, hB, hc⟩ := h j hj
  exact ⟨B, O, hA, by omega, (hb.cell (p := ⟨B, O + j, none⟩) hB).trans hc⟩

/-- What labels are made of: items, words, and the names that are taken. -/
structure Lb where
  F : Nat → Itm
  n : Nat
  V : Nat → Int
  na : Nat
  T : List (List UInt8)
def Lb.lab (p : Lb) (k : Nat) : Sy := ⟨(p.F k).nm, if k < p.na then p.V k else 0, 1⟩
def Lb.labs (p : Lb) : Nat → List Sy
  | 0 => []
  | k + 1 => if (p.F k).K = 1 then p.labs k ++ [p.lab k] else p.labs k
def nms (l : List Sy) : List (List UInt8) := l.map fun y => y.nm.data.toList
def Lb.dup (p : Lb) (k : Nat) : Bool := decide ((p.F k).K = 1) && decide ((p.F k).nm.data.toList ∈ p.T ++ nms (p.labs k))
theorem Lb.labs_len (p : Lb) : ∀ k, (p.labs k).length ≤ k
  | 0 => by simp [Lb.labs]
  | k + 1 => by
    have := p.labs_len k
    unfold Lb.labs
    split
    · simp; omega
    · omega

/-- What Labels answers. -/
def LabOut (p : Lb) (w0 : World) (e : Ending) (w' : World) : Prop :=
  (((∀ k, k < p.n → p.dup k = false) ∧ ∃ v, e = .returned (.tuple #[v, .nilIface]) ∧ w'.ownsRow w0.heap.size 131 3 v (p.labs p.n).length (symCells (p.labs p.n))) ∨
   (∃ k, k < p.n ∧ (∀ j, j < k → p.dup j = false) ∧ p.dup k = true ∧ ∃ b, e = .returned (.tuple #[.slice none 0 0, .iface 107 (.pointer (some ⟨b, 0, none⟩))]) ∧ w0.heap.size ≤ b ∧ Blk w' b 113 #[.int .i64 (p.F k).L, .int .i64 (p.F k).C, .iface 111 (.int .i64 10)])) ∧ Below w0.heap.size w0 w'

theorem own_base' {w : World} {base base' : Nat} {e : TypeId} {size n : Nat} {v : Value} {xs : List Value} (h : w.ownsRow base e size v n xs) (hb : base' ≤ base) : w.ownsRow base' e size v n xs := by
  refine ⟨h.1, ?_⟩
  rcases h.2 with h2 | ⟨g, cap, cur, hv, hg, r⟩
  · exact Or.inl h2
  · exact Or.inr ⟨g, cap, cur, hv, by omega, r⟩

theorem names_succ (Y : Nat → Sy) (k : Nat) : (List.range k).map (fun j => (Y j).nm.data.toList) ++ [(Y k).nm.data.toList] = (List.range (k + 1)).map fun j => (Y j).nm.data.toList := by
  rw [List.range_succ]; simp

theorem wpList_taken_ask {ops : Array Oper} {rest : List Oper} {o : Oper} {a : Act} {Q : Exit → Act → World → Prop} (w : World)
    (hg : o.guard = none) (m x : Operand) (hop : o.op = Op.lookup 128 m x false) (b n : Nat) (T : List (List UInt8))
    (hm : a.eval m = .map (some b)) (h : Taken w b n T) (s : ByteArray) (hs : s.size ≤ maxLen) (hx : a.eval x = .string s) (c : Bool) (hc : decide (s.data.toList ∈ T) = c)
    (hK : wpList Tryd.prog ops Q rest (a.put o.dst (.bool c)) w) : wpList Tryd.prog ops Q (o :: rest) a w := by
  refine wpList_taken_look w hg m x hop b n T hm h s hs hx ?_
  rw [hc]
  exact hK

/-- What holds at the second loop's head. -/
structure LbInv (p : Lb) (m : Nat) (w0 : World) (k : Nat) (v : Value) (wr : World) : Prop where
  row : wr.ownsRow (w0.heap.size + 1) 131 3 v (p.labs k).length (symCells (p.labs k))
  tk : Taken wr w0.heap.size (m + (p.labs k).length) (p.T ++ nms (p.labs k))
  good : ∀ j, j < k → p.dup j = false
  below : Below w0.heap.size w0 wr
theorem LbInv.ne {p : Lb} {m : Nat} {w0 : World} {k : Nat} {v : Value} {wr : World} (h : LbInv p m w0 k v wr) : v.ownBlock ≠ some w0.heap.size := fun e => by
  have := (h.row.lt _ e).1
  omega
/-- A round that passes an item by. -/
theorem LbInv.skip {p : Lb} {m : Nat} {w0 : World} {k : Nat} {v : Value} {wr : World} (h : LbInv p m w0 k v wr) (hK : (p.F k).K ≠ 1) (o : Obj) : LbInv p m w0 (k + 1) v (wr.alloc o) := by
  have e : p.labs (k + 1) = p.labs k := by rw [Lb.labs, if_neg hK]
  refine ⟨by rw [e]; exact h.row.alloc o, by rw [e]; exact h.tk.alloc o, fun j hj => ?_, h.below.alloc h.below.size o⟩
  rcases Nat.lt_or_ge j k with h1 | h1
  · exact h.good j h1
  · obtain rfl : j = k := by omega
    simp [Lb.dup, hK]
/-- A round that makes a label. -/
theorem LbInv.make {p : Lb} {m : Nat} {w0 : World} {k : Nat} {v v' : Value} {wr w2 w3 : World} {o1 o2 o3 : Obj} (h : LbInv p m w0 k v wr) (hK : (p.F k).K = 1) (hd : p.dup k = false)
    (ht : Taken w2 w0.heap.size (m + (p.labs k).length + 1) (p.T ++ nms (p.labs k) ++ [(p.F k).nm.data.toList])) (hg : (wr.alloc o1).grownBy w2 (some w0.heap.size))
    (hr : w3.ownsRow (w0.heap.size + 1) 131 3 v' ((p.labs k).length + 1) (symCells (p.labs k) ++ (p.lab k).cells)) (hg3 : ((w2.alloc o2).alloc o3).grownBy w3 v.ownBlock) : LbInv p m w0 (k + 1) v' w3 := by
  have e : p.labs (k + 1) = p.labs k ++ [p.lab k] := by rw [Lb.labs, if_pos hK]
  have hs := h.below.size
  have hs2 := hg.size
  simp at hs2
  refine ⟨?_, ?_, fun j hj => ?_, ?_⟩
  · rw [e, symCells_snoc, List.length_append]; exact hr
  · rw [e]
    have e2 : p.T ++ nms (p.labs k ++ [p.lab k]) = p.T ++ nms (p.labs k) ++ [(p.F k).nm.data.toList] := by simp [nms, Lb.lab]
    rw [e2, List.length_append]
    exact ((ht.alloc o2).alloc o3).kept (hg3.block _ (by have := ht.lt; simp; omega) (fun e => h.ne e.symm))
  · rcases Nat.lt_or_ge j k with h1 | h1
    · exact h.good j h1
    · obtain rfl : j = k := by omega
      exact hd
  · have b1 := (h.below.alloc hs o1).grown hg (by simp; omega) (fun x hx => by cases hx; exact Nat.le_refl _)
    exact ((b1.alloc b1.size o2).alloc (by have := b1.size; simp; omega) o3).grown hg3 (by have := b1.size; simp; omega) (fun x hx => by have := (h.row.lt x hx).1; omega)

set_option maxRecDepth 100000 in
set_option maxHeartbeats 4000000 in
theorem labels_any (p : Lb) (Y : Nat → Sy) (m : Nat) (hT : p.T = (List.range m).map fun j => (Y j).nm.data.toList) (hn : p.n ≤ 400) (hm : m ≤ 400) (hnm : ∀ k, k < p.n → (p.F k).nm.size ≤ 4294967296) (hym : ∀ j, j < m → (Y j).nm.size ≤ 140737488351232)
    (A : Option Addr) (cap : Nat) (Aa : Option Addr) (capa : Nat) (As : Option Addr) (caps : Nat) (w : World) (hg : Handle w) (hF : ItsIn w.heap.size p.F w A p.n) (hV : WdsB w.heap.size p.V w Aa p.na) (hY : SymsIn w.heap.size Y w As m) :
    Calls Tryd.prog 36 #[.slice A p.n cap, .slice Aa p.na capa, .slice As m caps] w (LabOut p w) := by
  obtain ⟨i0, hi0, hz0, hz1, hz2⟩ := info_parts Tryd.infoESym
  have HF := Lib.hid hF
  have HV := Lib.hid hV
  have HY := Lib.hid hY
  have HG := Lib.hid hg
  have HT := Lib.hid hT
  have HNM := Lib.hid hnm
  have HYM := Lib.hid hym
  have hmk := fun n W => run_makeMap_hint Tryd.underlying128 n W
  clear hF hV hY hg hT hnm hym
  go_enter Tryd.func36, Tryd.ntmps36
  go_wp2
  go_loopg [20] m (fun g i wr => ∃ k : Nat, k + g = m ∧ i = .int .i64 k ∧ Taken wr w.heap.size k ((List.range k).map fun j => (Y j).nm.data.toList) ∧ Below w.heap.size w wr)
  case atStart => exact ⟨0, Nat.zero_add _, rfl, Taken.new w, (Below.refl _ _).alloc (Nat.le_refl _) _⟩
  case round =>
    obtain ⟨k, hk, rfl, hR, hb⟩ := hrel
    have hk' : k ≤ m := by omega
    have HK := Lib.hid hk
    have HR := Lib.hid hR
    have HB := Lib.hid hb
    have hsz := hb.size
    clear hk hR hb
    by_cases hlt : k < m
    · obtain ⟨B, O, hA, hB, c0, c1, c2⟩ := (HY.out.below HB.out (Nat.le_refl _)) k hlt
      subst hA
      go_wp2_with (first | (at_mapUpdate; refine wpList_taken_put _ rfl _ _ _ rfl w.heap.size k _ rfl (HR.out.alloc _) (by unfold maxLen; omega) (Y k).nm (by have := HYM.out k hlt; unfold maxLen; omega) rfl rfl ?_; intro w1 ht1 hg1; have HT1 := Lib.hid ht1; have HG1 := Lib.hid hg1; clear ht1 hg1))
      go_roundg (gk - 1)
      case measure => have := HK.out; omega
      case rel => exact ⟨k + 1, by have := HK.out; omega, by go_num, by rw [← names_succ]; exact HT1.out, (HB.out.alloc hsz _).grown HG1.out (by simp; omega) (fun x hx => by cases hx; exact Nat.le_refl _)⟩
    · obtain rfl : k = m := by omega
      have hst : LbInv p k w 0 (.slice none 0 0) wr := ⟨World.ownsRow_nil _ _ _ _, by rw [show p.T ++ nms (p.labs 0) = p.T by simp [Lb.labs, nms], HT.out]; exact HR.out, fun j hj => absurd hj (by omega), HB.out⟩
      have HST := Lib.hid hst
      clear hst HR HB
      go_wp2_with fail
      go_loopg [11, 30] p.n (fun g v i wr2 => ∃ j : Nat, j + g = p.n ∧ i = .int .i64 j ∧ LbInv p k w j v wr2)
      case atStart => exact ⟨0, Nat.zero_add _, rfl, HST.out⟩
      case round =>
        obtain ⟨j, hj, rfl, hI⟩ := hrel
        have hj' : j ≤ p.n := by omega
        have HJ := Lib.hid hj
        have HI := Lib.hid hI
        have hsz2 := hI.below.size
        have hlen := p.labs_len j
        have htl := hI.tk.lt
        clear hj hI HST
        by_cases hlt2 : j < p.n
        · obtain ⟨B, O, hA, hB, hit⟩ := (HF.out.below HI.out.below) j hlt2
          subst hA
          obtain ⟨c0, c1, c2, c3, c4, c5, c6, c7, c8, c9, c10, c11, c12, c13, c14⟩ := hit
          by_cases hK : (p.F j).K = 1
          · have hK1 : ((p.F j).K != 1) = false := by simp [hK]
            have HKK := Lib.hid hK
            have hs1 : (p.F j).nm.size ≤ maxLen := by have := HNM.out j hlt2; unfold maxLen; omega
            have HS1 := Lib.hid hs1
            clear hK hs1
            cases hd : p.dup j with
            | true =>
              have hdec : decide ((p.F j).nm.data.toList ∈ p.T ++ nms (p.labs j)) = true := by
                unfold Lb.dup at hd
                rw [HKK.out] at hd
                simpa using hd
              have HDE := Lib.hid hdec
              have HD := Lib.hid hd
              clear hdec hd
              go_wp2_with (first | (at_lookup; refine wpList_taken_ask _ rfl _ _ rfl w.heap.size _ _ rfl (HI.out.tk.alloc _) (p.F j).nm HS1.out rfl true HDE.out ?_) | (go_at_call 55; refine (at_any (p.F j).L (p.F j).C 10 _ ((HG.out.below HI.out.below HG.out.pos).alloc _)).mono ?_; rintro e w3 ⟨b, rfl, hb3, hk3, hb4⟩))
              go_ret2
              refine ⟨.inr ⟨j, hlt2, HI.out.good, HD.out, b, rfl, ?_, hk3⟩, (HI.out.below.alloc hsz2 _).trans (hb4.mono (by simp; omega))⟩
              simp at hb3
              omega
            | false =>
              have hdec : decide ((p.F j).nm.data.toList ∈ p.T ++ nms (p.labs j)) = false := by
                unfold Lb.dup at hd
                rw [HKK.out] at hd
                simpa using hd
              have HDE := Lib.hid hdec
              have HD := Lib.hid hd
              clear hdec hd
              have hcase : (j < p.na ∧ p.lab j = ⟨(p.F j).nm, p.V j, 1⟩) ∨ (¬ j < p.na ∧ p.lab j = ⟨(p.F j).nm, 0, 1⟩) := by
                unfold Lb.lab
                by_cases h : j < p.na
                · exact .inl ⟨h, by rw [if_pos h]⟩
                · exact .inr ⟨h, by rw [if_neg h]⟩
              rcases hcase with ⟨hna, hl⟩ | ⟨hna, hl⟩
              · have HL := Lib.hid hl
                obtain ⟨Ba, Oa, hAa, hBa, ca⟩ := (HV.out.below HI.out.below (Nat.le_refl _)) j hna
                subst hAa
                clear hl
                go_wp2_with (first | (at_lookup; refine wpList_taken_ask _ rfl _ _ rfl w.heap.size _ _ rfl (HI.out.tk.alloc _) (p.F j).nm HS1.out rfl false HDE.out ?_) | (at_mapUpdate; refine wpList_taken_put _ rfl _ _ _ rfl w.heap.size _ _ rfl (HI.out.tk.alloc _) (by unfold maxLen; omega) (p.F j).nm HS1.out rfl rfl ?_; intro w2 ht2 hg2; have sz2 := hg2.size; simp at sz2; have e3 := cell_grown (w := wr.alloc (.cells (p.F j).cs 89)) (a := ⟨wr.heap.size, 3, none⟩) (v := .string (p.F j).nm) (by simp) hg2 (by simp; omega); have ea := cell_grown (w := wr.alloc (.cells (p.F j).cs 89)) (a := ⟨Ba, Oa + j, none⟩) (v := .int .u32 (p.V j)) ((World.cell?_alloc_lt _ _ ⟨Ba, Oa + j, none⟩ (show Ba < _ by omega)).trans ca) hg2 (by simp; omega); have hBa2 : Ba < w2.heap.size := Nat.lt_of_lt_of_le (show Ba < wr.heap.size + 1 by omega) sz2; have HT2 := Lib.hid ht2; have HG2 := Lib.hid hg2; clear ht2 hg2) | (at_builtin; refine wpList_append_own_at _ rfl (.tmp 63) (.tmp 65) 78 rfl (w.heap.size + 1) 131 i0 (.agg #[.string ByteArray.empty, .int .u32 0, .int .i64 0]) 3 32 Tryd.underlying78 hi0 hz0 hz1 hz2 rfl (by decide) _ _ _ rfl (((HI.out.row.alloc _).kept HG2.out (.inr HI.out.ne)).alloc _ |>.alloc _) ⟨w2.heap.size + 1, 0, none⟩ 1 1 [.string (p.F j).nm, .int .u32 (p.V j), .int .i64 1] rfl rfl (cells_new3 _ #[.string (p.F j).nm, .int .u32 (p.V j), .int .i64 1] _ _ (by simp)) (by intro u hu; simp at hu; rcases hu with rfl | rfl | rfl <;> rfl) (by unfold maxLen; omega) (by omega) (by simp; omega) ?_; intro v' w3 hown3 hg3 _ _; have HN := Lib.hid hown3; have HG3 := Lib.hid hg3; clear hown3 hg3))
                go_roundg (gk - 1)
                case measure => have := HJ.out; omega
                case rel => exact ⟨j + 1, by have := HJ.out; omega, by go_num, HI.out.make HKK.out HD.out HT2.out HG2.out (by rw [HL.out]; exact HN.out) HG3.out⟩
              · have HL := Lib.hid hl
                have hna2 : ¬ (j : Int) < p.na := by omega
                clear hl
                go_wp2_with (first | (at_lookup; refine wpList_taken_ask _ rfl _ _ rfl w.heap.size _ _ rfl (HI.out.tk.alloc _) (p.F j).nm HS1.out rfl false HDE.out ?_) | (at_mapUpdate; refine wpList_taken_put _ rfl _ _ _ rfl w.heap.size _ _ rfl (HI.out.tk.alloc _) (by unfold maxLen; omega) (p.F j).nm HS1.out rfl rfl ?_; intro w2 ht2 hg2; have sz2 := hg2.size; simp at sz2; have e3 := cell_grown (w := wr.alloc (.cells (p.F j).cs 89)) (a := ⟨wr.heap.size, 3, none⟩) (v := .string (p.F j).nm) (by simp) hg2 (by simp; omega); have HT2 := Lib.hid ht2; have HG2 := Lib.hid hg2; clear ht2 hg2) | (at_builtin; refine wpList_append_own_at _ rfl (.tmp 63) (.tmp 65) 78 rfl (w.heap.size + 1) 131 i0 (.agg #[.string ByteArray.empty, .int .u32 0, .int .i64 0]) 3 32 Tryd.underlying78 hi0 hz0 hz1 hz2 rfl (by decide) _ _ _ rfl (((HI.out.row.alloc _).kept HG2.out (.inr HI.out.ne)).alloc _ |>.alloc _) ⟨w2.heap.size + 1, 0, none⟩ 1 1 [.string (p.F j).nm, .int .u32 (0), .int .i64 1] rfl rfl (cells_new3 _ #[.string (p.F j).nm, .int .u32 (0), .int .i64 1] _ _ (by simp)) (by intro u hu; simp at hu; rcases hu with rfl | rfl | rfl <;> rfl) (by unfold maxLen; omega) (by omega) (by simp; omega) ?_; intro v' w3 hown3 hg3 _ _; have HN := Lib.hid hown3; have HG3 := Lib.hid hg3; clear hown3 hg3))
                go_roundg (gk - 1)
                case measure => have := HJ.out; omega
                case rel => exact ⟨j + 1, by have := HJ.out; omega, by go_num, HI.out.make HKK.out HD.out HT2.out HG2.out (by rw [HL.out]; exact HN.out) HG3.out⟩
          · have hK1 : ((p.F j).K != 1) = true := by simp [hK]
            have HKK := Lib.hid hK
            clear hK
            go_wp2_with fail
            go_roundg (gk - 1)
            case measure => have := HJ.out; omega
            case rel => exact ⟨j + 1, by have := HJ.out; omega, by go_num, HI.out.skip HKK.out _⟩
        · obtain rfl : j = p.n := by omega
          go_wp2
          go_ret2
          exact ⟨.inl ⟨HI.out.good, _, rfl, own_base' HI.out.row (by omega)⟩, HI.out.below⟩
end Go.Proofs.YtbhfblogjlpnlabDoor
