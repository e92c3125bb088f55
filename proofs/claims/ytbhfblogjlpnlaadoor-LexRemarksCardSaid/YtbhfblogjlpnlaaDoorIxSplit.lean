/-
  The contract of bytes.Split at a line feed: the pieces, each a slice into the source's own memory. Conditions: the source's bytes lie in the memory; it is of at most 65536 bytes; its room is within the model's bound; the variable internal/bytealg.MaxLen holds a number.
-/
import Derived.Test.YtbhfblogjlpnlaaDoorIxLine
import Derived.Test.YtbhfblogjlpnlaaDoorRxLines
import Derived.Test.YtbhfblogjlpnlaaDoorShelfI
namespace Go.Proofs.YtbhfblogjlpnlaaDoor
open Go.RowKit

/-- Bytes lie in the memory. -/
def HoldsL (w : World) (b o : Nat) (l : Bs) : Prop := ∀ j (h : j < l.length), w.cell? ⟨b, o + j, none⟩ = some (.int .u8 (l[j].toNat : Int))

inductive PiecesAt (w : World) (b : Nat) : List Value → List Bs → Prop
  | nil : PiecesAt w b [] []
  | cons (o cp : Nat) (p : Bs) (vs : List Value) (ls : List Bs) (hc : p.length ≤ cp) (hh : HoldsL w b o p) (r : PiecesAt w b vs ls) : PiecesAt w b (.slice (some ⟨b, o, none⟩) p.length cp :: vs) (p :: ls)

theorem PiecesAt.len {w : World} {b : Nat} {vs : List Value} {ls : List Bs} (h : PiecesAt w b vs ls) : vs.length = ls.length := by
  induction h with
  | nil => rfl
  | cons o cp p vs ls hc hh r ih => simp [ih]
theorem PiecesAt.get {w : World} {b : Nat} {vs : List Value} {ls : List Bs} (h : PiecesAt w b vs ls) : ∀ (i : Nat) (p : Bs), ls[i]? = some p → ∃ o cp, vs[i]? = some (.slice (some ⟨b, o, none⟩) p.length cp) ∧ p.length ≤ cp ∧ HoldsL w b o p := by
  induction h with
  | nil => intro i p h; simp at h
  | cons o cp p vs ls hc hh r ih =>
    intro i q hi
    cases i with
    | zero =>
      simp at hi
      subst hi
      exact ⟨o, cp, rfl, hc, hh⟩
    | succ i =>
      simp at hi
      obtain ⟨o', cp', h1, h2⟩ := ih i q hi
      exact ⟨o', cp', by simpa using h1, h2⟩

theorem index_lf : ∀ (l : Bs), (Lib.index l [10] = -1 ∧ NoLF l) ∨ ∃ x r, l = x ++ 10 :: r ∧ NoLF x ∧ Lib.index l [10] = x.length
  | [] => .inl ⟨rfl, fun c h => by cases h⟩
  | c :: l => by
    by_cases hc : c = 10
    · subst hc
      exact .inr ⟨[], l, rfl, (fun c h => nomatch h), rfl⟩
    · have hp : ([10] : Bs).isPrefixOf (c :: l) = false := by
        simp [List.isPrefixOf]
        exact fun h => hc h.symm
      rcases index_lf l with ⟨h1, h2⟩ | ⟨x, r, h1, h2, h3⟩
      · refine .inl ⟨?_, fun d hd => ?_⟩
        · unfold Lib.index
          rw [hp, h1]
          rfl
        · rcases List.mem_cons.1 hd with rfl | hd
          · exact hc
          · exact h2 d hd
      · refine .inr ⟨c :: x, r, by rw [h1]; rfl, fun d hd => ?_, ?_⟩
        · rcases List.mem_cons.1 hd with rfl | hd
          · exact hc
          · exact h2 d hd
        · unfold Lib.index
          have : (((x.length : Nat) : Int) == -1) = false := by rw [beq_eq_false_iff_ne]; omega
          rw [hp, h3, this]
          simp

theorem noLF_count {l : Bs} (h : NoLF l) : l.count 10 = 0 := by
  rw [List.count_eq_zero]
  exact fun hm => h 10 hm rfl

theorem split_pieces (w : World) (b : Nat) : ∀ (k o cap : Nat) (l : Bs), l.count 10 = k → l.length ≤ cap → HoldsL w b o l → PiecesAt w b (Lib.splitV [10] 0 k ⟨b, o, none⟩ cap l) (cut l) := by
  intro k
  induction k with
  | zero =>
    intro o cap l hk hc hh
    have hn : NoLF l := fun c hm hc => by
      subst hc
      exact List.count_eq_zero.1 hk hm
    rw [cut_last hn]
    exact .cons o cap l [] [] hc hh .nil
  | succ k ih =>
    intro o cap l hk hc hh
    rcases index_lf l with ⟨_, h2⟩ | ⟨x, r, rfl, h2, h3⟩
    · rw [noLF_count h2] at hk
      cases hk
    · rw [cut_more r h2, Lib.splitV_hit _ _ _ _ _ _ x.length h3]
      simp only [List.length_append, List.length_cons] at hc
      have hd : (x ++ 10 :: r).drop (x.length + ([10] : Bs).length) = r := by
        rw [← List.drop_drop, List.drop_left]
        rfl
      rw [hd]
      have hkr : r.count 10 = k := by
        rw [List.count_append, noLF_count h2, List.count_cons_self] at hk
        omega
      refine .cons o (x.length + 0) x _ _ (Nat.le_refl _) (fun j hj => ?_) ?_
      · have := hh j (by rw [List.length_append]; omega)
        rwa [List.getElem_append_left hj] at this
      · unfold Lib.tailAddr
        by_cases hcap : cap = x.length + ([10] : Bs).length
        · rw [if_pos hcap]
          simp only [List.length_cons, List.length_nil] at hcap
          have hr : r = [] := List.eq_nil_of_length_eq_zero (by omega)
          subst hr
          exact ih o _ [] hkr (Nat.zero_le _) (fun j hj => by cases hj)
        · rw [if_neg hcap]
          have ha : (⟨b, o, none⟩ : Addr).add (x.length + ([10] : Bs).length) = ⟨b, o + (x.length + 1), none⟩ := by unfold Addr.add; rw [if_neg (by simp)]; rfl
          rw [ha]
          refine ih _ _ r hkr (by simp only [List.length_cons, List.length_nil]; omega) (fun j hj => ?_)
          have := hh (x.length + 1 + j) (by rw [List.length_append, List.length_cons]; omega)
          rw [List.getElem_append_right (by omega)] at this
          have e1 : o + (x.length + 1) + j = o + (x.length + 1 + j) := by omega
          rw [e1, this]
          have e2 : x.length + 1 + j - x.length = j + 1 := by omega
          simp only [e2, List.getElem_cons_succ]

theorem bytes_ints (l : Bs) : Lib.bytesOf (l.map fun c => (c.toNat : Int)) = l := by
  unfold Lib.bytesOf
  rw [List.map_map]
  conv => rhs; rw [← List.map_id l]
  apply List.map_congr_left
  intro c _
  simp

theorem split_is (s : ByteArray) (b o c g : Nat) (m : Int) (w : World) (hs : s.size ≤ 65536) (hc : s.size ≤ c) (hcm : c ≤ maxLen) (hB : Bytes w b o s) (hg : w.cell? ⟨g, 0, none⟩ = some (.int .u8 10)) (hm : w.cell? ⟨1, 0, none⟩ = some (.int .i64 m)) :
    Calls Tryd.prog 23 #[.slice (some ⟨b, o, none⟩) s.size c, .slice (some ⟨g, 0, none⟩) 1 1] w fun e w' => ∃ vs : List Value, e = .returned (.slice (some ⟨w.heap.size, 0, none⟩) vs.length vs.length) ∧ PiecesAt w b vs (cut s.data.toList) ∧ Below w.heap.size w w' ∧ (∀ (i : Nat) (v : Value), vs[i]? = some v → w'.cell? ⟨w.heap.size, i, none⟩ = some v) ∧ w'.heap.size = w.heap.size + 1 := by
  unfold maxLen at hcm
  have hadd : ∀ (a : Nat) (p : Nat) (i : Nat), (⟨a, p, none⟩ : Addr).add i = ⟨a, p + i, none⟩ := fun a p i => by unfold Addr.add; split <;> simp_all
  have hcell : ∀ i, i < s.size → w.cell? ((⟨b, o, none⟩ : Addr).add i) = some (.int .u8 ((s.data.toList.map fun c => (c.toNat : Int)).getD i 0)) := by
    intro i hi
    rw [hadd, hB.cell i hi]
    have h2 : i < (s.data.toList.map fun c => (c.toNat : Int)).length := by simpa using hi
    rw [List.getD_eq_getElem?_getD, List.getElem?_eq_getElem h2]
    simp
    rfl
  have hL := Any.bytes_Split Tryd.laysSplit ⟨b, o, none⟩ ⟨g, 0, none⟩ s.size c 1 1 (s.data.toList.map fun c => (c.toNat : Int)) [10] m w (by simp) rfl
    (by intro x hx; obtain ⟨c, _, rfl⟩ := List.mem_map.1 hx; have := c.toNat_lt; constructor <;> omega) (by intro y hy; rw [List.mem_singleton.1 hy]; constructor <;> decide) hcell
    (fun i hi => by
      have hi0 : i = 0 := by omega
      rw [hi0]
      exact hg) hc (by omega) (by decide) (by omega) (by decide) hm
  rw [bytes_ints, show Lib.bytesOf [10] = [10] from rfl, Lib.count_one] at hL
  have hp := split_pieces w b (s.data.toList.count 10) o c s.data.toList rfl (by rw [len_size]; exact hc) (fun j hj => hB.cell j (by simpa using hj))
  have hvl : (Lib.splitV [10] 0 (s.data.toList.count 10) ⟨b, o, none⟩ c s.data.toList).length = s.data.toList.count 10 + 1 := by
    have h : ∀ (n : Nat) (l : Bs), l.count 10 = n → (cut l).length = n + 1 := by
      intro n
      induction n with
      | zero =>
        intro l hl
        rw [cut_last (fun c hm hc => by subst hc; exact List.count_eq_zero.1 hl hm)]
        rfl
      | succ n ih =>
        intro l hl
        rcases index_lf l with ⟨_, h2⟩ | ⟨x, r, rfl, h2, _⟩
        · rw [noLF_count h2] at hl
          cases hl
        · rw [List.count_append, noLF_count h2, List.count_cons_self] at hl
          rw [cut_more r h2, List.length_cons, ih r (by omega)]
    rw [hp.len]
    exact h _ _ rfl
  generalize Lib.splitV [10] 0 (s.data.toList.count 10) ⟨b, o, none⟩ c s.data.toList = vs at *
  refine hL.mono ?_
  rintro e w' ⟨rfl, q, rfl⟩
  refine ⟨vs, by rw [hvl], hp, bdrew ((Below.refl _ _).alloc (Nat.le_refl _) _), fun i v hi => ?_, by simp⟩
  show (w.alloc (.cells vs.toArray _)).cell? ⟨w.heap.size, i, none⟩ = some v
  rw [cell_of_row _ w.heap.size i vs.toArray _ (0, 0) (heap_alloc_new w _)]
  simpa using hi
end Go.Proofs.YtbhfblogjlpnlaaDoor
