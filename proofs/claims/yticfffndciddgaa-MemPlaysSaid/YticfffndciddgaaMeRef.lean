/-
  The reference's memory behind a pointer; the contracts of its At, Put and New. Condition: there are not too many cells.
-/
import Derived.Test.YticfffndciddgaaMeRefS
import Derived.Laws.OwnMore
namespace Go.Proofs.Yticfffndciddgaa
open Go.RowKit Go.Maps

/-- The reference's memory, in memory from B on. -/
structure RefIs (B : Nat) (w : World) (r : Nat) (l : List (Int × Int)) : Prop where
  row : ∃ v, w.heap[r]? = some (.cells #[v] 53) ∧ w.ownsRow B 47 2 v l.length (flat l)
  base : B ≤ r
  nodup : (l.map (·.1)).Nodup
  ok : ∀ x ∈ l, 0 ≤ x.1 ∧ x.1 ≤ 4294967295 ∧ 0 ≤ x.2 ∧ x.2 ≤ 255

section
variable {B r : Nat} {w w' : World} {l : List (Int × Int)}
theorem RefIs.lt (h : RefIs B w r l) : r < w.heap.size := by
  obtain ⟨v, h1, _⟩ := h.row
  exact (Array.getElem?_eq_some_iff.1 h1).1
theorem row_apart {v u : Value} {n : Nat} {xs : List Value} (h1 : w.heap[r]? = some (.cells #[u] 53)) (h2 : w.ownsRow B 47 2 v n xs) : v.ownBlock ≠ some r := by
  intro q
  rcases h2.2 with ⟨rfl, _⟩ | ⟨g, cap, cur, rfl, _, hg, _⟩
  · simp [Value.ownBlock] at q
  · simp only [Value.ownBlock, Option.some.injEq] at q
    subst q
    rw [h1] at hg
    injection hg with hg
    injection hg with _ hg
    exact absurd hg (by decide)
/-- What the call does not own may turn, and blocks may come. -/
theorem RefIs.kept (h : RefIs B w r l) {row : Option Nat} (hg : w.grownBy w' row) (hr : ∀ k, row = some k → k < B) : RefIs B w' r l := by
  obtain ⟨v, h1, h2⟩ := h.row
  refine ⟨⟨v, (hg.block r h.lt fun q => ?_).trans h1, h2.kept hg ?_⟩, h.base, h.nodup, h.ok⟩
  · have := hr r q.symm
    have := h.base
    omega
  · rcases hq : v.ownBlock with _ | k
    · exact .inl rfl
    · refine .inr fun q => ?_
      have := (h2.lt k hq).1
      have := hr k q.symm
      omega
theorem RefIs.next (h : RefIs B w r l) (hb : Below w.heap.size w w') : RefIs B w' r l := by
  obtain ⟨v, h1, h2⟩ := h.row
  refine ⟨⟨v, (hb.block r h.lt).trans h1, h2.1, ?_⟩, h.base, h.nodup, h.ok⟩
  rcases h2.2 with q | ⟨g, cap, cur, q, hB, hg, hr⟩
  · exact .inl q
  · exact .inr ⟨g, cap, cur, q, hB, (hb.block g (Array.getElem?_eq_some_iff.1 hg).1).trans hg, hr⟩
/-- The row's cells, as they are loaded and stored. -/
structure RowAt (B : Nat) (w : World) (A : Option Addr) (c : Nat) (l : List (Int × Int)) : Prop where
  own : w.ownsRow B 47 2 (.slice A l.length c) l.length (flat l)
  le : l.length ≤ c
  max : c ≤ maxLen
  at_ : ∀ i x, l[i]? = some x → ∃ g, A = some ⟨g, 0, none⟩ ∧ B ≤ g ∧ g < w.heap.size ∧ w.cell? ⟨g, i * 2, none⟩ = some (.int .u32 x.1) ∧ w.cell? ⟨g, i * 2 + 1, none⟩ = some (.int .u8 x.2) ∧ w.frozen? ⟨g, i * 2 + 1, none⟩ = false
theorem RefIs.open (h : RefIs B w r l) : ∃ A c, w.heap[r]? = some (.cells #[.slice A l.length c] 53) ∧ RowAt B w A c l := by
  obtain ⟨v, h1, h2⟩ := h.row
  rcases h2.2 with ⟨rfl, h3⟩ | ⟨g, cap, cur, rfl, hB, hg, hc1, hc2, hc3, hc⟩
  · obtain rfl : l = [] := List.eq_nil_of_length_eq_zero h3
    exact ⟨none, 0, h1, h2, Nat.le_refl _, by simp [maxLen], fun i x hx => by simp at hx⟩
  · refine ⟨some ⟨g, 0, none⟩, cap, h1, h2, hc1, hc2, fun i x hx => ⟨g, rfl, hB, (Array.getElem?_eq_some_iff.1 hg).1, ?_, ?_, h2.frozenAt _⟩⟩
    · have hi := (List.getElem?_eq_some_iff.1 hx).1
      rw [h2.cellAt _ (by omega)]
      exact (flat_get l i x hx).1
    · have hi := (List.getElem?_eq_some_iff.1 hx).1
      rw [h2.cellAt _ (by omega)]
      exact (flat_get l i x hx).2
end

set_option maxRecDepth 100000 in
set_option maxHeartbeats 2000000 in
theorem at_is {B r : Nat} {w : World} {l : List (Int × Int)} (h : RefIs B w r l) (a : Int) (hl : l.length ≤ 100000) :
    Calls Try.prog 22 #[.pointer (some ⟨r, 0, none⟩), .int .u32 a] w fun e w' => e = .returned (.int .u8 (lookF l a)) ∧ w' = w := by
  obtain ⟨A, c, h1, hR⟩ := h.open
  have hc : w.cell? ⟨r, 0, none⟩ = some (.slice A l.length c) := by simp [World.cell?, h1]
  have hlc := hR.le
  have HR := Lib.hid hR
  clear hR h h1
  go_enter Try.func22, Try.ntmps22
  go_wp2_with fail
  go_loopg [5] (l.length + 1) (fun k vi wr => ∃ i : Nat, vi = .int .i64 i ∧ i ≤ l.length ∧ l.length + 1 ≤ i + k ∧ wr = w ∧ Hid (∀ j y, j < i → l[j]? = some y → y.1 ≠ a))
  case atStart => exact ⟨0, rfl, Nat.zero_le _, by omega, rfl, Lib.hid fun j y hj => absurd hj (by omega)⟩
  case round =>
    obtain ⟨i, rfl, hi, hk, rfl, HI⟩ := hrel
    by_cases hlt : i < l.length
    · have hlti : (i : Int) < l.length := by omega
      have hic : (i : Int) < c := by omega
      obtain ⟨x, hx⟩ : ∃ x, l[i]? = some x := ⟨_, List.getElem?_eq_getElem hlt⟩
      obtain ⟨g, rfl, _, hg, e0, e1, _⟩ := HR.out.at_ i x hx
      by_cases hxa : x.1 = a
      · have hxb : (x.1 == a) = true := by rw [hxa]; simp
        have hv := Lib.hid (look_at a l i x hx hxa HI.out)
        clear hx
        go_wp2_with fail
        go_ret
        exact ⟨by rw [hv.out]; rfl, rfl⟩
      · have hxb : (x.1 == a) = false := beq_eq_false_iff_ne.2 hxa
        have HX : Hid (∀ j y, j < i + 1 → l[j]? = some y → y.1 ≠ a) := Lib.hid fun j y hj hy => by
          rcases Nat.lt_or_ge j i with q | q
          · exact HI.out j y q hy
          · obtain rfl : j = i := by omega
            rw [hx] at hy
            injection hy with hy
            exact hy ▸ hxa
        clear hx hxa
        go_wp2_with fail
        go_roundg (l.length - i)
        case measure => omega
        case rel => exact ⟨i + 1, by go_num, by omega, by omega, rfl, HX⟩
    · have hlti : ¬ (i : Int) < l.length := by omega
      obtain rfl : i = l.length := by omega
      have hv := Lib.hid (look_none a l fun y hy => by
        obtain ⟨j, hj⟩ := List.mem_iff_getElem?.1 hy
        exact HI.out j y (List.getElem?_eq_some_iff.1 hj).1 hj)
      go_wp2_with fail
      go_ret
      exact ⟨by rw [hv.out]; rfl, rfl⟩

theorem flat_set : ∀ (l : List (Int × Int)) (i : Nat) (x : Int × Int) (v : Int), l[i]? = some x → (flat l).set (i * 2 + 1) (.int .u8 v) = flat (l.set i (x.1, v))
  | [], i, x, v, h => by simp at h
  | y :: l, 0, x, v, h => by
    have : y = x := by simpa using h
    subst this
    simp [flat]
  | y :: l, i + 1, x, v, h => by
    have ih := flat_set l i x v (by simpa using h)
    have e : flat (y :: l) = .int .u32 y.1 :: .int .u8 y.2 :: flat l := by simp [flat]
    have e2 : flat ((y :: l).set (i + 1) (x.1, v)) = .int .u32 y.1 :: .int .u8 y.2 :: flat (l.set i (x.1, v)) := by simp [flat]
    rw [e, e2, show (i + 1) * 2 + 1 = i * 2 + 1 + 1 + 1 by omega, List.set_cons_succ, List.set_cons_succ, ih]

theorem row_succ {w : World} {B : Nat} {v : Value} {n : Nat} {xs : List Value} (h : w.ownsRow B 47 2 v (n + 1) xs) : ∃ g cap, v = .slice (some ⟨g, 0, none⟩) (n + 1) cap := by
  rcases h.2 with ⟨_, q⟩ | ⟨g, cap, cur, q, _⟩
  · omega
  · exact ⟨g, cap, q⟩

/-- What is written is the reference's own: blocks of its two types, and new ones. -/
def Keep (w w' : World) : Prop := ∀ (k : Nat) (cs : Array Value) (t : TypeId), t ≠ 47 → t ≠ 53 → w.heap[k]? = some (.cells cs t) → w'.heap[k]? = some (.cells cs t)
theorem Keep.refl (w : World) : Keep w w := fun _ _ _ _ _ h => h
theorem Keep.trans {a b c : World} (h : Keep a b) (k : Keep b c) : Keep a c := fun i cs t h1 h2 q => k i cs t h1 h2 (h i cs t h1 h2 q)
theorem Keep.of {w w' : World} (h : Below w.heap.size w w') : Keep w w' := fun k _ _ _ _ q => (h.block k (Array.getElem?_eq_some_iff.1 q).1).trans q
theorem Keep.set {w : World} {g : Nat} {cs : Array Value} {t : TypeId} (hg : w.heap[g]? = some (.cells cs t)) (ht : t = 47 ∨ t = 53) (i : Nat) (v : Value) : Keep w (w.setCell ⟨g, i, none⟩ v) := by
  intro k cs' t' h1 h2 q
  have hne : k ≠ g := by
    rintro rfl
    rw [hg] at q
    injection q with q
    injection q with _ q
    subst q
    exact ht.elim h1 h2
  exact (heap_setCell_other _ ⟨g, i, none⟩ _ _ hne).trans q
theorem Keep.grown {w w' : World} {row : Option Nat} (hg : w.grownBy w' row) (hr : ∀ g, row = some g → ∃ cs, w.heap[g]? = some (.cells cs 47)) : Keep w w' := by
  intro k cs t h1 _ q
  refine (hg.block k (Array.getElem?_eq_some_iff.1 q).1 fun e => ?_).trans q
  obtain ⟨cs', hc⟩ := hr k e.symm
  rw [q] at hc
  injection hc with hc
  injection hc with _ hc
  exact h1 hc
theorem own_cell {w : World} {B s n : Nat} {e : TypeId} {v : Value} {xs : List Value} (h : w.ownsRow B e s v n xs) (k : Nat) (q : v.ownBlock = some k) : ∃ cs, w.heap[k]? = some (.cells cs e) := by
  rcases h.2 with ⟨rfl, _⟩ | ⟨g, cap, cur, rfl, _, hg, _⟩
  · simp [Value.ownBlock] at q
  · simp only [Value.ownBlock, Option.some.injEq] at q
    subst q
    exact ⟨cur, hg⟩

/-- What Put leaves. -/
def PutOut (B : Nat) (w : World) (r : Nat) (l : List (Int × Int)) (e : Ending) (w' : World) : Prop := e = .returned (.tuple #[]) ∧ RefIs B w' r l ∧ Below B w w'
def PutKeep (B : Nat) (w : World) (r : Nat) (l : List (Int × Int)) (e : Ending) (w' : World) : Prop := PutOut B w r l e w' ∧ Keep w w'

theorem put_found {B r g c : Nat} {w : World} {l : List (Int × Int)} {a v : Int} {i : Nat} {x : Int × Int} (h : RefIs B w r l) (h1 : w.heap[r]? = some (.cells #[.slice (some ⟨g, 0, none⟩) l.length c] 53)) (hR : RowAt B w (some ⟨g, 0, none⟩) c l)
    (hx : l[i]? = some x) (hxa : x.1 = a) (hf : ∀ j y, j < i → l[j]? = some y → y.1 ≠ a) (hB : B ≤ g) (a0 : 0 ≤ a) (a1 : a ≤ 4294967295) (v0 : 0 ≤ v) (v1 : v ≤ 255) :
    PutOut B w r (putL l a v) (.returned (.tuple #[])) (w.setCell ⟨g, i * 2 + 1, none⟩ (.int .u8 v)) := by
  obtain ⟨s1, s2⟩ := hR.own.stored (i * 2 + 1) (.int .u8 v)
  rw [flat_set l i x v hx, hxa] at s1
  have hne := row_apart h1 hR.own
  have hp := put_at a v l i x hx hxa hf
  refine ⟨rfl, ⟨⟨_, (s2.block r h.lt fun q => hne (by rw [q]; rfl)).trans h1, ?_⟩, h.base, put_nodup a v l h.nodup, fun y hy => ?_⟩, (Below.refl _ _).setCell (p := ⟨g, i * 2 + 1, none⟩) hB _⟩
  · rw [hp, List.length_set]
    exact s1
  · rcases put_mem a v l y hy with q | q
    · subst q; exact ⟨a0, a1, v0, v1⟩
    · exact h.ok y q

theorem put_behind {B r : Nat} {w w2 : World} {l : List (Int × Int)} {a v : Int} {u u' : Value} (h : RefIs B w r l) (hn : ∀ y ∈ l, y.1 ≠ a) (hr : w2.heap[r]? = some (.cells #[u] 53)) (hown : w2.ownsRow B 47 2 u' (l.length + 1) (flat l ++ [.int .u32 a, .int .u8 v])) (hb : Below B w w2) (a0 : 0 ≤ a) (a1 : a ≤ 4294967295) (v0 : 0 ≤ v) (v1 : v ≤ 255) :
    PutOut B w r (putL l a v) (.returned (.tuple #[])) (w2.setCell ⟨r, 0, none⟩ u') := by
  have hp := put_none a v l hn
  have hne := row_apart hr hown
  refine ⟨rfl, ⟨⟨u', ?_, ?_⟩, h.base, put_nodup a v l h.nodup, fun y hy => ?_⟩, hb.setCell (p := ⟨r, 0, none⟩) h.base _⟩
  · simp [World.setCell, Array.getElem?_modify, hr]
  · rw [hp, List.length_append, flat_snoc]
    exact ownsRow_setCell_other hown hne _
  · rcases put_mem a v l y hy with q | q
    · subst q; exact ⟨a0, a1, v0, v1⟩
    · exact h.ok y q

set_option maxRecDepth 100000 in
set_option maxHeartbeats 2000000 in
theorem rput_keep {B r : Nat} {w : World} {l : List (Int × Int)} (h : RefIs B w r l) (a v : Int) (a0 : 0 ≤ a) (a1 : a ≤ 4294967295) (v0 : 0 ≤ v) (v1 : v ≤ 255) (hl : l.length ≤ 100000) :
    Calls Try.prog 14 #[.pointer (some ⟨r, 0, none⟩), .int .u32 a, .int .u8 v] w (PutKeep B w r (putL l a v)) := by
  obtain ⟨i1, hi1, hz0, hz1, hz2⟩ := info_parts Try.infoCell
  obtain ⟨A, c, h1, hR⟩ := h.open
  have hc : w.cell? ⟨r, 0, none⟩ = some (.slice A l.length c) := by simp [World.cell?, h1]
  have hlc := hR.le
  have hBr := h.base
  have hrl := h.lt
  have HR := Lib.hid hR
  have H := Lib.hid h
  have H1 := Lib.hid h1
  clear hR h h1
  go_enter Try.func14, Try.ntmps14
  go_wp2_with fail
  go_loopg [6] (l.length + 1) (fun k vi wr => ∃ i : Nat, vi = .int .i64 i ∧ i ≤ l.length ∧ l.length + 1 ≤ i + k ∧ wr = w ∧ Hid (∀ j y, j < i → l[j]? = some y → y.1 ≠ a))
  case atStart => exact ⟨0, rfl, Nat.zero_le _, by omega, rfl, Lib.hid fun j y hj => absurd hj (by omega)⟩
  case round =>
    obtain ⟨i, rfl, hi, hk, rfl, HI⟩ := hrel
    by_cases hlt : i < l.length
    · have hlti : (i : Int) < l.length := by omega
      have hic : (i : Int) < c := by omega
      obtain ⟨x, hx⟩ : ∃ x, l[i]? = some x := ⟨_, List.getElem?_eq_getElem hlt⟩
      obtain ⟨g, rfl, hBg, hg, e0, e1, e2⟩ := HR.out.at_ i x hx
      by_cases hxa : x.1 = a
      · have hxb : (x.1 == a) = true := by rw [hxa]; simp
        have HK2 := Lib.hid (by
          obtain ⟨cs, hcs⟩ := own_cell HR.out.own g rfl
          exact Keep.set hcs (.inl rfl) (i * 2 + 1) (.int .u8 v))
        have HP := Lib.hid (put_found H.out H1.out HR.out hx hxa HI.out hBg a0 a1 v0 v1)
        clear hx hxa
        go_wp2_with fail
        refine bodyPost_ret (results_none rfl _ _ _) rfl ?_
        exact ⟨HP.out, HK2.out⟩
      · have hxb : (x.1 == a) = false := beq_eq_false_iff_ne.2 hxa
        have HX : Hid (∀ j y, j < i + 1 → l[j]? = some y → y.1 ≠ a) := Lib.hid fun j y hj hy => by
          rcases Nat.lt_or_ge j i with q | q
          · exact HI.out j y q hy
          · obtain rfl : j = i := by omega
            rw [hx] at hy
            injection hy with hy
            exact hy ▸ hxa
        clear hx hxa
        go_wp2_with fail
        go_roundg (l.length - i)
        case measure => omega
        case rel => exact ⟨i + 1, by go_num, by omega, by omega, rfl, HX⟩
    · have hlti : ¬ (i : Int) < l.length := by omega
      obtain rfl : i = l.length := by omega
      have HN := Lib.hid (fun y (hy : y ∈ l) => by
        obtain ⟨j, hj⟩ := List.mem_iff_getElem?.1 hy
        exact HI.out j y (List.getElem?_eq_some_iff.1 hj).1 hj)
      have hown := HR.out.own.alloc (.cells #[.int .u32 a, .int .u8 v] 47)
      have h1c : ∀ u ∈ [Value.int .u32 a, Value.int .u8 v], u.oneCell' = true := by
        intro u hu
        simp at hu
        rcases hu with rfl | rfl <;> rfl
      have hb2 : B ≤ (wr.alloc (.cells #[.int .u32 a, .int .u8 v] 47)).heap.size := Nat.le_trans (Nat.le_of_lt (Nat.lt_of_le_of_lt hBr hrl)) (by simp)
      have hb3 : r < (wr.alloc (.cells #[.int .u32 a, .int .u8 v] 47)).heap.size := Nat.lt_of_lt_of_le hrl (by simp)
      have hm1 : l.length + 1 ≤ maxLen := by unfold maxLen; omega
      have hne := row_apart H1.out HR.out.own
      have HX := Lib.hid (And.intro h1c (And.intro hb2 (And.intro hb3 (And.intro hm1 hne))))
      clear h1c hb2 hb3 hm1 hne
      go_wp2_with (at_builtin; go_loud (refine wpList_append_own_at _ rfl _ _ 22 rfl B 47 i1 (.agg #[.int .u32 0, .int .u8 0]) 2 8 Try.underlying22 hi1 hz0 hz1 hz2 rfl (by decide) _ l.length (flat l) rfl hown ⟨wr.heap.size, 0, none⟩ 1 1 [.int .u32 a, .int .u8 v] rfl rfl (two_new _ _ _ _) HX.out.1 HX.out.2.2.2.1 (by omega) HX.out.2.1 ?_; intro u' w2 hown2 hg2 _ _; obtain ⟨g', cap', rfl⟩ := row_succ hown2; have hr2 := (hg2.block r HX.out.2.2.1 (fun q => HX.out.2.2.2.2 q.symm)).trans ((Below.heap_alloc _ _ r hrl).trans H1.out); have c2 : w2.cell? ⟨r, 0, none⟩ = some (.slice A l.length c) := (by simp [World.cell?, hr2]); have f2 : w2.frozen? ⟨r, 0, none⟩ = false := (by simp [World.frozen?, hr2])))
      refine bodyPost_ret (results_none rfl _ _ _) rfl ?_
      refine ⟨?_, (Keep.of ((Below.refl _ _).alloc (Nat.le_refl _) _)).trans ((Keep.grown hg2 (own_cell hown)).trans (Keep.set hr2 (.inr rfl) 0 _))⟩
      exact put_behind H.out HN.out hr2 hown2 (((Below.refl B wr).alloc (Nat.le_of_lt (Nat.lt_of_le_of_lt hBr hrl)) _).grown hg2 HX.out.2.1 (fun k q => (HR.out.own.lt k q).1)) a0 a1 v0 v1
theorem rput_is {B r : Nat} {w : World} {l : List (Int × Int)} (h : RefIs B w r l) (a v : Int) (a0 : 0 ≤ a) (a1 : a ≤ 4294967295) (v0 : 0 ≤ v) (v1 : v ≤ 255) (hl : l.length ≤ 100000) :
    Calls Try.prog 14 #[.pointer (some ⟨r, 0, none⟩), .int .u32 a, .int .u8 v] w (PutOut B w r (putL l a v)) :=
  (rput_keep h a v a0 a1 v0 v1 hl).mono fun _ _ q => q.1
end Go.Proofs.Yticfffndciddgaa
