/-
  append of whatever slice onto a row of the call's own, a nil slice and an empty one too; a row's cells as they are loaded. No condition.
-/
import Derived.Test.YticfffndciddgaaMeRStore
import Derived.Deep.Upon
namespace Go.Proofs.Yticfffndciddgaa
open Go.RowKit Go.Maps

theorem run_append_own_src {P : Program} (w : World) (base : Nat) (t ty e : TypeId) (i : TypeInfo) (z : Value) (size bytes : Nat) (ht : P.underlying t = some (.slice e)) (hi : P.info? e = some i) (hz : i.zero = some z)
    (hsize : i.size = size) (hby : i.bytes = bytes) (hzs : z.cells.size = size) (hsz : 0 < size)
    (v : Value) (n : Nat) (xs : List Value) (hown : w.ownsRow base e size v n xs)
    (A : Option Addr) (m c : Nat) (news : List Value) (hl : news.length = m * size) (hnews : ∀ j u, news[j]? = some u → ∃ ad, A = some ad ∧ w.cell? (ad.add j) = some u) (h1 : ∀ u ∈ news, u.oneCell' = true)
    (h63 : n + m ≤ maxLen) (hbytes : (n + m) * bytes ≤ 140737488355328) (hbase : base ≤ w.heap.size) :
    ∃ v' w', (Builtin.append_ #[t, t] ty #[v, .slice A m c]).run P w = .ok v' w' ∧ w'.ownsRow base e size v' (n + m) (xs ++ news) ∧ w.grownBy w' v.ownBlock := by
  by_cases hm : m = 0
  · subst hm
    have hn : news = [] := List.eq_nil_of_length_eq_zero (by simpa using hl)
    subst hn
    have hS : Src P i.size t (.slice A 0 c) 0 [] w := by
      cases A with
      | none => exact Src.ofNil w ht c
      | some ad => exact Src.ofSlice w ht ad 0 c [] (by simp) (fun j u h => by simp at h) (fun u h => by simp at h)
    refine ⟨v, w, ?_, by simpa using hown, World.grownBy.refl _ _⟩
    rcases hown.2 with ⟨rfl, _⟩ | ⟨g, cap, cur, rfl, _, _, hnc, _⟩
    · exact run_append_nothing w t t ty e i ht hi none 0 0 (Nat.le_refl _) _ hS
    · exact run_append_nothing w t t ty e i ht hi (some ⟨g, 0, none⟩) n cap hnc _ hS
  · have hp : 0 < news.length := by rw [hl]; exact Nat.mul_pos (Nat.pos_of_ne_zero hm) hsz
    obtain ⟨ad, rfl, _⟩ := hnews 0 _ (List.getElem?_eq_getElem hp)
    obtain ⟨v', w', hr, h2, h3, _, _⟩ := run_append_own_at (P := P) w base t ty e i z size bytes ht hi hz hsize hby hzs hsz v n xs hown ad m c news hl (fun j u h => by
      obtain ⟨ad', q, h'⟩ := hnews j u h
      injection q with q
      rw [q]; exact h') h1 h63 hbytes hbase
    exact ⟨v', w', hr, h2, h3⟩

/-- In a plain region. -/
theorem wpList_append_own_src {P : Program} (w : World) {ops : Array Oper} {rest : List Oper} {o : Oper} {a : Act} {Q : Exit → Act → World → Prop} (hgd : o.guard = none) (s x : Operand) (t : TypeId)
    (ho : o.op = .call { callee := .builtin .append, args := #[s, x], argTypes := #[t, t] })
    (base : Nat) (e : TypeId) (i : TypeInfo) (z : Value) (size bytes : Nat) (ht : P.underlying t = some (.slice e)) (hi : P.info? e = some i) (hz : i.zero = some z)
    (hsize : i.size = size) (hby : i.bytes = bytes) (hzs : z.cells.size = size) (hsz : 0 < size)
    (v : Value) (n : Nat) (xs : List Value) (hs : a.eval s = v) (hown : w.ownsRow base e size v n xs)
    (A : Option Addr) (m c : Nat) (news : List Value) (hx : a.eval x = .slice A m c) (hl : news.length = m * size) (hnews : ∀ j u, news[j]? = some u → ∃ ad, A = some ad ∧ w.cell? (ad.add j) = some u) (h1 : ∀ u ∈ news, u.oneCell' = true)
    (h63 : n + m ≤ maxLen) (hbytes : (n + m) * bytes ≤ 140737488355328) (hbase : base ≤ w.heap.size)
    (h : ∀ v' w', w'.ownsRow base e size v' (n + m) (xs ++ news) → w.grownBy w' v.ownBlock → wpList P ops Q rest (a.put o.dst v') w') :
    wpList P ops Q (o :: rest) a w := by
  refine wpList_plain hgd fun K hK => ?_
  obtain ⟨v', w', hr, h2, h3⟩ := run_append_own_src (P := P) w base t o.type e i z size bytes ht hi hz hsize hby hzs hsz v n xs hown A m c news hl hnews h1 h63 hbytes hbase
  unfold Oper.wp execOp
  simp only [ho, resolve, invoke, builtin, Sem.run_bind, Sem.run_pure, Result.andThen_ok, List.map_toArray, List.map_cons, List.map_nil, hs, hx, hr]
  exact hK _ _ (h v' w' h2 h3)

/-- As a step of a region that draws. -/
theorem step_append_own_src {P : Program} {ops : Array Oper} {o : Oper} {a : Act} {w : World} {K : Act → World → Prop} {Q : Exit → Act → World → Prop} {E : Prop}
    (hg : o.guard = none) (s x : Operand) (t : TypeId) (hop : o.op = Op.call { callee := Callee.builtin Builtin.append, args := #[s, x], argTypes := #[t, t] })
    (base : Nat) (e : TypeId) (i : TypeInfo) (z : Value) (size bytes : Nat) (ht : P.underlying t = some (.slice e)) (hi : P.info? e = some i) (hz : i.zero = some z)
    (hsize : i.size = size) (hby : i.bytes = bytes) (hzs : z.cells.size = size) (hsz : 0 < size)
    (v : Value) (n : Nat) (xs : List Value) (hs : a.eval s = v) (hown : w.ownsRow base e size v n xs)
    (A : Option Addr) (m c : Nat) (news : List Value) (hx : a.eval x = .slice A m c) (hl : news.length = m * size) (hnews : ∀ j u, news[j]? = some u → ∃ ad, A = some ad ∧ w.cell? (ad.add j) = some u) (h1 : ∀ u ∈ news, u.oneCell' = true)
    (h63 : n + m ≤ maxLen) (hbytes : (n + m) * bytes ≤ 140737488355328) (hbase : base ≤ w.heap.size)
    (hK : ∀ v' w', w'.ownsRow base e size v' (n + m) (xs ++ news) → w.grownBy w' v.ownBlock → K (a.put o.dst v') w') :
    if Region.wanted o (yielded ops a.tmps) = true then Oper.wp P o a w K Q else E := by
  have hw : Region.wanted o (yielded ops a.tmps) = true := by simp [Region.wanted, hg]
  rw [if_pos hw]
  obtain ⟨v', w', hr, h2, h3⟩ := run_append_own_src (P := P) w base t o.type e i z size bytes ht hi hz hsize hby hzs hsz v n xs hown A m c news hl hnews h1 h63 hbytes hbase
  unfold Oper.wp execOp
  simp only [hop, resolve, invoke, builtin, Sem.run_bind, Sem.run_pure, Result.andThen_ok, List.map_toArray, List.map_cons, List.map_nil, hs, hx, hr]
  exact hK v' w' h2 h3

/-- What a row of the call's own is. -/
theorem RowAt.of_own {B : Nat} {w : World} {v : Value} {n : Nat} {l : List (Int × Int)} (hn : l.length = n) (h2 : w.ownsRow B 47 2 v n (flat l)) : ∃ A c, v = .slice A n c ∧ RowAt B w A c l := by
  subst hn
  rcases h2.2 with ⟨rfl, h3⟩ | ⟨g, cap, cur, rfl, hB, hg, hc1, hc2, hc3, hc⟩
  · obtain rfl : l = [] := List.eq_nil_of_length_eq_zero h3
    exact ⟨none, 0, rfl, h2, Nat.le_refl _, by simp [maxLen], fun i x hx => by simp at hx⟩
  · refine ⟨some ⟨g, 0, none⟩, cap, rfl, h2, hc1, hc2, fun i x hx => ⟨g, rfl, hB, (Array.getElem?_eq_some_iff.1 hg).1, ?_, ?_, h2.frozenAt _⟩⟩
    · have hi := (List.getElem?_eq_some_iff.1 hx).1
      rw [h2.cellAt _ (by omega)]
      exact (flat_get l i x hx).1
    · have hi := (List.getElem?_eq_some_iff.1 hx).1
      rw [h2.cellAt _ (by omega)]
      exact (flat_get l i x hx).2

theorem flat_one : ∀ (l : List (Int × Int)), ∀ u ∈ flat l, u.oneCell' = true := by
  intro l u hu
  obtain ⟨x, _, hx⟩ := List.mem_flatMap.1 hu
  simp at hx
  rcases hx with rfl | rfl <;> rfl
theorem flat_app (l m : List (Int × Int)) : flat (l ++ m) = flat l ++ flat m := by simp [flat]
theorem flat_inv : ∀ (l : List (Int × Int)) (j : Nat) (u : Value), (flat l)[j]? = some u → ∃ i x, l[i]? = some x ∧ ((j = i * 2 ∧ u = .int .u32 x.1) ∨ (j = i * 2 + 1 ∧ u = .int .u8 x.2))
  | [], j, u, h => by simp [flat] at h
  | y :: l, 0, u, h => by
    have e : flat (y :: l) = .int .u32 y.1 :: .int .u8 y.2 :: flat l := by simp [flat]
    rw [e] at h
    exact ⟨0, y, rfl, .inl ⟨rfl, by simpa using h.symm⟩⟩
  | y :: l, 1, u, h => by
    have e : flat (y :: l) = .int .u32 y.1 :: .int .u8 y.2 :: flat l := by simp [flat]
    rw [e] at h
    exact ⟨0, y, rfl, .inr ⟨rfl, by simpa using h.symm⟩⟩
  | y :: l, j + 2, u, h => by
    have e : flat (y :: l) = .int .u32 y.1 :: .int .u8 y.2 :: flat l := by simp [flat]
    rw [e] at h
    obtain ⟨i, x, hx, hq⟩ := flat_inv l j u (by simpa using h)
    exact ⟨i + 1, x, by simpa using hx, hq.imp (fun q => ⟨by omega, q.2⟩) (fun q => ⟨by omega, q.2⟩)⟩
/-- The cells from one on, behind a slice's address. -/
theorem RowAt.from {B : Nat} {w w' : World} {A A' : Option Addr} {c k : Nat} {l : List (Int × Int)} (h : RowAt B w A c l) (hb : Below w.heap.size w w') (hA : ∀ g, ¬ c = k → A = some ⟨g, 0, none⟩ → A' = some ⟨g, k * 2, none⟩) :
    ∀ j u, (flat (l.drop k))[j]? = some u → ∃ ad, A' = some ad ∧ w'.cell? (ad.add j) = some u := by
  intro j u hu
  obtain ⟨i, x, hx, hq⟩ := flat_inv _ j u hu
  rw [List.getElem?_drop] at hx
  obtain ⟨g, rfl, _, hg, e0, e1, _⟩ := h.at_ (k + i) x hx
  have hlt := (List.getElem?_eq_some_iff.1 hx).1
  have hle := h.le
  refine ⟨_, hA g (by omega) rfl, ?_⟩
  rcases hq with ⟨rfl, rfl⟩ | ⟨rfl, rfl⟩
  · rw [Addr.add_lit, show k * 2 + i * 2 = (k + i) * 2 by omega]
    exact (hb.cell (p := ⟨g, (k + i) * 2, none⟩) hg).trans e0
  · rw [Addr.add_lit, show k * 2 + (i * 2 + 1) = (k + i) * 2 + 1 by omega]
    exact (hb.cell (p := ⟨g, (k + i) * 2 + 1, none⟩) hg).trans e1
/-- The cells up to one. -/
theorem RowAt.upto {B : Nat} {w w' : World} {A A' : Option Addr} {c k : Nat} {l : List (Int × Int)} (h : RowAt B w A c l) (hb : Below w.heap.size w w') (hA : ∀ g, ¬ c = 0 → A = some ⟨g, 0, none⟩ → A' = some ⟨g, 0, none⟩) :
    ∀ j u, (flat (l.take k))[j]? = some u → ∃ ad, A' = some ad ∧ w'.cell? (ad.add j) = some u := by
  intro j u hu
  obtain ⟨i, x, hx, hq⟩ := flat_inv _ j u hu
  have hx : l[i]? = some x := by
    have := (List.getElem?_eq_some_iff.1 hx).1
    rw [List.length_take] at this
    rwa [List.getElem?_take_of_lt (by omega)] at hx
  obtain ⟨g, rfl, _, hg, e0, e1, _⟩ := h.at_ i x hx
  have hlt := (List.getElem?_eq_some_iff.1 hx).1
  have hle := h.le
  refine ⟨_, hA g (by omega) rfl, ?_⟩
  rcases hq with ⟨rfl, rfl⟩ | ⟨rfl, rfl⟩
  · rw [Addr.add_lit, Nat.zero_add]
    exact (hb.cell (p := ⟨g, i * 2, none⟩) hg).trans e0
  · rw [Addr.add_lit, Nat.zero_add]
    exact (hb.cell (p := ⟨g, i * 2 + 1, none⟩) hg).trans e1
theorem RowAt.all {B : Nat} {w w' : World} {A : Option Addr} {c : Nat} {l : List (Int × Int)} (h : RowAt B w A c l) (hb : Below w.heap.size w w') :
    ∀ j u, (flat l)[j]? = some u → ∃ ad, A = some ad ∧ w'.cell? (ad.add j) = some u := by
  have := h.upto (A' := A) (k := l.length) hb (fun _ _ q => q)
  rwa [List.take_length] at this
end Go.Proofs.Yticfffndciddgaa
