/-
  Plain facts on memories: their cells are one list; what cells make; four bytes at once or one by one. No condition.
-/
import Derived.Test.YticfffndciddgaaMeLoad
namespace Go.Proofs.Yticfffndciddgaa
open Go.RowKit Go.Maps

theorem rise_eq : ∀ (l m : List (Int × Int)), l.Pairwise (fun x y => x.1 < y.1) → m.Pairwise (fun x y => x.1 < y.1) → (∀ x, x ∈ l ↔ x ∈ m) → l = m
  | [], [], _, _, _ => rfl
  | [], y :: m, _, _, h => by have := (h y).2 (by simp); simp at this
  | x :: l, [], _, _, h => by have := (h x).1 (by simp); simp at this
  | x :: l, y :: m, h1, h2, h => by
    obtain ⟨a1, a2⟩ := List.pairwise_cons.1 h1
    obtain ⟨b1, b2⟩ := List.pairwise_cons.1 h2
    have hxy : x = y := by
      have p := (h x).1 (by simp)
      have q := (h y).2 (by simp)
      rcases List.mem_cons.1 p with p | p
      · exact p
      · rcases List.mem_cons.1 q with q | q
        · exact q.symm
        · have := a1 y q
          have := b1 x p
          omega
    subst hxy
    rw [rise_eq l m a2 b2 fun z => ?_]
    constructor
    · intro hz
      rcases List.mem_cons.1 ((h z).1 (List.mem_cons_of_mem _ hz)) with q | q
      · subst q
        have := a1 z hz
        omega
      · exact q
    · intro hz
      rcases List.mem_cons.1 ((h z).2 (List.mem_cons_of_mem _ hz)) with q | q
      · subst q
        have := b1 z hz
        omega
      · exact q
theorem Listed.eq {f : Int → Int} {l m : List (Int × Int)} (h : Listed f l) (k : Listed f m) : l = m :=
  rise_eq l m h.rise k.rise fun x => (h.mem x).trans (k.mem x).symm
theorem Listed.congr {f g : Int → Int} {l : List (Int × Int)} (h : Listed f l) (e : ∀ a, 0 ≤ a → a ≤ 4294967295 → f a = g a) : Listed g l := by
  refine ⟨h.rise, fun x => (h.mem x).trans ?_⟩
  constructor
  · rintro ⟨a, b, c, d⟩
    exact ⟨a, b, by rw [← e _ a b]; exact c, d⟩
  · rintro ⟨a, b, c, d⟩
    exact ⟨a, b, by rw [e _ a b]; exact c, d⟩

theorem fold_not (a : Int) : ∀ (l : List (Int × Int)) (g : Int → Int), (∀ x ∈ l, x.1 ≠ a) → l.foldl (fun f x => upd f x.1 x.2) g a = g a
  | [], _, _ => rfl
  | y :: l, g, h => by
    rw [List.foldl_cons, fold_not a l _ fun x hx => h x (List.mem_cons_of_mem _ hx)]
    unfold upd
    rw [if_neg fun q => h y (by simp) q.symm]
theorem fold_mem (a v : Int) : ∀ (l : List (Int × Int)) (g : Int → Int), l.Pairwise (fun x y => x.1 < y.1) → (a, v) ∈ l → l.foldl (fun f x => upd f x.1 x.2) g a = v
  | [], _, _, h => by simp at h
  | y :: l, g, hp, h => by
    obtain ⟨a1, a2⟩ := List.pairwise_cons.1 hp
    rw [List.foldl_cons]
    rcases List.mem_cons.1 h with q | q
    · subst q
      rw [fold_not a l _ fun x hx => by have := a1 x hx; simp only at this; omega]
      unfold upd
      rw [if_pos rfl]
    · exact fold_mem a v l _ a2 q
/-- A memory made of a memory's cells is as that one. -/
theorem made_listed {f : Int → Int} {l : List (Int × Int)} (h : Listed f l) (a : Int) (h0 : 0 ≤ a) (h1 : a ≤ 4294967295) : f a = madeF l a := by
  by_cases hz : f a = 0
  · rw [hz]
    refine (fold_not a l (fun _ => 0) fun x hx q => ?_).symm
    obtain ⟨_, _, h2, h3⟩ := (h.mem x).1 hx
    rw [q, hz] at h2
    exact h3 h2
  · exact (fold_mem a (f a) l (fun _ => 0) h.rise ((h.mem (a, f a)).2 ⟨h0, h1, rfl, hz⟩)).symm
theorem Listed.made {f : Int → Int} {l : List (Int × Int)} (h : Listed f l) : Listed (madeF l) l := h.congr (made_listed h)
theorem Listed.apart {f : Int → Int} {l : List (Int × Int)} (h : Listed f l) {i : Nat} {x : Int × Int} (hx : l[i]? = some x) : x.2 ≠ 0 := ((h.mem x).1 (List.mem_of_getElem? hx)).2.2.2
theorem Listed.up {f : Int → Int} {l : List (Int × Int)} (h : Listed f l) {i : Nat} {x y : Int × Int} (hx : l[i]? = some x) (hy : l[i + 1]? = some y) : x.1 < y.1 := by
  have h1 := List.pairwise_iff_getElem.1 h.rise
  obtain ⟨q1, rfl⟩ := List.getElem?_eq_some_iff.1 hx
  obtain ⟨q2, rfl⟩ := List.getElem?_eq_some_iff.1 hy
  exact h1 i (i + 1) q1 q2 (by omega)

theorem adr_ne {a : Int} {i j : Nat} (hi : i < 4) (hj : j < 4) (h : i ≠ j) : adr a i ≠ adr a j := by unfold adr; omega
theorem adr_ne' {a : Int} {i j : Nat} (hi : i < 65536) (hj : j < 65536) (h : i ≠ j) : adr a i ≠ adr a j := by unfold adr; omega
theorem adr_adr (a : Int) (i j : Nat) : adr (adr a i) j = adr a (i + j) := by unfold adr; omega

/-- The bytes k..3 of a number, put from the top down: n of them aren't put yet. -/
def partsF (v : Int) (f : Int → Int) (a : Int) : Nat → Int → Int
  | 0 => f
  | k + 1 => upd (partsF v f a k) (adr a (3 - k)) (byteAt v (3 - k))
theorem parts_four (v : Int) (f : Int → Int) (a x : Int) : partsF v f a 4 x = laidF (byteAt v) f a 4 x := by
  have h1 := adr_ne (a := a) (i := 0) (j := 1) (by omega) (by omega) (by omega)
  have h2 := adr_ne (a := a) (i := 0) (j := 2) (by omega) (by omega) (by omega)
  have h3 := adr_ne (a := a) (i := 0) (j := 3) (by omega) (by omega) (by omega)
  have h4 := adr_ne (a := a) (i := 1) (j := 2) (by omega) (by omega) (by omega)
  have h5 := adr_ne (a := a) (i := 1) (j := 3) (by omega) (by omega) (by omega)
  have h6 := adr_ne (a := a) (i := 2) (j := 3) (by omega) (by omega) (by omega)
  simp only [partsF, laidF, upd, show 3 - 3 = 0 by rfl, show 3 - 2 = 1 by rfl, show 3 - 1 = 2 by rfl, show 3 - 0 = 3 by rfl]
  by_cases e0 : x = adr a 0
  · subst e0; simp [h1, h2, h3]
  · by_cases e1 : x = adr a 1
    · subst e1; simp [h1.symm, h4, h5]
    · by_cases e2 : x = adr a 2
      · subst e2; simp [h2.symm, h4.symm, h6]
      · simp [e0, e1, e2]
theorem laid_at {g : Nat → Int} {f : Int → Int} {a : Int} {k : Nat} : ∀ n, n ≤ 4 → k < n → laidF g f a n (adr a k) = g k
  | 0, _, h => absurd h (by omega)
  | n + 1, hn, h => by
    unfold laidF upd
    by_cases e : k = n
    · subst e; rw [if_pos rfl]
    · rw [if_neg (adr_ne (by omega) (by omega) e), laid_at n (by omega) (by omega)]
theorem load_congr {f g : Int → Int} {a : Int} : ∀ n, (∀ k, k < n → f (adr a k) = g (adr a k)) → loadF f a n = loadF g a n
  | 0, _ => rfl
  | n + 1, h => by
    unfold loadF
    rw [load_congr n fun k hk => h k (by omega), h n (by omega)]
theorem load_four (f : Int → Int) (a v : Int) (v0 : 0 ≤ v) (v1 : v ≤ 4294967295) : loadF (laidF (byteAt v) f a 4) a 4 = v := by
  simp only [loadF, laid_at (g := byteAt v) (f := f) (a := a) 4 (by omega) (show 0 < 4 by omega), laid_at (g := byteAt v) (f := f) (a := a) 4 (by omega) (show 1 < 4 by omega), laid_at (g := byteAt v) (f := f) (a := a) 4 (by omega) (show 2 < 4 by omega), laid_at (g := byteAt v) (f := f) (a := a) 4 (by omega) (show 3 < 4 by omega), byteAt]
  simp
  omega
theorem load_twice (f : Int → Int) (a v : Int) (v0 : 0 ≤ v) (v1 : v ≤ 4294967295) : loadF (laidF (byteAt v) f a 4) a 2 + loadF (laidF (byteAt v) f a 4) (adr a 2) 2 * 65536 = v := by
  simp only [loadF, adr_adr, laid_at (g := byteAt v) (f := f) (a := a) 4 (by omega) (show 0 < 4 by omega), laid_at (g := byteAt v) (f := f) (a := a) 4 (by omega) (show 1 < 4 by omega), laid_at (g := byteAt v) (f := f) (a := a) 4 (by omega) (show 2 < 4 by omega), laid_at (g := byteAt v) (f := f) (a := a) 4 (by omega) (show 3 < 4 by omega), byteAt, Nat.reduceAdd]
  simp
  omega

/-- What awake's memory holds. -/
def wakeF : Int → Int := laidF (byteAt 258) (madeF []) 4294967295 2
theorem wakeF_is (x : Int) : wakeF x = if x = 0 then 1 else if x = 4294967295 then 2 else 0 := by
  have e0 : adr 4294967295 0 = 4294967295 := by decide
  have e1 : adr 4294967295 1 = 0 := by decide
  have b0 : byteAt 258 0 = 2 := by decide
  have b1 : byteAt 258 1 = 1 := by decide
  simp only [wakeF, laidF, upd, e0, e1, b0, b1, madeF, List.foldl_nil]
theorem wake_listed : Listed wakeF [(0, 1), (4294967295, 2)] := by
  refine ⟨by simp, fun x => ?_⟩
  rw [wakeF_is]
  obtain ⟨a, v⟩ := x
  simp
  constructor
  · rintro (⟨rfl, rfl⟩ | ⟨rfl, rfl⟩) <;> simp
  · rintro ⟨h1, h2, h3, h4⟩
    split at h3
    · exact .inl ⟨by assumption, h3⟩
    · split at h3
      · exact .inr ⟨by assumption, h3⟩
      · exact absurd h3 h4
theorem wake_two : loadF wakeF 4294967295 2 = 258 := by
  simp only [loadF, wakeF_is]
  decide
theorem wake_one : loadF wakeF 0 1 = 1 := by
  simp only [loadF, wakeF_is]
  decide
end Go.Proofs.Yticfffndciddgaa
