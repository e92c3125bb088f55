/-
  The contract of the reference lexer's Lines, for a source whose lines are known one by one: the lines are those, each with its tokens. Conditions: the source's bytes lie at the head of a block, at most 65536 of them; no line begins at its end; line answers each line as said.
-/
import Derived.Test.YtccomiigdpfbpaaDoorLine
import Derived.Laws.IdiomStrings
import Derived.BigQuiet
namespace Go.Proofs.YtccomiigdpfbpaaDoor
open Go.RowKit

def NoLF (s : ByteArray) (a b : Nat) : Prop := ∀ j (_ : j < s.size), a ≤ j → j < b → ¬ (s[j].toNat : Int) = 10

/-- From a place on, a source is just these lines. -/
inductive SrcFrom (s : ByteArray) : Nat → List (List Piece) → Prop
  | last (f : Nat) (ps : List Piece) (h : f < s.size) (hn : NoLF s f s.size) (hl : LexFrom (s.extract f s.size) 0 ps) : SrcFrom s f [ps]
  | more (f t : Nat) (ps : List Piece) (rest : List (List Piece)) (hf : f ≤ t) (ht : t < s.size) (he : (s[t].toNat : Int) = 10) (hn : NoLF s f t) (hl : LexFrom (s.extract f t) 0 ps) (r : SrcFrom s (t + 1) rest) : SrcFrom s f (ps :: rest)

theorem SrcFrom.len {s : ByteArray} {f : Nat} {all : List (List Piece)} (h : SrcFrom s f all) : all.length + f ≤ s.size + 1 := by
  induction h with
  | last f ps h => simp; omega
  | more f t ps rest hf ht he hn hl r ih => simp; omega

/-- What is held of the lines that are read. -/
def LinesAt (w : World) (base : Nat) (vs : List Value) (done : List (List Piece)) : Prop :=
  vs.length = done.length ∧ ∀ (i : Nat) (ps : List Piece), done[i]? = some ps → ∃ u, vs[i]? = some u ∧ w.ownsRow base 63 6 u ps.length (allCells ps ((i : Int) + 1))

theorem LinesAt.below {w w' : World} {base : Nat} {vs : List Value} {done : List (List Piece)} (h : LinesAt w base vs done) (hb : Below w.heap.size w w') : LinesAt w' base vs done :=
  ⟨h.1, fun i ps hi => by
    obtain ⟨u, hu, ho⟩ := h.2 i ps hi
    exact ⟨u, hu, own_below ho hb⟩⟩
theorem own_ne {w : World} {b1 b2 e1 e2 z1 z2 n1 n2 : Nat} {v1 v2 : Value} {x1 x2 : List Value} (h1 : w.ownsRow b1 e1 z1 v1 n1 x1) (h2 : w.ownsRow b2 e2 z2 v2 n2 x2) (hne : e1 ≠ e2) : v1.ownBlock = none ∨ v1.ownBlock ≠ v2.ownBlock := by
  rcases h1.2 with ⟨rfl, _⟩ | ⟨g, cap, cur, rfl, _, hh, _⟩
  · exact Or.inl rfl
  · right
    rcases h2.2 with ⟨rfl, _⟩ | ⟨g', cap', cur', rfl, _, hh', _⟩
    · simp [Value.ownBlock]
    · simp only [Value.ownBlock, ne_eq, Option.some.injEq]
      intro e
      subst e
      rw [hh] at hh'
      injection hh' with hh'
      injection hh' with _ ht
      exact hne ht
theorem LinesAt.grown {w w' : World} {base b2 n2 : Nat} {vs x2 : List Value} {done : List (List Piece)} {v : Value} (h : LinesAt w base vs done) (ho : w.ownsRow b2 35 1 v n2 x2) (hg : w.grownBy w' v.ownBlock) : LinesAt w' base vs done :=
  ⟨h.1, fun i ps hi => by
    obtain ⟨u, hu, hu2⟩ := h.2 i ps hi
    exact ⟨u, hu, hu2.kept hg (own_ne hu2 ho (by decide))⟩⟩
theorem LinesAt.snoc {w : World} {base : Nat} {vs : List Value} {done : List (List Piece)} {u : Value} {ps : List Piece} (h : LinesAt w base vs done) (hu : w.ownsRow base 63 6 u ps.length (allCells ps ((done.length : Int) + 1))) : LinesAt w base (vs ++ [u]) (done ++ [ps]) := by
  refine ⟨by simp [h.1], fun i qs hi => ?_⟩
  rcases Nat.lt_trichotomy i done.length with hlt | rfl | hgt
  · rw [List.getElem?_append_left hlt] at hi
    obtain ⟨x, hx, ho⟩ := h.2 i qs hi
    exact ⟨x, by rw [List.getElem?_append_left (by rw [h.1]; exact hlt)]; exact hx, ho⟩
  · simp at hi
    subst hi
    exact ⟨u, by rw [← h.1]; simp, hu⟩
  · rw [List.getElem?_eq_none (by simp; omega)] at hi
    cases hi

theorem LinesAt.base {w : World} {base base' : Nat} {vs : List Value} {done : List (List Piece)} (h : LinesAt w base vs done) (hb : base' ≤ base) : LinesAt w base' vs done :=
  ⟨h.1, fun i ps hi => by
    obtain ⟨u, hu, ho⟩ := h.2 i ps hi
    exact ⟨u, hu, own_base ho hb⟩⟩
theorem LinesAt.setBelow {w : World} {base : Nat} {vs : List Value} {done : List (List Piece)} (h : LinesAt w base vs done) {a : Addr} (ha : a.block < base) (x : Value) : LinesAt (w.setCell a x) base vs done :=
  ⟨h.1, fun i ps hi => by
    obtain ⟨u, hu, ho⟩ := h.2 i ps hi
    exact ⟨u, hu, ownsRow_setCell_below ho ha x⟩⟩

/-- The answer of Lines. -/
def LinesOut (w0 : World) (all : List (List Piece)) (e : Ending) (w' : World) : Prop :=
  ∃ v vs, e = .returned (.tuple #[v, .agg #[.int .i64 0, .int .i64 0, .int .i64 0]]) ∧ w'.ownsRow w0.heap.size 35 1 v all.length vs ∧ LinesAt w' w0.heap.size vs all ∧ Below w0.heap.size w0 w'

/-- What holds at the loop's head. -/
structure SrcInv (s : ByteArray) (w0 : World) (all : List (List Piece)) (k f : Nat) (v : Value) (wr : World) (done rest : List (List Piece)) (vs : List Value) : Prop where
  eq : done ++ rest = all
  src : (rest = [] ∧ k = s.size + 1) ∨ (k ≤ s.size ∧ f ≤ k ∧ NoLF s f k ∧ SrcFrom s f rest)
  own : wr.ownsRow (w0.heap.size + 1) 35 1 v done.length vs
  lines : LinesAt wr (w0.heap.size + 1) vs done
  below : Below (w0.heap.size + 1) (w0.alloc (.cells #[.int .i64 0, .int .i64 0, .int .i64 0] 30)) wr
def SrcAt (s : ByteArray) (w0 : World) (all : List (List Piece)) (k f : Nat) (v : Value) (wr : World) : Prop := ∃ done rest vs, SrcInv s w0 all k f v wr done rest vs

theorem own_shape {w : World} {base e size n : Nat} {v : Value} {xs : List Value} (h : w.ownsRow base e size v n xs) : ∃ A c, v = .slice A n c := by
  rcases h.2 with ⟨rfl, rfl⟩ | ⟨g, cap, cur, rfl, _⟩
  · exact ⟨none, 0, rfl⟩
  · exact ⟨_, _, rfl⟩

/-- The things that a round can meet: a byte that is passed by; a line that ends, with another behind it or none. -/
theorem SrcFrom.next {s : ByteArray} {k f : Nat} {rest : List (List Piece)} (hk : k ≤ s.size) (hfk : f ≤ k) (hn : NoLF s f k) (h : SrcFrom s f rest) :
    (∃ hlt : k < s.size, ¬ (s[k].toNat : Int) = 10 ∧ NoLF s f (k + 1)) ∨
    (∃ ps r, rest = ps :: r ∧ LexFrom (s.extract f k) 0 ps ∧ f < s.size ∧ ((∃ hlt : k < s.size, (s[k].toNat : Int) = 10 ∧ SrcFrom s (k + 1) r) ∨ (k = s.size ∧ r = []))) := by
  cases h with
  | last _ ps h hn2 hl =>
    rcases Nat.lt_or_ge k s.size with hlt | hge
    · exact .inl ⟨hlt, hn2 k hlt hfk hlt, fun j hj h1 h2 => hn2 j hj h1 hj⟩
    · have : k = s.size := by omega
      subst this
      exact .inr ⟨ps, [], rfl, hl, h, .inr ⟨rfl, rfl⟩⟩
  | more _ t ps r hf ht he hn2 hl hr =>
    rcases Nat.lt_trichotomy k t with hlt | rfl | hgt
    · exact .inl ⟨by omega, hn2 k (by omega) hfk hlt, fun j hj h1 h2 => hn2 j hj h1 (by omega)⟩
    · exact .inr ⟨ps, r, rfl, hl, by omega, .inl ⟨ht, he, hr⟩⟩
    · exact absurd he (hn t ht hf hgt)

/-- What a round does that reads a line. -/
theorem src_step {s : ByteArray} {w0 wr w1 w2 : World} {all done rest : List (List Piece)} {ps : List Piece} {k : Nat} {v v' u : Value} {vs : List Value} {o1 o2 : Obj}
    (heq : done ++ ps :: rest = all) (hown : wr.ownsRow (w0.heap.size + 1) 35 1 v done.length vs) (hlines : LinesAt wr (w0.heap.size + 1) vs done)
    (hbel : Below (w0.heap.size + 1) (w0.alloc (.cells #[.int .i64 0, .int .i64 0, .int .i64 0] 30)) wr) (hb1 : Below wr.heap.size wr w1)
    (hu : w1.ownsRow wr.heap.size 63 6 u ps.length (allCells ps ((done.length : Int) + 1)))
    (hown' : w2.ownsRow (w0.heap.size + 1) 35 1 v' (done.length + 1) (vs ++ [u])) (hgrow : ((w1.alloc o1).alloc o2).grownBy w2 v.ownBlock)
    (hs : (rest = [] ∧ k + 1 = s.size + 1) ∨ (k + 1 ≤ s.size ∧ SrcFrom s (k + 1) rest)) : SrcAt s w0 all (k + 1) (k + 1) v' w2 := by
  have hsz := hbel.size
  simp at hsz
  have hs1 := hb1.size
  have hown2 : ((w1.alloc o1).alloc o2).ownsRow (w0.heap.size + 1) 35 1 v done.length vs := ((own_below hown hb1).alloc _).alloc _
  have hl1 : LinesAt ((w1.alloc o1).alloc o2) (w0.heap.size + 1) (vs ++ [u]) (done ++ [ps]) :=
    ((hlines.below hb1).snoc (own_base hu hsz)).below (w' := (w1.alloc o1).alloc o2) (((Below.refl _ _).alloc (Nat.le_refl _) _).alloc (by simp) _)
  refine ⟨done ++ [ps], rest, vs ++ [u], ⟨by simpa using heq, ?_, by simpa using hown', hl1.grown hown2 hgrow, ?_⟩⟩
  · rcases hs with h | ⟨h1, h2⟩
    · exact .inl h
    · exact .inr ⟨h1, Nat.le_refl _, fun j _ h3 h4 => absurd h3 (by omega), h2⟩
  · refine Below.grown (((hbel.trans (hb1.mono hsz)).alloc (by omega) o1).alloc (by simp; omega) o2) hgrow (by simp; omega) ?_
    intro g hg
    exact (hown.lt g hg).1

theorem Tryd.infoLine : (Tryd.prog.info? 35).map (fun i => (i.zero, i.size, i.bytes)) = some (some (.slice none 0 0), 1, 24) := by kernel_rfl

theorem extract_bytes (s : ByteArray) (f k : Nat) (hfk : f ≤ k) (hk : k ≤ s.size) : (s.extract f k).data.toList.length = k - f ∧ ∀ j (hj : j < (s.extract f k).data.toList.length), (s.extract f k).data.toList[j] = s[f + j]'(by simp at hj; omega) := by
  constructor
  · simp; omega
  · intro j hj
    simp [ByteArray.data_extract]
    rfl

set_option maxRecDepth 100000 in
set_option maxHeartbeats 4000000 in
theorem lines_any (s : ByteArray) (b c : Nat) (all : List (List Piece)) (w : World) (hs : s.size ≤ 65536) (hcap : s.size ≤ c) (hcm : c ≤ maxLen) (h : SrcFrom s 0 all) (hbw : b < w.heap.size)
    (hcell : ∀ j (hj : j < s.size), w.cell? ⟨b, j, none⟩ = some (.int .u8 (s[j].toNat : Int))) :
    Calls Tryd.prog 16 #[.slice (some ⟨b, 0, none⟩) s.size c] w (LinesOut w all) := by
  obtain ⟨i0, hi, hz0, hz1, hz2⟩ := info_parts Tryd.infoLine
  unfold maxLen at hcm
  have HCELL := Lib.hid hcell
  clear hcell
  go_enter Tryd.func16, Tryd.ntmps16
  go_wp2
  go_loopw [4, 5, 6] (fun v fr i wr => ∃ k f : Nat, i = .int .i64 k ∧ fr = .int .i64 f ∧ SrcAt s w all k f v wr) (fun _ _ i _ => s.size + 1 - (intOf i).toNat)
  case atStart => exact ⟨0, 0, rfl, rfl, [], all, [], rfl, .inr ⟨Nat.zero_le _, Nat.le_refl _, fun j _ _ h => absurd h (by omega), h⟩, World.ownsRow_nil _ _ _ _, ⟨rfl, fun i ps h => by simp at h⟩, Below.refl _ _⟩
  case round =>
    obtain ⟨k, f, rfl, rfl, done, rest, vs, heq, hsrc, hown, hlines, hbel⟩ := hrel
    have HE := Lib.hid heq
    clear heq
    have HB := Lib.hid hbel
    clear hbel
    have HL := Lib.hid hlines
    clear hlines
    rcases hsrc with ⟨hr, hk⟩ | ⟨hk, hfk, hno, hsf⟩
    · subst hk
      have hd : done = all := by have := HE.out; rw [hr] at this; simpa using this
      subst hr
      rw [hd] at hown
      have HL2 : Hid (LinesAt wr (w.heap.size + 1) vs all) := by have := HL.out; rwa [hd] at this
      have HO := Lib.hid hown
      clear hown hd HL HE
      have hf := HB.out.cell (p := ⟨w.heap.size, 0, none⟩) (by simp)
      have hf1 := HB.out.cell (p := ⟨w.heap.size, 1, none⟩) (by simp)
      have hf2 := HB.out.cell (p := ⟨w.heap.size, 2, none⟩) (by simp)
      have hz := HB.out.frozen (p := ⟨w.heap.size, 0, none⟩) (by simp)
      have hz1' := HB.out.frozen (p := ⟨w.heap.size, 1, none⟩) (by simp)
      have hz2' := HB.out.frozen (p := ⟨w.heap.size, 2, none⟩) (by simp)
      simp at hf hf1 hf2 hz hz1' hz2'
      have hbl : Below w.heap.size w wr := ((Below.refl _ _).alloc (Nat.le_refl _) _).trans (HB.out.mono (by omega))
      have HL := Lib.hid hbl
      clear hbl
      go_wp2
      exact bodyPost_ret (v := .tuple #[u4, .agg #[.int .i64 0, .int .i64 0, .int .i64 0]]) (by simp [results, Tryd.results16, go_sem, hf, hf1, hf2]) rfl
        ⟨u4, vs, rfl, own_base (ownsRow_setCell_below (ownsRow_setCell_below (ownsRow_setCell_below HO.out (by simp) _) (by simp) _) (by simp) _) (by omega), LinesAt.base (((HL2.out.setBelow (by simp) _).setBelow (by simp) _).setBelow (by simp) _) (by omega), ((HL.out.setCell (by simp) _).setCell (by simp) _).setCell (by simp) _⟩
    · have hcl : ∀ (hlt : k < s.size), wr.cell? ⟨b, k, none⟩ = some (.int .u8 (s[k].toNat : Int)) := fun hlt => (HB.out.cell (p := ⟨b, k, none⟩) (by simp; omega)).trans ((World.cell?_alloc_lt _ _ ⟨b, k, none⟩ hbw).trans (HCELL.out k hlt))
      rcases hsf.next hk hfk hno with ⟨hlt, hne, hno'⟩ | ⟨ps, r, hrest, hlex, hfs, hend⟩
      · have hb2 : ((s[k].toNat : Int) != 10) = true := by simpa using hne
        have hck := hcl hlt
        have HO := Lib.hid hown
        have HN := Lib.hid hno'
        have HF := Lib.hid hsf
        clear hno' hne hcl hown hno hsf
        go_wp2
        go_roundw
        case rel => exact ⟨k + 1, f, by go_num, rfl, done, rest, vs, HE.out, .inr ⟨by omega, by omega, HN.out, HF.out⟩, HO.out, HL.out, HB.out⟩
        case measure => simp [intOf]; omega
      · obtain ⟨A, cp, rfl⟩ := own_shape hown
        have hrow : ∀ j (hj : j < s.size), wr.cell? ⟨b, j, none⟩ = some (.int .u8 (s[j].toNat : Int)) := fun j hj => (HB.out.cell (p := ⟨b, j, none⟩) (by simp; omega)).trans ((World.cell?_alloc_lt _ _ ⟨b, j, none⟩ hbw).trans (HCELL.out j hj))
        have hx := extract_bytes s f k hfk hk
        have hcv := run_convert_bytes_back (P := Tryd.prog) wr 44 9 5 ⟨b, f, none⟩ (c - f) (s.extract f k).data.toList Tryd.underlying44 Tryd.underlying5 Tryd.underlying9
          (fun j hj => by
            have hplain : (⟨b, f, none⟩ : Addr).add j = ⟨b, f + j, none⟩ := by unfold Addr.add; split <;> simp_all
            rw [hplain, hrow (f + j) (by have := hx.1; omega), hx.2 j hj])
        rw [hx.1] at hcv
        have hcv2 : (convert 44 9 (.slice (some ⟨b, f, none⟩) (k - f) (c - f))).run Tryd.prog wr = .ok (.string (s.extract f k)) wr := hcv
        clear hcv hx hrow
        have hsz2 : (s.extract f k).size ≤ 65536 := by simp; omega
        have hla := fun (ln : Int) (W : World) => line_any (s.extract f k) ln ps W hsz2 hlex
        have HE2 : Hid (done ++ ps :: r = all) := by have := HE.out; rw [hrest] at this; exact this
        clear hrest hno hsf
        have hcf : ¬ c = f := by omega
        have hdl : done.length ≤ 65537 := by
          have h1 := h.len
          have h2 := congrArg List.length HE.out
          rw [List.length_append] at h2
          omega
        have hbs := HB.out.size
        simp at hbs
        rcases hend with ⟨hlt, h10, hnext⟩ | ⟨hks, hr0⟩
        · have hb2 : ((s[k].toNat : Int) != 10) = false := by simpa using h10
          have hck := hcl hlt
          have HX : Hid ((r = [] ∧ k + 1 = s.size + 1) ∨ (k + 1 ≤ s.size ∧ SrcFrom s (k + 1) r)) := .inr ⟨by omega, hnext⟩
          clear hnext h10 hcl
          have c1 := fun (w1 : World) (u : Value) => cells_new (w1.alloc (.cells #[.int .i64 0, .int .i64 0, .int .i64 0] 30)) #[u] 35 (w1.heap.size + 1) (by simp)
          have HC := Lib.hid c1
          clear c1
          go_wp2_with (first | (at_builtin; refine wpList_append_own _ rfl _ _ 22 rfl (w.heap.size + 1) 35 i0 (.slice none 0 0) 1 24 Tryd.underlying22 hi hz0 hz1 hz2 rfl (by decide) _ _ _ rfl (((own_below hown hb1).alloc _).alloc _) ⟨w1.heap.size + 1, 0, none⟩ 1 1 [.slice Au ps.length cu] rfl rfl (HC.out w1 _) (by intro x hx; simp at hx; subst hx; rfl) (by unfold maxLen; omega) (by omega) (by have := hb1.size; simp; omega) ?_; intro v' w2 hown' hgrow _; have RR := src_step (s := s) (k := k) HE2.out hown HL.out HB.out hb1 hu hown' hgrow HX.out; clear hown' hgrow) | (go_at_call 24; refine (hla _ _).mono ?_; rintro e w1 ⟨u, rfl, hu, hb1⟩; obtain ⟨Au, cu, rfl⟩ := own_shape hu))
          go_roundw
          case rel => exact ⟨k + 1, k + 1, by go_num, by go_num, RR⟩
          case measure => simp [intOf]; omega
        · have HX : Hid ((r = [] ∧ k + 1 = s.size + 1) ∨ (k + 1 ≤ s.size ∧ SrcFrom s (k + 1) r)) := .inl ⟨hr0, by omega⟩
          have hge : ¬ k < s.size := by omega
          have hge2 : ¬ (k : Int) < s.size := by omega
          clear hr0 hcl hks
          have c1 := fun (w1 : World) (u : Value) => cells_new (w1.alloc (.cells #[.int .i64 0, .int .i64 0, .int .i64 0] 30)) #[u] 35 (w1.heap.size + 1) (by simp)
          have HC := Lib.hid c1
          clear c1
          go_wp2_with (first | (at_builtin; refine wpList_append_own _ rfl _ _ 22 rfl (w.heap.size + 1) 35 i0 (.slice none 0 0) 1 24 Tryd.underlying22 hi hz0 hz1 hz2 rfl (by decide) _ _ _ rfl (((own_below hown hb1).alloc _).alloc _) ⟨w1.heap.size + 1, 0, none⟩ 1 1 [.slice Au ps.length cu] rfl rfl (HC.out w1 _) (by intro x hx; simp at hx; subst hx; rfl) (by unfold maxLen; omega) (by omega) (by have := hb1.size; simp; omega) ?_; intro v' w2 hown' hgrow _; have RR := src_step (s := s) (k := k) HE2.out hown HL.out HB.out hb1 hu hown' hgrow HX.out; clear hown' hgrow) | (go_at_call 24; refine (hla _ _).mono ?_; rintro e w1 ⟨u, rfl, hu, hb1⟩; obtain ⟨Au, cu, rfl⟩ := own_shape hu))
          go_roundw
          case rel => exact ⟨k + 1, k + 1, by go_num, by go_num, RR⟩
          case measure => simp [intOf]; omega
end Go.Proofs.YtccomiigdpfbpaaDoor
