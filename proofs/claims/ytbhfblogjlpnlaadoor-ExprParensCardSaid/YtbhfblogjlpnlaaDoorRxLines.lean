/-
  The contract of the reference lexer's Lines: the lines of tokens that the document says, or which of them has, where, and why, what is no token; or that the source is too long. Conditions: the source's bytes lie in the memory; its room is within the model's bound.
-/
import Derived.Test.YtbhfblogjlpnlaaDoorRxLine
import Derived.Test.YtbhfblogjlpnlaaDoorSpecLines
import Derived.Laws.IdiomStrings
import Derived.Deep.RegionHeld3
namespace Go.Proofs.YtbhfblogjlpnlaaDoor
open Go.RowKit

/-- What is held of the lines that are read. -/
def LinesAt (w : World) (base : Nat) (vs : List Value) (done : List (List Piece)) : Prop :=
  vs.length = done.length ∧ ∀ (i : Nat) (ps : List Piece), done[i]? = some ps → ∃ u, vs[i]? = some u ∧ w.ownsRow base 39 6 u ps.length (allCells ps ((i : Int) + 1))

theorem LinesAt.below {w w' : World} {base : Nat} {vs : List Value} {done : List (List Piece)} (h : LinesAt w base vs done) (hb : Below w.heap.size w w') : LinesAt w' base vs done :=
  ⟨h.1, fun i ps hi => by
    obtain ⟨u, hu, ho⟩ := h.2 i ps hi
    exact ⟨u, hu, own_below ho hb⟩⟩
theorem own_ne {w : World} {b1 b2 e1 e2 z1 z2 n1 n2 : Nat} {v1 v2 : Value} {x1 x2 : List Value} (h1 : w.ownsRow b1 e1 z1 v1 n1 x1) (h2 : w.ownsRow b2 e2 z2 v2 n2 x2) (hne : e1 ≠ e2) : v1.ownBlock = none ∨ v1.ownBlock ≠ v2.ownBlock := by
  rcases h1.2 with ⟨rfl, _⟩ | ⟨g, cap, cur, rfl, _, hh, _⟩
  · exact Or.inl rfl
  · right
    rcases h2.2 with ⟨rfl, _⟩ | ⟨g', cap', cur', rfl, _, hh', _⟩
    · simp [Value.ownBlock]
    · simp only [Value.ownBlock, ne_eq, Option.some.injEq]
      intro e
      subst e
      rw [hh] at hh'
      injection hh' with hh'
      injection hh' with _ ht
      exact hne ht
theorem LinesAt.grown {w w' : World} {base b2 n2 : Nat} {vs x2 : List Value} {done : List (List Piece)} {v : Value} (h : LinesAt w base vs done) (ho : w.ownsRow b2 36 1 v n2 x2) (hg : w.grownBy w' v.ownBlock) : LinesAt w' base vs done :=
  ⟨h.1, fun i ps hi => by
    obtain ⟨u, hu, hu2⟩ := h.2 i ps hi
    exact ⟨u, hu, hu2.kept hg (own_ne hu2 ho (by decide))⟩⟩
theorem LinesAt.snoc {w : World} {base : Nat} {vs : List Value} {done : List (List Piece)} {u : Value} {ps : List Piece} (h : LinesAt w base vs done) (hu : w.ownsRow base 39 6 u ps.length (allCells ps ((done.length : Int) + 1))) : LinesAt w base (vs ++ [u]) (done ++ [ps]) := by
  refine ⟨by simp [h.1], fun i qs hi => ?_⟩
  rcases Nat.lt_trichotomy i done.length with hlt | rfl | hgt
  · rw [List.getElem?_append_left hlt] at hi
    obtain ⟨x, hx, ho⟩ := h.2 i qs hi
    exact ⟨x, by rw [List.getElem?_append_left (by rw [h.1]; exact hlt)]; exact hx, ho⟩
  · simp at hi
    subst hi
    exact ⟨u, by rw [← h.1]; simp, hu⟩
  · rw [List.getElem?_eq_none (by simp; omega)] at hi
    cases hi
theorem LinesAt.base {w : World} {base base' : Nat} {vs : List Value} {done : List (List Piece)} (h : LinesAt w base vs done) (hb : base' ≤ base) : LinesAt w base' vs done :=
  ⟨h.1, fun i ps hi => by
    obtain ⟨u, hu, ho⟩ := h.2 i ps hi
    exact ⟨u, hu, own_base ho hb⟩⟩
theorem LinesAt.setBelow {w : World} {base : Nat} {vs : List Value} {done : List (List Piece)} (h : LinesAt w base vs done) {a : Addr} (ha : a.block < base) (x : Value) : LinesAt (w.setCell a x) base vs done :=
  ⟨h.1, fun i ps hi => by
    obtain ⟨u, hu, ho⟩ := h.2 i ps hi
    exact ⟨u, hu, ownsRow_setCell_below ho ha x⟩⟩
theorem own_shape {w : World} {base e size n : Nat} {v : Value} {xs : List Value} (h : w.ownsRow base e size v n xs) : ∃ A c, v = .slice A n c := by
  rcases h.2 with ⟨rfl, rfl⟩ | ⟨g, cap, cur, rfl, _⟩
  · exact ⟨none, 0, rfl⟩
  · exact ⟨_, _, rfl⟩

/-- The answer of Lines. -/
def LinesOut (w0 : World) (all : List (List Piece)) (err : Option (Nat × Nat × Int)) (e : Ending) (w' : World) : Prop :=
  (match err with
  | none => ∃ v vs, e = .returned (.tuple #[v, .agg #[.int .i64 0, .int .i64 0, .int .i64 0]]) ∧ w'.ownsRow w0.heap.size 36 1 v all.length vs ∧ LinesAt w' w0.heap.size vs all
  | some (l, i, c) => e = .returned (.tuple #[.slice none 0 0, .agg #[.int .i64 ((l : Int) + 1), .int .i64 ((i : Int) + 1), .int .i64 c]])) ∧ Below w0.heap.size w0 w'

def NoLF (l : Bs) : Prop := ∀ c ∈ l, c ≠ 10

/-- What holds at the loop's head. -/
structure SrcInv (s : ByteArray) (w0 : World) (all : List (List Piece)) (err : Option (Nat × Nat × Int)) (k f : Nat) (v : Value) (wr : World) (done rest : List (List Piece)) (vs : List Value) : Prop where
  eq : err = none → done ++ rest = all
  src : (rest = [] ∧ err = none ∧ k = s.size + 1) ∨ (k ≤ s.size ∧ f ≤ k ∧ NoLF (s.extract f k).data.toList ∧ LinesR done.length (cut (s.data.toList.drop f)) rest err)
  own : wr.ownsRow (w0.heap.size + 1) 36 1 v done.length vs
  lines : LinesAt wr (w0.heap.size + 1) vs done
  few : done.length ≤ f
  below : Below (w0.heap.size + 1) (w0.alloc zerosF) wr
def SrcAt (s : ByteArray) (w0 : World) (all : List (List Piece)) (err : Option (Nat × Nat × Int)) (k f : Nat) (v : Value) (wr : World) : Prop := ∃ done rest vs, SrcInv s w0 all err k f v wr done rest vs

theorem slice_all (s : ByteArray) {f k : Nat} (hfk : f ≤ k) (hk : k ≤ s.size) : s.data.toList.drop f = (s.extract f k).data.toList ++ s.data.toList.drop k := by
  have h := slice_part s.data.toList f k s.size hfk hk (Nat.le_of_eq (len_size s).symm)
  rw [List.take_of_length_le (Nat.le_of_eq (len_size s))] at h
  rw [h, ext_list]

/-- A line ends at a line feed, or at the end. -/
theorem cut_feed (s : ByteArray) {f k : Nat} (hfk : f ≤ k) (hk : k < s.size) (hn : NoLF (s.extract f k).data.toList) (h10 : s[k] = 10) : cut (s.data.toList.drop f) = (s.extract f k).data.toList :: cut (s.data.toList.drop (k + 1)) := by
  rw [slice_all s hfk (Nat.le_of_lt hk), drop_cons s k hk, h10, cut_more _ hn]
theorem cut_end (s : ByteArray) {f : Nat} (hn : NoLF (s.extract f s.size).data.toList) : cut (s.data.toList.drop f) = [(s.extract f s.size).data.toList] := by
  rw [ext_drop] at *
  exact cut_last hn
theorem noLF_snoc (s : ByteArray) {f k : Nat} (hfk : f ≤ k) (hk : k < s.size) (hn : NoLF (s.extract f k).data.toList) (h10 : s[k] ≠ 10) : NoLF (s.extract f (k + 1)).data.toList := by
  intro c hc
  rw [ext_list, slice_snoc s f k hfk hk, ← ext_list] at hc
  rcases List.mem_append.1 hc with h | h
  · exact hn c h
  · rw [List.mem_singleton.1 h]
    exact h10
theorem noLF_nil (s : ByteArray) (k : Nat) : NoLF (s.extract k k).data.toList := by
  intro c hc
  rw [ext_list] at hc
  have : ((s.data.toList.take k).drop k) = [] := List.drop_eq_nil_of_le (by simp; omega)
  rw [this] at hc
  cases hc

/-- What a round does that reads a line. -/
theorem src_step {s : ByteArray} {w0 wr w1 w2 : World} {all done rest : List (List Piece)} {err : Option (Nat × Nat × Int)} {ps : List Piece} {k f : Nat} {v v' u : Value} {vs : List Value} {o1 o2 : Obj}
    (heq : err = none → done ++ ps :: rest = all) (hown : wr.ownsRow (w0.heap.size + 1) 36 1 v done.length vs) (hlines : LinesAt wr (w0.heap.size + 1) vs done) (hfew : done.length ≤ f) (hfk : f ≤ k)
    (hbel : Below (w0.heap.size + 1) (w0.alloc zerosF) wr) (hb1 : Below wr.heap.size wr w1)
    (hu : w1.ownsRow wr.heap.size 39 6 u ps.length (allCells ps ((done.length : Int) + 1)))
    (hown' : w2.ownsRow (w0.heap.size + 1) 36 1 v' (done.length + 1) (vs ++ [u])) (hgrow : ((w1.alloc o1).alloc o2).grownBy w2 v.ownBlock)
    (hs : (rest = [] ∧ err = none ∧ k + 1 = s.size + 1) ∨ (k + 1 ≤ s.size ∧ LinesR (done.length + 1) (cut (s.data.toList.drop (k + 1))) rest err)) : SrcAt s w0 all err (k + 1) (k + 1) v' w2 := by
  have hsz := hbel.size
  simp at hsz
  have hs1 := hb1.size
  have hown2 : ((w1.alloc o1).alloc o2).ownsRow (w0.heap.size + 1) 36 1 v done.length vs := ((own_below hown hb1).alloc _).alloc _
  have hl1 : LinesAt ((w1.alloc o1).alloc o2) (w0.heap.size + 1) (vs ++ [u]) (done ++ [ps]) :=
    ((hlines.below hb1).snoc (own_base hu hsz)).below (w' := (w1.alloc o1).alloc o2) (((Below.refl _ _).alloc (Nat.le_refl _) _).alloc (by simp) _)
  refine ⟨done ++ [ps], rest, vs ++ [u], ⟨by simpa using heq, ?_, by simpa using hown', hl1.grown hown2 hgrow, by simp; omega, ?_⟩⟩
  · rcases hs with h | ⟨h1, h2⟩
    · exact .inl h
    · exact .inr ⟨h1, Nat.le_refl _, noLF_nil _ _, by rw [List.length_append]; exact h2⟩
  · refine Below.grown (((hbel.trans (hb1.mono hsz)).alloc (by omega) o1).alloc (by simp; omega) o2) hgrow (by simp; omega) ?_
    intro g hg
    exact (hown.lt g hg).1

theorem Tryd.infoLine : (Tryd.prog.info? 36).map (fun i => (i.zero, i.size, i.bytes)) = some (some (.slice none 0 0), 1, 24) := by kernel_rfl

theorem extract_bytes (s : ByteArray) (f k : Nat) (hfk : f ≤ k) (hk : k ≤ s.size) : (s.extract f k).data.toList.length = k - f ∧ ∀ j (hj : j < (s.extract f k).data.toList.length), (s.extract f k).data.toList[j] = s[f + j]'(by simp at hj; omega) := by
  constructor
  · simp; omega
  · intro j hj
    simp [ByteArray.data_extract]
    rfl

theorem new_fault (W : World) (g : Nat) (hg : W.heap.size = g) (a b c : Value) (t : TypeId) : (W.alloc (.cells #[a, b, c] t)).cell? ⟨g, 0, none⟩ = some a ∧ (W.alloc (.cells #[a, b, c] t)).cell? ⟨g, 1, none⟩ = some b ∧ (W.alloc (.cells #[a, b, c] t)).cell? ⟨g, 2, none⟩ = some c := by
  subst hg
  refine ⟨?_, ?_, ?_⟩ <;> simp

set_option maxRecDepth 100000 in
set_option maxHeartbeats 4000000 in
theorem lines_any (s : ByteArray) (b o c : Nat) (all : List (List Piece)) (err : Option (Nat × Nat × Int)) (w : World) (hs : s.size ≤ 65536) (hcap : s.size ≤ c) (hcm : c ≤ maxLen) (h : LinesR 0 (cut s.data.toList) all err) (hbw : b < w.heap.size)
    (hcell : ∀ j (hj : j < s.size), w.cell? ⟨b, o + j, none⟩ = some (.int .u8 (s[j].toNat : Int))) :
    Calls Tryd.prog 13 #[.slice (some ⟨b, o, none⟩) s.size c] w (LinesOut w all err) := by
  obtain ⟨i0, hi, hz0, hz1, hz2⟩ := info_parts Tryd.infoLine
  unfold maxLen at hcm
  have HCELL := Lib.hid hcell
  clear hcell
  go_enter Tryd.func13, Tryd.ntmps13
  go_wp2
  go_loopw [4, 5, 6] (fun v fr i wr => ∃ k f : Nat, i = .int .i64 k ∧ fr = .int .i64 f ∧ SrcAt s w all err k f v wr) (fun _ _ i _ => s.size + 1 - (intOf i).toNat)
  case atStart => exact ⟨0, 0, rfl, rfl, [], all, [], fun _ => rfl, .inr ⟨Nat.zero_le _, Nat.le_refl _, noLF_nil _ _, h⟩, World.ownsRow_nil _ _ _ _, ⟨rfl, fun i ps h => by simp at h⟩, Nat.le_refl _, Below.refl _ _⟩
  case round =>
    obtain ⟨k, f, rfl, rfl, done, rest, vs, heq, hsrc, hown, hlines, hfew, hbel⟩ := hrel
    have HE := Lib.hid heq
    clear heq
    have hbs := hbel.size
    simp at hbs
    have HB := Lib.hid hbel
    have HF := Lib.hid (faultAt hbel)
    have HBW := Lib.hid (below_of_fault hbel)
    clear hbel
    have HL := Lib.hid hlines
    clear hlines
    rcases hsrc with ⟨hr, he, hk⟩ | ⟨hk, hfk, hno, hsf⟩
    · subst hk he
      have hd : done = all := by have := HE.out rfl; rw [hr] at this; simpa using this
      subst hr
      rw [hd] at hown
      have HL2 : Hid (LinesAt wr (w.heap.size + 1) vs all) := by have := HL.out; rwa [hd] at this
      have HO := Lib.hid hown
      obtain ⟨f0, f1, f2, z0, z1, z2⟩ := HF.out
      clear hown hd HL HE HF hfew
      go_wp2
      exact bodyPost_ret (v := .tuple #[u4, .agg #[.int .i64 0, .int .i64 0, .int .i64 0]]) (by simp [results, Tryd.results13, go_sem, f0, f1, f2]) rfl
        ⟨⟨u4, vs, rfl, own_base (ownsRow_setCell_below (ownsRow_setCell_below (ownsRow_setCell_below HO.out (by simp) _) (by simp) _) (by simp) _) (by omega), LinesAt.base (((HL2.out.setBelow (by simp) _).setBelow (by simp) _).setBelow (by simp) _) (by omega)⟩, ((HBW.out.setCell (by simp) _).setCell (by simp) _).setCell (by simp) _⟩
    · have hcl : ∀ (hlt : k < s.size), wr.cell? ⟨b, o + k, none⟩ = some (.int .u8 (s[k].toNat : Int)) := fun hlt => (HB.out.cell (p := ⟨b, o + k, none⟩) (by simp; omega)).trans ((World.cell?_alloc_lt _ _ ⟨b, o + k, none⟩ hbw).trans (HCELL.out k hlt))
      by_cases hpass : ∃ hlt : k < s.size, s[k] ≠ 10
      · obtain ⟨hlt, hne⟩ := hpass
        have hx : ((s[k].toNat : Int) == 10) = false := beq_nat_f (by decide) hne
        have hb2 : ((s[k].toNat : Int) != 10) = true := by rw [bne, hx]; rfl
        clear hx
        have hck := hcl hlt
        have HO := Lib.hid hown
        have HN := Lib.hid (noLF_snoc s hfk hlt hno hne)
        have HS := Lib.hid hsf
        have HFEW := Lib.hid hfew
        clear hne hcl hown hno hsf HF hfew
        go_wp2
        go_roundw
        case rel => exact ⟨k + 1, f, by go_num, rfl, done, rest, vs, HE.out, .inr ⟨by omega, by omega, HN.out, HS.out⟩, HO.out, HL.out, HFEW.out, HB.out⟩
        case measure => simp [intOf]; omega
      · obtain ⟨A, cp, rfl⟩ := own_shape hown
        have hrow : ∀ j (hj : j < s.size), wr.cell? ⟨b, o + j, none⟩ = some (.int .u8 (s[j].toNat : Int)) := fun j hj => (HB.out.cell (p := ⟨b, o + j, none⟩) (by simp; omega)).trans ((World.cell?_alloc_lt _ _ ⟨b, o + j, none⟩ hbw).trans (HCELL.out j hj))
        have hx := extract_bytes s f k hfk hk
        have hcv := run_convert_bytes_back (P := Tryd.prog) wr 22 9 5 ⟨b, o + f, none⟩ (c - f) (s.extract f k).data.toList Tryd.underlying22 Tryd.underlying5 Tryd.underlying9
          (fun j hj => by
            have hplain : (⟨b, o + f, none⟩ : Addr).add j = ⟨b, o + f + j, none⟩ := by unfold Addr.add; split <;> simp_all
            rw [hplain, Nat.add_assoc, hrow (f + j) (by have := hx.1; omega), hx.2 j hj])
        rw [hx.1] at hcv
        have hcv2 : (convert 22 9 (.slice (some ⟨b, o + f, none⟩) (k - f) (c - f))).run Tryd.prog wr = .ok (.string (s.extract f k)) wr := hcv
        have HCV0 : Hid (c = f → (convert 22 9 (.slice (some ⟨b, o, none⟩) (k - f) 0)).run Tryd.prog wr = .ok (.string (s.extract f k)) wr) := Lib.hid (fun hcf => by
          have h0 := run_convert_bytes_back (P := Tryd.prog) wr 22 9 5 ⟨b, o, none⟩ 0 [] Tryd.underlying22 Tryd.underlying5 Tryd.underlying9 (fun j hj => absurd hj (by simp))
          have h1 : k - f = 0 := by omega
          have h2 : s.extract f k = ⟨#[]⟩ := ba_eq (List.length_eq_zero_iff.1 (by rw [hx.1, h1]))
          rw [h1, h2]
          exact h0)
        clear hcv hx hrow
        have hsz2 : (s.extract f k).size ≤ 65536 := by simp; omega
        have hdl : done.length ≤ 65537 := by omega
        have hend : ∃ ls, LinesR done.length ((s.extract f k).data.toList :: ls) rest err ∧ ((∃ hlt : k < s.size, s[k] = 10 ∧ ls = cut (s.data.toList.drop (k + 1))) ∨ (k = s.size ∧ ls = [])) := by
          by_cases hlt : k < s.size
          · have h10 : s[k] = 10 := Decidable.byContradiction fun h => hpass ⟨hlt, h⟩
            exact ⟨_, by rw [← cut_feed s hfk hlt hno h10]; exact hsf, .inl ⟨hlt, h10, rfl⟩⟩
          · obtain rfl : k = s.size := by omega
            exact ⟨[], by rw [← cut_end s hno]; exact hsf, .inr ⟨rfl, rfl⟩⟩
        clear hpass hsf hno
        obtain ⟨ls, hsf, hend⟩ := hend
        generalize hdn : done.length = dn at hsf
        cases hsf with
        | good _ _ _ ps pss' _ hlex hmore =>
          subst hdn
          have HX : Hid ((pss' = [] ∧ err = none ∧ k + 1 = s.size + 1) ∨ (k + 1 ≤ s.size ∧ LinesR (done.length + 1) (cut (s.data.toList.drop (k + 1))) pss' err)) := Lib.hid (by
            rcases hend with ⟨hlt, -, rfl⟩ | ⟨hks, rfl⟩
            · exact .inr ⟨by omega, hmore⟩
            · cases hmore
              exact .inl ⟨rfl, rfl, by omega⟩)
          have HLA := Lib.hid (fun (ln : Int) (W : World) => line_any (s.extract f k) ln ps none W hsz2 hlex)
          have hend2 : (∃ hlt : k < s.size, s[k] = 10) ∨ k = s.size := hend.imp (fun ⟨a, b, _⟩ => ⟨a, b⟩) (fun h => h.1)
          have c1 := fun (w1 : World) (u : Value) => cells_new (w1.alloc (.cells #[.int .i64 0, .int .i64 0, .int .i64 0] 30)) #[u] 36 (w1.heap.size + 1) (by simp)
          have HC := Lib.hid c1
          have HFEW := Lib.hid hfew
          have HFK := Lib.hid hfk
          clear c1 hlex hmore hend HF
          rcases hend2 with ⟨hlt, h10⟩ | hks
          · have hb2 : ((s[k].toNat : Int) != 10) = false := by rw [h10]; rfl
            have hck := hcl hlt
            clear h10 hcl
            go_wp2_with (first | (at_builtin; refine wpList_append_own _ rfl _ _ 24 rfl (w.heap.size + 1) 36 i0 (.slice none 0 0) 1 24 Tryd.underlying24 hi hz0 hz1 hz2 rfl (by decide) _ _ _ rfl (((own_below hown hb1).alloc _).alloc _) ⟨w1.heap.size + 1, 0, none⟩ 1 1 [.slice Au ps.length cu] rfl rfl (HC.out w1 _) (by intro x hx; simp at hx; subst hx; rfl) (by unfold maxLen; omega) (by omega) (by have := hb1.size; simp; omega) ?_; intro v' w2 hown' hgrow _; have RR := src_step (s := s) (k := k) HE.out hown HL.out HFEW.out HFK.out HB.out hb1 hu hown' hgrow HX.out; clear hown' hgrow) | (go_at_call 25; refine (HLA.out _ _).mono ?_; rintro e w1 ⟨⟨u, rfl, hu⟩, hb1⟩; obtain ⟨Au, cu, rfl⟩ := own_shape hu))
            go_roundw
            case rel => exact ⟨k + 1, k + 1, by go_num, by go_num, RR⟩
            case measure => simp [intOf]; omega
          · have hge : ¬ k < s.size := by omega
            have hge2 : ¬ (k : Int) < s.size := by omega
            clear hcl hks
            by_cases hcf : c = f
            · have hcv3 := HCV0.out hcf
              subst hcf
              go_wp2_with (first | (at_builtin; refine wpList_append_own _ rfl _ _ 24 rfl (w.heap.size + 1) 36 i0 (.slice none 0 0) 1 24 Tryd.underlying24 hi hz0 hz1 hz2 rfl (by decide) _ _ _ rfl (((own_below hown hb1).alloc _).alloc _) ⟨w1.heap.size + 1, 0, none⟩ 1 1 [.slice Au ps.length cu] rfl rfl (HC.out w1 _) (by intro x hx; simp at hx; subst hx; rfl) (by unfold maxLen; omega) (by omega) (by have := hb1.size; simp; omega) ?_; intro v' w2 hown' hgrow _; have RR := src_step (s := s) (k := k) HE.out hown HL.out HFEW.out HFK.out HB.out hb1 hu hown' hgrow HX.out; clear hown' hgrow) | (go_at_call 25; refine (HLA.out _ _).mono ?_; rintro e w1 ⟨⟨u, rfl, hu⟩, hb1⟩; obtain ⟨Au, cu, rfl⟩ := own_shape hu))
              go_roundw
              case rel => exact ⟨k + 1, k + 1, by go_num, by go_num, RR⟩
              case measure => simp [intOf]; omega
            · go_wp2_with (first | (at_builtin; refine wpList_append_own _ rfl _ _ 24 rfl (w.heap.size + 1) 36 i0 (.slice none 0 0) 1 24 Tryd.underlying24 hi hz0 hz1 hz2 rfl (by decide) _ _ _ rfl (((own_below hown hb1).alloc _).alloc _) ⟨w1.heap.size + 1, 0, none⟩ 1 1 [.slice Au ps.length cu] rfl rfl (HC.out w1 _) (by intro x hx; simp at hx; subst hx; rfl) (by unfold maxLen; omega) (by omega) (by have := hb1.size; simp; omega) ?_; intro v' w2 hown' hgrow _; have RR := src_step (s := s) (k := k) HE.out hown HL.out HFEW.out HFK.out HB.out hb1 hu hown' hgrow HX.out; clear hown' hgrow) | (go_at_call 25; refine (HLA.out _ _).mono ?_; rintro e w1 ⟨⟨u, rfl, hu⟩, hb1⟩; obtain ⟨Au, cu, rfl⟩ := own_shape hu))
              go_roundw
              case rel => exact ⟨k + 1, k + 1, by go_num, by go_num, RR⟩
              case measure => simp [intOf]; omega
        | bad _ _ _ ps i cd hlex =>
          subst hdn
          have hcode := (hlex.code _ _ rfl).2
          have hc0 : (0 : Int) < cd := by omega
          have HLA := Lib.hid (fun (ln : Int) (W : World) => line_any (s.extract f k) ln ps _ W hsz2 hlex)
          have hend2 : (∃ hlt : k < s.size, s[k] = 10) ∨ k = s.size := hend.imp (fun ⟨a, b, _⟩ => ⟨a, b⟩) (fun h => h.1)
          clear hlex hend HF hcode
          rcases hend2 with ⟨hlt, h10⟩ | hks
          · have hb2 : ((s[k].toNat : Int) != 10) = false := by rw [h10]; rfl
            have hck := hcl hlt
            clear h10 hcl
            go_wp2_with (go_at_call 25; refine (HLA.out _ _).mono ?_; rintro e w1 ⟨rfl, hb1⟩; have hb2 := HB.out.trans (hb1.mono hbs); obtain ⟨f0, f1, f2, z0, z1, z2⟩ := faultAt hb2; have HL1 := Lib.hid (below_of_fault hb2); have hsz1 : w.heap.size < w1.heap.size := (by have := hb1.size; omega); have hne1 : ¬ w.heap.size = w1.heap.size := (by omega); have hne2 : ¬ w1.heap.size = w.heap.size := (by omega); clear hb2 hb1)
            go_region_held3 (fun W => W.cell? ⟨w1.heap.size, 0, none⟩ = some (.int .i64 ((done.length : Int) + 1)) ∧ W.cell? ⟨w1.heap.size, 1, none⟩ = some (.int .i64 ((i : Int) + 1)) ∧ W.cell? ⟨w1.heap.size, 2, none⟩ = some (.int .i64 cd))
              (first | exact new_fault _ _ (by simp) _ _ _ _ | go_keep)
              (first | fail)
            all_goals (try go_wp2)
            exact bodyPost_ret (v := .tuple #[.slice none 0 0, .agg #[.int .i64 ((done.length : Int) + 1), .int .i64 ((i : Int) + 1), .int .i64 cd]]) (by simp [results, Tryd.results13, go_sem, f0, f1, f2, hsz1]) rfl
              ⟨rfl, ((((HL1.out.setCell (by simp) _).setCell (by simp) _).setCell (by simp) _).alloc (by simp; omega) _).drew⟩
          · have hge : ¬ k < s.size := by omega
            have hge2 : ¬ (k : Int) < s.size := by omega
            clear hcl hks
            by_cases hcf : c = f
            · have hcv3 := HCV0.out hcf
              subst hcf
              go_wp2_with (go_at_call 25; refine (HLA.out _ _).mono ?_; rintro e w1 ⟨rfl, hb1⟩; have hb2 := HB.out.trans (hb1.mono hbs); obtain ⟨f0, f1, f2, z0, z1, z2⟩ := faultAt hb2; have HL1 := Lib.hid (below_of_fault hb2); have hsz1 : w.heap.size < w1.heap.size := (by have := hb1.size; omega); have hne1 : ¬ w.heap.size = w1.heap.size := (by omega); have hne2 : ¬ w1.heap.size = w.heap.size := (by omega); clear hb2 hb1)
              go_region_held3 (fun W => W.cell? ⟨w1.heap.size, 0, none⟩ = some (.int .i64 ((done.length : Int) + 1)) ∧ W.cell? ⟨w1.heap.size, 1, none⟩ = some (.int .i64 ((i : Int) + 1)) ∧ W.cell? ⟨w1.heap.size, 2, none⟩ = some (.int .i64 cd))
                (first | exact new_fault _ _ (by simp) _ _ _ _ | go_keep)
                (first | fail)
              all_goals (try go_wp2)
              exact bodyPost_ret (v := .tuple #[.slice none 0 0, .agg #[.int .i64 ((done.length : Int) + 1), .int .i64 ((i : Int) + 1), .int .i64 cd]]) (by simp [results, Tryd.results13, go_sem, f0, f1, f2, hsz1]) rfl
                ⟨rfl, ((((HL1.out.setCell (by simp) _).setCell (by simp) _).setCell (by simp) _).alloc (by simp; omega) _).drew⟩
            · go_wp2_with (go_at_call 25; refine (HLA.out _ _).mono ?_; rintro e w1 ⟨rfl, hb1⟩; have hb2 := HB.out.trans (hb1.mono hbs); obtain ⟨f0, f1, f2, z0, z1, z2⟩ := faultAt hb2; have HL1 := Lib.hid (below_of_fault hb2); have hsz1 : w.heap.size < w1.heap.size := (by have := hb1.size; omega); have hne1 : ¬ w.heap.size = w1.heap.size := (by omega); have hne2 : ¬ w1.heap.size = w.heap.size := (by omega); clear hb2 hb1)
              go_region_held3 (fun W => W.cell? ⟨w1.heap.size, 0, none⟩ = some (.int .i64 ((done.length : Int) + 1)) ∧ W.cell? ⟨w1.heap.size, 1, none⟩ = some (.int .i64 ((i : Int) + 1)) ∧ W.cell? ⟨w1.heap.size, 2, none⟩ = some (.int .i64 cd))
                (first | exact new_fault _ _ (by simp) _ _ _ _ | go_keep)
                (first | fail)
              all_goals (try go_wp2)
              exact bodyPost_ret (v := .tuple #[.slice none 0 0, .agg #[.int .i64 ((done.length : Int) + 1), .int .i64 ((i : Int) + 1), .int .i64 cd]]) (by simp [results, Tryd.results13, go_sem, f0, f1, f2, hsz1]) rfl
                ⟨rfl, ((((HL1.out.setCell (by simp) _).setCell (by simp) _).setCell (by simp) _).alloc (by simp; omega) _).drew⟩

theorem src_nil {all : List (List Piece)} {err : Option (Nat × Nat × Int)} (h : LinesR 0 (cut []) all err) : all = [[]] ∧ err = none := by
  generalize hl : cut [] = l at h
  cases h with
  | nil => simp [cut] at hl
  | good _ _ _ ps pss _ h r =>
    simp only [cut, List.cons.injEq] at hl
    obtain ⟨rfl, rfl⟩ := hl
    cases r
    generalize hz : ([] : Bs).length = z at h
    refine ⟨?_, rfl⟩
    cases h with
    | done => rfl
    | remark _ h => simp at h
    | blank _ _ _ h => simp at h
    | tok _ _ _ _ _ _ _ h => simp at h
  | bad _ _ _ ps i c h =>
    simp only [cut, List.cons.injEq] at hl
    obtain ⟨rfl, rfl⟩ := hl
    have := (h.code _ _ rfl).1
    simp at this

theorem conv_none (W : World) : (convert 22 9 (.slice none 0 0)).run Tryd.prog W = .ok (.string ByteArray.empty) W := by
  have := run_convert_bytes_string (P := Tryd.prog) W 22 9 5 none 0 0 Tryd.underlying22 Tryd.underlying5 Tryd.underlying9
  rw [this]
  rfl

set_option maxRecDepth 100000 in
set_option maxHeartbeats 4000000 in
/-- Of nothing there is one line. -/
theorem lines_none (w : World) : Calls Tryd.prog 13 #[.slice none 0 0] w (LinesOut w [[]] none) := by
  obtain ⟨i0, hi, hz0, hz1, hz2⟩ := info_parts Tryd.infoLine
  have HCV := Lib.hid (fun W => conv_none W)
  have HLA := Lib.hid (fun (ln : Int) (W : World) => line_any ByteArray.empty ln [] none W (by decide) .done)
  go_enter Tryd.func13, Tryd.ntmps13
  go_wp2
  go_loopw [4, 5, 6] (fun v fr i wr => (i = .int .i64 0 ∧ fr = .int .i64 0 ∧ v = .slice none 0 0 ∧ wr = w.alloc zerosF) ∨ (i = .int .i64 1 ∧ ∃ vs, wr.ownsRow (w.heap.size + 1) 36 1 v 1 vs ∧ LinesAt wr (w.heap.size + 1) vs [[]] ∧ Below (w.heap.size + 1) (w.alloc zerosF) wr)) (fun _ _ i _ => 2 - (intOf i).toNat)
  case atStart => exact .inl ⟨rfl, rfl, rfl, rfl⟩
  case round =>
    rcases hrel with ⟨rfl, rfl, rfl, rfl⟩ | ⟨rfl, vs, hown, hlines, hbel⟩
    · have hcv := HCV.out (w.alloc zerosF)
      have hown : (w.alloc zerosF).ownsRow (w.heap.size + 1) 36 1 (.slice none 0 0) 0 [] := World.ownsRow_nil _ _ _ _
      have HLN : Hid (LinesAt (w.alloc zerosF) (w.heap.size + 1) [] []) := Lib.hid ⟨rfl, fun i ps h => by simp at h⟩
      have c1 := fun (w1 : World) (u : Value) => cells_new (w1.alloc (.cells #[.int .i64 0, .int .i64 0, .int .i64 0] 30)) #[u] 36 (w1.heap.size + 1) (by simp)
      have HC := Lib.hid c1
      clear c1
      go_wp2_with (first | (at_builtin; refine wpList_append_own _ rfl _ _ 24 rfl (w.heap.size + 1) 36 i0 (.slice none 0 0) 1 24 Tryd.underlying24 hi hz0 hz1 hz2 rfl (by decide) _ _ _ rfl (((own_below hown hb1).alloc _).alloc _) ⟨w1.heap.size + 1, 0, none⟩ 1 1 [.slice Au 0 cu] rfl rfl (HC.out w1 _) (by intro x hx; simp at hx; subst hx; rfl) (by unfold maxLen; omega) (by omega) (by have := hb1.size; simp at this ⊢; omega) ?_; intro v' w2 hown' hgrow _; have RR := src_step (s := ByteArray.empty) (w0 := w) (all := [[]]) (done := []) (ps := []) (err := none) (k := 0) (f := 0) (rest := []) (fun _ => rfl) hown HLN.out (Nat.le_refl _) (Nat.le_refl _) (Below.refl _ _) hb1 hu hown' hgrow (.inl ⟨rfl, rfl, rfl⟩); clear hown' hgrow) | (go_at_call 25; refine (HLA.out _ _).mono ?_; rintro e w1 ⟨⟨u, rfl, hu⟩, hb1⟩; obtain ⟨Au, cu, rfl⟩ := own_shape hu))
      go_roundw
      case rel =>
        obtain ⟨done, rest, vs, heq, hsrc, hown, hlines, -, hbel⟩ := RR
        rcases hsrc with ⟨rfl, -, -⟩ | ⟨h, -⟩
        · have := heq rfl
          rw [List.append_nil] at this
          subst this
          exact .inr ⟨rfl, vs, hown, hlines, hbel⟩
        · exact absurd h (by decide)
      case measure => decide
    · have HF := Lib.hid (faultAt hbel)
      have HBW := Lib.hid (below_of_fault hbel)
      have HL2 := Lib.hid hlines
      have HO := Lib.hid hown
      obtain ⟨f0, f1, f2, z0, z1, z2⟩ := HF.out
      clear hown hlines HF hbel
      go_wp2
      exact bodyPost_ret (v := .tuple #[u4, .agg #[.int .i64 0, .int .i64 0, .int .i64 0]]) (by simp [results, Tryd.results13, go_sem, f0, f1, f2]) rfl
        ⟨⟨u4, vs, rfl, own_base (ownsRow_setCell_below (ownsRow_setCell_below (ownsRow_setCell_below HO.out (by simp) _) (by simp) _) (by simp) _) (by omega), LinesAt.base (((HL2.out.setBelow (by simp) _).setBelow (by simp) _).setBelow (by simp) _) (by omega)⟩, ((HBW.out.setCell (by simp) _).setCell (by simp) _).setCell (by simp) _⟩

set_option maxRecDepth 100000 in
/-- A source that is too long. -/
theorem lines_long (A : Option Addr) (n c : Nat) (hn : (65536 : Int) < n) (w : World) : Calls Tryd.prog 13 #[.slice A n c] w fun e w' => e = .returned (.tuple #[.slice none 0 0, .agg #[.int .i64 1, .int .i64 1, .int .i64 12]]) ∧ Below w.heap.size w w' := by
  go_enter Tryd.func13, Tryd.ntmps13
  go_wp2
  exact bodyPost_ret (v := .tuple #[.slice none 0 0, .agg #[.int .i64 1, .int .i64 1, .int .i64 12]]) (by simp [results, Tryd.results13, go_sem]) rfl ⟨rfl, (((((Below.refl _ _).alloc (Nat.le_refl _) _)))).mono (Nat.le_refl _)⟩
end Go.Proofs.YtbhfblogjlpnlaaDoor
