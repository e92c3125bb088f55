/-
  Arguments opened: a slice of tokens, a slice of such slices, out of their readings as data; the listed variable's cell; a world that meets the condition.
-/
import Derived.Test.YtccomiigdpfbpaaDoorRows
import Derived.Test.YtccomiigdpfbpaaDoorKinds
import Derived.Deep.Slices
import Derived.Deep.Fields
import Derived.ChangeSame
import Derived.ChangeVars
import Derived.JoinedOf
import Derived.RowKit
import Derived.RowKitTokens
import Derived.LaidLaws
import Derived.LaidHandle
import Derived.Stop.Joined
import Derived.Carry
namespace Go.Proofs.YtccomiigdpfbpaaDoor
open Go.ChangeShapes Go.WideShapes Go.RowKit Go.Deep

section
variable {H : Type} {enc : TypeId × Value → H} {P : Program} {w : World} {base : Nat} {spare : Nat → Bool} {held : Bool}
theorem open_slice_fields {t e : TypeId} {fs : Array Field} {fuel : Nat} {cs : List Value} {x : DataW H × List MemPlace} (ht : P.underlying t = some (.slice e)) (he : P.underlying e = some (.struct fs))
    (hone : oneCellFields P fs = true) (hC : P.cellsOf e = fs.size) (h : DataW.trod enc P w base spare held fuel t cs = some x) :
    (cs = [.slice none 0 0] ∧ x = (.nil, [])) ∨
    ∃ (a : Addr) (len cap m : Nat) (D : Nat → DataW H) (Pl : Nat → List MemPlace), cs = [.slice (some a) len cap] ∧ base ≤ a.block ∧ len ≤ cap ∧ cap ≤ maxLen ∧ m = (if spare a.block then cap else len) ∧
      x = (.slice ((List.range len).map D) ((List.range (m - len)).map fun j => D (len + j)), MemPlace.row a (m * fs.size) ++ (List.range m).flatMap Pl) ∧
      ∀ i, i < m → ∃ (ys : List (DataW H × List MemPlace)) (n : Nat), D i = .agg (ys.map (·.1)) ∧ Pl i = ys.flatMap (·.2) ∧ ys.length = fs.size ∧
        ∀ (j : Nat) (f : Field), fs[j]? = some f → ∃ (v : Value) (y : DataW H × List MemPlace), w.cell? (a.add (i * fs.size + j)) = some v ∧ ys[j]? = some y ∧ DataW.trod enc P w base spare held n f.type [v] = some y := by
  rcases open_slice ht h with h0 | ⟨a, len, cap, m, n, D, Pl, hcs, hb, hl, hm, hmm, hx, hi⟩
  · exact .inl h0
  · refine .inr ⟨a, len, cap, m, D, Pl, hcs, hb, hl, hm, hmm, by rw [hC] at hx; exact hx, fun i him => ?_⟩
    obtain ⟨cs', hc, ht'⟩ := hi i him
    rw [hC] at hc
    obtain ⟨ys, n', hn', hy, hlen, hyl, hf⟩ := DataW.trod_struct he ht'
    obtain ⟨_, hcl, hat⟩ := World.cells?_some hc
    simp only [Prod.mk.injEq] at hy
    refine ⟨ys, n', hy.1, hy.2, hyl, fun j f hj => ?_⟩
    obtain ⟨ho, hk⟩ := hone_of hone j f hj
    have hjl : j < fs.size := (Array.getElem?_eq_some_iff.1 hj).1
    have hcell := hat j hjl
    have hv : cs'[j]? = some (cs'[j]'(by omega)) := List.getElem?_eq_getElem (by omega)
    have h1 := hf j f hj
    rw [ho, hk] at h1
    have hone' : (cs'.drop j).take 1 = [cs'[j]'(by omega)] := by
      rw [List.drop_eq_getElem_cons (by omega)]
      rfl
    rw [hone'] at h1
    have hys : ys[j]? = some (ys[j]'(by omega)) := List.getElem?_eq_getElem (by omega)
    refine ⟨_, _, ?_, hys, h1.trans hys⟩
    rw [← Go.Deep.add_add, hcell, hv]
end

theorem Tryd.cellsTok : Tryd.prog.cellsOf 63 = 6 := by kernel_rfl
theorem Tryd.cellsRow : Tryd.prog.cellsOf 35 = 1 := by kernel_rfl
theorem Tryd.tokStruct : ∃ fs, Tryd.prog.underlying 63 = some (.struct fs) ∧ oneCellFields Tryd.prog fs = true ∧ fs.size = 6 ∧ (fs.map (·.type)) = #[3, 3, 3, 9, 61, 3] := ⟨_, Tryd.underlying63, by kernel_rfl, by kernel_rfl, by kernel_rfl⟩

theorem addr_plain {a : Addr} {j : Nat} (h : a.spot = none) : a.add j = ⟨a.block, a.off + j, none⟩ := by
  unfold Addr.add
  split
  · rename_i h0
    subst h0
    cases a
    simp_all
  · rfl

/-- A slice of tokens, opened: none, or a family of tokens. -/
theorem open_toks {H : Type} {enc : TypeId × Value → H} {w : World} {base : Nat} {spare : Nat → Bool} {held : Bool} {fuel : Nat} {v : Value} {x : DataW H × List MemPlace} (h : DataW.trod enc Tryd.prog w base spare held fuel 35 [v] = some x) :
    ∃ A len cap, v = .slice A len cap ∧ (0 < len → ∃ b o T, A = some ⟨b, o, none⟩ ∧ TokFam.In T w b o len) := by
  obtain ⟨fs, hu, hone, hsz, hty⟩ := Tryd.tokStruct
  rcases open_slice_fields Tryd.underlying35 hu hone (by rw [Tryd.cellsTok, hsz]) h with ⟨hcs, _⟩ | ⟨a, len, cap, m, D, Pl, hcs, _, hl, _, hm, _, hi⟩
  · exact ⟨none, 0, 0, by simpa using hcs, fun h => absurd h (by omega)⟩
  · refine ⟨some a, len, cap, by simpa using hcs, fun h0 => ?_⟩
    have hlm : len ≤ m := by rw [hm]; split <;> omega
    have hfield : ∀ (j t : Nat), (#[3, 3, 3, 9, 61, 3] : Array Nat)[j]? = some t → ∃ f : Field, fs[j]? = some f ∧ f.type = t := by
      intro j t hj
      rw [← hty] at hj
      simpa using hj
    have hspot : a.spot = none := by
      obtain ⟨ys, n, _, _, _, hf⟩ := hi 0 (by omega)
      obtain ⟨f, hf0, _⟩ := hfield 0 3 rfl
      obtain ⟨v0, y, hc, _, _⟩ := hf 0 f hf0
      have := World.cell?_spot hc
      simpa [Addr.add] using this
    have hcell : ∀ i j, i < m → j < 6 → a.add (i * fs.size + j) = ⟨a.block, a.off + i * 6 + j, none⟩ := by
      intro i j _ _
      rw [addr_plain hspot, hsz, Nat.add_assoc]
    have hone_ : ∀ i, i < len → ∃ t : Int × Int × Int × ByteArray × Int × Int, TokAt w a.block (a.off + i * 6) t.1 t.2.1 t.2.2.1 t.2.2.2.1 t.2.2.2.2.1 t.2.2.2.2.2 := by
      intro i hil
      have him : i < m := by omega
      obtain ⟨ys, n, _, _, _, hf⟩ := hi i him
      obtain ⟨f0, e0, t0⟩ := hfield 0 3 rfl
      obtain ⟨f1, e1, t1⟩ := hfield 1 3 rfl
      obtain ⟨f2, e2, t2⟩ := hfield 2 3 rfl
      obtain ⟨f3, e3, t3⟩ := hfield 3 9 rfl
      obtain ⟨f4, e4, t4⟩ := hfield 4 61 rfl
      obtain ⟨f5, e5, t5⟩ := hfield 5 3 rfl
      obtain ⟨v0, y0, c0, _, r0⟩ := hf 0 f0 e0
      obtain ⟨v1, y1, c1, _, r1⟩ := hf 1 f1 e1
      obtain ⟨v2, y2, c2, _, r2⟩ := hf 2 f2 e2
      obtain ⟨v3, y3, c3, _, r3⟩ := hf 3 f3 e3
      obtain ⟨v4, y4, c4, _, r4⟩ := hf 4 f4 e4
      obtain ⟨v5, y5, c5, _, r5⟩ := hf 5 f5 e5
      rw [t0] at r0
      rw [t1] at r1
      rw [t2] at r2
      rw [t3] at r3
      rw [t4] at r4
      rw [t5] at r5
      obtain ⟨k, h0, _⟩ := DataW.trod_int Tryd.underlying3 r0
      obtain ⟨l, h1, _⟩ := DataW.trod_int Tryd.underlying3 r1
      obtain ⟨c, h2, _⟩ := DataW.trod_int Tryd.underlying3 r2
      obtain ⟨s, h3, _⟩ := DataW.trod_string Tryd.underlying9 r3
      obtain ⟨nn, h4, _⟩ := DataW.trod_int Tryd.underlying61 r4
      obtain ⟨sc, h5, _⟩ := DataW.trod_int Tryd.underlying3 r5
      simp at h0 h1 h2 h3 h4 h5
      subst h0 h1 h2 h3 h4 h5
      rw [hcell i _ him (by omega)] at c0 c1 c2 c3 c4 c5
      exact ⟨(k, l, c, s, nn, sc), c0, c1, c2, c3, c4, c5⟩
    obtain ⟨f, hf⟩ := choose_lt hone_
    refine ⟨a.block, a.off, ⟨fun i => (f i).1, fun i => (f i).2.1, fun i => (f i).2.2.1, fun i => (f i).2.2.2.1, fun i => (f i).2.2.2.2.1, fun i => (f i).2.2.2.2.2⟩, ?_, fun i hil => hf i hil⟩
    cases a
    simp_all

/-! The listed variable. -/
theorem Tryd.own : ownKnob Tryd.prog.godebug = none := by kernel_rfl
theorem Tryd.et : Tryd.prog.globalNamed "errors.errorType" = some 0 := by kernel_rfl
theorem Tryd.rt : (Tryd.prog.cutTypes.find? (·.1 == "internal/reflectlite.rtype")).map (·.2) = some 92 := by kernel_rfl
theorem Tryd.oneRow : ((List.range 146).filter fun t => Tryd.prog.rowNamed t [101, 114, 114, 111, 114]) = [26] := by kernel_rfl
theorem Tryd.size : Tryd.prog.types.size = 146 := by kernel_rfl
theorem Tryd.laidOut : laidOutB Tryd.prog = true := by kernel_rfl

/-- What the rows list. -/
def laidList : List (String × DataW Unit) := [("errors.errorType", Rows.laid_errors_errorType)]

theorem handle_of_laid {W : World} (h : laidMetH Tryd.prog laidList W) : Handle W := by
  have h' : laidMet Tryd.prog [] W ∧ handlesMet Tryd.prog laidList W := h
  obtain ⟨name, u, ty, e1, e2, e3, e4, e5⟩ := h'.2 _ (List.mem_singleton.2 rfl)
  have en : name = [101, 114, 114, 111, 114] := (Option.some.inj e1).symm
  subst en
  obtain rfl := Option.some.inj (Tryd.rt.symm.trans e2)
  have hm : ty ∈ (List.range 146).filter fun t => Tryd.prog.rowNamed t [101, 114, 114, 111, 114] := List.mem_filter.2 ⟨List.mem_range.2 (by rw [← Tryd.size]; exact e3), e4⟩
  rw [Tryd.oneRow] at hm
  obtain rfl := List.mem_singleton.1 hm
  have hh : typeHandle Tryd.prog 26 = .pointer (some ⟨1, 26, none⟩) := by kernel_rfl
  rw [hh] at e5
  show W.cell? ⟨0, 0, none⟩ = _
  simpa using World.var?_cell Tryd.et e5 0

/-- A world that meets the condition: the settled one, the variable's cell laid. -/
noncomputable def laidWorld (os : Os) : World :=
  let w0 := World.holding Tryd.prog os ⟨#[], #[], []⟩
  { w0 with heap := w0.heap.modify 0 fun
      | .cells _ t frozen => .cells #[.iface 92 (.agg #[.pointer (some ⟨1, 26, none⟩)])] t frozen
      | o => o }
theorem laidWorld_met (os : Os) (args : Array Value) : laidMetH Tryd.prog laidList ((laidWorld os).forCall (fun _ _ => 0) ⟨#[], args, []⟩).memory :=
  laidMetH_of_parts (laidMet_nil _ _) (by kernel_rfl)
end Go.Proofs.YtccomiigdpfbpaaDoor
