/-
  LexParts: the lines of two sources parted by a line feed; bytes put behind bytes; tokens whose line is raised. Condition: none beyond each theorem's own.
-/
import Derived.Test.YtbhfblogjlpnlaaDoorLxByt
import Derived.BigQuiet
namespace Go.Proofs.YtbhfblogjlpnlaaDoor
open Go.RowKit

theorem parts_lines {a b : Bs} {alla allb : List (List Piece)} {ea eb : Option (Nat × Nat × Int)} (ha : LinesR 0 (cut a) alla ea) (hb : LinesR 0 (cut b) allb eb) :
    ∃ all e, LinesR 0 (cut (a ++ 10 :: b)) all e ∧ (∀ p, ea = some p → e = some p) ∧ (ea = none → e = eb.map (fun x => (x.1 + alla.length, x.2.1, x.2.2)) ∧ all = alla ++ allb) := by
  rw [cut_both]
  cases ea with
  | some p => exact ⟨alla, some p, ha.stop _ p rfl, fun q h => h, fun h => by cases h⟩
  | none =>
    have hl := ha.len.2 rfl
    have hs := hb.shift (cut a).length
    exact ⟨alla ++ allb, _, ha.append hs rfl, fun q h => (by cases h), fun _ => ⟨by rw [hl], rfl⟩⟩

/-- Bytes put behind bytes of the call's own. -/
theorem append_src {ops : Array Oper} {rest : List Oper} {o : Oper} {a : Act} {Q : Exit → Act → World → Prop} {w : World} (hgd : o.guard = none) (s x : Operand)
    (ho : o.op = .call { callee := .builtin .append, args := #[s, x], argTypes := #[22, 22] }) (base n : Nat) (v : Value) (L : Bs) (hs : a.eval s = v)
    (hown : w.ownsRow base 5 1 v n (L.map u8V)) (u : Value) (T : ByteArray) (hx : a.eval x = u) (hT : SrcV w u T) (hle : n + T.size ≤ 10000) (hbase : base ≤ w.heap.size)
    (h : ∀ v' w', w'.ownsRow base 5 1 v' (n + T.size) ((L ++ T.data.toList).map u8V) → w.grownBy w' v.ownBlock → wpList Tryd.prog ops Q rest (a.put o.dst v') w') : wpList Tryd.prog ops Q (o :: rest) a w := by
  obtain ⟨i0, hi, hz0, hz1, hz2⟩ := info_parts Tryd.infoByte
  rcases hT with ⟨rfl, rfl⟩ | ⟨b, f, c, rfl, h2, h3, h4⟩
  · refine wpList_plain hgd fun K hK => ?_
    have hr := run_append_owned_none (P := Tryd.prog) (w := w) base 22 o.type 5 i0 1 Tryd.underlying22 hi v n _ hown
    unfold Oper.wp execOp
    simp only [ho, resolve, invoke, builtin, Sem.run_bind, Sem.run_pure, Result.andThen_ok, List.map_toArray, List.map_cons, List.map_nil, hs, hx, hr]
    refine hK _ _ (h v w (by simpa using hown) ⟨rfl, rfl, rfl, Nat.le_refl _, fun _ _ _ => rfl⟩)
  · refine wpList_append_own w hgd s x 22 ho base 5 i0 (.int .u8 0) 1 1 Tryd.underlying22 hi hz0 hz1 hz2 rfl (by decide) v n _ hs hown ⟨b, f, none⟩ T.size c (T.data.toList.map u8V) hx (by simp) ?_ (by intro u hu; obtain ⟨c, _, rfl⟩ := List.mem_map.1 hu; rfl) (by unfold maxLen; omega) (by omega) hbase ?_
    · intro j u hu
      have hadd : (⟨b, f, none⟩ : Addr).add j = ⟨b, f + j, none⟩ := by unfold Addr.add; split <;> simp_all
      have hj : j < T.size := by have := (List.getElem?_eq_some_iff.1 hu).1; simpa using this
      have hj2 : j < T.data.toList.length := by simpa using hj
      rw [hadd, h4.cell j hj]
      rw [List.getElem?_map, List.getElem?_eq_getElem hj2] at hu
      exact hu
    · intro v' w' h5 h6 _
      exact h v' w' (by rw [List.map_append]; exact h5) h6

/-- The tokens of a line, further down. -/
theorem allCells_upto (ps : List Piece) (k : Nat) (p : Piece) (ln : Int) (h : ps[k]? = some p) : allCells (ps.take (k + 1)) ln = allCells (ps.take k) ln ++ p.cells ln := by
  obtain ⟨hk, rfl⟩ := List.getElem?_eq_some_iff.1 h
  rw [List.take_succ_eq_append_getElem hk, allCells_snoc]

/-- What is held while the second source's lines are put behind the first's. -/
structure PInv (w5 : World) (base : Nat) (alla allb : List (List Piece)) (i : Nat) (v : Value) (wr : World) (us : List Value) : Prop where
  own : wr.ownsRow w5.heap.size 36 1 v (alla.length + i) us
  lines : LinesAt wr base us (alla ++ allb.take i)
  below : Below w5.heap.size w5 wr

theorem p_step {w5 wr w1 w3 : World} {base : Nat} {alla allb : List (List Piece)} {ps : List Piece} {i : Nat} {v v' u : Value} {us : List Value} {o1 : Obj} (hbase : base ≤ w5.heap.size)
    (h : PInv w5 base alla allb i v wr us) (hps : allb[i]? = some ps) (hb1 : Below wr.heap.size wr w1) (hu : w1.ownsRow wr.heap.size 39 6 u ps.length (allCells ps (((alla.length + i : Nat) : Int) + 1)))
    (hown' : w3.ownsRow w5.heap.size 36 1 v' (alla.length + i + 1) (us ++ [u])) (hgrow : (w1.alloc o1).grownBy w3 v.ownBlock) : PInv w5 base alla allb (i + 1) v' w3 (us ++ [u]) := by
  obtain ⟨hi, rfl⟩ := List.getElem?_eq_some_iff.1 hps
  have hsz := h.below.size
  have hs1 := hb1.size
  have hown2 : (w1.alloc o1).ownsRow w5.heap.size 36 1 v (alla.length + i) us := (own_below h.own hb1).alloc _
  have hlen : (alla ++ allb.take i).length = alla.length + i := by rw [List.length_append, List.length_take, Nat.min_eq_left (Nat.le_of_lt hi)]
  rw [← hlen] at hu
  have hl1 : LinesAt (w1.alloc o1) base (us ++ [u]) (alla ++ allb.take i ++ [allb[i]]) :=
    ((h.lines.below hb1).snoc (own_base hu (by omega))).below (w' := w1.alloc o1) ((Below.refl _ _).alloc (Nat.le_refl _) _)
  rw [List.append_assoc, ← List.take_succ_eq_append_getElem hi] at hl1
  refine ⟨hown', hl1.grown hown2 hgrow, ?_⟩
  refine Below.grown ((h.below.trans (hb1.mono hsz)).alloc (by omega) o1) hgrow (by simp; omega) ?_
  intro g hg
  exact (h.own.lt g hg).1
/-- What holds behind the place that is worked out. -/
structure TF (w8 : World) (L C c : Int) (z : Value) (W : World) : Prop where
  below : Below w8.heap.size w8 W
  call : FaultIs W z L C c
  c0 : W.cell? ⟨w8.heap.size, 0, none⟩ = some (.int .i64 L)
  c1 : W.cell? ⟨w8.heap.size, 1, none⟩ = some (.int .i64 C)
  c2 : W.cell? ⟨w8.heap.size, 2, none⟩ = some (.int .i64 c)
section
variable {w8 : World} {L C c : Int} {z : Value} {W W' : World}
theorem TF.next (h : TF w8 L C c z W) (hb : Below W.heap.size W W') : TF w8 L C c z W' :=
  have old : ∀ (a : Addr) (v : Value), W.cell? a = some v → W'.cell? a = some v := fun a _ hv => (hb.cell (p := a) (World.block_lt_of_cell? W a hv)).trans hv
  ⟨h.below.trans (hb.mono h.below.size), h.call.below hb, old _ _ h.c0, old _ _ h.c1, old _ _ h.c2⟩
theorem TF.drew (h : TF w8 L C c z W) : TF w8 L C c z W.drew := h.next (Below.refl _ _).drew
theorem TF.fault (h : TF w8 L C c z W) : Calls Tryd.prog 15 #[z] W fun e w' => e = .returned (.agg #[.int .i64 L, .int .i64 C, .int .i64 c]) ∧ (w'.cell? ⟨w8.heap.size, 0, none⟩ = some (.int .i64 L) ∧ w'.cell? ⟨w8.heap.size, 1, none⟩ = some (.int .i64 C) ∧ w'.cell? ⟨w8.heap.size, 2, none⟩ = some (.int .i64 c)) ∧ TF w8 L C c z w' :=
  (h.call W (Below.refl _ _)).mono fun _ _ ⟨he, hb⟩ => ⟨he, ⟨(h.next hb).c0, (h.next hb).c1, (h.next hb).c2⟩, h.next hb⟩
end
end Go.Proofs.YtbhfblogjlpnlaaDoor
