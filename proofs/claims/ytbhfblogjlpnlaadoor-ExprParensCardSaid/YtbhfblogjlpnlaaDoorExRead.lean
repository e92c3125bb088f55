/-
  The reader of expressions in the memory; the contracts of its bad, add and mark. Conditions: the reader lies in the memory of the call's own, with the nodes so far; its tokens lie in the memory, at most 100000 of them.
-/
import Derived.Test.YtbhfblogjlpnlaaDoorExLeaf
import Derived.Test.YtbhfblogjlpnlaaDoorExErr
import Derived.Test.YtbhfblogjlpnlaaDoorRxLines
import Derived.RegionTactic
import Derived.BigRegion
import Derived.Laws.EntriesVeiled
import Derived.Deep.RegionHeld3
import Derived.Deep.DeepCutAuto
import Derived.Deep.RegionLaw
import Derived.Maps.AppendAt
namespace Go.Proofs.YtbhfblogjlpnlaaDoor
open Go.RowKit

/-- append onto a row of the call's own, as one step of a region that draws. -/
theorem step_append_own_at {P : Program} {ops : Array Oper} {o : Oper} {a : Act} {w : World} {K : Act → World → Prop} {Q : Exit → Act → World → Prop} {E : Prop}
    (hg : o.guard = none) (s x : Operand) (t : TypeId) (hop : o.op = Op.call { callee := Callee.builtin Builtin.append, args := #[s, x], argTypes := #[t, t] })
    (base : Nat) (e : TypeId) (i : TypeInfo) (z : Value) (size bytes : Nat) (ht : P.underlying t = some (.slice e)) (hi : P.info? e = some i) (hz : i.zero = some z)
    (hsize : i.size = size) (hby : i.bytes = bytes) (hzs : z.cells.size = size) (hsz : 0 < size)
    (v : Value) (n : Nat) (xs : List Value) (hs : a.eval s = v) (hown : w.ownsRow base e size v n xs)
    (ad : Addr) (m c : Nat) (news : List Value) (hx : a.eval x = .slice (some ad) m c) (hl : news.length = m * size) (hnews : ∀ j u, news[j]? = some u → w.cell? (ad.add j) = some u) (h1 : ∀ u ∈ news, u.oneCell' = true)
    (h63 : n + m ≤ maxLen) (hbytes : (n + m) * bytes ≤ 140737488355328) (hbase : base ≤ w.heap.size)
    (hK : ∀ v' w', w'.ownsRow base e size v' (n + m) (xs ++ news) → w.grownBy w' v.ownBlock → (v' = .slice none 0 0 ↔ v = .slice none 0 0 ∧ m = 0) → (v'.ownBlock = v.ownBlock ∨ v'.ownBlock = some w.heap.size) → K (a.put o.dst v') w') :
    if Region.wanted o (yielded ops a.tmps) = true then Oper.wp P o a w K Q else E := by
  have hw : Region.wanted o (yielded ops a.tmps) = true := by simp [Region.wanted, hg]
  rw [if_pos hw]
  obtain ⟨v', w', hr, h2, h3, h4, h5⟩ := run_append_own_at (P := P) w base t o.type e i z size bytes ht hi hz hsize hby hzs hsz v n xs hown ad m c news hl hnews h1 h63 hbytes hbase
  unfold Oper.wp execOp
  simp only [hop, resolve, invoke, builtin, Sem.run_bind, Sem.run_pure, Result.andThen_ok, List.map_toArray, List.map_cons, List.map_nil, hs, hx, hr]
  exact hK v' w' h2 h3 h4 h5

theorem Blk.set {w : World} {g : Nat} {t : TypeId} {cs : Array Value} (h : Blk w g t cs) (i : Nat) (u : Value) : Blk (w.setCell ⟨g, i, none⟩ u) g t (cs.setIfInBounds i u) := heap_setCell_same w g i cs t u h
theorem Blk.drew {w : World} {g : Nat} {t : TypeId} {cs : Array Value} (h : Blk w g t cs) : Blk w.drew g t cs := h
theorem Blk.drewN {w : World} {g : Nat} {t : TypeId} {cs : Array Value} (h : Blk w g t cs) (n : Nat) : Blk (w.drewN n) g t cs := h
theorem Blk.grown {w w' : World} {g : Nat} {t : TypeId} {cs : Array Value} {r : Option Nat} (h : Blk w g t cs) (hg : w.grownBy w' r) (hr : r ≠ some g) : Blk w' g t cs := (hg.block g h.lt (fun e => hr e.symm)).trans h
theorem blk_ne {w : World} {g h : Nat} {t t' : TypeId} {cs cs' : Array Value} (h1 : Blk w g t cs) (h2 : Blk w h t' cs') (hne : t ≠ t') : g ≠ h := by
  rintro rfl
  have h1' : w.heap[g]? = some (.cells cs t (0, 0)) := h1
  have h2' : w.heap[g]? = some (.cells cs' t' (0, 0)) := h2
  rw [h1'] at h2'
  injection h2' with h2'
  injection h2' with _ h2'
  exact hne h2'
theorem own_not_blk {w : World} {H base e size n : Nat} {v : Value} {xs : List Value} {cs : Array Value} {t : TypeId} (h : w.ownsRow base e size v n xs) (hb : Blk w H t cs) (hne : e ≠ t) : v.ownBlock ≠ some H := by
  rcases h.2 with ⟨rfl, _⟩ | ⟨g, cap, cur, rfl, _, hh, _⟩
  · simp [Value.ownBlock]
  · intro h0
    simp [Value.ownBlock] at h0
    subst h0
    have hb' : w.heap[g]? = some (.cells cs t (0, 0)) := hb
    rw [hb'] at hh
    injection hh with hh
    injection hh with _ hh
    exact hne hh.symm

/-- Nodes as cells. -/
def ndCells (ns : List Nd) : List Value := ns.flatMap Nd.cells
theorem ndCells_len (ns : List Nd) : (ndCells ns).length = ns.length * 5 := by
  induction ns with
  | nil => rfl
  | cons t ps ih =>
    have h : ndCells (t :: ps) = t.cells ++ ndCells ps := rfl
    have h5 : t.cells.length = 5 := rfl
    rw [h, List.length_append, ih, List.length_cons, h5]
    omega
theorem ndCells_app (a b : List Nd) : ndCells (a ++ b) = ndCells a ++ ndCells b := by simp [ndCells]

/-- The reader in the memory. -/
abbrev RBlk (w : World) (R : Nat) (vt : Value) (i d : Nat) (vn : Value) : Prop := Blk w R 71 #[vt, .int .i64 i, .int .i64 d, vn]
/-- What holds of the nodes that are read, in every world since. -/
structure ERest (w0 : World) (R : Nat) (ns : List Nd) (vn : Value) (w : World) : Prop where
  own : w.ownsRow w0.heap.size 54 5 vn ns.length (ndCells ns)
  below : Below w0.heap.size w0 w
  base : w0.heap.size ≤ R
  blk : ∃ cs, Blk w R 71 cs
section
variable {w0 w w' : World} {R i d : Nat} {vt vn : Value} {ns : List Nd}
theorem RBlk.set1 (h : RBlk w R vt i d vn) (i' : Nat) (x : Int) (hx : x = i') : RBlk (w.setCell ⟨R, 1, none⟩ (.int .i64 x)) R vt i' d vn := by
  subst hx
  exact Blk.set h 1 _
theorem RBlk.set2 (h : RBlk w R vt i d vn) (d' : Nat) (x : Int) (hx : x = d') : RBlk (w.setCell ⟨R, 2, none⟩ (.int .i64 x)) R vt i d' vn := by
  subst hx
  exact Blk.set h 2 _
theorem RBlk.set3 (h : RBlk w R vt i d vn) (vn' : Value) : RBlk (w.setCell ⟨R, 3, none⟩ vn') R vt i d vn' := Blk.set h 3 _
theorem RBlk.next (h : RBlk w R vt i d vn) (hb : Below w.heap.size w w') : RBlk w' R vt i d vn := Blk.below h hb (Blk.lt h)
theorem ERest.next (h : ERest w0 R ns vn w) (hb : Below w.heap.size w w') : ERest w0 R ns vn w' := by
  obtain ⟨cs, hcs⟩ := h.blk
  exact ⟨own_below h.own hb, h.below.trans (hb.mono h.below.size), h.base, cs, hcs.below hb hcs.lt⟩
theorem ERest.alloc (h : ERest w0 R ns vn w) (o : Obj) : ERest w0 R ns vn (w.alloc o) := h.next ((Below.refl _ _).alloc (Nat.le_refl _) o)
theorem ERest.drew (h : ERest w0 R ns vn w) : ERest w0 R ns vn w.drew := h.next (Below.refl _ _).drew
theorem ERest.drewN (h : ERest w0 R ns vn w) (n : Nat) : ERest w0 R ns vn (w.drewN n) := h.next (bdrew (Below.refl _ _))
theorem ERest.set (h : ERest w0 R ns vn w) (i : Nat) (u : Value) : ERest w0 R ns vn (w.setCell ⟨R, i, none⟩ u) := by
  obtain ⟨cs, hcs⟩ := h.blk
  exact ⟨ownsRow_setCell_other h.own (own_not_blk h.own hcs (by decide)) u, h.below.setCell h.base u, h.base, _, hcs.set i u⟩
theorem ERest.push {w3 : World} {v' : Value} {n : Nd} (h : ERest w0 R ns vn w) (hown : w3.ownsRow w0.heap.size 54 5 v' (ns.length + 1) (ndCells ns ++ n.cells)) (hg : w.grownBy w3 vn.ownBlock) : ERest w0 R (ns ++ [n]) v' w3 := by
  obtain ⟨cs, hcs⟩ := h.blk
  refine ⟨by rw [ndCells_app, List.length_append]; exact (by rw [show ndCells [n] = n.cells from List.append_nil _]; exact hown), Below.grown h.below hg h.below.size (fun x hx => (h.own.lt x hx).1), h.base, cs, hcs.grown hg (own_not_blk h.own hcs (by decide))⟩
end

/-- All blocks are kept but the reader's and the nodes'. -/
def Keeps (w w' : World) : Prop := ∀ (g : Nat) (t : TypeId) (cs : Array Value), t ≠ 71 → t ≠ 54 → Blk w g t cs → Blk w' g t cs
theorem Keeps.refl (w : World) : Keeps w w := fun _ _ _ _ _ h => h
theorem Keeps.trans {w w' w2 : World} (h : Keeps w w') (h2 : Keeps w' w2) : Keeps w w2 := fun g t cs h3 h4 h5 => h2 g t cs h3 h4 (h g t cs h3 h4 h5)
theorem Keeps.of {w w' : World} (h : Below w.heap.size w w') : Keeps w w' := fun _ _ _ _ _ h5 => h5.below h h5.lt
theorem Keeps.set {w : World} {R i : Nat} {cs : Array Value} (h : Blk w R 71 cs) (u : Value) : Keeps w (w.setCell ⟨R, i, none⟩ u) := fun _ _ _ h3 _ h5 => h5.far (blk_ne h5 h h3) u
theorem Keeps.grown {w w' : World} {base n : Nat} {v : Value} {xs : List Value} (h : w.ownsRow base 54 5 v n xs) (hg : w.grownBy w' v.ownBlock) : Keeps w w' := fun _ _ _ _ h4 h5 => h5.grown hg (own_not_blk h h5 h4.symm)

/-- How a reading ends. -/
def EOut (w0 : World) (ts : List Tk6) (vt : Value) (R d : Nat) (r : (Nat × List Nd) ⊕ (Nat × Int)) (e : Ending) (w' : World) : Prop :=
  match r with
  | .inl (j, ns') => e = .returned .nilIface ∧ ∃ vn, RBlk w' R vt j d vn ∧ ERest w0 R ns' vn w'
  | .inr (j, c) => ErrOut w0 (placeAt ts j).1 (placeAt ts j).2 c e w' ∧ ∃ j' vn ns', RBlk w' R vt j' d vn ∧ ERest w0 R ns' vn w'

/-- How a call of the reader ends. -/
def EPost (w0 : World) (ts : List Tk6) (vt : Value) (R d : Nat) (r : (Nat × List Nd) ⊕ (Nat × Int)) (w : World) (e : Ending) (w' : World) : Prop := EOut w0 ts vt R d r e w' ∧ Keeps w w'

theorem Tryd.infoNode : (Tryd.prog.info? 54).map (fun i => (i.zero, i.size, i.bytes)) = some (some (.agg #[.int .i64 0, .int .i64 0, .int .i64 0, .int .u32 0, .string ByteArray.empty]), 5, 48) := by kernel_rfl

/-- The world behind a token that is copied into a variable. -/
@[reducible] def Tk6.obj (t : Tk6) : Obj := .cells #[.int .i64 t.kind, .int .i64 t.line, .int .i64 t.col, .string t.text, .int .u32 t.num, .int .i64 t.spare] 39

set_option maxRecDepth 100000 in
set_option maxHeartbeats 1000000 in
theorem ebad_is (w0 : World) (ts : List Tk6) (vt vn : Value) (ns : List Nd) (R i d : Nat) (w : World) (hg : Handle w0) (hi : i ≤ 100001) (hb : RBlk w R vt i d vn) (hv : Toks w0 vt ts) (hr : ERest w0 R ns vn w) : Calls Tryd.prog 84 #[.pointer (some ⟨R, 0, none⟩)] w (EPost w0 ts vt R d (.inr (i, 6)) w) := by
  have c0 : w.cell? ⟨R, 0, none⟩ = some vt := hb.cell 0
  have c1 : w.cell? ⟨R, 1, none⟩ = some (.int .i64 i) := hb.cell 1
  have HN := Lib.hid (fun W (hW : Below w.heap.size w W) => atNext_is ts vt i 6 W (hg.below (hr.below.trans (hW.mono hr.below.size)) hg.pos) ((hv.below hr.below).below hW) hi)
  have HC0 := Lib.hid (fun W (hW : Below w.heap.size w W) => (hW.cell (p := ⟨R, 0, none⟩) (World.block_lt_of_cell? w _ c0)).trans c0)
  have HC1 := Lib.hid (fun W (hW : Below w.heap.size w W) => (hW.cell (p := ⟨R, 1, none⟩) (World.block_lt_of_cell? w _ c1)).trans c1)
  have HBK := Lib.hid hb
  have HR := Lib.hid hr
  clear hb hv hg hr
  go_enter Tryd.func84, Tryd.ntmps84
  go_wp2_with fail
  go_region_held3 (fun W => W.cell? ⟨R, 0, none⟩ = some vt ∧ W.cell? ⟨R, 1, none⟩ = some (.int .i64 i) ∧ Below w.heap.size w W)
    (first | exact ⟨c0, c1, Below.refl _ _⟩ | exact ⟨c0, c1, (Below.refl _ _).drew⟩ | (go_split_ands; exact ⟨by assumption, by assumption, by assumption⟩) | go_keep)
    (first | (go_at_call 101; go_split_ands; refine (HN.out _ (by assumption)).mono ?_; rintro e w3 ⟨b, rfl, hbs, hbk, hb3⟩; have hbb : Below w.heap.size w w3 := (Below.refl _ _).drew.trans hb3; have t0 := HC0.out w3 hbb; have t1 := HC1.out w3 hbb))
  go_wp2_with fail
  go_ret
  exact ⟨⟨⟨b, rfl, Nat.le_trans HR.out.below.size hbs, hbk, HR.out.below.trans (hbb.mono HR.out.below.size)⟩, i, vn, ns, HBK.out.next hbb, HR.out.next hbb⟩, .of hbb⟩
end Go.Proofs.YtbhfblogjlpnlaaDoor
