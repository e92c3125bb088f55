/-
  The contract of the reader's add. Conditions: as those of the reader.
-/
import Derived.Test.YtbhfblogjlpnlaaDoorExRead
namespace Go.Proofs.YtbhfblogjlpnlaaDoor
open Go.RowKit

/-- The worlds behind a token that is copied into a variable. -/
theorem tok_world {w0 w w1 : World} {R i d : Nat} {vt vn : Value} {ns : List Nd} (hb : RBlk w R vt i d vn) (hr : ERest w0 R ns vn w) (h1 : Below w.heap.size w w1) (t : Tk6) :
    RBlk (w1.alloc (.cells #[.int .i64 t.kind, .int .i64 t.line, .int .i64 t.col, .string t.text, .int .u32 t.num, .int .i64 t.spare] 39)) R vt i d vn ∧ ERest w0 R ns vn (w1.alloc (.cells #[.int .i64 t.kind, .int .i64 t.line, .int .i64 t.col, .string t.text, .int .u32 t.num, .int .i64 t.spare] 39)) ∧ Below w.heap.size w (w1.alloc (.cells #[.int .i64 t.kind, .int .i64 t.line, .int .i64 t.col, .string t.text, .int .u32 t.num, .int .i64 t.spare] 39)) ∧ Blk (w1.alloc (.cells #[.int .i64 t.kind, .int .i64 t.line, .int .i64 t.col, .string t.text, .int .u32 t.num, .int .i64 t.spare] 39)) w1.heap.size 39 #[.int .i64 t.kind, .int .i64 t.line, .int .i64 t.col, .string t.text, .int .u32 t.num, .int .i64 t.spare] ∧ w1.heap.size ≠ R :=
  ⟨(hb.next h1).next ((Below.refl _ _).alloc (Nat.le_refl _) _), (hr.next h1).alloc _, h1.alloc h1.size _, Blk.new _ _ _, fun e => by have := Nat.lt_of_lt_of_le (Blk.lt hb) h1.size; omega⟩

set_option maxRecDepth 100000 in
set_option maxHeartbeats 4000000 in
theorem add_is (w0 : World) (vt vn : Value) (ns : List Nd) (R i d : Nat) (k : Int) (t : Tk6) (w : World) (hn : ns.length ≤ 100001) (hb : RBlk w R vt i d vn) (hr : ERest w0 R ns vn w) :
    Calls Tryd.prog 65 #[.pointer (some ⟨R, 0, none⟩), .int .i64 k, t.val] w fun e w' => e = .returned (.tuple #[]) ∧ (∃ vn', RBlk w' R vt i d vn' ∧ ERest w0 R (ns ++ [t.node k]) vn' w') ∧ Keeps w w' := by
  obtain ⟨i1, hi1, hz0, hz1, hz2⟩ := info_parts Tryd.infoNode
  obtain ⟨An, cn, rfl⟩ := own_shape hr.own
  obtain ⟨kb, kr, kw, kt, -⟩ := tok_world hb hr (Below.refl _ _) t
  have KK := Lib.hid (Keeps.of kw)
  clear hb hr kw
  go_enter Tryd.func65, Tryd.ntmps65
  go_wp2_with fail
  generalize (w.alloc (.cells #[.int .i64 t.kind, .int .i64 t.line, .int .i64 t.col, .string t.text, .int .u32 t.num, .int .i64 t.spare] 39)) = wA at kb kr kt KK ⊢
  generalize w.heap.size = g at kt ⊢
  have c3 : wA.cell? ⟨R, 3, none⟩ = some (.slice An ns.length cn) := kb.cell 3
  have t1 : wA.cell? ⟨g, 1, none⟩ = some (.int .i64 t.line) := kt.cell 1
  have t2 : wA.cell? ⟨g, 2, none⟩ = some (.int .i64 t.col) := kt.cell 2
  have hup : ∀ o, Below wA.heap.size wA (wA.alloc o) := fun o => (Below.refl _ _).alloc (Nat.le_refl _) o
  have u3 : ∀ o', (wA.alloc o').cell? ⟨R, 3, none⟩ = some (.slice An ns.length cn) := fun o' => (kb.next (hup o')).cell 3
  have KB := Lib.hid kb
  have KR := Lib.hid kr
  clear kb kr kt hup
  go_region_law (refine step_append_own_at rfl (.tmp 10) (.tmp 17) 43 rfl w0.heap.size 54 i1 (.agg #[.int .i64 0, .int .i64 0, .int .i64 0, .int .u32 0, .string ByteArray.empty]) 5 48 Tryd.underlying43 hi1 hz0 hz1 hz2 rfl (by decide) _ ns.length (ndCells ns) (by simp [Act.eval]) (KR.out.drew.alloc _).own ⟨wA.heap.size, 0, none⟩ 1 1 [.int .i64 k, .int .i64 t.line, .int .i64 t.col, .int .u32 0, .string ⟨#[]⟩] (by simp [Act.eval]) rfl (cells_new _ #[.int .i64 k, .int .i64 t.line, .int .i64 t.col, .int .u32 0, .string ⟨#[]⟩] _ _ (by simp)) (by intro u hu; simp at hu; rcases hu with rfl | rfl | rfl | rfl | rfl <;> rfl) (by unfold maxLen; omega) (by omega) (KR.out.drew.alloc _).below.size ?_; intro v' w3 hown3 hg3 _ _; obtain ⟨Av, cv, rfl⟩ := own_shape hown3; have kb3 : RBlk w3 R vt i d (.slice An ns.length cn) := Blk.grown ((KB.out.next (Below.refl _ _).drew).next ((Below.refl _ _).alloc (Nat.le_refl _) _)) hg3 (own_not_blk KR.out.own KB.out (by decide)); have k3 : w3.cell? ⟨R, 3, none⟩ = some (.slice An ns.length cn) := kb3.cell 3; have y3 := Blk.frozen kb3 3; have kr3 := (KR.out.drew.alloc _).push (n := t.node k) hown3 hg3; have kk3 := KK.out.trans ((Keeps.of ((Below.refl _ _).drew.alloc (Nat.le_refl _) _)).trans (Keeps.grown (KR.out.drew.alloc _).own hg3)))
  all_goals
    have KB3 := Lib.hid kb3
    have KR3 := Lib.hid kr3
    have KK3 := Lib.hid kk3
    clear kb3 kr3 kk3 hown3 hg3
    go_wp2_with fail
    go_end0
    exact ⟨rfl, ⟨.slice Av (ns.length + 1) cv, KB3.out.set3 _, KR3.out.set 3 _⟩, KK3.out.trans (Keeps.set KB3.out _)⟩
end Go.Proofs.YtbhfblogjlpnlaaDoor
