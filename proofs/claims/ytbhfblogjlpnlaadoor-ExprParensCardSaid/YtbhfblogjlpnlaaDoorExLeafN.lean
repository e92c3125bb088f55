/-
  The contract of the reader's leaf. Conditions: as those of the reader; a Local's scope is 0, and no text is longer than 100000 bytes.
-/
import Derived.Test.YtbhfblogjlpnlaaDoorExMark
namespace Go.Proofs.YtbhfblogjlpnlaaDoor
open Go.RowKit

set_option maxRecDepth 100000 in
set_option maxHeartbeats 4000000 in
theorem leaf_num (w0 : World) (ts : List Tk6) (vt vn : Value) (ns : List Nd) (R i d : Nat) (t : Tk6) (hk : t.kind = 5) (w : World) (hn : ns.length ≤ 100001) (hi : i ≤ 100000) (hb : RBlk w R vt i d vn) (hr : ERest w0 R ns vn w) :
    Calls Tryd.prog 91 #[.pointer (some ⟨R, 0, none⟩), t.val] w (EPost w0 ts vt R d (.inl (i + 1, ns ++ [⟨1, t.line, t.col, t.num, ⟨#[]⟩⟩])) w) := by
  obtain ⟨i1, hi1, hz0, hz1, hz2⟩ := info_parts Tryd.infoNode
  obtain ⟨An, cn, rfl⟩ := own_shape hr.own
  have hib : (i : Int) ≤ 100000 := by omega
  have k5 : (t.kind == 5) = true := by rw [hk]; rfl
  clear hk
  obtain ⟨kb, kr, kw, kt, -⟩ := tok_world hb hr (Below.refl _ _) t
  have KK := Lib.hid (Keeps.of kw)
  clear hb hr kw
  go_enter Tryd.func91, Tryd.ntmps91
  go_wp2_with fail
  generalize (w.alloc (.cells #[.int .i64 t.kind, .int .i64 t.line, .int .i64 t.col, .string t.text, .int .u32 t.num, .int .i64 t.spare] 39)) = wA at kb kr kt KK ⊢
  generalize w.heap.size = g at kt ⊢
  have c3 : wA.cell? ⟨R, 3, none⟩ = some (.slice An ns.length cn) := kb.cell 3
  obtain ⟨t0, t1, t2, t3, t4, t5⟩ : wA.cell? ⟨g, 0, none⟩ = some (.int .i64 t.kind) ∧ wA.cell? ⟨g, 1, none⟩ = some (.int .i64 t.line) ∧ wA.cell? ⟨g, 2, none⟩ = some (.int .i64 t.col) ∧ wA.cell? ⟨g, 3, none⟩ = some (.string t.text) ∧ wA.cell? ⟨g, 4, none⟩ = some (.int .u32 t.num) ∧ wA.cell? ⟨g, 5, none⟩ = some (.int .i64 t.spare) := ⟨kt.cell 0, kt.cell 1, kt.cell 2, kt.cell 3, kt.cell 4, kt.cell 5⟩
  have hup : ∀ o, Below wA.heap.size wA (wA.alloc o) := fun o => (Below.refl _ _).alloc (Nat.le_refl _) o
  have u3 : ∀ o', (wA.alloc o').cell? ⟨R, 3, none⟩ = some (.slice An ns.length cn) := fun o' => (kb.next (hup o')).cell 3
  have KB := Lib.hid kb
  have KR := Lib.hid kr
  clear kb kr kt hup
  go_region_law (refine step_append_own_at rfl (.tmp 15) (.tmp 23) 43 rfl w0.heap.size 54 i1 (.agg #[.int .i64 0, .int .i64 0, .int .i64 0, .int .u32 0, .string ByteArray.empty]) 5 48 Tryd.underlying43 hi1 hz0 hz1 hz2 rfl (by decide) _ ns.length (ndCells ns) (by simp [Act.eval]) (KR.out.drew.alloc _).own ⟨wA.heap.size, 0, none⟩ 1 1 [.int .i64 1, .int .i64 t.line, .int .i64 t.col, .int .u32 t.num, .string ⟨#[]⟩] (by simp [Act.eval]) rfl (cells_new _ #[.int .i64 1, .int .i64 t.line, .int .i64 t.col, .int .u32 t.num, .string ⟨#[]⟩] _ _ (by simp)) (by intro u hu; simp at hu; rcases hu with rfl | rfl | rfl | rfl | rfl <;> rfl) (by unfold maxLen; omega) (by omega) (KR.out.drew.alloc _).below.size ?_; intro v' w3 hown3 hg3 _ _; obtain ⟨Av, cv, rfl⟩ := own_shape hown3; have kb3 : RBlk w3 R vt i d (.slice An ns.length cn) := Blk.grown ((KB.out.next (Below.refl _ _).drew).next ((Below.refl _ _).alloc (Nat.le_refl _) _)) hg3 (own_not_blk KR.out.own KB.out (by decide)); have k1 : w3.cell? ⟨R, 1, none⟩ = some (.int .i64 i) := kb3.cell 1; have k3 : w3.cell? ⟨R, 3, none⟩ = some (.slice An ns.length cn) := kb3.cell 3; have y1 := Blk.frozen kb3 1; have y3 := Blk.frozen kb3 3; have kr3 := (KR.out.drew.alloc _).push (n := ⟨1, t.line, t.col, t.num, ⟨#[]⟩⟩) hown3 hg3; have kk3 := KK.out.trans ((Keeps.of ((Below.refl _ _).drew.alloc (Nat.le_refl _) _)).trans (Keeps.grown (KR.out.drew.alloc _).own hg3)))
  all_goals
    have KB3 := Lib.hid kb3
    have KR3 := Lib.hid kr3
    have KK3 := Lib.hid kk3
    clear kb3 kr3 kk3 hown3 hg3
    go_wp2_with fail
    go_ret
    exact ⟨⟨rfl, .slice Av (ns.length + 1) cv, (KB3.out.set3 _).set1 (i + 1) _ rfl, (KR3.out.set 3 _).set 1 _⟩, KK3.out.trans ((Keeps.set KB3.out _).trans (Keeps.set (KB3.out.set3 _) _))⟩

set_option maxRecDepth 100000 in
set_option maxHeartbeats 4000000 in
theorem leaf_dot (w0 : World) (ts : List Tk6) (vt vn : Value) (ns : List Nd) (R i d : Nat) (t : Tk6) (hk : t.kind = 1) (hm : isT t.text [46] = true) (w : World) (hn : ns.length ≤ 100001) (hi : i ≤ 100000) (hb : RBlk w R vt i d vn) (hr : ERest w0 R ns vn w) :
    Calls Tryd.prog 91 #[.pointer (some ⟨R, 0, none⟩), t.val] w (EPost w0 ts vt R d (.inl (i + 1, ns ++ [t.node 3])) w) := by
  have hib : (i : Int) ≤ 100000 := by omega
  have k5 : (t.kind == 5) = false := by rw [hk]; rfl
  have k1 : (t.kind == 1) = true := by rw [hk]; rfl
  have m1 : (t.text.toList == [46]) = true := hm
  have HT := Lib.hid (tok_world hb hr (Below.refl _ _) t)
  have HA := Lib.hid (add_is w0 vt vn ns R i d 3 t _ hn HT.out.1 HT.out.2.1)
  clear hk hm hb hr
  go_enter Tryd.func91, Tryd.ntmps91
  go_wp2_with fail
  refine HA.out.mono ?_
  rintro e w4 ⟨rfl, ⟨vn2, kb4, kr4⟩, hk4⟩
  have HB4 := Lib.hid kb4
  have HR4 := Lib.hid kr4
  have HK4 := Lib.hid ((Keeps.of HT.out.2.2.1).trans hk4)
  have q1 : w4.cell? ⟨R, 1, none⟩ = some (.int .i64 i) := kb4.cell 1
  have y1 := Blk.frozen kb4 1
  clear kb4 kr4 hk4 HA HT
  go_wp2_with fail
  go_ret
  exact ⟨⟨rfl, vn2, HB4.out.set1 (i + 1) _ rfl, HR4.out.set 1 _⟩, HK4.out.trans (Keeps.set HB4.out _)⟩

set_option maxRecDepth 100000 in
set_option maxHeartbeats 4000000 in
theorem leaf_none (w0 : World) (ts : List Tk6) (vt vn : Value) (ns : List Nd) (R i d : Nat) (t : Tk6) (hk : t.kind ≠ 5) (hk1 : t.kind ≠ 1) (hk2 : t.kind ≠ 2) (w : World) (hg : Handle w0) (hi : i ≤ 100000) (hb : RBlk w R vt i d vn) (hv : Toks w0 vt ts) (hr : ERest w0 R ns vn w) :
    Calls Tryd.prog 91 #[.pointer (some ⟨R, 0, none⟩), t.val] w (EPost w0 ts vt R d (.inr (i, 6)) w) := by
  have k5 : (t.kind == 5) = false := beq_eq_false_iff_ne.2 hk
  have k1 : (t.kind == 1) = false := beq_eq_false_iff_ne.2 hk1
  have k2 : (t.kind == 2) = false := beq_eq_false_iff_ne.2 hk2
  have HT := Lib.hid (tok_world hb hr (Below.refl _ _) t)
  have HBAD := Lib.hid (ebad_is w0 ts vt vn ns R i d _ hg (by omega) HT.out.1 hv HT.out.2.1)
  clear hk hk1 hk2 hb hr hv
  go_enter Tryd.func91, Tryd.ntmps91
  go_wp2_with fail
  refine HBAD.out.mono ?_
  rintro e w4 ⟨⟨⟨b', rfl, hbs, hbk, hb4⟩, j', vn', ns', kb4, kr4⟩, hk4⟩
  have H4 := Lib.hid (And.intro hbs (And.intro hbk (And.intro hb4 (And.intro kb4 (And.intro kr4 ((Keeps.of HT.out.2.2.1).trans hk4))))))
  clear hbs hbk hb4 kb4 kr4 hk4
  go_wp2_with fail
  go_ret
  exact ⟨⟨⟨b', rfl, H4.out.1, H4.out.2.1, H4.out.2.2.1⟩, j', vn', ns', H4.out.2.2.2.1, H4.out.2.2.2.2.1⟩, H4.out.2.2.2.2.2⟩
end Go.Proofs.YtbhfblogjlpnlaaDoor
