/-
  The contract of the step param of a macro's head. Conditions: as those of the steps.
-/
import Derived.Test.YtbhfblogjlpnlabDoorMacStep
import Derived.Deep.RegionHeld3
import Derived.Deep.DeepCutAuto
import Derived.Deep.RegionLaw
import Derived.Maps.AppendAt
namespace Go.Proofs.YtbhfblogjlpnlabDoor
open Go.RowKit

theorem Tryd.infoPar : (Tryd.prog.info? 99).map (fun i => (i.zero, i.size, i.bytes)) = some (some (.agg #[.string ByteArray.empty, .bool false, .slice none 0 0]), 3, 48) := by kernel_rfl

/-- append onto a row of the call's own, as one step of a region that draws. -/
theorem step_append_own_at {P : Program} {ops : Array Oper} {o : Oper} {a : Act} {w : World} {K : Act → World → Prop} {Q : Exit → Act → World → Prop} {E : Prop}
    (hg : o.guard = none) (s x : Operand) (t : TypeId) (hop : o.op = Op.call { callee := Callee.builtin Builtin.append, args := #[s, x], argTypes := #[t, t] })
    (base : Nat) (e : TypeId) (i : TypeInfo) (z : Value) (size bytes : Nat) (ht : P.underlying t = some (.slice e)) (hi : P.info? e = some i) (hz : i.zero = some z)
    (hsize : i.size = size) (hby : i.bytes = bytes) (hzs : z.cells.size = size) (hsz : 0 < size)
    (v : Value) (n : Nat) (xs : List Value) (hs : a.eval s = v) (hown : w.ownsRow base e size v n xs)
    (ad : Addr) (m c : Nat) (news : List Value) (hx : a.eval x = .slice (some ad) m c) (hl : news.length = m * size) (hnews : ∀ j u, news[j]? = some u → w.cell? (ad.add j) = some u) (h1 : ∀ u ∈ news, u.oneCell' = true)
    (h63 : n + m ≤ maxLen) (hbytes : (n + m) * bytes ≤ 140737488355328) (hbase : base ≤ w.heap.size)
    (hK : ∀ v' w', w'.ownsRow base e size v' (n + m) (xs ++ news) → w.grownBy w' v.ownBlock → (v' = .slice none 0 0 ↔ v = .slice none 0 0 ∧ m = 0) → (v'.ownBlock = v.ownBlock ∨ v'.ownBlock = some w.heap.size) → K (a.put o.dst v') w') :
    if Region.wanted o (yielded ops a.tmps) = true then Oper.wp P o a w K Q else E := by
  have hw : Region.wanted o (yielded ops a.tmps) = true := by simp [Region.wanted, hg]
  rw [if_pos hw]
  obtain ⟨v', w', hr, h2, h3, h4, h5⟩ := run_append_own_at (P := P) w base t o.type e i z size bytes ht hi hz hsize hby hzs hsz v n xs hown ad m c news hl hnews h1 h63 hbytes hbase
  unfold Oper.wp execOp
  simp only [hop, resolve, invoke, builtin, Sem.run_bind, Sem.run_pure, Result.andThen_ok, List.map_toArray, List.map_cons, List.map_nil, hs, hx, hr]
  exact hK v' w' h2 h3 h4 h5

theorem Blk.grown {w w' : World} {g : Nat} {t : TypeId} {cs : Array Value} {r : Option Nat} (h : Blk w g t cs) (hg : w.grownBy w' r) (hr : r ≠ some g) : Blk w' g t cs := (hg.block g h.lt (fun e => hr e.symm)).trans h

theorem HRest.push {w0 w w3 : World} {H : Nat} {ps : List HPar} {vp v' : Value} {qs : List (HPar × Value)} {p : HPar} (h : HRest w0 H ps vp qs w) (hown : w3.ownsRow w0.heap.size 99 3 v' (qs.length + 1) (parCells qs ++ [.string p.name, .bool p.has, .slice none 0 0])) (hp : p.dflt = []) (hg : w.grownBy w3 vp.ownBlock) : HRest w0 H (ps ++ [p]) v' (qs ++ [(p, .slice none 0 0)]) w3 := by
  obtain ⟨cs, hcs⟩ := h.blk
  refine ⟨by rw [List.map_append, h.eq]; rfl, by rw [parCells_app, List.length_append]; exact hown, ?_, Below.grown h.below hg h.below.size (fun x hx => (h.own.lt x hx).1), h.base, cs, hcs.grown hg (own_not_head h.own hcs (by decide))⟩
  intro q hq
  rcases List.mem_append.1 hq with hq | hq
  · exact (h.rows q hq).kept hg (own_ne (h.rows q hq) h.own (by decide))
  · obtain rfl := List.mem_singleton.1 hq
    show w3.ownsRow _ _ 6 (.slice none 0 0) p.dflt.length (cellsOf p.dflt)
    rw [hp]
    exact World.ownsRow_nil _ _ _ _

/-- The world behind a token that is copied into a variable. -/
theorem tok_world {w0 w w1 : World} {H i : Nat} {vt vp nx : Value} {n : ByteArray} {ps : List HPar} {qs : List (HPar × Value)} (hb : HBlk w H vt i n vp nx) (hr : HRest w0 H ps vp qs w) (h1 : Below w.heap.size w w1) (t : Tk6) :
    HBlk ((w1.alloc (.cells #[.int .i64 t.kind, .int .i64 t.line, .int .i64 t.col, .string t.text, .int .u32 t.num, .int .i64 t.spare] 56)).drew) H vt i n vp nx ∧ HRest w0 H ps vp qs ((w1.alloc (.cells #[.int .i64 t.kind, .int .i64 t.line, .int .i64 t.col, .string t.text, .int .u32 t.num, .int .i64 t.spare] 56)).drew) ∧ Below w.heap.size w ((w1.alloc (.cells #[.int .i64 t.kind, .int .i64 t.line, .int .i64 t.col, .string t.text, .int .u32 t.num, .int .i64 t.spare] 56)).drew) ∧ Blk ((w1.alloc (.cells #[.int .i64 t.kind, .int .i64 t.line, .int .i64 t.col, .string t.text, .int .u32 t.num, .int .i64 t.spare] 56)).drew) w1.heap.size 56 #[.int .i64 t.kind, .int .i64 t.line, .int .i64 t.col, .string t.text, .int .u32 t.num, .int .i64 t.spare] ∧ w1.heap.size ≠ H :=
  ⟨Blk.drew ((hb.next h1).next ((Below.refl _ _).alloc (Nat.le_refl _) _)), ((hr.next h1).alloc _).drew, (h1.alloc h1.size _).drew, Blk.drew (Blk.new _ _ _), fun e => by have := Nat.lt_of_lt_of_le (Blk.lt hb) h1.size; omega⟩

set_option maxRecDepth 100000 in
set_option maxHeartbeats 4000000 in
theorem hparam_is (w0 : World) (ts : List Tk6) (vt vp : Value) (qs : List (HPar × Value)) (H : Nat) (s : HState) (w : World) (hg : Handle w0) (hn : ts.length ≤ 100000) (hi : s.at_ ≤ ts.length + 1) (hfew : s.ps.length ≤ s.at_) (hb : HBlk w H vt s.at_ s.name vp .nilFunc) (hv : Toks w0 vt ts) (hr : HRest w0 H s.ps vp qs w) :
    Calls Tryd.prog 65 #[.pointer (some ⟨H, 0, none⟩)] w (HOutE w0 ts vt H (paramStep ts s)) := by
  obtain ⟨i, n, ps⟩ := s
  obtain ⟨i1, hi1, hz0, hz1, hz2⟩ := info_parts Tryd.infoPar
  simp only at hb hr hi hfew
  have hgw := hg.below hr.below hg.pos
  have hvw := hv.below hr.below
  have hql : qs.length ≤ 100001 := by have := congrArg List.length hr.eq; rw [List.length_map] at this; omega
  obtain ⟨Ap, cp, rfl⟩ := own_shape hr.own
  have HN := Lib.hid (named_is ts vt _ .nilFunc H i n w hb hvw)
  have HBAD := Lib.hid (fun W (hW : Below w.heap.size w W) => bad_is ts vt _ .nilFunc H i n W (hgw.below hW hgw.pos) (by omega) (hb.below hW hb.lt) (hvw.below hW))
  have HR := Lib.hid hr
  have HBK := Lib.hid hb
  have HG := Lib.hid hgw
  have HBEL := Lib.hid hr.below
  obtain ⟨A, c, rfl, hc, hcm, hcell⟩ := hvw.form
  have HCELL := Lib.hid hcell
  clear hb hv hr hcell hg hgw hvw
  by_cases hlt : nameAt ts i = true
  · obtain ⟨t, ht, hk⟩ : ∃ t, ts[i]? = some t ∧ t.kind = 1 := by
      unfold nameAt at hlt
      split at hlt
      · rename_i t ht
        exact ⟨t, ht, by simpa using hlt⟩
      · cases hlt
    have hil := (List.getElem?_eq_some_iff.1 ht).1
    have hki : (i : Int) < ts.length := by omega
    have hkc : (i : Int) < c := by omega
    have hkb : (i : Int) ≤ 100000 := by omega
    obtain ⟨b, o, rfl, hcs⟩ := HCELL.out i t ht
    have HC := Lib.hid hcs
    have hres : paramStep ts ⟨i, n, ps⟩ = if hasPar ps t.text = true then .inr (i, 10) else .inl (if i + 1 < ts.length then some .behind else none, ⟨i + 1, n, ps ++ [⟨t.text, false, []⟩]⟩) := by
      unfold paramStep
      simp only [ht]
      rw [if_pos hk]
    rw [hres]
    have HPX := Lib.hid (fun W (hW : Below w.heap.size w W) => param_is ps (.slice Ap qs.length cp) (.slice none 0 0) n t.text W (HR.out.next hW).pars)
    have HAT := Lib.hid (fun W (hW : Below w.heap.size w W) => atToken_is t 10 W (HG.out.below hW HG.out.pos))
    have HPL : Hid (placeAt ts i = (t.line, t.col)) := Lib.hid (by unfold placeAt; rw [ht])
    have hph := parAt_has ps t.text
    clear hcs ht hk hres HCELL HBAD
    by_cases hdup : hasPar ps t.text = true
    · rw [if_pos hdup]
      have hp0 : (0 : Int) ≤ parAt ps t.text := of_decide_eq_true (hph.trans hdup)
      generalize parAt ps t.text = pa at *
      clear hdup hph
      go_enter Tryd.func65, Tryd.ntmps65
      go_wp2_with fail
      refine HN.out.mono ?_
      rintro e w1 ⟨rfl, hb1⟩
      rw [hlt]
      have HB1 := Lib.hid hb1
      have c0 : w1.cell? ⟨H, 0, none⟩ = some (.slice (some ⟨b, o, none⟩) ts.length c) := (HBK.out.below hb1 HBK.out.lt).cell 0
      have c1 : w1.cell? ⟨H, 1, none⟩ = some (.int .i64 i) := (HBK.out.below hb1 HBK.out.lt).cell 1
      obtain ⟨e0, e1, e2, e3, e4, e5⟩ := HC.out w1 hb1
      have hup : ∀ o, Below w.heap.size w (w1.alloc o) := fun o => hb1.alloc hb1.size o
      have d0 : ∀ o', (w1.alloc o').cell? ⟨H, 0, none⟩ = some (.slice (some ⟨b, o, none⟩) ts.length c) := fun o' => (HBK.out.below (hup o') HBK.out.lt).cell 0
      have d1 : ∀ o', (w1.alloc o').cell? ⟨H, 1, none⟩ = some (.int .i64 i) := fun o' => (HBK.out.below (hup o') HBK.out.lt).cell 1
      have f0 := fun o' => (HC.out _ (hup o')).1
      have f1 := fun o' => (HC.out _ (hup o')).2.1
      have f2 := fun o' => (HC.out _ (hup o')).2.2.1
      have f3 := fun o' => (HC.out _ (hup o')).2.2.2.1
      have f4 := fun o' => (HC.out _ (hup o')).2.2.2.2.1
      have f5 := fun o' => (HC.out _ (hup o')).2.2.2.2.2
      clear hb1 hup
      go_wp2_with fail
      go_region
      all_goals (try go_wp2_with fail)
      all_goals clear c0 c1 e0 e1 e2 e3 e4 e5 d0 d1 f0 f1 f2 f3 f4 f5
      obtain ⟨kb, kr, kB, kt, kne⟩ := tok_world HBK.out HR.out HB1.out t
      generalize (w1.alloc (.cells #[.int .i64 t.kind, .int .i64 t.line, .int .i64 t.col, .string t.text, .int .u32 t.num, .int .i64 t.spare] 56)).drew = wA at kb kr kB kt ⊢
      generalize w1.heap.size = g at kt kne ⊢
      have c2 : wA.cell? ⟨H, 2, none⟩ = some (.string n) := kb.cell 2
      have c3 : wA.cell? ⟨H, 3, none⟩ = some (.slice Ap qs.length cp) := kb.cell 3
      have c4 : wA.cell? ⟨H, 4, none⟩ = some (.slice none 0 0) := kb.cell 4
      have t3 : wA.cell? ⟨g, 3, none⟩ = some (.string t.text) := kt.cell 3
      have HUP : Hid (∀ W, Below wA.heap.size wA W → W.cell? ⟨H, 2, none⟩ = some (.string n) ∧ W.cell? ⟨H, 3, none⟩ = some (.slice Ap qs.length cp) ∧ W.cell? ⟨H, 4, none⟩ = some (.slice none 0 0) ∧ W.cell? ⟨g, 3, none⟩ = some (.string t.text)) := Lib.hid (fun W hW => ⟨(kb.next hW).cell 2, (kb.next hW).cell 3, (kb.next hW).cell 4, (kt.below hW kt.lt).cell 3⟩)
      have KB := Lib.hid kb
      have KR := Lib.hid kr
      have KW := Lib.hid kB
      have KT := Lib.hid kt
      clear kb kr kB kt
      go_region_held3 (fun W => W.cell? ⟨H, 2, none⟩ = some (.string n) ∧ W.cell? ⟨H, 3, none⟩ = some (.slice Ap qs.length cp) ∧ W.cell? ⟨H, 4, none⟩ = some (.slice none 0 0) ∧ W.cell? ⟨g, 3, none⟩ = some (.string t.text) ∧ Below wA.heap.size wA W)
        (first | exact ⟨c2, c3, c4, t3, Below.refl _ _⟩ | exact ⟨c2, c3, c4, t3, (Below.refl _ _).drew⟩ | (go_split_ands; exact ⟨by assumption, by assumption, by assumption, by assumption, by assumption⟩) | go_keep)
        (first | (go_at_call 73; go_split_ands; refine (HPX.out _ (KW.out.trans ((Below.refl _ _).drew.mono KW.out.size))).mono ?_; rintro e w2 ⟨rfl, hb2⟩; have hbb : Below wA.heap.size wA w2 := (Below.refl _ _).drew.trans hb2; obtain ⟨r2, r3, r4, r5⟩ := HUP.out w2 hbb))
      obtain ⟨s0, s1, s2, s3, s4, s5⟩ : w2.cell? ⟨g, 0, none⟩ = some (.int .i64 t.kind) ∧ w2.cell? ⟨g, 1, none⟩ = some (.int .i64 t.line) ∧ w2.cell? ⟨g, 2, none⟩ = some (.int .i64 t.col) ∧ w2.cell? ⟨g, 3, none⟩ = some (.string t.text) ∧ w2.cell? ⟨g, 4, none⟩ = some (.int .u32 t.num) ∧ w2.cell? ⟨g, 5, none⟩ = some (.int .i64 t.spare) := ⟨(KT.out.below hbb KT.out.lt).cell 0, (KT.out.below hbb KT.out.lt).cell 1, (KT.out.below hbb KT.out.lt).cell 2, (KT.out.below hbb KT.out.lt).cell 3, (KT.out.below hbb KT.out.lt).cell 4, (KT.out.below hbb KT.out.lt).cell 5⟩
      have HB2 : Hid (Below w.heap.size w w2) := Lib.hid (KW.out.trans (hbb.mono KW.out.size))
      go_wp2_with fail
      refine (HAT.out _ HB2.out).mono ?_
      rintro e w3 h3
      obtain ⟨q, rfl, hq1, hq2, hq3⟩ := h3.from_ (w0 := w0) (HBEL.out.trans (HB2.out.mono HBEL.out.size))
      go_wp2_with fail
      go_ret
      show ErrOut w0 (placeAt ts i).1 (placeAt ts i).2 10 _ _
      rw [HPL.out]
      exact ⟨q, rfl, hq1, hq2, hq3⟩
    · rw [if_neg hdup]
      have hdup2 : hasPar ps t.text = false := (Bool.not_eq_true _).mp hdup
      have hp0 : ¬ (0 : Int) ≤ parAt ps t.text := of_decide_eq_false (hph.trans hdup2)
      generalize parAt ps t.text = pa at *
      clear hdup hdup2 hph HAT HPL
      by_cases hmore : i + 1 < ts.length
      · rw [if_pos hmore]
        have hmi : (i : Int) + 1 < ts.length := by omega
        have hmd : decide ((i : Int) + 1 < ts.length) = true := decide_eq_true hmi
        go_enter Tryd.func65, Tryd.ntmps65
        go_wp2_with fail
        refine HN.out.mono ?_
        rintro e w1 ⟨rfl, hb1⟩
        rw [hlt]
        have HB1 := Lib.hid hb1
        have c0 : w1.cell? ⟨H, 0, none⟩ = some (.slice (some ⟨b, o, none⟩) ts.length c) := (HBK.out.below hb1 HBK.out.lt).cell 0
        have c1 : w1.cell? ⟨H, 1, none⟩ = some (.int .i64 i) := (HBK.out.below hb1 HBK.out.lt).cell 1
        obtain ⟨e0, e1, e2, e3, e4, e5⟩ := HC.out w1 hb1
        have hup : ∀ o, Below w.heap.size w (w1.alloc o) := fun o => hb1.alloc hb1.size o
        have d0 : ∀ o', (w1.alloc o').cell? ⟨H, 0, none⟩ = some (.slice (some ⟨b, o, none⟩) ts.length c) := fun o' => (HBK.out.below (hup o') HBK.out.lt).cell 0
        have d1 : ∀ o', (w1.alloc o').cell? ⟨H, 1, none⟩ = some (.int .i64 i) := fun o' => (HBK.out.below (hup o') HBK.out.lt).cell 1
        have f0 := fun o' => (HC.out _ (hup o')).1
        have f1 := fun o' => (HC.out _ (hup o')).2.1
        have f2 := fun o' => (HC.out _ (hup o')).2.2.1
        have f3 := fun o' => (HC.out _ (hup o')).2.2.2.1
        have f4 := fun o' => (HC.out _ (hup o')).2.2.2.2.1
        have f5 := fun o' => (HC.out _ (hup o')).2.2.2.2.2
        clear hb1 hup
        go_wp2_with fail
        go_region
        all_goals (try go_wp2_with fail)
        all_goals clear c0 c1 e0 e1 e2 e3 e4 e5 d0 d1 f0 f1 f2 f3 f4 f5
        obtain ⟨kb, kr, kB, kt, kne⟩ := tok_world HBK.out HR.out HB1.out t
        generalize (w1.alloc (.cells #[.int .i64 t.kind, .int .i64 t.line, .int .i64 t.col, .string t.text, .int .u32 t.num, .int .i64 t.spare] 56)).drew = wA at kb kr kB kt ⊢
        generalize w1.heap.size = g at kt kne ⊢
        have c2 : wA.cell? ⟨H, 2, none⟩ = some (.string n) := kb.cell 2
        have c3 : wA.cell? ⟨H, 3, none⟩ = some (.slice Ap qs.length cp) := kb.cell 3
        have c4 : wA.cell? ⟨H, 4, none⟩ = some (.slice none 0 0) := kb.cell 4
        have t3 : wA.cell? ⟨g, 3, none⟩ = some (.string t.text) := kt.cell 3
        have HUP : Hid (∀ W, Below wA.heap.size wA W → W.cell? ⟨H, 2, none⟩ = some (.string n) ∧ W.cell? ⟨H, 3, none⟩ = some (.slice Ap qs.length cp) ∧ W.cell? ⟨H, 4, none⟩ = some (.slice none 0 0) ∧ W.cell? ⟨g, 3, none⟩ = some (.string t.text)) := Lib.hid (fun W hW => ⟨(kb.next hW).cell 2, (kb.next hW).cell 3, (kb.next hW).cell 4, (kt.below hW kt.lt).cell 3⟩)
        have KB := Lib.hid kb
        have KR := Lib.hid kr
        have KW := Lib.hid kB
        have KT := Lib.hid kt
        clear kb kr kB kt
        go_region_held3 (fun W => W.cell? ⟨H, 2, none⟩ = some (.string n) ∧ W.cell? ⟨H, 3, none⟩ = some (.slice Ap qs.length cp) ∧ W.cell? ⟨H, 4, none⟩ = some (.slice none 0 0) ∧ W.cell? ⟨g, 3, none⟩ = some (.string t.text) ∧ Below wA.heap.size wA W)
          (first | exact ⟨c2, c3, c4, t3, Below.refl _ _⟩ | exact ⟨c2, c3, c4, t3, (Below.refl _ _).drew⟩ | (go_split_ands; exact ⟨by assumption, by assumption, by assumption, by assumption, by assumption⟩) | go_keep)
          (first | (go_at_call 73; go_split_ands; refine (HPX.out _ (KW.out.trans ((Below.refl _ _).drew.mono KW.out.size))).mono ?_; rintro e w2 ⟨rfl, hb2⟩; have hbb : Below wA.heap.size wA w2 := (Below.refl _ _).drew.trans hb2; obtain ⟨r2, r3, r4, r5⟩ := HUP.out w2 hbb))

        have HB2 : Hid (Below w.heap.size w w2) := Lib.hid (KW.out.trans (hbb.mono KW.out.size))
        have KB2 := Lib.hid (KB.out.next hbb)
        have KR2 := Lib.hid (KR.out.next hbb)
        have u3 : ∀ o', (w2.alloc o').cell? ⟨H, 3, none⟩ = some (.slice Ap qs.length cp) := fun o' => (KB2.out.next ((Below.refl _ _).alloc (Nat.le_refl _) o')).cell 3
        clear r2 r4
        go_wp2_with fail
        go_region_law (refine step_append_own_at rfl (.tmp 35) (.tmp 39) 39 rfl w0.heap.size 99 i1 (.agg #[.string ByteArray.empty, .bool false, .slice none 0 0]) 3 48 Tryd.underlying39 hi1 hz0 hz1 hz2 rfl (by decide) _ qs.length (parCells qs) (by simp [Act.eval]) (KR2.out.drew.alloc _).own ⟨w2.heap.size, 0, none⟩ 1 1 [.string t.text, .bool false, .slice none 0 0] (by simp [Act.eval]) rfl (cells_new _ #[.string t.text, .bool false, .slice none 0 0] _ _ (by simp)) (by intro u hu; simp at hu; rcases hu with rfl | rfl | rfl <;> rfl) (by unfold maxLen; omega) (by omega) (KR2.out.drew.alloc _).below.size ?_; intro v' w3 hown3 hg3 _ _; obtain ⟨Av, cv, rfl⟩ := own_shape hown3; have kb3 : HBlk w3 H (.slice (some ⟨b, o, none⟩) ts.length c) i n (.slice Ap qs.length cp) .nilFunc := Blk.grown ((KB2.out.next (Below.refl _ _).drew).next ((Below.refl _ _).alloc (Nat.le_refl _) _)) hg3 (own_not_head KR2.out.own KB2.out (by decide)); have k0 : w3.cell? ⟨H, 0, none⟩ = some (.slice (some ⟨b, o, none⟩) ts.length c) := kb3.cell 0; have k1 : w3.cell? ⟨H, 1, none⟩ = some (.int .i64 i) := kb3.cell 1; have k3 : w3.cell? ⟨H, 3, none⟩ = some (.slice Ap qs.length cp) := kb3.cell 3; have k5 : w3.cell? ⟨H, 5, none⟩ = some .nilFunc := kb3.cell 5; have y1 := Blk.frozen kb3 1; have y3 := Blk.frozen kb3 3; have y5 := Blk.frozen kb3 5; have kr3 := (KR2.out.drew.alloc _).push (p := ⟨t.text, false, []⟩) hown3 rfl hg3)
        all_goals
          have KB3 := Lib.hid kb3
          have KR3 := Lib.hid kr3
          clear kb3 kr3 hown3 hg3
          go_wp2_with fail
          go_quiet (fail)
          go_wp2_with fail
          go_ret
          refine ⟨rfl, .slice Av (qs.length + 1) cv, qs ++ [(⟨t.text, false, []⟩, .slice none 0 0)], ?_, ?_⟩
          · exact Blk.drewN ((((KB3.out.set3 _).set1 (i + 1) _ rfl)).set5 _) _
          · exact (((KR3.out.set 3 _).set 1 _).set 5 _).drewN _
      · rw [if_neg hmore]
        have hmi : ¬ (i : Int) + 1 < ts.length := by omega
        have hmd : decide ((i : Int) + 1 < ts.length) = false := decide_eq_false hmi
        go_enter Tryd.func65, Tryd.ntmps65
        go_wp2_with fail
        refine HN.out.mono ?_
        rintro e w1 ⟨rfl, hb1⟩
        rw [hlt]
        have HB1 := Lib.hid hb1
        have c0 : w1.cell? ⟨H, 0, none⟩ = some (.slice (some ⟨b, o, none⟩) ts.length c) := (HBK.out.below hb1 HBK.out.lt).cell 0
        have c1 : w1.cell? ⟨H, 1, none⟩ = some (.int .i64 i) := (HBK.out.below hb1 HBK.out.lt).cell 1
        obtain ⟨e0, e1, e2, e3, e4, e5⟩ := HC.out w1 hb1
        have hup : ∀ o, Below w.heap.size w (w1.alloc o) := fun o => hb1.alloc hb1.size o
        have d0 : ∀ o', (w1.alloc o').cell? ⟨H, 0, none⟩ = some (.slice (some ⟨b, o, none⟩) ts.length c) := fun o' => (HBK.out.below (hup o') HBK.out.lt).cell 0
        have d1 : ∀ o', (w1.alloc o').cell? ⟨H, 1, none⟩ = some (.int .i64 i) := fun o' => (HBK.out.below (hup o') HBK.out.lt).cell 1
        have f0 := fun o' => (HC.out _ (hup o')).1
        have f1 := fun o' => (HC.out _ (hup o')).2.1
        have f2 := fun o' => (HC.out _ (hup o')).2.2.1
        have f3 := fun o' => (HC.out _ (hup o')).2.2.2.1
        have f4 := fun o' => (HC.out _ (hup o')).2.2.2.2.1
        have f5 := fun o' => (HC.out _ (hup o')).2.2.2.2.2
        clear hb1 hup
        go_wp2_with fail
        go_region
        all_goals (try go_wp2_with fail)
        all_goals clear c0 c1 e0 e1 e2 e3 e4 e5 d0 d1 f0 f1 f2 f3 f4 f5
        obtain ⟨kb, kr, kB, kt, kne⟩ := tok_world HBK.out HR.out HB1.out t
        generalize (w1.alloc (.cells #[.int .i64 t.kind, .int .i64 t.line, .int .i64 t.col, .string t.text, .int .u32 t.num, .int .i64 t.spare] 56)).drew = wA at kb kr kB kt ⊢
        generalize w1.heap.size = g at kt kne ⊢
        have c2 : wA.cell? ⟨H, 2, none⟩ = some (.string n) := kb.cell 2
        have c3 : wA.cell? ⟨H, 3, none⟩ = some (.slice Ap qs.length cp) := kb.cell 3
        have c4 : wA.cell? ⟨H, 4, none⟩ = some (.slice none 0 0) := kb.cell 4
        have t3 : wA.cell? ⟨g, 3, none⟩ = some (.string t.text) := kt.cell 3
        have HUP : Hid (∀ W, Below wA.heap.size wA W → W.cell? ⟨H, 2, none⟩ = some (.string n) ∧ W.cell? ⟨H, 3, none⟩ = some (.slice Ap qs.length cp) ∧ W.cell? ⟨H, 4, none⟩ = some (.slice none 0 0) ∧ W.cell? ⟨g, 3, none⟩ = some (.string t.text)) := Lib.hid (fun W hW => ⟨(kb.next hW).cell 2, (kb.next hW).cell 3, (kb.next hW).cell 4, (kt.below hW kt.lt).cell 3⟩)
        have KB := Lib.hid kb
        have KR := Lib.hid kr
        have KW := Lib.hid kB
        have KT := Lib.hid kt
        clear kb kr kB kt
        go_region_held3 (fun W => W.cell? ⟨H, 2, none⟩ = some (.string n) ∧ W.cell? ⟨H, 3, none⟩ = some (.slice Ap qs.length cp) ∧ W.cell? ⟨H, 4, none⟩ = some (.slice none 0 0) ∧ W.cell? ⟨g, 3, none⟩ = some (.string t.text) ∧ Below wA.heap.size wA W)
          (first | exact ⟨c2, c3, c4, t3, Below.refl _ _⟩ | exact ⟨c2, c3, c4, t3, (Below.refl _ _).drew⟩ | (go_split_ands; exact ⟨by assumption, by assumption, by assumption, by assumption, by assumption⟩) | go_keep)
          (first | (go_at_call 73; go_split_ands; refine (HPX.out _ (KW.out.trans ((Below.refl _ _).drew.mono KW.out.size))).mono ?_; rintro e w2 ⟨rfl, hb2⟩; have hbb : Below wA.heap.size wA w2 := (Below.refl _ _).drew.trans hb2; obtain ⟨r2, r3, r4, r5⟩ := HUP.out w2 hbb))

        have HB2 : Hid (Below w.heap.size w w2) := Lib.hid (KW.out.trans (hbb.mono KW.out.size))
        have KB2 := Lib.hid (KB.out.next hbb)
        have KR2 := Lib.hid (KR.out.next hbb)
        have u3 : ∀ o', (w2.alloc o').cell? ⟨H, 3, none⟩ = some (.slice Ap qs.length cp) := fun o' => (KB2.out.next ((Below.refl _ _).alloc (Nat.le_refl _) o')).cell 3
        clear r2 r4
        go_wp2_with fail
        go_region_law (refine step_append_own_at rfl (.tmp 35) (.tmp 39) 39 rfl w0.heap.size 99 i1 (.agg #[.string ByteArray.empty, .bool false, .slice none 0 0]) 3 48 Tryd.underlying39 hi1 hz0 hz1 hz2 rfl (by decide) _ qs.length (parCells qs) (by simp [Act.eval]) (KR2.out.drew.alloc _).own ⟨w2.heap.size, 0, none⟩ 1 1 [.string t.text, .bool false, .slice none 0 0] (by simp [Act.eval]) rfl (cells_new _ #[.string t.text, .bool false, .slice none 0 0] _ _ (by simp)) (by intro u hu; simp at hu; rcases hu with rfl | rfl | rfl <;> rfl) (by unfold maxLen; omega) (by omega) (KR2.out.drew.alloc _).below.size ?_; intro v' w3 hown3 hg3 _ _; obtain ⟨Av, cv, rfl⟩ := own_shape hown3; have kb3 : HBlk w3 H (.slice (some ⟨b, o, none⟩) ts.length c) i n (.slice Ap qs.length cp) .nilFunc := Blk.grown ((KB2.out.next (Below.refl _ _).drew).next ((Below.refl _ _).alloc (Nat.le_refl _) _)) hg3 (own_not_head KR2.out.own KB2.out (by decide)); have k0 : w3.cell? ⟨H, 0, none⟩ = some (.slice (some ⟨b, o, none⟩) ts.length c) := kb3.cell 0; have k1 : w3.cell? ⟨H, 1, none⟩ = some (.int .i64 i) := kb3.cell 1; have k3 : w3.cell? ⟨H, 3, none⟩ = some (.slice Ap qs.length cp) := kb3.cell 3; have k5 : w3.cell? ⟨H, 5, none⟩ = some .nilFunc := kb3.cell 5; have y1 := Blk.frozen kb3 1; have y3 := Blk.frozen kb3 3; have y5 := Blk.frozen kb3 5; have kr3 := (KR2.out.drew.alloc _).push (p := ⟨t.text, false, []⟩) hown3 rfl hg3)
        all_goals
          have KB3 := Lib.hid kb3
          have KR3 := Lib.hid kr3
          clear kb3 kr3 hown3 hg3
          go_wp2_with fail
          go_quiet (fail)
          go_wp2_with fail
          go_ret
          refine ⟨rfl, .slice Av (qs.length + 1) cv, qs ++ [(⟨t.text, false, []⟩, .slice none 0 0)], ?_, ?_⟩
          · exact Blk.drewN (((KB3.out.set3 _).set1 (i + 1) _ rfl)) _
          · exact ((KR3.out.set 3 _).set 1 _).drewN _
  · have hlt2 : nameAt ts i = false := (Bool.not_eq_true _).mp hlt
    have hres : paramStep ts ⟨i, n, ps⟩ = .inr (i, 5) := by
      unfold nameAt at hlt2
      unfold paramStep
      simp only
      split at hlt2
      · rename_i t ht
        rw [ht]
        have : ¬ t.kind = 1 := by simpa using hlt2
        simp only [if_neg this]
      · rename_i ht
        rw [ht]
    rw [hres]
    clear hres hlt
    go_enter Tryd.func65, Tryd.ntmps65
    go_wp2_with fail
    refine HN.out.mono ?_
    rintro e w1 ⟨rfl, hb1⟩
    rw [hlt2]
    have HB1 := Lib.hid hb1
    clear hb1
    go_wp2_with fail
    refine (HBAD.out _ HB1.out).mono ?_
    rintro e w3 h3
    obtain ⟨q, rfl, hq1, hq2, hq3⟩ := h3.from_ (w0 := w0) (HBEL.out.trans (HB1.out.mono HBEL.out.size))
    go_wp2_with fail
    go_ret
    exact ⟨q, rfl, hq1, hq2, hq3⟩
end Go.Proofs.YtbhfblogjlpnlabDoor
