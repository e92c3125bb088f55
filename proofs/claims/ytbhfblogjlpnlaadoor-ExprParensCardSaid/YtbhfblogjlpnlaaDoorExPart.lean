/-
  The contract of the reader's part, over what is handed on. Conditions: as those of the reader.
-/
import Derived.Test.YtbhfblogjlpnlaaDoorExLeafS
namespace Go.Proofs.YtbhfblogjlpnlaaDoor
open Go.RowKit

theorem epost_ret {w0 w w' : World} {ts : List Tk6} {vt : Value} {R d : Nat} {r : (Nat × List Nd) ⊕ (Nat × Int)} {e : Ending} (h : EPost w0 ts vt R d r w e w') : ∃ v, e = .returned v ∧ EPost w0 ts vt R d r w (.returned v) w' := by
  rcases r with ⟨j, ns'⟩ | x
  · obtain ⟨⟨rfl, h2⟩, h3⟩ := h
    exact ⟨_, rfl, ⟨rfl, h2⟩, h3⟩
  · obtain ⟨⟨⟨b, rfl, h2⟩, h3⟩, h4⟩ := h
    exact ⟨_, rfl, ⟨⟨b, rfl, h2⟩, h3⟩, h4⟩
theorem EPost.from_ {w0 w w1 w' : World} {ts : List Tk6} {vt : Value} {R d : Nat} {r : (Nat × List Nd) ⊕ (Nat × Int)} {e : Ending} (h : EPost w0 ts vt R d r w1 e w') (hk : Keeps w w1) : EPost w0 ts vt R d r w e w' := ⟨h.1, hk.trans h.2⟩

set_option maxRecDepth 100000 in
set_option maxHeartbeats 4000000 in
theorem part_none (w0 : World) (ts : List Tk6) (vt vn : Value) (ns : List Nd) (R i d : Nat) (w : World) (hg : Handle w0) (hn : ts.length ≤ 100000) (hi : i ≤ ts.length) (ht : ts[i]? = none) (hb : RBlk w R vt i d vn) (hv : Toks w0 vt ts) (hr : ERest w0 R ns vn w) :
    Calls Tryd.prog 63 #[.pointer (some ⟨R, 0, none⟩)] w (EPost w0 ts vt R d (.inr (i, 6)) w) := by
  have hvw := hv.below hr.below
  have HBAD := Lib.hid (fun W (hW : Below w.heap.size w W) => (ebad_is w0 ts vt vn ns R i d W hg (by omega) (hb.next hW) hv (hr.next hW)).mono fun _ _ h => epost_ret h)
  obtain ⟨A, c, rfl, hc, hcm, -⟩ := hvw.form
  have hi := List.getElem?_eq_none_iff.1 ht
  have hki : (ts.length : Int) ≤ i := by omega
  have hkd : decide ((ts.length : Int) ≤ i) = true := decide_eq_true hki
  have hkn : decide (ts.length ≤ i) = true := decide_eq_true (by omega)
  have c0 : w.cell? ⟨R, 0, none⟩ = some (.slice A ts.length c) := hb.cell 0
  have c1 : w.cell? ⟨R, 1, none⟩ = some (.int .i64 i) := hb.cell 1
  clear hb hv hr hvw ht
  have HDN : Hid (∀ n, Below w.heap.size w (w.drewN n)) := Lib.hid (fun n => bdrew (Below.refl _ _))
  go_enter Tryd.func63, Tryd.ntmps63
  go_wp2_with fail
  go_quiet (fail)
  generalize hq : w.drewN _ = wq
  have hbq : Below w.heap.size w wq := hq ▸ HDN.out _
  clear hq HDN c0 c1
  have HBQ := Lib.hid hbq
  clear hbq
  go_wp2_with fail
  refine (HBAD.out _ HBQ.out).mono ?_
  rintro e w3 ⟨v, rfl, h3⟩
  have H3 := Lib.hid (h3.from_ (Keeps.of HBQ.out))
  clear h3
  go_wp2_with fail
  go_ret
  exact H3.out

set_option maxRecDepth 100000 in
set_option maxHeartbeats 4000000 in
theorem part_minus (w0 : World) (ts : List Tk6) (vt vn : Value) (ns : List Nd) (R i d : Nat) (t : Tk6) (r : (Nat × List Nd) ⊕ (Nat × Int)) (w : World) (hn : ts.length ≤ 100000) (ht : ts[i]? = some t) (m1 : t.isM ⟨#[45]⟩ = true) (hb : RBlk w R vt i d vn) (hv : Toks w0 vt ts) (hr : ERest w0 R ns vn w)
    (HA : Hid (∀ W vn, RBlk W R vt i d vn → ERest w0 R ns vn W → Calls Tryd.prog 86 #[.pointer (some ⟨R, 0, none⟩), t.val, .int .i64 4, .func (.func 63) #[.pointer (some ⟨R, 0, none⟩)] #[]] W (EPost w0 ts vt R d r W))) :
    Calls Tryd.prog 63 #[.pointer (some ⟨R, 0, none⟩)] w (EPost w0 ts vt R d r w) := by
  have hmf : ∀ (fn : Fn) (first cap : Array Value) (w : World), (Instr.makeFunc fn first cap).run Tryd.prog w = .ok (.func fn first cap) w := fun _ _ _ _ => rfl
  have hvw := hv.below hr.below
  have HBK := Lib.hid hb
  have HR := Lib.hid hr
  obtain ⟨A, c, rfl, hc, hcm, hcell⟩ := hvw.form
  have hi := (List.getElem?_eq_some_iff.1 ht).1
  have hki2 : (i : Int) < ts.length := by omega
  have hki : ¬ (ts.length : Int) ≤ i := by omega
  have hkd : decide ((ts.length : Int) ≤ i) = false := decide_eq_false hki
  have hkn : decide (ts.length ≤ i) = false := decide_eq_false (by omega)
  have hkc : (i : Int) < c := by omega
  have hkb : (i : Int) ≤ 100000 := by omega
  obtain ⟨b, o, rfl, hcs⟩ := hcell i t ht
  have HC := Lib.hid hcs
  clear hb hv hr hcell hvw hcs ht
  have c0 : w.cell? ⟨R, 0, none⟩ = some (.slice (some ⟨b, o, none⟩) ts.length c) := HBK.out.cell 0
  have c1 : w.cell? ⟨R, 1, none⟩ = some (.int .i64 i) := HBK.out.cell 1
  have HDN : Hid (∀ n, Below w.heap.size w (w.drewN n)) := Lib.hid (fun n => bdrew (Below.refl _ _))
  go_enter Tryd.func63, Tryd.ntmps63
  go_wp2_with fail
  go_quiet (fail)
  generalize hq : w.drewN _ = wq
  have hbq : Below w.heap.size w wq := hq ▸ HDN.out _
  clear hq HDN c0 c1
  have HBQ := Lib.hid hbq
  obtain ⟨e0, e1, e2, e3, e4, e5⟩ := HC.out wq hbq
  have c0 : wq.cell? ⟨R, 0, none⟩ = some (.slice (some ⟨b, o, none⟩) ts.length c) := (HBK.out.next hbq).cell 0
  have c1 : wq.cell? ⟨R, 1, none⟩ = some (.int .i64 i) := (HBK.out.next hbq).cell 1
  have hup : ∀ o, Below w.heap.size w (wq.alloc o) := fun o => hbq.alloc hbq.size o
  have d0 : ∀ o', (wq.alloc o').cell? ⟨R, 0, none⟩ = some (.slice (some ⟨b, o, none⟩) ts.length c) := fun o' => (HBK.out.next (hup o')).cell 0
  have d1 : ∀ o', (wq.alloc o').cell? ⟨R, 1, none⟩ = some (.int .i64 i) := fun o' => (HBK.out.next (hup o')).cell 1
  have f0 := fun o' => (HC.out _ (hup o')).1
  have f1 := fun o' => (HC.out _ (hup o')).2.1
  have f2 := fun o' => (HC.out _ (hup o')).2.2.1
  have f3 := fun o' => (HC.out _ (hup o')).2.2.2.1
  have f4 := fun o' => (HC.out _ (hup o')).2.2.2.2.1
  have f5 := fun o' => (HC.out _ (hup o')).2.2.2.2.2
  clear hup hbq
  go_wp2_with fail
  go_region
  all_goals (try go_wp2_with fail)
  clear c0 c1 e0 e1 e2 e3 e4 e5 d0 d1 f0 f1 f2 f3 f4 f5
  obtain ⟨kb, kr, kB, kt, -⟩ := tok_world HBK.out HR.out HBQ.out t
  have kb : RBlk (wq.alloc (.cells #[.int .i64 t.kind, .int .i64 t.line, .int .i64 t.col, .string t.text, .int .u32 t.num, .int .i64 t.spare] 39)).drew R (.slice (some ⟨b, o, none⟩) ts.length c) i d vn := Blk.drew kb
  have kr := kr.drew
  have kt := Blk.drew kt
  have kB := Keeps.of kB.drew
  generalize (wq.alloc (.cells #[.int .i64 t.kind, .int .i64 t.line, .int .i64 t.col, .string t.text, .int .u32 t.num, .int .i64 t.spare] 39)).drew = wA at kb kr kB kt ⊢
  generalize wq.heap.size = g at kt ⊢
  obtain ⟨s0, s1, s2, s3, s4, s5⟩ : wA.cell? ⟨g, 0, none⟩ = some (.int .i64 t.kind) ∧ wA.cell? ⟨g, 1, none⟩ = some (.int .i64 t.line) ∧ wA.cell? ⟨g, 2, none⟩ = some (.int .i64 t.col) ∧ wA.cell? ⟨g, 3, none⟩ = some (.string t.text) ∧ wA.cell? ⟨g, 4, none⟩ = some (.int .u32 t.num) ∧ wA.cell? ⟨g, 5, none⟩ = some (.int .i64 t.spare) := ⟨kt.cell 0, kt.cell 1, kt.cell 2, kt.cell 3, kt.cell 4, kt.cell 5⟩
  have KB := Lib.hid kb
  have KR := Lib.hid kr
  have KW := Lib.hid kB
  have KT := Lib.hid kt
  clear kb kr kB kt
  go_wp2_with fail
  refine (emark_is t ⟨#[45]⟩ _).mono ?_
  rintro e x0 ⟨rfl, hb2⟩
  rw [m1]
  replace KB := Lib.hid (KB.out.next hb2)
  replace KR := Lib.hid (KR.out.next hb2)
  replace KW := Lib.hid (KW.out.trans (.of hb2))
  replace KT := Lib.hid (KT.out.below hb2 KT.out.lt)
  clear hb2 s0 s1 s2 s3 s4 s5
  obtain ⟨s0, s1, s2, s3, s4, s5⟩ : x0.cell? ⟨g, 0, none⟩ = some (.int .i64 t.kind) ∧ x0.cell? ⟨g, 1, none⟩ = some (.int .i64 t.line) ∧ x0.cell? ⟨g, 2, none⟩ = some (.int .i64 t.col) ∧ x0.cell? ⟨g, 3, none⟩ = some (.string t.text) ∧ x0.cell? ⟨g, 4, none⟩ = some (.int .u32 t.num) ∧ x0.cell? ⟨g, 5, none⟩ = some (.int .i64 t.spare) := ⟨KT.out.cell 0, KT.out.cell 1, KT.out.cell 2, KT.out.cell 3, KT.out.cell 4, KT.out.cell 5⟩
  go_wp2_with fail
  refine (HA.out _ vn KB.out KR.out).mono ?_
  intro e w4 h4
  obtain ⟨v, rfl, h5⟩ := epost_ret h4
  have H5 := Lib.hid (h5.from_ KW.out)
  clear h4 h5 s0 s1 s2 s3 s4 s5
  go_wp2_with fail
  go_ret
  exact H5.out

set_option maxRecDepth 100000 in
set_option maxHeartbeats 4000000 in
theorem part_tilde (w0 : World) (ts : List Tk6) (vt vn : Value) (ns : List Nd) (R i d : Nat) (t : Tk6) (r : (Nat × List Nd) ⊕ (Nat × Int)) (w : World) (hn : ts.length ≤ 100000) (ht : ts[i]? = some t) (m1 : t.isM ⟨#[45]⟩ = false) (m2 : t.isM ⟨#[126]⟩ = true) (hb : RBlk w R vt i d vn) (hv : Toks w0 vt ts) (hr : ERest w0 R ns vn w)
    (HA : Hid (∀ W vn, RBlk W R vt i d vn → ERest w0 R ns vn W → Calls Tryd.prog 86 #[.pointer (some ⟨R, 0, none⟩), t.val, .int .i64 5, .func (.func 63) #[.pointer (some ⟨R, 0, none⟩)] #[]] W (EPost w0 ts vt R d r W))) :
    Calls Tryd.prog 63 #[.pointer (some ⟨R, 0, none⟩)] w (EPost w0 ts vt R d r w) := by
  have hmf : ∀ (fn : Fn) (first cap : Array Value) (w : World), (Instr.makeFunc fn first cap).run Tryd.prog w = .ok (.func fn first cap) w := fun _ _ _ _ => rfl
  have hvw := hv.below hr.below
  have HBK := Lib.hid hb
  have HR := Lib.hid hr
  obtain ⟨A, c, rfl, hc, hcm, hcell⟩ := hvw.form
  have hi := (List.getElem?_eq_some_iff.1 ht).1
  have hki2 : (i : Int) < ts.length := by omega
  have hki : ¬ (ts.length : Int) ≤ i := by omega
  have hkd : decide ((ts.length : Int) ≤ i) = false := decide_eq_false hki
  have hkn : decide (ts.length ≤ i) = false := decide_eq_false (by omega)
  have hkc : (i : Int) < c := by omega
  have hkb : (i : Int) ≤ 100000 := by omega
  obtain ⟨b, o, rfl, hcs⟩ := hcell i t ht
  have HC := Lib.hid hcs
  clear hb hv hr hcell hvw hcs ht
  have c0 : w.cell? ⟨R, 0, none⟩ = some (.slice (some ⟨b, o, none⟩) ts.length c) := HBK.out.cell 0
  have c1 : w.cell? ⟨R, 1, none⟩ = some (.int .i64 i) := HBK.out.cell 1
  have HDN : Hid (∀ n, Below w.heap.size w (w.drewN n)) := Lib.hid (fun n => bdrew (Below.refl _ _))
  go_enter Tryd.func63, Tryd.ntmps63
  go_wp2_with fail
  go_quiet (fail)
  generalize hq : w.drewN _ = wq
  have hbq : Below w.heap.size w wq := hq ▸ HDN.out _
  clear hq HDN c0 c1
  have HBQ := Lib.hid hbq
  obtain ⟨e0, e1, e2, e3, e4, e5⟩ := HC.out wq hbq
  have c0 : wq.cell? ⟨R, 0, none⟩ = some (.slice (some ⟨b, o, none⟩) ts.length c) := (HBK.out.next hbq).cell 0
  have c1 : wq.cell? ⟨R, 1, none⟩ = some (.int .i64 i) := (HBK.out.next hbq).cell 1
  have hup : ∀ o, Below w.heap.size w (wq.alloc o) := fun o => hbq.alloc hbq.size o
  have d0 : ∀ o', (wq.alloc o').cell? ⟨R, 0, none⟩ = some (.slice (some ⟨b, o, none⟩) ts.length c) := fun o' => (HBK.out.next (hup o')).cell 0
  have d1 : ∀ o', (wq.alloc o').cell? ⟨R, 1, none⟩ = some (.int .i64 i) := fun o' => (HBK.out.next (hup o')).cell 1
  have f0 := fun o' => (HC.out _ (hup o')).1
  have f1 := fun o' => (HC.out _ (hup o')).2.1
  have f2 := fun o' => (HC.out _ (hup o')).2.2.1
  have f3 := fun o' => (HC.out _ (hup o')).2.2.2.1
  have f4 := fun o' => (HC.out _ (hup o')).2.2.2.2.1
  have f5 := fun o' => (HC.out _ (hup o')).2.2.2.2.2
  clear hup hbq
  go_wp2_with fail
  go_region
  all_goals (try go_wp2_with fail)
  clear c0 c1 e0 e1 e2 e3 e4 e5 d0 d1 f0 f1 f2 f3 f4 f5
  obtain ⟨kb, kr, kB, kt, -⟩ := tok_world HBK.out HR.out HBQ.out t
  have kb : RBlk (wq.alloc (.cells #[.int .i64 t.kind, .int .i64 t.line, .int .i64 t.col, .string t.text, .int .u32 t.num, .int .i64 t.spare] 39)).drew R (.slice (some ⟨b, o, none⟩) ts.length c) i d vn := Blk.drew kb
  have kr := kr.drew
  have kt := Blk.drew kt
  have kB := Keeps.of kB.drew
  generalize (wq.alloc (.cells #[.int .i64 t.kind, .int .i64 t.line, .int .i64 t.col, .string t.text, .int .u32 t.num, .int .i64 t.spare] 39)).drew = wA at kb kr kB kt ⊢
  generalize wq.heap.size = g at kt ⊢
  obtain ⟨s0, s1, s2, s3, s4, s5⟩ : wA.cell? ⟨g, 0, none⟩ = some (.int .i64 t.kind) ∧ wA.cell? ⟨g, 1, none⟩ = some (.int .i64 t.line) ∧ wA.cell? ⟨g, 2, none⟩ = some (.int .i64 t.col) ∧ wA.cell? ⟨g, 3, none⟩ = some (.string t.text) ∧ wA.cell? ⟨g, 4, none⟩ = some (.int .u32 t.num) ∧ wA.cell? ⟨g, 5, none⟩ = some (.int .i64 t.spare) := ⟨kt.cell 0, kt.cell 1, kt.cell 2, kt.cell 3, kt.cell 4, kt.cell 5⟩
  have KB := Lib.hid kb
  have KR := Lib.hid kr
  have KW := Lib.hid kB
  have KT := Lib.hid kt
  clear kb kr kB kt
  go_wp2_with fail
  refine (emark_is t ⟨#[45]⟩ _).mono ?_
  rintro e x0 ⟨rfl, hb2⟩
  rw [m1]
  replace KB := Lib.hid (KB.out.next hb2)
  replace KR := Lib.hid (KR.out.next hb2)
  replace KW := Lib.hid (KW.out.trans (.of hb2))
  replace KT := Lib.hid (KT.out.below hb2 KT.out.lt)
  clear hb2 s0 s1 s2 s3 s4 s5
  obtain ⟨s0, s1, s2, s3, s4, s5⟩ : x0.cell? ⟨g, 0, none⟩ = some (.int .i64 t.kind) ∧ x0.cell? ⟨g, 1, none⟩ = some (.int .i64 t.line) ∧ x0.cell? ⟨g, 2, none⟩ = some (.int .i64 t.col) ∧ x0.cell? ⟨g, 3, none⟩ = some (.string t.text) ∧ x0.cell? ⟨g, 4, none⟩ = some (.int .u32 t.num) ∧ x0.cell? ⟨g, 5, none⟩ = some (.int .i64 t.spare) := ⟨KT.out.cell 0, KT.out.cell 1, KT.out.cell 2, KT.out.cell 3, KT.out.cell 4, KT.out.cell 5⟩
  go_wp2_with fail
  refine (emark_is t ⟨#[126]⟩ _).mono ?_
  rintro e x1 ⟨rfl, hb2⟩
  rw [m2]
  replace KB := Lib.hid (KB.out.next hb2)
  replace KR := Lib.hid (KR.out.next hb2)
  replace KW := Lib.hid (KW.out.trans (.of hb2))
  replace KT := Lib.hid (KT.out.below hb2 KT.out.lt)
  clear hb2 s0 s1 s2 s3 s4 s5
  obtain ⟨s0, s1, s2, s3, s4, s5⟩ : x1.cell? ⟨g, 0, none⟩ = some (.int .i64 t.kind) ∧ x1.cell? ⟨g, 1, none⟩ = some (.int .i64 t.line) ∧ x1.cell? ⟨g, 2, none⟩ = some (.int .i64 t.col) ∧ x1.cell? ⟨g, 3, none⟩ = some (.string t.text) ∧ x1.cell? ⟨g, 4, none⟩ = some (.int .u32 t.num) ∧ x1.cell? ⟨g, 5, none⟩ = some (.int .i64 t.spare) := ⟨KT.out.cell 0, KT.out.cell 1, KT.out.cell 2, KT.out.cell 3, KT.out.cell 4, KT.out.cell 5⟩
  go_wp2_with fail
  refine (HA.out _ vn KB.out KR.out).mono ?_
  intro e w4 h4
  obtain ⟨v, rfl, h5⟩ := epost_ret h4
  have H5 := Lib.hid (h5.from_ KW.out)
  clear h4 h5 s0 s1 s2 s3 s4 s5
  go_wp2_with fail
  go_ret
  exact H5.out

set_option maxRecDepth 100000 in
set_option maxHeartbeats 4000000 in
theorem part_paren (w0 : World) (ts : List Tk6) (vt vn : Value) (ns : List Nd) (R i d : Nat) (t : Tk6) (r : (Nat × List Nd) ⊕ (Nat × Int)) (w : World) (hn : ts.length ≤ 100000) (ht : ts[i]? = some t) (m1 : t.isM ⟨#[45]⟩ = false) (m2 : t.isM ⟨#[126]⟩ = false) (m3 : t.isM ⟨#[40]⟩ = true) (hk : t.kind ≠ 4) (hb : RBlk w R vt i d vn) (hv : Toks w0 vt ts) (hr : ERest w0 R ns vn w)
    (HA : Hid (∀ W vn, RBlk W R vt i d vn → ERest w0 R ns vn W → Calls Tryd.prog 89 #[.pointer (some ⟨R, 0, none⟩), t.val, .func (.func 90) #[.pointer (some ⟨R, 0, none⟩)] #[]] W (EPost w0 ts vt R d r W))) :
    Calls Tryd.prog 63 #[.pointer (some ⟨R, 0, none⟩)] w (EPost w0 ts vt R d r w) := by
  have hmf : ∀ (fn : Fn) (first cap : Array Value) (w : World), (Instr.makeFunc fn first cap).run Tryd.prog w = .ok (.func fn first cap) w := fun _ _ _ _ => rfl
  have k4 : (t.kind == 4) = false := beq_eq_false_iff_ne.2 hk
  clear hk
  have hvw := hv.below hr.below
  have HBK := Lib.hid hb
  have HR := Lib.hid hr
  obtain ⟨A, c, rfl, hc, hcm, hcell⟩ := hvw.form
  have hi := (List.getElem?_eq_some_iff.1 ht).1
  have hki2 : (i : Int) < ts.length := by omega
  have hki : ¬ (ts.length : Int) ≤ i := by omega
  have hkd : decide ((ts.length : Int) ≤ i) = false := decide_eq_false hki
  have hkn : decide (ts.length ≤ i) = false := decide_eq_false (by omega)
  have hkc : (i : Int) < c := by omega
  have hkb : (i : Int) ≤ 100000 := by omega
  obtain ⟨b, o, rfl, hcs⟩ := hcell i t ht
  have HC := Lib.hid hcs
  clear hb hv hr hcell hvw hcs ht
  have c0 : w.cell? ⟨R, 0, none⟩ = some (.slice (some ⟨b, o, none⟩) ts.length c) := HBK.out.cell 0
  have c1 : w.cell? ⟨R, 1, none⟩ = some (.int .i64 i) := HBK.out.cell 1
  have HDN : Hid (∀ n, Below w.heap.size w (w.drewN n)) := Lib.hid (fun n => bdrew (Below.refl _ _))
  go_enter Tryd.func63, Tryd.ntmps63
  go_wp2_with fail
  go_quiet (fail)
  generalize hq : w.drewN _ = wq
  have hbq : Below w.heap.size w wq := hq ▸ HDN.out _
  clear hq HDN c0 c1
  have HBQ := Lib.hid hbq
  obtain ⟨e0, e1, e2, e3, e4, e5⟩ := HC.out wq hbq
  have c0 : wq.cell? ⟨R, 0, none⟩ = some (.slice (some ⟨b, o, none⟩) ts.length c) := (HBK.out.next hbq).cell 0
  have c1 : wq.cell? ⟨R, 1, none⟩ = some (.int .i64 i) := (HBK.out.next hbq).cell 1
  have hup : ∀ o, Below w.heap.size w (wq.alloc o) := fun o => hbq.alloc hbq.size o
  have d0 : ∀ o', (wq.alloc o').cell? ⟨R, 0, none⟩ = some (.slice (some ⟨b, o, none⟩) ts.length c) := fun o' => (HBK.out.next (hup o')).cell 0
  have d1 : ∀ o', (wq.alloc o').cell? ⟨R, 1, none⟩ = some (.int .i64 i) := fun o' => (HBK.out.next (hup o')).cell 1
  have f0 := fun o' => (HC.out _ (hup o')).1
  have f1 := fun o' => (HC.out _ (hup o')).2.1
  have f2 := fun o' => (HC.out _ (hup o')).2.2.1
  have f3 := fun o' => (HC.out _ (hup o')).2.2.2.1
  have f4 := fun o' => (HC.out _ (hup o')).2.2.2.2.1
  have f5 := fun o' => (HC.out _ (hup o')).2.2.2.2.2
  clear hup hbq
  go_wp2_with fail
  go_region
  all_goals (try go_wp2_with fail)
  clear c0 c1 e0 e1 e2 e3 e4 e5 d0 d1 f0 f1 f2 f3 f4 f5
  obtain ⟨kb, kr, kB, kt, -⟩ := tok_world HBK.out HR.out HBQ.out t
  have kb : RBlk (wq.alloc (.cells #[.int .i64 t.kind, .int .i64 t.line, .int .i64 t.col, .string t.text, .int .u32 t.num, .int .i64 t.spare] 39)).drew R (.slice (some ⟨b, o, none⟩) ts.length c) i d vn := Blk.drew kb
  have kr := kr.drew
  have kt := Blk.drew kt
  have kB := Keeps.of kB.drew
  generalize (wq.alloc (.cells #[.int .i64 t.kind, .int .i64 t.line, .int .i64 t.col, .string t.text, .int .u32 t.num, .int .i64 t.spare] 39)).drew = wA at kb kr kB kt ⊢
  generalize wq.heap.size = g at kt ⊢
  obtain ⟨s0, s1, s2, s3, s4, s5⟩ : wA.cell? ⟨g, 0, none⟩ = some (.int .i64 t.kind) ∧ wA.cell? ⟨g, 1, none⟩ = some (.int .i64 t.line) ∧ wA.cell? ⟨g, 2, none⟩ = some (.int .i64 t.col) ∧ wA.cell? ⟨g, 3, none⟩ = some (.string t.text) ∧ wA.cell? ⟨g, 4, none⟩ = some (.int .u32 t.num) ∧ wA.cell? ⟨g, 5, none⟩ = some (.int .i64 t.spare) := ⟨kt.cell 0, kt.cell 1, kt.cell 2, kt.cell 3, kt.cell 4, kt.cell 5⟩
  have KB := Lib.hid kb
  have KR := Lib.hid kr
  have KW := Lib.hid kB
  have KT := Lib.hid kt
  clear kb kr kB kt
  go_wp2_with fail
  refine (emark_is t ⟨#[45]⟩ _).mono ?_
  rintro e x0 ⟨rfl, hb2⟩
  rw [m1]
  replace KB := Lib.hid (KB.out.next hb2)
  replace KR := Lib.hid (KR.out.next hb2)
  replace KW := Lib.hid (KW.out.trans (.of hb2))
  replace KT := Lib.hid (KT.out.below hb2 KT.out.lt)
  clear hb2 s0 s1 s2 s3 s4 s5
  obtain ⟨s0, s1, s2, s3, s4, s5⟩ : x0.cell? ⟨g, 0, none⟩ = some (.int .i64 t.kind) ∧ x0.cell? ⟨g, 1, none⟩ = some (.int .i64 t.line) ∧ x0.cell? ⟨g, 2, none⟩ = some (.int .i64 t.col) ∧ x0.cell? ⟨g, 3, none⟩ = some (.string t.text) ∧ x0.cell? ⟨g, 4, none⟩ = some (.int .u32 t.num) ∧ x0.cell? ⟨g, 5, none⟩ = some (.int .i64 t.spare) := ⟨KT.out.cell 0, KT.out.cell 1, KT.out.cell 2, KT.out.cell 3, KT.out.cell 4, KT.out.cell 5⟩
  go_wp2_with fail
  refine (emark_is t ⟨#[126]⟩ _).mono ?_
  rintro e x1 ⟨rfl, hb2⟩
  rw [m2]
  replace KB := Lib.hid (KB.out.next hb2)
  replace KR := Lib.hid (KR.out.next hb2)
  replace KW := Lib.hid (KW.out.trans (.of hb2))
  replace KT := Lib.hid (KT.out.below hb2 KT.out.lt)
  clear hb2 s0 s1 s2 s3 s4 s5
  obtain ⟨s0, s1, s2, s3, s4, s5⟩ : x1.cell? ⟨g, 0, none⟩ = some (.int .i64 t.kind) ∧ x1.cell? ⟨g, 1, none⟩ = some (.int .i64 t.line) ∧ x1.cell? ⟨g, 2, none⟩ = some (.int .i64 t.col) ∧ x1.cell? ⟨g, 3, none⟩ = some (.string t.text) ∧ x1.cell? ⟨g, 4, none⟩ = some (.int .u32 t.num) ∧ x1.cell? ⟨g, 5, none⟩ = some (.int .i64 t.spare) := ⟨KT.out.cell 0, KT.out.cell 1, KT.out.cell 2, KT.out.cell 3, KT.out.cell 4, KT.out.cell 5⟩
  go_wp2_with fail
  refine (emark_is t ⟨#[40]⟩ _).mono ?_
  rintro e x2 ⟨rfl, hb2⟩
  rw [m3]
  replace KB := Lib.hid (KB.out.next hb2)
  replace KR := Lib.hid (KR.out.next hb2)
  replace KW := Lib.hid (KW.out.trans (.of hb2))
  replace KT := Lib.hid (KT.out.below hb2 KT.out.lt)
  clear hb2 s0 s1 s2 s3 s4 s5
  obtain ⟨s0, s1, s2, s3, s4, s5⟩ : x2.cell? ⟨g, 0, none⟩ = some (.int .i64 t.kind) ∧ x2.cell? ⟨g, 1, none⟩ = some (.int .i64 t.line) ∧ x2.cell? ⟨g, 2, none⟩ = some (.int .i64 t.col) ∧ x2.cell? ⟨g, 3, none⟩ = some (.string t.text) ∧ x2.cell? ⟨g, 4, none⟩ = some (.int .u32 t.num) ∧ x2.cell? ⟨g, 5, none⟩ = some (.int .i64 t.spare) := ⟨KT.out.cell 0, KT.out.cell 1, KT.out.cell 2, KT.out.cell 3, KT.out.cell 4, KT.out.cell 5⟩
  go_wp2_with fail
  refine (HA.out _ vn KB.out KR.out).mono ?_
  intro e w4 h4
  obtain ⟨v, rfl, h5⟩ := epost_ret h4
  have H5 := Lib.hid (h5.from_ KW.out)
  clear h4 h5 s0 s1 s2 s3 s4 s5
  go_wp2_with fail
  go_ret
  exact H5.out

set_option maxRecDepth 100000 in
set_option maxHeartbeats 4000000 in
theorem part_leaf (w0 : World) (ts : List Tk6) (vt vn : Value) (ns : List Nd) (R i d : Nat) (t : Tk6) (r : (Nat × List Nd) ⊕ (Nat × Int)) (w : World) (hn : ts.length ≤ 100000) (ht : ts[i]? = some t) (m1 : t.isM ⟨#[45]⟩ = false) (m2 : t.isM ⟨#[126]⟩ = false) (m3 : t.isM ⟨#[40]⟩ = false) (hk : t.kind ≠ 4) (hb : RBlk w R vt i d vn) (hv : Toks w0 vt ts) (hr : ERest w0 R ns vn w)
    (HA : Hid (∀ W vn, RBlk W R vt i d vn → ERest w0 R ns vn W → Calls Tryd.prog 91 #[.pointer (some ⟨R, 0, none⟩), t.val] W (EPost w0 ts vt R d r W))) :
    Calls Tryd.prog 63 #[.pointer (some ⟨R, 0, none⟩)] w (EPost w0 ts vt R d r w) := by
  have hmf : ∀ (fn : Fn) (first cap : Array Value) (w : World), (Instr.makeFunc fn first cap).run Tryd.prog w = .ok (.func fn first cap) w := fun _ _ _ _ => rfl
  have k4 : (t.kind == 4) = false := beq_eq_false_iff_ne.2 hk
  clear hk
  have hvw := hv.below hr.below
  have HBK := Lib.hid hb
  have HR := Lib.hid hr
  obtain ⟨A, c, rfl, hc, hcm, hcell⟩ := hvw.form
  have hi := (List.getElem?_eq_some_iff.1 ht).1
  have hki2 : (i : Int) < ts.length := by omega
  have hki : ¬ (ts.length : Int) ≤ i := by omega
  have hkd : decide ((ts.length : Int) ≤ i) = false := decide_eq_false hki
  have hkn : decide (ts.length ≤ i) = false := decide_eq_false (by omega)
  have hkc : (i : Int) < c := by omega
  have hkb : (i : Int) ≤ 100000 := by omega
  obtain ⟨b, o, rfl, hcs⟩ := hcell i t ht
  have HC := Lib.hid hcs
  clear hb hv hr hcell hvw hcs ht
  have c0 : w.cell? ⟨R, 0, none⟩ = some (.slice (some ⟨b, o, none⟩) ts.length c) := HBK.out.cell 0
  have c1 : w.cell? ⟨R, 1, none⟩ = some (.int .i64 i) := HBK.out.cell 1
  have HDN : Hid (∀ n, Below w.heap.size w (w.drewN n)) := Lib.hid (fun n => bdrew (Below.refl _ _))
  go_enter Tryd.func63, Tryd.ntmps63
  go_wp2_with fail
  go_quiet (fail)
  generalize hq : w.drewN _ = wq
  have hbq : Below w.heap.size w wq := hq ▸ HDN.out _
  clear hq HDN c0 c1
  have HBQ := Lib.hid hbq
  obtain ⟨e0, e1, e2, e3, e4, e5⟩ := HC.out wq hbq
  have c0 : wq.cell? ⟨R, 0, none⟩ = some (.slice (some ⟨b, o, none⟩) ts.length c) := (HBK.out.next hbq).cell 0
  have c1 : wq.cell? ⟨R, 1, none⟩ = some (.int .i64 i) := (HBK.out.next hbq).cell 1
  have hup : ∀ o, Below w.heap.size w (wq.alloc o) := fun o => hbq.alloc hbq.size o
  have d0 : ∀ o', (wq.alloc o').cell? ⟨R, 0, none⟩ = some (.slice (some ⟨b, o, none⟩) ts.length c) := fun o' => (HBK.out.next (hup o')).cell 0
  have d1 : ∀ o', (wq.alloc o').cell? ⟨R, 1, none⟩ = some (.int .i64 i) := fun o' => (HBK.out.next (hup o')).cell 1
  have f0 := fun o' => (HC.out _ (hup o')).1
  have f1 := fun o' => (HC.out _ (hup o')).2.1
  have f2 := fun o' => (HC.out _ (hup o')).2.2.1
  have f3 := fun o' => (HC.out _ (hup o')).2.2.2.1
  have f4 := fun o' => (HC.out _ (hup o')).2.2.2.2.1
  have f5 := fun o' => (HC.out _ (hup o')).2.2.2.2.2
  clear hup hbq
  go_wp2_with fail
  go_region
  all_goals (try go_wp2_with fail)
  clear c0 c1 e0 e1 e2 e3 e4 e5 d0 d1 f0 f1 f2 f3 f4 f5
  obtain ⟨kb, kr, kB, kt, -⟩ := tok_world HBK.out HR.out HBQ.out t
  have kb : RBlk (wq.alloc (.cells #[.int .i64 t.kind, .int .i64 t.line, .int .i64 t.col, .string t.text, .int .u32 t.num, .int .i64 t.spare] 39)).drew R (.slice (some ⟨b, o, none⟩) ts.length c) i d vn := Blk.drew kb
  have kr := kr.drew
  have kt := Blk.drew kt
  have kB := Keeps.of kB.drew
  generalize (wq.alloc (.cells #[.int .i64 t.kind, .int .i64 t.line, .int .i64 t.col, .string t.text, .int .u32 t.num, .int .i64 t.spare] 39)).drew = wA at kb kr kB kt ⊢
  generalize wq.heap.size = g at kt ⊢
  obtain ⟨s0, s1, s2, s3, s4, s5⟩ : wA.cell? ⟨g, 0, none⟩ = some (.int .i64 t.kind) ∧ wA.cell? ⟨g, 1, none⟩ = some (.int .i64 t.line) ∧ wA.cell? ⟨g, 2, none⟩ = some (.int .i64 t.col) ∧ wA.cell? ⟨g, 3, none⟩ = some (.string t.text) ∧ wA.cell? ⟨g, 4, none⟩ = some (.int .u32 t.num) ∧ wA.cell? ⟨g, 5, none⟩ = some (.int .i64 t.spare) := ⟨kt.cell 0, kt.cell 1, kt.cell 2, kt.cell 3, kt.cell 4, kt.cell 5⟩
  have KB := Lib.hid kb
  have KR := Lib.hid kr
  have KW := Lib.hid kB
  have KT := Lib.hid kt
  clear kb kr kB kt
  go_wp2_with fail
  refine (emark_is t ⟨#[45]⟩ _).mono ?_
  rintro e x0 ⟨rfl, hb2⟩
  rw [m1]
  replace KB := Lib.hid (KB.out.next hb2)
  replace KR := Lib.hid (KR.out.next hb2)
  replace KW := Lib.hid (KW.out.trans (.of hb2))
  replace KT := Lib.hid (KT.out.below hb2 KT.out.lt)
  clear hb2 s0 s1 s2 s3 s4 s5
  obtain ⟨s0, s1, s2, s3, s4, s5⟩ : x0.cell? ⟨g, 0, none⟩ = some (.int .i64 t.kind) ∧ x0.cell? ⟨g, 1, none⟩ = some (.int .i64 t.line) ∧ x0.cell? ⟨g, 2, none⟩ = some (.int .i64 t.col) ∧ x0.cell? ⟨g, 3, none⟩ = some (.string t.text) ∧ x0.cell? ⟨g, 4, none⟩ = some (.int .u32 t.num) ∧ x0.cell? ⟨g, 5, none⟩ = some (.int .i64 t.spare) := ⟨KT.out.cell 0, KT.out.cell 1, KT.out.cell 2, KT.out.cell 3, KT.out.cell 4, KT.out.cell 5⟩
  go_wp2_with fail
  refine (emark_is t ⟨#[126]⟩ _).mono ?_
  rintro e x1 ⟨rfl, hb2⟩
  rw [m2]
  replace KB := Lib.hid (KB.out.next hb2)
  replace KR := Lib.hid (KR.out.next hb2)
  replace KW := Lib.hid (KW.out.trans (.of hb2))
  replace KT := Lib.hid (KT.out.below hb2 KT.out.lt)
  clear hb2 s0 s1 s2 s3 s4 s5
  obtain ⟨s0, s1, s2, s3, s4, s5⟩ : x1.cell? ⟨g, 0, none⟩ = some (.int .i64 t.kind) ∧ x1.cell? ⟨g, 1, none⟩ = some (.int .i64 t.line) ∧ x1.cell? ⟨g, 2, none⟩ = some (.int .i64 t.col) ∧ x1.cell? ⟨g, 3, none⟩ = some (.string t.text) ∧ x1.cell? ⟨g, 4, none⟩ = some (.int .u32 t.num) ∧ x1.cell? ⟨g, 5, none⟩ = some (.int .i64 t.spare) := ⟨KT.out.cell 0, KT.out.cell 1, KT.out.cell 2, KT.out.cell 3, KT.out.cell 4, KT.out.cell 5⟩
  go_wp2_with fail
  refine (emark_is t ⟨#[40]⟩ _).mono ?_
  rintro e x2 ⟨rfl, hb2⟩
  rw [m3]
  replace KB := Lib.hid (KB.out.next hb2)
  replace KR := Lib.hid (KR.out.next hb2)
  replace KW := Lib.hid (KW.out.trans (.of hb2))
  replace KT := Lib.hid (KT.out.below hb2 KT.out.lt)
  clear hb2 s0 s1 s2 s3 s4 s5
  obtain ⟨s0, s1, s2, s3, s4, s5⟩ : x2.cell? ⟨g, 0, none⟩ = some (.int .i64 t.kind) ∧ x2.cell? ⟨g, 1, none⟩ = some (.int .i64 t.line) ∧ x2.cell? ⟨g, 2, none⟩ = some (.int .i64 t.col) ∧ x2.cell? ⟨g, 3, none⟩ = some (.string t.text) ∧ x2.cell? ⟨g, 4, none⟩ = some (.int .u32 t.num) ∧ x2.cell? ⟨g, 5, none⟩ = some (.int .i64 t.spare) := ⟨KT.out.cell 0, KT.out.cell 1, KT.out.cell 2, KT.out.cell 3, KT.out.cell 4, KT.out.cell 5⟩
  go_wp2_with fail
  refine (HA.out _ vn KB.out KR.out).mono ?_
  intro e w4 h4
  obtain ⟨v, rfl, h5⟩ := epost_ret h4
  have H5 := Lib.hid (h5.from_ KW.out)
  clear h4 h5 s0 s1 s2 s3 s4 s5
  go_wp2_with fail
  go_ret
  exact H5.out

end Go.Proofs.YtbhfblogjlpnlaaDoor
