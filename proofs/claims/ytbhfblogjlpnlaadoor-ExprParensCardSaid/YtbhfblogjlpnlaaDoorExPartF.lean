/-
  The contract of the reader's part, over what is handed on: a Func. Conditions: as those of the reader.
-/
import Derived.Test.YtbhfblogjlpnlaaDoorExPart
namespace Go.Proofs.YtbhfblogjlpnlaaDoor
open Go.RowKit

set_option maxRecDepth 100000 in
set_option maxHeartbeats 4000000 in
theorem part_func (w0 : World) (ts : List Tk6) (vt vn : Value) (ns : List Nd) (R i d : Nat) (t : Tk6) (r : (Nat × List Nd) ⊕ (Nat × Int)) (w : World) (hn : ts.length ≤ 100000) (ht : ts[i]? = some t) (m1 : t.isM ⟨#[45]⟩ = false) (m2 : t.isM ⟨#[126]⟩ = false) (hk : t.kind = 4) (hb : RBlk w R vt i d vn) (hv : Toks w0 vt ts) (hr : ERest w0 R ns vn w)
    (HA : Hid (∀ W vn, RBlk W R vt i d vn → ERest w0 R ns vn W → Calls Tryd.prog 86 #[.pointer (some ⟨R, 0, none⟩), t.val, .int .i64 (funcKind t.text), .func (.func 88) #[.pointer (some ⟨R, 0, none⟩)] #[]] W (EPost w0 ts vt R d r W))) :
    Calls Tryd.prog 63 #[.pointer (some ⟨R, 0, none⟩)] w (EPost w0 ts vt R d r w) := by
  have hmf : ∀ (fn : Fn) (first cap : Array Value) (w : World), (Instr.makeFunc fn first cap).run Tryd.prog w = .ok (.func fn first cap) w := fun _ _ _ _ => rfl
  have k4 : (t.kind == 4) = true := by rw [hk]; rfl
  clear hk
  have hvw := hv.below hr.below
  have HBK := Lib.hid hb
  have HR := Lib.hid hr
  obtain ⟨A, c, rfl, hc, hcm, hcell⟩ := hvw.form
  have hi := (List.getElem?_eq_some_iff.1 ht).1
  have hki2 : (i : Int) < ts.length := by omega
  have hki : ¬ (ts.length : Int) ≤ i := by omega
  have hkd : decide ((ts.length : Int) ≤ i) = false := decide_eq_false hki
  have hkn : decide (ts.length ≤ i) = false := decide_eq_false (by omega)
  have hkc : (i : Int) < c := by omega
  have hkb : (i : Int) ≤ 100000 := by omega
  obtain ⟨b, o, rfl, hcs⟩ := hcell i t ht
  have HC := Lib.hid hcs
  clear hb hv hr hcell hvw hcs ht
  have c0 : w.cell? ⟨R, 0, none⟩ = some (.slice (some ⟨b, o, none⟩) ts.length c) := HBK.out.cell 0
  have c1 : w.cell? ⟨R, 1, none⟩ = some (.int .i64 i) := HBK.out.cell 1
  have HDN : Hid (∀ n, Below w.heap.size w (w.drewN n)) := Lib.hid (fun n => bdrew (Below.refl _ _))
  go_enter Tryd.func63, Tryd.ntmps63
  go_wp2_with fail
  go_quiet (fail)
  generalize hq : w.drewN _ = wq
  have hbq : Below w.heap.size w wq := hq ▸ HDN.out _
  clear hq HDN c0 c1
  have HBQ := Lib.hid hbq
  obtain ⟨e0, e1, e2, e3, e4, e5⟩ := HC.out wq hbq
  have c0 : wq.cell? ⟨R, 0, none⟩ = some (.slice (some ⟨b, o, none⟩) ts.length c) := (HBK.out.next hbq).cell 0
  have c1 : wq.cell? ⟨R, 1, none⟩ = some (.int .i64 i) := (HBK.out.next hbq).cell 1
  have hup : ∀ o, Below w.heap.size w (wq.alloc o) := fun o => hbq.alloc hbq.size o
  have d0 : ∀ o', (wq.alloc o').cell? ⟨R, 0, none⟩ = some (.slice (some ⟨b, o, none⟩) ts.length c) := fun o' => (HBK.out.next (hup o')).cell 0
  have d1 : ∀ o', (wq.alloc o').cell? ⟨R, 1, none⟩ = some (.int .i64 i) := fun o' => (HBK.out.next (hup o')).cell 1
  have f0 := fun o' => (HC.out _ (hup o')).1
  have f1 := fun o' => (HC.out _ (hup o')).2.1
  have f2 := fun o' => (HC.out _ (hup o')).2.2.1
  have f3 := fun o' => (HC.out _ (hup o')).2.2.2.1
  have f4 := fun o' => (HC.out _ (hup o')).2.2.2.2.1
  have f5 := fun o' => (HC.out _ (hup o')).2.2.2.2.2
  clear hup hbq
  go_wp2_with fail
  go_region
  all_goals (try go_wp2_with fail)
  clear c0 c1 e0 e1 e2 e3 e4 e5 d0 d1 f0 f1 f2 f3 f4 f5
  obtain ⟨kb, kr, kB, kt, -⟩ := tok_world HBK.out HR.out HBQ.out t
  have kb : RBlk (wq.alloc (.cells #[.int .i64 t.kind, .int .i64 t.line, .int .i64 t.col, .string t.text, .int .u32 t.num, .int .i64 t.spare] 39)).drew R (.slice (some ⟨b, o, none⟩) ts.length c) i d vn := Blk.drew kb
  have kr := kr.drew
  have kt := Blk.drew kt
  have kB := Keeps.of kB.drew
  generalize (wq.alloc (.cells #[.int .i64 t.kind, .int .i64 t.line, .int .i64 t.col, .string t.text, .int .u32 t.num, .int .i64 t.spare] 39)).drew = wA at kb kr kB kt ⊢
  generalize wq.heap.size = g at kt ⊢
  obtain ⟨s0, s1, s2, s3, s4, s5⟩ : wA.cell? ⟨g, 0, none⟩ = some (.int .i64 t.kind) ∧ wA.cell? ⟨g, 1, none⟩ = some (.int .i64 t.line) ∧ wA.cell? ⟨g, 2, none⟩ = some (.int .i64 t.col) ∧ wA.cell? ⟨g, 3, none⟩ = some (.string t.text) ∧ wA.cell? ⟨g, 4, none⟩ = some (.int .u32 t.num) ∧ wA.cell? ⟨g, 5, none⟩ = some (.int .i64 t.spare) := ⟨kt.cell 0, kt.cell 1, kt.cell 2, kt.cell 3, kt.cell 4, kt.cell 5⟩
  have KB := Lib.hid kb
  have KR := Lib.hid kr
  have KW := Lib.hid kB
  have KT := Lib.hid kt
  clear kb kr kB kt
  go_wp2_with fail
  refine (emark_is t ⟨#[45]⟩ _).mono ?_
  rintro e x0 ⟨rfl, hb2⟩
  rw [m1]
  replace KB := Lib.hid (KB.out.next hb2)
  replace KR := Lib.hid (KR.out.next hb2)
  replace KW := Lib.hid (KW.out.trans (.of hb2))
  replace KT := Lib.hid (KT.out.below hb2 KT.out.lt)
  clear hb2 s0 s1 s2 s3 s4 s5
  obtain ⟨s0, s1, s2, s3, s4, s5⟩ : x0.cell? ⟨g, 0, none⟩ = some (.int .i64 t.kind) ∧ x0.cell? ⟨g, 1, none⟩ = some (.int .i64 t.line) ∧ x0.cell? ⟨g, 2, none⟩ = some (.int .i64 t.col) ∧ x0.cell? ⟨g, 3, none⟩ = some (.string t.text) ∧ x0.cell? ⟨g, 4, none⟩ = some (.int .u32 t.num) ∧ x0.cell? ⟨g, 5, none⟩ = some (.int .i64 t.spare) := ⟨KT.out.cell 0, KT.out.cell 1, KT.out.cell 2, KT.out.cell 3, KT.out.cell 4, KT.out.cell 5⟩
  go_wp2_with fail
  refine (emark_is t ⟨#[126]⟩ _).mono ?_
  rintro e x1 ⟨rfl, hb2⟩
  rw [m2]
  replace KB := Lib.hid (KB.out.next hb2)
  replace KR := Lib.hid (KR.out.next hb2)
  replace KW := Lib.hid (KW.out.trans (.of hb2))
  replace KT := Lib.hid (KT.out.below hb2 KT.out.lt)
  clear hb2 s0 s1 s2 s3 s4 s5
  obtain ⟨s0, s1, s2, s3, s4, s5⟩ : x1.cell? ⟨g, 0, none⟩ = some (.int .i64 t.kind) ∧ x1.cell? ⟨g, 1, none⟩ = some (.int .i64 t.line) ∧ x1.cell? ⟨g, 2, none⟩ = some (.int .i64 t.col) ∧ x1.cell? ⟨g, 3, none⟩ = some (.string t.text) ∧ x1.cell? ⟨g, 4, none⟩ = some (.int .u32 t.num) ∧ x1.cell? ⟨g, 5, none⟩ = some (.int .i64 t.spare) := ⟨KT.out.cell 0, KT.out.cell 1, KT.out.cell 2, KT.out.cell 3, KT.out.cell 4, KT.out.cell 5⟩
  have HF : Hid (∀ W, Below x1.heap.size x1 W → Calls Tryd.prog 87 #[.string t.text] W fun e w' => e = .returned (.int .i64 (funcKind t.text)) ∧ Below x1.heap.size x1 w') := Lib.hid (fun W hW => (func_is t.text W).mono fun e w' h => ⟨h.1, h.2 ▸ hW⟩)
  have HKT : Hid (∀ W, Keeps x1 W → W.cell? ⟨g, 0, none⟩ = some (.int .i64 t.kind) ∧ W.cell? ⟨g, 1, none⟩ = some (.int .i64 t.line) ∧ W.cell? ⟨g, 2, none⟩ = some (.int .i64 t.col) ∧ W.cell? ⟨g, 3, none⟩ = some (.string t.text) ∧ W.cell? ⟨g, 4, none⟩ = some (.int .u32 t.num) ∧ W.cell? ⟨g, 5, none⟩ = some (.int .i64 t.spare)) := Lib.hid (fun W hW => by
    have h := hW _ _ _ (by decide) (by decide) KT.out
    exact ⟨h.cell 0, h.cell 1, h.cell 2, h.cell 3, h.cell 4, h.cell 5⟩)
  go_wp2_with fail
  go_region_held3 (fun W => W.cell? ⟨g, 0, none⟩ = some (.int .i64 t.kind) ∧ W.cell? ⟨g, 1, none⟩ = some (.int .i64 t.line) ∧ W.cell? ⟨g, 2, none⟩ = some (.int .i64 t.col) ∧ W.cell? ⟨g, 3, none⟩ = some (.string t.text) ∧ W.cell? ⟨g, 4, none⟩ = some (.int .u32 t.num) ∧ W.cell? ⟨g, 5, none⟩ = some (.int .i64 t.spare))
    (first | exact ⟨s0, s1, s2, s3, s4, s5⟩ | exact ⟨t0, t1, t2, t3, t4, t5⟩ | exact ⟨u0, u1, u2, u3, u4, u5⟩ | (go_split_ands; exact ⟨by assumption, by assumption, by assumption, by assumption, by assumption, by assumption⟩) | go_keep)
    (first | (go_at_call 87; refine (HF.out _ (Below.refl _ _).drew).mono ?_; rintro e w5 ⟨rfl, hb5⟩; obtain ⟨t0, t1, t2, t3, t4, t5⟩ := HKT.out w5 (.of hb5)) | (go_at_call 86; refine (HA.out _ vn (KB.out.next hb5) (KR.out.next hb5)).mono ?_; intro e w6 h6; obtain ⟨v, rfl, h7⟩ := epost_ret h6; obtain ⟨u0, u1, u2, u3, u4, u5⟩ := HKT.out w6 ((Keeps.of hb5).trans h7.2)))
  all_goals
    have H5 := Lib.hid ((h7.from_ (.of hb5)).from_ KW.out)
    try go_wp2_with fail
    go_ret
    exact H5.out

end Go.Proofs.YtbhfblogjlpnlaaDoor
