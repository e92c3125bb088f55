/-
  The contracts of the reader's deeper and ahead, over what is handed to them. Conditions: as those of the reader.
-/
import Derived.Test.YtbhfblogjlpnlaaDoorExAdd
import Derived.Defers
namespace Go.Proofs.YtbhfblogjlpnlaaDoor
open Go.RowKit

/-- The functions that are handed on. -/
def ehand : EKind → FuncId
  | .part => 63
  | .argument => 88
  | _ => 90

set_option maxRecDepth 100000 in
set_option maxHeartbeats 1000000 in
theorem undeep_is (B R d : Nat) (u : FrameMode) (w : World) (hd : d ≤ 100) (hB : w.cell? ⟨B, 0, none⟩ = some (.pointer (some ⟨R, 0, none⟩))) (h2 : w.cell? ⟨R, 2, none⟩ = some (.int .i64 ((d : Int) + 1))) (hz : w.frozen? ⟨R, 2, none⟩ = false) :
    CallsD Tryd.prog 104 #[.pointer (some ⟨B, 0, none⟩)] u w fun e u' w' => u' = u ∧ (e = .returned (.tuple #[]) ∧ w' = w.setCell ⟨R, 2, none⟩ (.int .i64 d)) := by
  go_enter_d Tryd.func104, Tryd.ntmps104
  have hdi : (d : Int) ≤ 100 := by omega
  go_wp2_with fail
  go_end0
  first | exact ⟨rfl, rfl⟩ | exact ⟨rfl, by congr 2; omega⟩

set_option maxRecDepth 100000 in
set_option maxHeartbeats 4000000 in
theorem deeper_bad (w0 : World) (ts : List Tk6) (vt vn : Value) (ns : List Nd) (R i d : Nat) (t : Tk6) (f : Value) (w : World) (hg : Handle w0) (ht : ts[i]? = some t) (hd : 32 ≤ d) (hd2 : d ≤ 32) (hb : RBlk w R vt i d vn) (hr : ERest w0 R ns vn w) :
    Calls Tryd.prog 89 #[.pointer (some ⟨R, 0, none⟩), t.val, f] w (EPost w0 ts vt R d (.inr (i, 14)) w) := by
  have hpl : placeAt ts i = (t.line, t.col) := by unfold placeAt; rw [ht]
  have HPL := Lib.hid hpl
  obtain rfl : d = 32 := by omega
  have hup : ∀ o o2, Below w.heap.size w ((w.alloc o).alloc o2) := fun o o2 => ((Below.refl _ _).alloc (Nat.le_refl _) o).alloc (by simp) o2
  have c2 : ∀ o o2, ((w.alloc o).alloc o2).cell? ⟨R, 2, none⟩ = some (.int .i64 32) := fun o o2 => (hb.next (hup o o2)).cell 2
  have HAT := Lib.hid (fun o o2 => atToken_is t 14 ((w.alloc o).alloc o2) (hg.below (hr.below.trans ((hup o o2).mono hr.below.size)) hg.pos))
  have HBK := Lib.hid hb
  have HR := Lib.hid hr
  have HUP := Lib.hid hup
  clear hb hr hg hpl hup ht hd hd2
  go_enter_defers Tryd.func89, Tryd.ntmps89
  go_wp2_with fail
  refine (HAT.out _ _).mono ?_
  rintro e w3 ⟨b, rfl, hbs, hbk, hb3⟩
  have hbb : Below w.heap.size w w3 := (HUP.out _ _).trans (hb3.mono (HUP.out _ _).size)
  go_wp2_with fail
  refine ⟨_, results_tmp rfl _ _ _, ⟨?_, i, vn, ns, HBK.out.next hbb, HR.out.next hbb⟩, .of hbb⟩
  rw [HPL.out]
  exact ⟨b, rfl, Nat.le_trans (Nat.le_trans HR.out.below.size (HUP.out _ _).size) hbs, hbk, HR.out.below.trans (hbb.mono HR.out.below.size)⟩

set_option maxRecDepth 100000 in
set_option maxHeartbeats 4000000 in
theorem deeper_part (w0 : World) (ts : List Tk6) (vt vn : Value) (ns : List Nd) (R i d : Nat) (t : Tk6) (r : (Nat × List Nd) ⊕ (Nat × Int)) (w : World) (hn : ts.length ≤ 100000) (hi : i ≤ ts.length) (hd : d < 32) (hb : RBlk w R vt i d vn) (hr : ERest w0 R ns vn w)
    (HC : Hid (∀ W vn, RBlk W R vt (i + 1) (d + 1) vn → ERest w0 R ns vn W → Calls Tryd.prog 63 #[.pointer (some ⟨R, 0, none⟩)] W (EPost w0 ts vt R (d + 1) r W))) :
    Calls Tryd.prog 89 #[.pointer (some ⟨R, 0, none⟩), t.val, .func (.func 63) #[.pointer (some ⟨R, 0, none⟩)] #[]] w (EPost w0 ts vt R d r w) := by
  have hmf : ∀ (fn : Fn) (first cap : Array Value) (w : World), (Instr.makeFunc fn first cap).run Tryd.prog w = .ok (.func fn first cap) w := fun _ _ _ _ => rfl
  have hup : ∀ o o2, Below w.heap.size w ((w.alloc o).alloc o2) := fun o o2 => ((Below.refl _ _).alloc (Nat.le_refl _) o).alloc (by simp) o2
  have hB0 : ∀ o2, Blk ((w.alloc (.cells #[.pointer (some ⟨R, 0, none⟩)] 69)).alloc o2) w.heap.size 69 #[.pointer (some ⟨R, 0, none⟩)] := fun o2 => (Blk.new _ _ _).alloc _
  have hdi : (d : Int) < 32 := by omega
  have hii : (i : Int) ≤ 100000 := by omega
  have HKK := Lib.hid (fun o o2 => Keeps.of (hup o o2))
  have HB0 := Lib.hid hB0
  have KB := Lib.hid (fun o o2 => hb.next (hup o o2))
  have KR := Lib.hid (fun o o2 => hr.next (hup o o2))
  have c1 : ∀ o o2, ((w.alloc o).alloc o2).cell? ⟨R, 1, none⟩ = some (.int .i64 i) := fun o o2 => (hb.next (hup o o2)).cell 1
  have c2 : ∀ o o2, ((w.alloc o).alloc o2).cell? ⟨R, 2, none⟩ = some (.int .i64 d) := fun o o2 => (hb.next (hup o o2)).cell 2
  have y1 := fun o o2 => Blk.frozen (hb.next (hup o o2)) 1
  have y2 := fun o o2 => Blk.frozen (hb.next (hup o o2)) 2
  have cB : ∀ o2, ((w.alloc (.cells #[.pointer (some ⟨R, 0, none⟩)] 69)).alloc o2).cell? ⟨w.heap.size, 0, none⟩ = some (.pointer (some ⟨R, 0, none⟩)) := fun o2 => (hB0 o2).cell 0
  have hne : ¬ w.heap.size = R := fun e => by have := Blk.lt hb; omega
  have hne2 : ¬ R = w.heap.size := fun e => hne e.symm
  clear hb hr hup hB0
  go_enter_defers Tryd.func89, Tryd.ntmps89
  go_wp2_with fail
  refine (HC.out _ vn (((KB.out _ _).set1 (i + 1) _ rfl).set2 (d + 1) _ rfl) (((KR.out _ _).set 1 _).set 2 _)).mono ?_
  rintro e w3 ⟨h3, hk3⟩
  have hB3 : Blk w3 w.heap.size 69 #[.pointer (some ⟨R, 0, none⟩)] := hk3 _ _ _ (by decide) (by decide) (((HB0.out _).far hne _).far hne _)
  have hkk : Keeps w w3 := ((HKK.out _ _).trans ((Keeps.set (KB.out _ _) _).trans (Keeps.set ((KB.out _ _).set1 (i + 1) _ rfl) _))).trans hk3
  rcases r with ⟨j, ns'⟩ | ⟨j, cd⟩
  · obtain ⟨rfl, vn', kb3, kr3⟩ := h3
    have e2 : w3.cell? ⟨R, 2, none⟩ = some (.int .i64 ((d : Int) + 1)) := kb3.cell 2
    go_wp2_with fail
    refine leaves_cons (f := 104) (args := #[.pointer (some ⟨w.heap.size, 0, none⟩)]) (by simp) (by simp [go_sem]) ?_
    refine (undeep_is w.heap.size R d .returning _ (by omega) (hB3.cell 0) e2 (Blk.frozen kb3 2)).mono ?_
    rintro e u' w'' ⟨rfl, rfl, rfl⟩
    exact ⟨_, results_tmp rfl _ _ _, ⟨rfl, vn', kb3.set2 d _ rfl, kr3.set 2 _⟩, hkk.trans (.set kb3 _)⟩
  · obtain ⟨⟨b, rfl, hbs, hbk, hb3⟩, j', vn', ns', kb3, kr3⟩ := h3
    have e2 : w3.cell? ⟨R, 2, none⟩ = some (.int .i64 ((d : Int) + 1)) := kb3.cell 2
    go_wp2_with fail
    refine leaves_cons (f := 104) (args := #[.pointer (some ⟨w.heap.size, 0, none⟩)]) (by simp) (by simp [go_sem]) ?_
    refine (undeep_is w.heap.size R d .returning _ (by omega) (hB3.cell 0) e2 (Blk.frozen kb3 2)).mono ?_
    rintro e u' w'' ⟨rfl, rfl, rfl⟩
    exact ⟨_, results_tmp rfl _ _ _, ⟨⟨b, rfl, hbs, hbk.far (blk_ne hbk kb3 (by decide)) _, hb3.setCell kr3.base _⟩, j', vn', ns', kb3.set2 d _ rfl, kr3.set 2 _⟩, hkk.trans (.set kb3 _)⟩

set_option maxRecDepth 100000 in
set_option maxHeartbeats 4000000 in
theorem deeper_argument (w0 : World) (ts : List Tk6) (vt vn : Value) (ns : List Nd) (R i d : Nat) (t : Tk6) (r : (Nat × List Nd) ⊕ (Nat × Int)) (w : World) (hn : ts.length ≤ 100000) (hi : i ≤ ts.length) (hd : d < 32) (hb : RBlk w R vt i d vn) (hr : ERest w0 R ns vn w)
    (HC : Hid (∀ W vn, RBlk W R vt (i + 1) (d + 1) vn → ERest w0 R ns vn W → Calls Tryd.prog 88 #[.pointer (some ⟨R, 0, none⟩)] W (EPost w0 ts vt R (d + 1) r W))) :
    Calls Tryd.prog 89 #[.pointer (some ⟨R, 0, none⟩), t.val, .func (.func 88) #[.pointer (some ⟨R, 0, none⟩)] #[]] w (EPost w0 ts vt R d r w) := by
  have hmf : ∀ (fn : Fn) (first cap : Array Value) (w : World), (Instr.makeFunc fn first cap).run Tryd.prog w = .ok (.func fn first cap) w := fun _ _ _ _ => rfl
  have hup : ∀ o o2, Below w.heap.size w ((w.alloc o).alloc o2) := fun o o2 => ((Below.refl _ _).alloc (Nat.le_refl _) o).alloc (by simp) o2
  have hB0 : ∀ o2, Blk ((w.alloc (.cells #[.pointer (some ⟨R, 0, none⟩)] 69)).alloc o2) w.heap.size 69 #[.pointer (some ⟨R, 0, none⟩)] := fun o2 => (Blk.new _ _ _).alloc _
  have hdi : (d : Int) < 32 := by omega
  have hii : (i : Int) ≤ 100000 := by omega
  have HKK := Lib.hid (fun o o2 => Keeps.of (hup o o2))
  have HB0 := Lib.hid hB0
  have KB := Lib.hid (fun o o2 => hb.next (hup o o2))
  have KR := Lib.hid (fun o o2 => hr.next (hup o o2))
  have c1 : ∀ o o2, ((w.alloc o).alloc o2).cell? ⟨R, 1, none⟩ = some (.int .i64 i) := fun o o2 => (hb.next (hup o o2)).cell 1
  have c2 : ∀ o o2, ((w.alloc o).alloc o2).cell? ⟨R, 2, none⟩ = some (.int .i64 d) := fun o o2 => (hb.next (hup o o2)).cell 2
  have y1 := fun o o2 => Blk.frozen (hb.next (hup o o2)) 1
  have y2 := fun o o2 => Blk.frozen (hb.next (hup o o2)) 2
  have cB : ∀ o2, ((w.alloc (.cells #[.pointer (some ⟨R, 0, none⟩)] 69)).alloc o2).cell? ⟨w.heap.size, 0, none⟩ = some (.pointer (some ⟨R, 0, none⟩)) := fun o2 => (hB0 o2).cell 0
  have hne : ¬ w.heap.size = R := fun e => by have := Blk.lt hb; omega
  have hne2 : ¬ R = w.heap.size := fun e => hne e.symm
  clear hb hr hup hB0
  go_enter_defers Tryd.func89, Tryd.ntmps89
  go_wp2_with fail
  refine (HC.out _ vn (((KB.out _ _).set1 (i + 1) _ rfl).set2 (d + 1) _ rfl) (((KR.out _ _).set 1 _).set 2 _)).mono ?_
  rintro e w3 ⟨h3, hk3⟩
  have hB3 : Blk w3 w.heap.size 69 #[.pointer (some ⟨R, 0, none⟩)] := hk3 _ _ _ (by decide) (by decide) (((HB0.out _).far hne _).far hne _)
  have hkk : Keeps w w3 := ((HKK.out _ _).trans ((Keeps.set (KB.out _ _) _).trans (Keeps.set ((KB.out _ _).set1 (i + 1) _ rfl) _))).trans hk3
  rcases r with ⟨j, ns'⟩ | ⟨j, cd⟩
  · obtain ⟨rfl, vn', kb3, kr3⟩ := h3
    have e2 : w3.cell? ⟨R, 2, none⟩ = some (.int .i64 ((d : Int) + 1)) := kb3.cell 2
    go_wp2_with fail
    refine leaves_cons (f := 104) (args := #[.pointer (some ⟨w.heap.size, 0, none⟩)]) (by simp) (by simp [go_sem]) ?_
    refine (undeep_is w.heap.size R d .returning _ (by omega) (hB3.cell 0) e2 (Blk.frozen kb3 2)).mono ?_
    rintro e u' w'' ⟨rfl, rfl, rfl⟩
    exact ⟨_, results_tmp rfl _ _ _, ⟨rfl, vn', kb3.set2 d _ rfl, kr3.set 2 _⟩, hkk.trans (.set kb3 _)⟩
  · obtain ⟨⟨b, rfl, hbs, hbk, hb3⟩, j', vn', ns', kb3, kr3⟩ := h3
    have e2 : w3.cell? ⟨R, 2, none⟩ = some (.int .i64 ((d : Int) + 1)) := kb3.cell 2
    go_wp2_with fail
    refine leaves_cons (f := 104) (args := #[.pointer (some ⟨w.heap.size, 0, none⟩)]) (by simp) (by simp [go_sem]) ?_
    refine (undeep_is w.heap.size R d .returning _ (by omega) (hB3.cell 0) e2 (Blk.frozen kb3 2)).mono ?_
    rintro e u' w'' ⟨rfl, rfl, rfl⟩
    exact ⟨_, results_tmp rfl _ _ _, ⟨⟨b, rfl, hbs, hbk.far (blk_ne hbk kb3 (by decide)) _, hb3.setCell kr3.base _⟩, j', vn', ns', kb3.set2 d _ rfl, kr3.set 2 _⟩, hkk.trans (.set kb3 _)⟩

set_option maxRecDepth 100000 in
set_option maxHeartbeats 4000000 in
theorem deeper_closed (w0 : World) (ts : List Tk6) (vt vn : Value) (ns : List Nd) (R i d : Nat) (t : Tk6) (r : (Nat × List Nd) ⊕ (Nat × Int)) (w : World) (hn : ts.length ≤ 100000) (hi : i ≤ ts.length) (hd : d < 32) (hb : RBlk w R vt i d vn) (hr : ERest w0 R ns vn w)
    (HC : Hid (∀ W vn, RBlk W R vt (i + 1) (d + 1) vn → ERest w0 R ns vn W → Calls Tryd.prog 90 #[.pointer (some ⟨R, 0, none⟩)] W (EPost w0 ts vt R (d + 1) r W))) :
    Calls Tryd.prog 89 #[.pointer (some ⟨R, 0, none⟩), t.val, .func (.func 90) #[.pointer (some ⟨R, 0, none⟩)] #[]] w (EPost w0 ts vt R d r w) := by
  have hmf : ∀ (fn : Fn) (first cap : Array Value) (w : World), (Instr.makeFunc fn first cap).run Tryd.prog w = .ok (.func fn first cap) w := fun _ _ _ _ => rfl
  have hup : ∀ o o2, Below w.heap.size w ((w.alloc o).alloc o2) := fun o o2 => ((Below.refl _ _).alloc (Nat.le_refl _) o).alloc (by simp) o2
  have hB0 : ∀ o2, Blk ((w.alloc (.cells #[.pointer (some ⟨R, 0, none⟩)] 69)).alloc o2) w.heap.size 69 #[.pointer (some ⟨R, 0, none⟩)] := fun o2 => (Blk.new _ _ _).alloc _
  have hdi : (d : Int) < 32 := by omega
  have hii : (i : Int) ≤ 100000 := by omega
  have HKK := Lib.hid (fun o o2 => Keeps.of (hup o o2))
  have HB0 := Lib.hid hB0
  have KB := Lib.hid (fun o o2 => hb.next (hup o o2))
  have KR := Lib.hid (fun o o2 => hr.next (hup o o2))
  have c1 : ∀ o o2, ((w.alloc o).alloc o2).cell? ⟨R, 1, none⟩ = some (.int .i64 i) := fun o o2 => (hb.next (hup o o2)).cell 1
  have c2 : ∀ o o2, ((w.alloc o).alloc o2).cell? ⟨R, 2, none⟩ = some (.int .i64 d) := fun o o2 => (hb.next (hup o o2)).cell 2
  have y1 := fun o o2 => Blk.frozen (hb.next (hup o o2)) 1
  have y2 := fun o o2 => Blk.frozen (hb.next (hup o o2)) 2
  have cB : ∀ o2, ((w.alloc (.cells #[.pointer (some ⟨R, 0, none⟩)] 69)).alloc o2).cell? ⟨w.heap.size, 0, none⟩ = some (.pointer (some ⟨R, 0, none⟩)) := fun o2 => (hB0 o2).cell 0
  have hne : ¬ w.heap.size = R := fun e => by have := Blk.lt hb; omega
  have hne2 : ¬ R = w.heap.size := fun e => hne e.symm
  clear hb hr hup hB0
  go_enter_defers Tryd.func89, Tryd.ntmps89
  go_wp2_with fail
  refine (HC.out _ vn (((KB.out _ _).set1 (i + 1) _ rfl).set2 (d + 1) _ rfl) (((KR.out _ _).set 1 _).set 2 _)).mono ?_
  rintro e w3 ⟨h3, hk3⟩
  have hB3 : Blk w3 w.heap.size 69 #[.pointer (some ⟨R, 0, none⟩)] := hk3 _ _ _ (by decide) (by decide) (((HB0.out _).far hne _).far hne _)
  have hkk : Keeps w w3 := ((HKK.out _ _).trans ((Keeps.set (KB.out _ _) _).trans (Keeps.set ((KB.out _ _).set1 (i + 1) _ rfl) _))).trans hk3
  rcases r with ⟨j, ns'⟩ | ⟨j, cd⟩
  · obtain ⟨rfl, vn', kb3, kr3⟩ := h3
    have e2 : w3.cell? ⟨R, 2, none⟩ = some (.int .i64 ((d : Int) + 1)) := kb3.cell 2
    go_wp2_with fail
    refine leaves_cons (f := 104) (args := #[.pointer (some ⟨w.heap.size, 0, none⟩)]) (by simp) (by simp [go_sem]) ?_
    refine (undeep_is w.heap.size R d .returning _ (by omega) (hB3.cell 0) e2 (Blk.frozen kb3 2)).mono ?_
    rintro e u' w'' ⟨rfl, rfl, rfl⟩
    exact ⟨_, results_tmp rfl _ _ _, ⟨rfl, vn', kb3.set2 d _ rfl, kr3.set 2 _⟩, hkk.trans (.set kb3 _)⟩
  · obtain ⟨⟨b, rfl, hbs, hbk, hb3⟩, j', vn', ns', kb3, kr3⟩ := h3
    have e2 : w3.cell? ⟨R, 2, none⟩ = some (.int .i64 ((d : Int) + 1)) := kb3.cell 2
    go_wp2_with fail
    refine leaves_cons (f := 104) (args := #[.pointer (some ⟨w.heap.size, 0, none⟩)]) (by simp) (by simp [go_sem]) ?_
    refine (undeep_is w.heap.size R d .returning _ (by omega) (hB3.cell 0) e2 (Blk.frozen kb3 2)).mono ?_
    rintro e u' w'' ⟨rfl, rfl, rfl⟩
    exact ⟨_, results_tmp rfl _ _ _, ⟨⟨b, rfl, hbs, hbk.far (blk_ne hbk kb3 (by decide)) _, hb3.setCell kr3.base _⟩, j', vn', ns', kb3.set2 d _ rfl, kr3.set 2 _⟩, hkk.trans (.set kb3 _)⟩

set_option maxRecDepth 100000 in
set_option maxHeartbeats 4000000 in
theorem ahead_ok (w0 : World) (ts : List Tk6) (vt vn : Value) (ns : List Nd) (R i d : Nat) (t : Tk6) (k : Int) (f : FuncId) (j : Nat) (ns' : List Nd) (hn : ns'.length ≤ 100001) (w : World) (hb : RBlk w R vt i d vn) (hr : ERest w0 R ns vn w)
    (HD : Hid (∀ W vn, RBlk W R vt i d vn → ERest w0 R ns vn W → Calls Tryd.prog 89 #[.pointer (some ⟨R, 0, none⟩), t.val, .func (.func f) #[.pointer (some ⟨R, 0, none⟩)] #[]] W (EPost w0 ts vt R d (.inl (j, ns')) W))) :
    Calls Tryd.prog 86 #[.pointer (some ⟨R, 0, none⟩), t.val, .int .i64 k, .func (.func f) #[.pointer (some ⟨R, 0, none⟩)] #[]] w (EPost w0 ts vt R d (.inl (j, ns' ++ [t.node k])) w) := by
  have HT := Lib.hid (tok_world hb hr (Below.refl _ _) t)
  clear hb hr
  go_enter Tryd.func86, Tryd.ntmps86
  go_wp2_with fail
  refine (HD.out _ vn HT.out.1 HT.out.2.1).mono ?_
  rintro e w3 ⟨h3, hk3⟩
  have hkk : Keeps w w3 := (Keeps.of HT.out.2.2.1).trans hk3
  have hT3 : Blk w3 w.heap.size 39 #[.int .i64 t.kind, .int .i64 t.line, .int .i64 t.col, .string t.text, .int .u32 t.num, .int .i64 t.spare] := hk3 _ _ _ (by decide) (by decide) HT.out.2.2.2.1
  have HKK := Lib.hid hkk
  obtain ⟨rfl, vn', kb3, kr3⟩ := h3
  obtain ⟨s0, s1, s2, s3, s4, s5⟩ : w3.cell? ⟨w.heap.size, 0, none⟩ = some (.int .i64 t.kind) ∧ w3.cell? ⟨w.heap.size, 1, none⟩ = some (.int .i64 t.line) ∧ w3.cell? ⟨w.heap.size, 2, none⟩ = some (.int .i64 t.col) ∧ w3.cell? ⟨w.heap.size, 3, none⟩ = some (.string t.text) ∧ w3.cell? ⟨w.heap.size, 4, none⟩ = some (.int .u32 t.num) ∧ w3.cell? ⟨w.heap.size, 5, none⟩ = some (.int .i64 t.spare) := ⟨hT3.cell 0, hT3.cell 1, hT3.cell 2, hT3.cell 3, hT3.cell 4, hT3.cell 5⟩
  have HA := Lib.hid (add_is w0 vt vn' ns' R j d k t w3 hn kb3 kr3)
  clear hT3 kb3 kr3 hkk hk3
  go_wp2_with fail
  refine HA.out.mono ?_
  rintro e w4 ⟨rfl, ⟨vn2, kb4, kr4⟩, hk4⟩
  have HB4 := Lib.hid kb4
  have HR4 := Lib.hid kr4
  have HK4 := Lib.hid hk4
  clear kb4 kr4 hk4
  go_wp2_with fail
  go_ret
  exact ⟨⟨rfl, vn2, HB4.out, HR4.out⟩, HKK.out.trans HK4.out⟩

set_option maxRecDepth 100000 in
set_option maxHeartbeats 4000000 in
theorem ahead_fell (w0 : World) (ts : List Tk6) (vt vn : Value) (ns : List Nd) (R i d : Nat) (t : Tk6) (k : Int) (f : FuncId) (x : Nat × Int) (w : World) (hb : RBlk w R vt i d vn) (hr : ERest w0 R ns vn w)
    (HD : Hid (∀ W vn, RBlk W R vt i d vn → ERest w0 R ns vn W → Calls Tryd.prog 89 #[.pointer (some ⟨R, 0, none⟩), t.val, .func (.func f) #[.pointer (some ⟨R, 0, none⟩)] #[]] W (EPost w0 ts vt R d (.inr x) W))) :
    Calls Tryd.prog 86 #[.pointer (some ⟨R, 0, none⟩), t.val, .int .i64 k, .func (.func f) #[.pointer (some ⟨R, 0, none⟩)] #[]] w (EPost w0 ts vt R d (.inr x) w) := by
  have HT := Lib.hid (tok_world hb hr (Below.refl _ _) t)
  clear hb hr
  go_enter Tryd.func86, Tryd.ntmps86
  go_wp2_with fail
  refine (HD.out _ vn HT.out.1 HT.out.2.1).mono ?_
  rintro e w3 ⟨h3, hk3⟩
  have hkk : Keeps w w3 := (Keeps.of HT.out.2.2.1).trans hk3
  have hT3 : Blk w3 w.heap.size 39 #[.int .i64 t.kind, .int .i64 t.line, .int .i64 t.col, .string t.text, .int .u32 t.num, .int .i64 t.spare] := hk3 _ _ _ (by decide) (by decide) HT.out.2.2.2.1
  have HKK := Lib.hid hkk
  obtain ⟨⟨b, rfl, hbs, hbk, hb3⟩, j', vn', ns', kb3, kr3⟩ := h3
  have H3 := Lib.hid (And.intro hbs (And.intro hbk (And.intro hb3 (And.intro kb3 kr3))))
  clear hT3 kb3 kr3 hkk hk3 hbs hbk hb3
  go_wp2_with fail
  go_ret
  exact ⟨⟨⟨b, rfl, H3.out.1, H3.out.2.1, H3.out.2.2.1⟩, j', vn', ns', H3.out.2.2.2.1, H3.out.2.2.2.2⟩, HKK.out⟩
end Go.Proofs.YtbhfblogjlpnlaaDoor
