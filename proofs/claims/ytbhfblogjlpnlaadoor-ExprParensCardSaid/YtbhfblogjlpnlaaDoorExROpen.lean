/-
  The contracts of the reference's opens and deep. Conditions: the tokens lie in the memory; so does the stack.
-/
import Derived.Test.YtbhfblogjlpnlaaDoorExRTwo
namespace Go.Proofs.YtbhfblogjlpnlaaDoor
open Go.RowKit

def Wt.cells (x : Wt) : List Value := [.int .i64 x.n.kind, .int .i64 x.n.line, .int .i64 x.n.col, .int .u32 x.n.num, .string x.n.name, .int .i64 (x.how : Int), .bool x.opn]
@[reducible] def Wt.val (x : Wt) : Value := .agg #[.int .i64 x.n.kind, .int .i64 x.n.line, .int .i64 x.n.col, .int .u32 x.n.num, .string x.n.name, .int .i64 (x.how : Int), .bool x.opn]
/-- What opens answers. -/
def Tk6.opensW (t : Tk6) : Wt := match t.first with
  | some (k, q) => t.wait k q
  | none => ⟨noNd, 0, false⟩
def Tk6.opensN (t : Tk6) : Int := match t.first with
  | some (_, q) => esize q
  | none => 0

set_option maxRecDepth 100000 in
set_option maxHeartbeats 4000000 in
theorem ropens_minus (ts : List Tk6) (vt : Value) (i : Nat) (t : Tk6) (w : World) (ht : ts[i]? = some t) (hv : Toks w vt ts) (k7 : (t.kind == 7) = true) (m1 : (t.text.toList == [45]) = true) (m2 : (t.text.toList == [126]) = false) : Calls Tryd.prog 31 #[vt, .int .i64 i] w fun e w' => e = .returned (.tuple #[.agg #[.int .i64 4, .int .i64 t.line, .int .i64 t.col, .int .u32 0, .string ⟨#[]⟩, .int .i64 7, .bool false], .int .i64 1]) ∧ Below w.heap.size w w' := by
  obtain ⟨A, cp, rfl, hc, hcm, hcell⟩ := hv.form
  have hil := (List.getElem?_eq_some_iff.1 ht).1
  obtain ⟨b, o, rfl, hcs⟩ := hcell i t ht
  have hup : ∀ o', Below w.heap.size w (w.alloc o') := fun o' => (Below.refl _ _).alloc (Nat.le_refl _) o'
  have e0 := fun o' => (hcs _ (hup o')).1
  have e1 := fun o' => (hcs _ (hup o')).2.1
  have e2 := fun o' => (hcs _ (hup o')).2.2.1
  have e3 := fun o' => (hcs _ (hup o')).2.2.2.1
  have e4 := fun o' => (hcs _ (hup o')).2.2.2.2.1
  have e5 := fun o' => (hcs _ (hup o')).2.2.2.2.2
  have hkl : (i : Int) < ts.length := by omega
  have hkc : (i : Int) < cp := by omega
  have HBA := Lib.hid (below3 w)
  clear hcs ht hcell hv hup hil hc hcm
  go_enter Tryd.func31, Tryd.ntmps31
  go_wp2_with fail
  exact bodyPost_ret (v := .tuple #[.agg #[.int .i64 4, .int .i64 t.line, .int .i64 t.col, .int .u32 0, .string ⟨#[]⟩, .int .i64 7, .bool false], .int .i64 1]) (by simp [results, Tryd.results31, go_sem]; done) rfl ⟨rfl, HBA.out _ _ _⟩

set_option maxRecDepth 100000 in
set_option maxHeartbeats 4000000 in
theorem ropens_tilde (ts : List Tk6) (vt : Value) (i : Nat) (t : Tk6) (w : World) (ht : ts[i]? = some t) (hv : Toks w vt ts) (k7 : (t.kind == 7) = true) (m1 : (t.text.toList == [45]) = false) (m2 : (t.text.toList == [126]) = true) : Calls Tryd.prog 31 #[vt, .int .i64 i] w fun e w' => e = .returned (.tuple #[.agg #[.int .i64 5, .int .i64 t.line, .int .i64 t.col, .int .u32 0, .string ⟨#[]⟩, .int .i64 7, .bool false], .int .i64 1]) ∧ Below w.heap.size w w' := by
  obtain ⟨A, cp, rfl, hc, hcm, hcell⟩ := hv.form
  have hil := (List.getElem?_eq_some_iff.1 ht).1
  obtain ⟨b, o, rfl, hcs⟩ := hcell i t ht
  have hup : ∀ o', Below w.heap.size w (w.alloc o') := fun o' => (Below.refl _ _).alloc (Nat.le_refl _) o'
  have e0 := fun o' => (hcs _ (hup o')).1
  have e1 := fun o' => (hcs _ (hup o')).2.1
  have e2 := fun o' => (hcs _ (hup o')).2.2.1
  have e3 := fun o' => (hcs _ (hup o')).2.2.2.1
  have e4 := fun o' => (hcs _ (hup o')).2.2.2.2.1
  have e5 := fun o' => (hcs _ (hup o')).2.2.2.2.2
  have hkl : (i : Int) < ts.length := by omega
  have hkc : (i : Int) < cp := by omega
  have HBA := Lib.hid (below3 w)
  clear hcs ht hcell hv hup hil hc hcm
  go_enter Tryd.func31, Tryd.ntmps31
  go_wp2_with fail
  exact bodyPost_ret (v := .tuple #[.agg #[.int .i64 5, .int .i64 t.line, .int .i64 t.col, .int .u32 0, .string ⟨#[]⟩, .int .i64 7, .bool false], .int .i64 1]) (by simp [results, Tryd.results31, go_sem]; done) rfl ⟨rfl, HBA.out _ _ _⟩

set_option maxRecDepth 100000 in
set_option maxHeartbeats 4000000 in
theorem ropens_paren (ts : List Tk6) (vt : Value) (i : Nat) (t : Tk6) (w : World) (ht : ts[i]? = some t) (hv : Toks w vt ts) (k7 : (t.kind == 7) = true) (m1 : (t.text.toList == [45]) = false) (m2 : (t.text.toList == [126]) = false) (m3 : (t.text.toList == [40]) = true) : Calls Tryd.prog 31 #[vt, .int .i64 i] w fun e w' => e = .returned (.tuple #[.agg #[.int .i64 0, .int .i64 0, .int .i64 0, .int .u32 0, .string ⟨#[]⟩, .int .i64 0, .bool true], .int .i64 1]) ∧ Below w.heap.size w w' := by
  obtain ⟨A, cp, rfl, hc, hcm, hcell⟩ := hv.form
  have hil := (List.getElem?_eq_some_iff.1 ht).1
  obtain ⟨b, o, rfl, hcs⟩ := hcell i t ht
  have hup : ∀ o', Below w.heap.size w (w.alloc o') := fun o' => (Below.refl _ _).alloc (Nat.le_refl _) o'
  have e0 := fun o' => (hcs _ (hup o')).1
  have e1 := fun o' => (hcs _ (hup o')).2.1
  have e2 := fun o' => (hcs _ (hup o')).2.2.1
  have e3 := fun o' => (hcs _ (hup o')).2.2.2.1
  have e4 := fun o' => (hcs _ (hup o')).2.2.2.2.1
  have e5 := fun o' => (hcs _ (hup o')).2.2.2.2.2
  have hkl : (i : Int) < ts.length := by omega
  have hkc : (i : Int) < cp := by omega
  have HBA := Lib.hid (below3 w)
  clear hcs ht hcell hv hup hil hc hcm
  go_enter Tryd.func31, Tryd.ntmps31
  go_wp2_with fail
  exact bodyPost_ret (v := .tuple #[.agg #[.int .i64 0, .int .i64 0, .int .i64 0, .int .u32 0, .string ⟨#[]⟩, .int .i64 0, .bool true], .int .i64 1]) (by simp [results, Tryd.results31, go_sem]; done) rfl ⟨rfl, HBA.out _ _ _⟩

set_option maxRecDepth 100000 in
set_option maxHeartbeats 4000000 in
theorem ropens_no (ts : List Tk6) (vt : Value) (i : Nat) (t : Tk6) (w : World) (ht : ts[i]? = some t) (hv : Toks w vt ts) (k7 : (t.kind == 7) = true) (k4 : (t.kind == 4) = false) (m1 : (t.text.toList == [45]) = false) (m2 : (t.text.toList == [126]) = false) (m3 : (t.text.toList == [40]) = false) : Calls Tryd.prog 31 #[vt, .int .i64 i] w fun e w' => e = .returned (.tuple #[.agg #[.int .i64 0, .int .i64 0, .int .i64 0, .int .u32 0, .string ⟨#[]⟩, .int .i64 0, .bool false], .int .i64 0]) ∧ Below w.heap.size w w' := by
  obtain ⟨A, cp, rfl, hc, hcm, hcell⟩ := hv.form
  have hil := (List.getElem?_eq_some_iff.1 ht).1
  obtain ⟨b, o, rfl, hcs⟩ := hcell i t ht
  have hup : ∀ o', Below w.heap.size w (w.alloc o') := fun o' => (Below.refl _ _).alloc (Nat.le_refl _) o'
  have e0 := fun o' => (hcs _ (hup o')).1
  have e1 := fun o' => (hcs _ (hup o')).2.1
  have e2 := fun o' => (hcs _ (hup o')).2.2.1
  have e3 := fun o' => (hcs _ (hup o')).2.2.2.1
  have e4 := fun o' => (hcs _ (hup o')).2.2.2.2.1
  have e5 := fun o' => (hcs _ (hup o')).2.2.2.2.2
  have hkl : (i : Int) < ts.length := by omega
  have hkc : (i : Int) < cp := by omega
  have HBA := Lib.hid (below3 w)
  clear hcs ht hcell hv hup hil hc hcm
  go_enter Tryd.func31, Tryd.ntmps31
  go_wp2_with fail
  exact bodyPost_ret (v := .tuple #[.agg #[.int .i64 0, .int .i64 0, .int .i64 0, .int .u32 0, .string ⟨#[]⟩, .int .i64 0, .bool false], .int .i64 0]) (by simp [results, Tryd.results31, go_sem]; done) rfl ⟨rfl, HBA.out _ _ _⟩

set_option maxRecDepth 100000 in
set_option maxHeartbeats 4000000 in
theorem ropens_no2 (ts : List Tk6) (vt : Value) (i : Nat) (t : Tk6) (w : World) (ht : ts[i]? = some t) (hv : Toks w vt ts) (k7 : (t.kind == 7) = false) (k4 : (t.kind == 4) = false) : Calls Tryd.prog 31 #[vt, .int .i64 i] w fun e w' => e = .returned (.tuple #[.agg #[.int .i64 0, .int .i64 0, .int .i64 0, .int .u32 0, .string ⟨#[]⟩, .int .i64 0, .bool false], .int .i64 0]) ∧ Below w.heap.size w w' := by
  obtain ⟨A, cp, rfl, hc, hcm, hcell⟩ := hv.form
  have hil := (List.getElem?_eq_some_iff.1 ht).1
  obtain ⟨b, o, rfl, hcs⟩ := hcell i t ht
  have hup : ∀ o', Below w.heap.size w (w.alloc o') := fun o' => (Below.refl _ _).alloc (Nat.le_refl _) o'
  have e0 := fun o' => (hcs _ (hup o')).1
  have e1 := fun o' => (hcs _ (hup o')).2.1
  have e2 := fun o' => (hcs _ (hup o')).2.2.1
  have e3 := fun o' => (hcs _ (hup o')).2.2.2.1
  have e4 := fun o' => (hcs _ (hup o')).2.2.2.2.1
  have e5 := fun o' => (hcs _ (hup o')).2.2.2.2.2
  have hkl : (i : Int) < ts.length := by omega
  have hkc : (i : Int) < cp := by omega
  have HBA := Lib.hid (below3 w)
  clear hcs ht hcell hv hup hil hc hcm
  go_enter Tryd.func31, Tryd.ntmps31
  go_wp2_with fail
  exact bodyPost_ret (v := .tuple #[.agg #[.int .i64 0, .int .i64 0, .int .i64 0, .int .u32 0, .string ⟨#[]⟩, .int .i64 0, .bool false], .int .i64 0]) (by simp [results, Tryd.results31, go_sem]; done) rfl ⟨rfl, HBA.out _ _ _⟩

set_option maxRecDepth 100000 in
set_option maxHeartbeats 4000000 in
theorem ropens_hi (ts : List Tk6) (vt : Value) (i : Nat) (t : Tk6) (w : World) (ht : ts[i]? = some t) (hv : Toks w vt ts) (k7 : (t.kind == 7) = false) (k4 : (t.kind == 4) = true) (m1 : (t.text.toList == [104, 105]) = true) (m2 : (t.text.toList == [108, 111]) = false) : Calls Tryd.prog 31 #[vt, .int .i64 i] w fun e w' => e = .returned (.tuple #[.agg #[.int .i64 6, .int .i64 t.line, .int .i64 t.col, .int .u32 0, .string ⟨#[]⟩, .int .i64 0, .bool true], .int .i64 2]) ∧ Below w.heap.size w w' := by
  obtain ⟨A, cp, rfl, hc, hcm, hcell⟩ := hv.form
  have hil := (List.getElem?_eq_some_iff.1 ht).1
  obtain ⟨b, o, rfl, hcs⟩ := hcell i t ht
  have hup : ∀ o', Below w.heap.size w (w.alloc o') := fun o' => (Below.refl _ _).alloc (Nat.le_refl _) o'
  have e0 := fun o' => (hcs _ (hup o')).1
  have e1 := fun o' => (hcs _ (hup o')).2.1
  have e2 := fun o' => (hcs _ (hup o')).2.2.1
  have e3 := fun o' => (hcs _ (hup o')).2.2.2.1
  have e4 := fun o' => (hcs _ (hup o')).2.2.2.2.1
  have e5 := fun o' => (hcs _ (hup o')).2.2.2.2.2
  have hkl : (i : Int) < ts.length := by omega
  have hkc : (i : Int) < cp := by omega
  have HBA := Lib.hid (below3 w)
  clear hcs ht hcell hv hup hil hc hcm
  go_enter Tryd.func31, Tryd.ntmps31
  go_wp2_with fail
  exact bodyPost_ret (v := .tuple #[.agg #[.int .i64 6, .int .i64 t.line, .int .i64 t.col, .int .u32 0, .string ⟨#[]⟩, .int .i64 0, .bool true], .int .i64 2]) (by simp [results, Tryd.results31, go_sem]; done) rfl ⟨rfl, HBA.out _ _ _⟩

set_option maxRecDepth 100000 in
set_option maxHeartbeats 4000000 in
theorem ropens_lo (ts : List Tk6) (vt : Value) (i : Nat) (t : Tk6) (w : World) (ht : ts[i]? = some t) (hv : Toks w vt ts) (k7 : (t.kind == 7) = false) (k4 : (t.kind == 4) = true) (m1 : (t.text.toList == [104, 105]) = false) (m2 : (t.text.toList == [108, 111]) = true) : Calls Tryd.prog 31 #[vt, .int .i64 i] w fun e w' => e = .returned (.tuple #[.agg #[.int .i64 7, .int .i64 t.line, .int .i64 t.col, .int .u32 0, .string ⟨#[]⟩, .int .i64 0, .bool true], .int .i64 2]) ∧ Below w.heap.size w w' := by
  obtain ⟨A, cp, rfl, hc, hcm, hcell⟩ := hv.form
  have hil := (List.getElem?_eq_some_iff.1 ht).1
  obtain ⟨b, o, rfl, hcs⟩ := hcell i t ht
  have hup : ∀ o', Below w.heap.size w (w.alloc o') := fun o' => (Below.refl _ _).alloc (Nat.le_refl _) o'
  have e0 := fun o' => (hcs _ (hup o')).1
  have e1 := fun o' => (hcs _ (hup o')).2.1
  have e2 := fun o' => (hcs _ (hup o')).2.2.1
  have e3 := fun o' => (hcs _ (hup o')).2.2.2.1
  have e4 := fun o' => (hcs _ (hup o')).2.2.2.2.1
  have e5 := fun o' => (hcs _ (hup o')).2.2.2.2.2
  have hkl : (i : Int) < ts.length := by omega
  have hkc : (i : Int) < cp := by omega
  have HBA := Lib.hid (below3 w)
  clear hcs ht hcell hv hup hil hc hcm
  go_enter Tryd.func31, Tryd.ntmps31
  go_wp2_with fail
  exact bodyPost_ret (v := .tuple #[.agg #[.int .i64 7, .int .i64 t.line, .int .i64 t.col, .int .u32 0, .string ⟨#[]⟩, .int .i64 0, .bool true], .int .i64 2]) (by simp [results, Tryd.results31, go_sem]; done) rfl ⟨rfl, HBA.out _ _ _⟩

set_option maxRecDepth 100000 in
set_option maxHeartbeats 4000000 in
theorem ropens_rel (ts : List Tk6) (vt : Value) (i : Nat) (t : Tk6) (w : World) (ht : ts[i]? = some t) (hv : Toks w vt ts) (k7 : (t.kind == 7) = false) (k4 : (t.kind == 4) = true) (m1 : (t.text.toList == [104, 105]) = false) (m2 : (t.text.toList == [108, 111]) = false) : Calls Tryd.prog 31 #[vt, .int .i64 i] w fun e w' => e = .returned (.tuple #[.agg #[.int .i64 8, .int .i64 t.line, .int .i64 t.col, .int .u32 0, .string ⟨#[]⟩, .int .i64 0, .bool true], .int .i64 2]) ∧ Below w.heap.size w w' := by
  obtain ⟨A, cp, rfl, hc, hcm, hcell⟩ := hv.form
  have hil := (List.getElem?_eq_some_iff.1 ht).1
  obtain ⟨b, o, rfl, hcs⟩ := hcell i t ht
  have hup : ∀ o', Below w.heap.size w (w.alloc o') := fun o' => (Below.refl _ _).alloc (Nat.le_refl _) o'
  have e0 := fun o' => (hcs _ (hup o')).1
  have e1 := fun o' => (hcs _ (hup o')).2.1
  have e2 := fun o' => (hcs _ (hup o')).2.2.1
  have e3 := fun o' => (hcs _ (hup o')).2.2.2.1
  have e4 := fun o' => (hcs _ (hup o')).2.2.2.2.1
  have e5 := fun o' => (hcs _ (hup o')).2.2.2.2.2
  have hkl : (i : Int) < ts.length := by omega
  have hkc : (i : Int) < cp := by omega
  have HBA := Lib.hid (below3 w)
  clear hcs ht hcell hv hup hil hc hcm
  go_enter Tryd.func31, Tryd.ntmps31
  go_wp2_with fail
  exact bodyPost_ret (v := .tuple #[.agg #[.int .i64 8, .int .i64 t.line, .int .i64 t.col, .int .u32 0, .string ⟨#[]⟩, .int .i64 0, .bool true], .int .i64 2]) (by simp [results, Tryd.results31, go_sem]; done) rfl ⟨rfl, HBA.out _ _ _⟩

theorem isM_lit {t : Tk6} (h7 : t.kind = 7) (s : ByteArray) (l : List UInt8) (hs : s.data.toList = l) : t.isM s = (t.text.toList == l) := by
  unfold Tk6.isM
  rw [h7, ← hs, ← ByteArray.toList_eq]
  rfl
theorem isM_no {t : Tk6} (h7 : t.kind ≠ 7) (s : ByteArray) : t.isM s = false := by
  unfold Tk6.isM
  rw [beq_eq_false_iff_ne.2 h7, Bool.false_and]
theorem ne_of_eq {l a b : List UInt8} (h : (l == a) = true) (hne : (a == b) = false) : (l == b) = false := by
  rw [eq_of_beq h]
  exact hne
/-- The contract of opens. -/
theorem ropens_is (ts : List Tk6) (vt : Value) (i : Nat) (t : Tk6) (w : World) (ht : ts[i]? = some t) (hv : Toks w vt ts) : Calls Tryd.prog 31 #[vt, .int .i64 i] w fun e w' => e = .returned (.tuple #[t.opensW.val, .int .i64 t.opensN]) ∧ Below w.heap.size w w' := by
  unfold Tk6.opensW Tk6.opensN
  by_cases h7 : t.kind = 7
  · have k7 : (t.kind == 7) = true := by rw [h7]; rfl
    have k4 : (t.kind == 4) = false := by rw [h7]; rfl
    unfold Tk6.first
    rw [isM_lit h7 ⟨#[45]⟩ [45] rfl, isM_lit h7 ⟨#[126]⟩ [126] rfl, isM_lit h7 ⟨#[40]⟩ [40] rfl]
    cases m1 : (t.text.toList == [45]) with
    | true => exact ropens_minus ts vt i t w ht hv k7 m1 (ne_of_eq m1 rfl)
    | false =>
      cases m2 : (t.text.toList == [126]) with
      | true => exact ropens_tilde ts vt i t w ht hv k7 m1 m2
      | false =>
        rw [if_neg (by decide), if_neg (by decide), if_neg (by omega)]
        cases m3 : (t.text.toList == [40]) with
        | true => exact ropens_paren ts vt i t w ht hv k7 m1 m2 m3
        | false => exact ropens_no ts vt i t w ht hv k7 k4 m1 m2 m3
  · have k7 : (t.kind == 7) = false := beq_eq_false_iff_ne.2 h7
    unfold Tk6.first
    rw [isM_no h7, isM_no h7, isM_no h7, if_neg (by decide), if_neg (by decide)]
    by_cases h4 : t.kind = 4
    · have k4 : (t.kind == 4) = true := by rw [h4]; rfl
      rw [if_pos h4]
      unfold funcKind isT
      cases m1 : (t.text.toList == [104, 105]) with
      | true => exact ropens_hi ts vt i t w ht hv k7 k4 m1 (ne_of_eq m1 rfl)
      | false =>
        cases m2 : (t.text.toList == [108, 111]) with
        | true => exact ropens_lo ts vt i t w ht hv k7 k4 m1 m2
        | false => exact ropens_rel ts vt i t w ht hv k7 k4 m1 m2
    · have k4 : (t.kind == 4) = false := beq_eq_false_iff_ne.2 h4
      rw [if_neg h4, if_neg (by decide)]
      exact ropens_no2 ts vt i t w ht hv k7 k4

/-! The stack. -/
def wtCells (S : List Wt) : List Value := S.flatMap Wt.cells
theorem wtCells_len (S : List Wt) : (wtCells S).length = S.length * 7 := by
  induction S with
  | nil => rfl
  | cons t ps ih =>
    have h : wtCells (t :: ps) = t.cells ++ wtCells ps := rfl
    have h5 : t.cells.length = 7 := rfl
    rw [h, List.length_append, ih, List.length_cons, h5]
    omega
theorem wtCells_app (a b : List Wt) : wtCells (a ++ b) = wtCells a ++ wtCells b := by simp [wtCells]
theorem wtCells_at (S : List Wt) : ∀ (i : Nat) (x : Wt) (j : Nat) (u : Value), S[i]? = some x → x.cells[j]? = some u → (wtCells S)[i * 7 + j]? = some u := by
  induction S with
  | nil => intro i x j u h; simp at h
  | cons m ms ih =>
    intro i x j u h hj
    have hc : wtCells (m :: ms) = m.cells ++ wtCells ms := rfl
    have hm7 : m.cells.length = 7 := rfl
    cases i with
    | zero =>
      simp at h
      subst h
      have hj7 : j < 7 := (List.getElem?_eq_some_iff.1 hj).1
      rw [hc, List.getElem?_append_left (by omega), Nat.zero_mul, Nat.zero_add]
      exact hj
    | succ i =>
      simp at h
      rw [hc, List.getElem?_append_right (by omega), hm7]
      have := ih i x j u h hj
      rwa [show (i + 1) * 7 + j - 7 = i * 7 + j by omega]
/-- The stack's cells, in every world since. -/
theorem stack_form {w : World} {base : Nat} {v : Value} {S : List Wt} (h : w.ownsRow base 78 7 v S.length (wtCells S)) (h0 : 0 < S.length) : ∃ g c, v = .slice (some ⟨g, 0, none⟩) S.length c ∧ S.length ≤ c ∧ c ≤ maxLen ∧ base ≤ g ∧ g < w.heap.size ∧ ∀ W, Below w.heap.size w W → ∀ (i : Nat) (x : Wt), S[i]? = some x → ∀ (j : Nat) (u : Value), x.cells[j]? = some u → W.cell? ⟨g, i * 7 + j, none⟩ = some u := by
  rcases h.2 with ⟨_, hz⟩ | ⟨g, cap, cur, hv, hg, hh, hc, hm, _⟩
  · omega
  · subst hv
    have hgl := (Array.getElem?_eq_some_iff.1 hh).1
    refine ⟨g, cap, rfl, hc, hm, hg, hgl, fun W hW i x hi j u hj => ?_⟩
    have := h.cells (g := g) rfl _ u (wtCells_at S i x j u hi hj)
    rw [addr0] at this
    exact (hW.cell (p := ⟨g, i * 7 + j, none⟩) hgl).trans this

theorem deepOf_take {S : List Wt} {k : Nat} {x : Wt} (h : S[k]? = some x) : deepOf (S.take (k + 1)) = deepOf (S.take k) + if x.deep then 1 else 0 := by
  rw [List.take_add_one, h]
  exact deepOf_app _ _
theorem deepOf_le (S : List Wt) : deepOf S ≤ S.length := List.length_filter_le _ _

set_option maxRecDepth 100000 in
set_option maxHeartbeats 4000000 in
theorem rdeep_is (S : List Wt) (v : Value) (base : Nat) (w : World) (hS : S.length ≤ 100001) (h : w.ownsRow base 78 7 v S.length (wtCells S)) : Calls Tryd.prog 32 #[v] w fun e w' => e = .returned (.int .i64 (deepOf S : Int)) ∧ w' = w := by
  rcases Nat.eq_zero_or_pos S.length with h0 | h0
  · obtain rfl := List.eq_nil_of_length_eq_zero h0
    obtain ⟨A, c, rfl⟩ := own_shape h
    have hl : ([] : List Wt).length = 0 := rfl
    rw [hl]
    clear h h0 hS
    go_enter Tryd.func32, Tryd.ntmps32
    go_wp2_with fail
    refine wp_loop_rounds 1 ?_
    rw [rounds_succ]
    go_wp2_with fail
    go_ret
    exact ⟨rfl, rfl⟩
  · obtain ⟨g, c, rfl, hc, hcm, -, -, hcell⟩ := stack_form h h0
    have HC := Lib.hid (hcell w (Below.refl _ _))
    clear h hcell
    go_enter Tryd.func32, Tryd.ntmps32
    go_wp2_with fail
    go_loopw [3, 4] (fun n i wr => ∃ k N : Nat, k ≤ S.length ∧ i = .int .i64 k ∧ n = .int .i64 N ∧ N ≤ k ∧ Hid (N = deepOf (S.take k)) ∧ wr = w) (fun _ i _ => S.length - (intOf i).toNat)
    case atStart => exact ⟨0, 0, Nat.zero_le _, rfl, rfl, Nat.le_refl _, Lib.hid rfl, rfl⟩
    case round =>
      obtain ⟨k, N, hk, rfl, rfl, hN, HD, rfl⟩ := hrel
      by_cases hlt : k < S.length
      · have hki : (k : Int) < S.length := by omega
        have hkc : (k : Int) < c := by omega
        have hkb : (k : Int) ≤ 100001 := by omega
        have hNb : (N : Int) ≤ 100001 := by omega
        obtain ⟨x, hx⟩ : ∃ x, S[k]? = some x := ⟨_, List.getElem?_eq_getElem hlt⟩
        have e5 : wr.cell? ⟨g, k * 7 + 5, none⟩ = some (.int .i64 (x.how : Int)) := HC.out k x hx 5 _ rfl
        have e6 : wr.cell? ⟨g, k * 7 + 6, none⟩ = some (.bool x.opn) := HC.out k x hx 6 _ rfl
        have HST := Lib.hid (deepOf_take hx)
        clear hx
        cases ho : x.opn with
        | true =>
          have HN : Hid (N + 1 = deepOf (S.take (k + 1))) := Lib.hid (by
            have : x.deep = true := by unfold Wt.deep; rw [ho]; rfl
            rw [HST.out, this, HD.out]
            rfl)
          rw [ho] at e6
          clear ho
          go_wp2_with fail
          go_roundw
          case rel => exact ⟨k + 1, N + 1, by omega, by go_num, by go_num, by omega, HN, by trivial⟩
          case measure => simp [intOf]; omega
        | false =>
          rw [ho] at e6
          by_cases h7 : x.how = 7
          · have k7 : ((x.how : Int) == 7) = true := by rw [h7]; rfl
            have HN : Hid (N + 1 = deepOf (S.take (k + 1))) := Lib.hid (by
              have : x.deep = true := by unfold Wt.deep; rw [ho, h7]; rfl
              rw [HST.out, this, HD.out]
              rfl)
            clear ho h7
            go_wp2_with fail
            go_roundw
            case rel => exact ⟨k + 1, N + 1, by omega, by go_num, by go_num, by omega, HN, by trivial⟩
            case measure => simp [intOf]; omega
          · have k7 : ((x.how : Int) == 7) = false := beq_eq_false_iff_ne.2 (by omega)
            have HN : Hid (N = deepOf (S.take (k + 1))) := Lib.hid (by
              have : x.deep = false := by unfold Wt.deep; rw [ho, beq_eq_false_iff_ne.2 h7]; rfl
              rw [HST.out, this, HD.out]
              rfl)
            clear ho h7
            go_wp2_with fail
            go_roundw
            case rel => exact ⟨k + 1, N, by omega, by go_num, rfl, by omega, HN, by trivial⟩
            case measure => simp [intOf]; omega
      · obtain rfl : k = S.length := by omega
        have HE : Hid (N = deepOf S) := Lib.hid (by rw [HD.out, List.take_length])
        go_wp2_with fail
        go_ret
        exact ⟨by rw [← HE.out]; rfl, by trivial⟩
end Go.Proofs.YtbhfblogjlpnlaaDoor
