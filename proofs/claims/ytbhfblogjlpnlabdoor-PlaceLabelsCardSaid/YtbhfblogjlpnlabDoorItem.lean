/-
  Items as values and as cells; the contracts of kind.Leads, kind.IsInstruction, span.fixed, and of the end of an extent. Conditions: for span.fixed, the item leads nowhere.
-/
import Derived.Test.YtbhfblogjlpnlabDoorErr2
import Derived.Deep.QuietTactic
import Derived.BigQuiet
import Derived.IntWalk
namespace Go.Proofs.YtbhfblogjlpnlabDoor
open Go.RowKit

/-- What an item is: its parts, those that play no part here too. -/
structure Itm where
  K : Int
  L : Int
  C : Int
  nm : ByteArray
  i0 : Int
  i1 : Int
  i2 : Int
  i3 : Int
  i4 : Int
  sh : ByteArray
  sz : Int
  NA : Option Addr
  nl : Nat
  nc : Nat
  num : Int
  gr : Bool
  rv : Bool
instance : Inhabited Itm := ⟨⟨0, 0, 0, ByteArray.empty, 0, 0, 0, 0, 0, ByteArray.empty, 0, none, 0, 0, 0, false, false⟩⟩
@[reducible] def Itm.cs (t : Itm) : Array Value := #[.int .i64 t.K, .int .i64 t.L, .int .i64 t.C, .string t.nm, .int .i64 t.i0, .int .i64 t.i1, .int .i64 t.i2, .int .i64 t.i3, .int .i32 t.i4, .string t.sh, .int .i64 t.sz, .slice t.NA t.nl t.nc, .int .u32 t.num, .bool t.gr, .bool t.rv]

@[reducible] def Lead (K : Int) : Prop := K = 4 ∨ K = 5 ∨ K = 6

set_option maxRecDepth 100000 in
theorem leads_no (t : Itm) (h : ¬ Lead t.K) (w : World) :
    Calls Tryd.prog 93 #[.agg t.cs] w fun e w' => e = .returned (.bool false) ∧ Below w.heap.size w w' := by
  have h4 : (t.K == 4) = false := by unfold Lead at h; simp; omega
  have h5 : (t.K == 5) = false := by unfold Lead at h; simp; omega
  have h6 : (t.K == 6) = false := by unfold Lead at h; simp; omega
  clear h
  go_enter Tryd.func93, Tryd.ntmps93
  go_wp2
  go_ret
  exact ⟨rfl, (Below.refl _ _).alloc (Nat.le_refl _) _⟩

set_option maxRecDepth 100000 in
theorem leads_yes (t : Itm) (h : Lead t.K) (w : World) :
    Calls Tryd.prog 93 #[.agg t.cs] w fun e w' => e = .returned (.bool true) ∧ Below w.heap.size w w' := by
  have hc : (t.K == 4) = true ∨ ((t.K == 4) = false ∧ (t.K == 5) = true) ∨ ((t.K == 4) = false ∧ (t.K == 5) = false ∧ (t.K == 6) = true) := by
    unfold Lead at h
    rcases h with h | h | h <;> rw [h] <;> decide
  clear h
  rcases hc with h4 | ⟨h4, h5⟩ | ⟨h4, h5, h6⟩
  all_goals
    go_enter Tryd.func93, Tryd.ntmps93
    go_wp2
    go_ret
    exact ⟨rfl, (Below.refl _ _).alloc (Nat.le_refl _) _⟩
end Go.Proofs.YtbhfblogjlpnlabDoor
