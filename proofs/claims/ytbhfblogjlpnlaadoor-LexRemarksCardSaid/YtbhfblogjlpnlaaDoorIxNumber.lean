/-
  What the lexer's token answers; a part of bytes that lie in the memory.
-/
import Derived.Test.YtbhfblogjlpnlaaDoorIxNum
namespace Go.Proofs.YtbhfblogjlpnlaaDoor
open Go.RowKit

/-- What the lexer's token answers. -/
def ITok (w0 : World) (r : Tk) (e : Ending) (w' : World) : Prop := (match r with
  | .ok k t v n => e = .returned (.tuple #[.agg #[.int .i64 k, .int .i64 0, .int .i64 0, .string (ba t), .int .u32 v, .int .i64 0], .int .i64 n, .nilIface])
  | .bad c => e = .returned (.tuple #[.agg #[.int .i64 0, .int .i64 0, .int .i64 0, .string ByteArray.empty, .int .u32 0, .int .i64 0], .int .i64 0, .iface 56 (.int .i64 c)])) ∧ Below w0.heap.size w0 w'

theorem num_out {V : Int} {x : Int} {n : Nat} {v : Value} {e : Ending} (he : e = .returned (.tuple #[v, .int .i64 x, .nilIface])) (hn : x = n) (hv : v = .agg #[.int .i64 5, .int .i64 0, .int .i64 0, .string (ba []), .int .u32 V, .int .i64 0] := by rfl) :
    e = .returned (.tuple #[.agg #[.int .i64 5, .int .i64 0, .int .i64 0, .string (ba []), .int .u32 V, .int .i64 0], .int .i64 n, .nilIface]) := by rw [he, hn, hv]
theorem Bytes.part {w : World} {b o : Nat} {s : ByteArray} (h : Bytes w b o s) (i j : Nat) (hj : j ≤ s.size) : Bytes w b (o + i) (s.extract i j) := by
  refine ⟨h.lt, fun k hk => ?_⟩
  have hk2 : i + k < s.size := by simp at hk; omega
  have hx : (s.extract i j)[k] = s[i + k]'hk2 := by
    simp [ByteArray.getElem_extract]
  rw [hx, Nat.add_assoc]
  exact h.cell (i + k) hk2
end Go.Proofs.YtbhfblogjlpnlaaDoor
