/-
  The contract of (*Mem).Bytes: so many bytes from an address on, in memory of the call's own. Condition: as of a memory.
-/
import Derived.Test.YticfffndciddgaaMeFacts
import Derived.Deep.OwnRows
namespace Go.Proofs.Yticfffndciddgaa
open Go.RowKit Go.Maps

/-- How many bytes are told. -/
def many (n : Int) : Nat := (min (max n 0) 65536).toNat
theorem many_le (n : Int) : many n ≤ 65536 := by unfold many; omega

theorem Try.info8 : (Try.prog.info? 5).map (fun i => (i.zero, i.size, i.bytes)) = some (some (.int .u8 0), 1, 1) := by kernel_rfl

/-- What Bytes answers. -/
def BytesOut (w : World) (f : Int → Int) (a : Int) (K : Nat) (e : Ending) (w' : World) : Prop :=
  e = .returned (.slice (some ⟨w.heap.size, 0, none⟩) K K) ∧ w'.rowIs w.heap.size 5 K (fun j => .int .u8 (f (adr a j))) ∧ Below w.heap.size w w'

set_option maxRecDepth 100000 in
set_option maxHeartbeats 2000000 in
theorem bytes_is {w : World} {p b n : Nat} {f : Int → Int} (h : MemIs w p b n f) (a m : Int) (a0 : 0 ≤ a) (a1 : a ≤ 4294967295) :
    Calls Try.prog 21 #[.pointer (some ⟨p, 0, none⟩), .int .u32 a, .int .i64 m] w (BytesOut w f a (many m)) := by
  have hK4 := many_le m
  have hKm : min (max m 0) 65536 = ((many m : Nat) : Int) := by unfold many; omega
  obtain ⟨K, hK⟩ : ∃ K, many m = K := ⟨_, rfl⟩
  rw [hK] at hK4 hKm ⊢
  clear hK
  obtain ⟨D, hown, hD⟩ := h.map
  have hlt := h.lt
  have H := Lib.hid h
  have HD := Lib.hid hD
  have hmk := fun W => run_make_row' 31 5 (.int .u8 0) 1 Try.underlying31 Try.info8 rfl .i64 .i64 K (by omega) (by omega) W
  clear h hD
  go_enter Try.func21, Try.ntmps21
  go_wp2_with fail
  have hrow := World.rowIs_made w (.int .u8 0) K 5
  have hbw : Below w.heap.size w (w.alloc (.cells (madeCells #[.int .u8 0] K) 5)) := (Below.refl _ _).alloc (Nat.le_refl _) _
  generalize w.alloc (.cells (madeCells #[.int .u8 0] K) 5) = w1 at hrow hbw
  have HR := Lib.hid (And.intro hrow hbw)
  clear hrow hbw hmk hKm
  go_loopg [15] (K + 1) (fun k vi wr => ∃ i : Nat, vi = .int .i64 i ∧ i ≤ K ∧ K + 1 ≤ i + k ∧ Hid (wr.rowIs w.heap.size 5 K (fun j => if j < i then .int .u8 (f (adr a j)) else .int .u8 0) ∧ Below w.heap.size w wr))
  case atStart => exact ⟨0, rfl, Nat.zero_le _, by omega, HR⟩
  case round =>
    obtain ⟨i, rfl, hi, hk, HI⟩ := hrel
    have hA : IntKind.u32.wrap (a + (i : Int)) = adr a i := by rw [IntKind.wrap_u32]; rfl
    by_cases hlt2 : i < K
    · have hlti : (i : Int) < K := by omega
      have hcr := (H.out.next HI.out.2).cell
      have hownr : wr.ownsMap Try.prog 24 (plainElem Try.prog 5) b n D := owns_next hown HI.out.2 hlt.2.1
      have hv := (HD.out (adr a i) (adr_lo a i) (adr_hi a i)).1
      have hc0 := HI.out.1.cell hlt2
      have hf0 := HI.out.1.frozen i
      simp only [Nat.lt_irrefl, if_false] at hc0
      have HX : Hid ((wr.setCell ⟨w.heap.size, i, none⟩ (.int .u8 (f (adr a i)))).rowIs w.heap.size 5 K (fun j => if j < i + 1 then .int .u8 (f (adr a j)) else .int .u8 0) ∧ Below w.heap.size w (wr.setCell ⟨w.heap.size, i, none⟩ (.int .u8 (f (adr a i))))) := Lib.hid ⟨(HI.out.1.set i _).congr fun j hj => by
        by_cases q : j = i
        · subst q; simp
        · rw [if_neg q]
          by_cases q2 : j < i
          · rw [if_pos q2, if_pos (by omega)]
          · rw [if_neg q2, if_neg (by omega)], HI.out.2.setCell (p := ⟨w.heap.size, i, none⟩) (Nat.le_refl _) _⟩
      go_wp2_with (first
        | (at_lookup; refine wpList_lookup_own_int _ rfl _ _ 49 rfl 24 5 .u8 keyed32 Try.underlying49 Try.underlying5 (zero8 _) b n D rfl hownr _ _ rfl (key32 (adr_lo a i) (adr_hi a i)) ?_; intro c hat hwc; rw [hv] at hat; injection hat with hat; injection hat with _ hat; subst hat)
        | go_in)
      go_roundg (K - i)
      case measure => omega
      case rel => exact ⟨i + 1, by go_num, by omega, by omega, HX⟩
    · have hlti : ¬ (i : Int) < K := by omega
      obtain rfl : i = K := by omega
      go_wp2_with fail
      go_ret
      exact ⟨rfl, HI.out.1.congr fun j hj => by rw [if_pos hj], HI.out.2⟩
end Go.Proofs.Yticfffndciddgaa
