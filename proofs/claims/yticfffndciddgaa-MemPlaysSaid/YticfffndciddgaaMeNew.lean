/-
  The contract of mem.New: the memory that some cells make, the later of an address before the earlier. Condition: the cells lie in the memory; there are not too many.
-/
import Derived.Test.YticfffndciddgaaMeStore
namespace Go.Proofs.Yticfffndciddgaa
open Go.RowKit Go.Maps

/-- A slice of cells: their addresses and bytes. -/
structure CellsAt (w : World) (A : Option Addr) (l : List (Int × Int)) : Prop where
  at_ : ∀ i x, l[i]? = some x → ∃ g o, A = some ⟨g, o, none⟩ ∧ g < w.heap.size ∧ w.cell? ⟨g, o + i * 2, none⟩ = some (.int .u32 x.1) ∧ w.cell? ⟨g, o + i * 2 + 1, none⟩ = some (.int .u8 x.2)
  ok : ∀ x ∈ l, 0 ≤ x.1 ∧ x.1 ≤ 4294967295 ∧ 0 ≤ x.2 ∧ x.2 ≤ 255
theorem CellsAt.next {w w' : World} {A : Option Addr} {l : List (Int × Int)} (h : CellsAt w A l) (hb : Below w.heap.size w w') : CellsAt w' A l :=
  ⟨fun i x hx => by
    obtain ⟨g, o, q1, q2, q3, q4⟩ := h.at_ i x hx
    exact ⟨g, o, q1, Nat.lt_of_lt_of_le q2 hb.size, (hb.cell (p := ⟨g, o + i * 2, none⟩) q2).trans q3, (hb.cell (p := ⟨g, o + i * 2 + 1, none⟩) q2).trans q4⟩, h.ok⟩

/-- What the cells make. -/
def madeF (l : List (Int × Int)) : Int → Int := l.foldl (fun f x => upd f x.1 x.2) (fun _ => 0)
theorem madeF_snoc (l : List (Int × Int)) (x : Int × Int) : madeF (l ++ [x]) = upd (madeF l) x.1 x.2 := by unfold madeF; rw [List.foldl_append]; rfl

theorem make_map (n : Int) (w : World) : (Instr.makeMap 49 (some (.int .i64 n))).run Try.prog w = .ok (.map (some w.heap.size)) (w.alloc (.map #[] 0)) := by
  simp [Instr.makeMap, run_underlying Try.underlying49, asInt, Result.andThen]
  rfl

theorem MemIs.fresh (w : World) : MemIs ((w.alloc (.map #[] 0)).alloc (.cells #[.map (some w.heap.size)] 51)) (w.heap.size + 1) w.heap.size 0 (fun _ => 0) := by
  have hc : ∀ W : World, (W.alloc (.cells #[.map (some w.heap.size)] 51)).cell? ⟨W.heap.size, 0, none⟩ = some (.map (some w.heap.size)) := fun W => by simp
  have hc2 := hc (w.alloc (.map #[] 0))
  rw [show (w.alloc (.map #[] 0)).heap.size = w.heap.size + 1 by simp] at hc2
  refine ⟨hc2, ⟨.map [], (World.ownsMap_made w _ _ _).alloc _, fun a _ _ => ⟨rfl, by simp [has]⟩⟩, fun _ => ⟨Int.le_refl _, by omega⟩⟩

/-- A new memory that holds f. -/
def NewOut (w : World) (n : Nat) (f : Int → Int) (e : Ending) (w' : World) : Prop :=
  ∃ p b, e = .returned (.pointer (some ⟨p, 0, none⟩)) ∧ w.heap.size ≤ p ∧ w.heap.size ≤ b ∧ MemIs w' p b n f ∧ Below w.heap.size w w'
theorem NewOut.mk {w w' : World} {n : Nat} {f : Int → Int} {p b : Nat} (h1 : w.heap.size ≤ p) (h2 : w.heap.size ≤ b) (h3 : MemIs w' p b n f) (h4 : Below w.heap.size w w') : NewOut w n f (.returned (.pointer (some ⟨p, 0, none⟩))) w' := ⟨p, b, rfl, h1, h2, h3, h4⟩

set_option maxRecDepth 100000 in
set_option maxHeartbeats 4000000 in
theorem new_is {w : World} {A : Option Addr} {c : Nat} {l : List (Int × Int)} (h : CellsAt w A l) (hlc : l.length ≤ c) (hcm : c ≤ maxLen) (hn : l.length ≤ 100000) :
    Calls Try.prog 9 #[.slice A l.length c] w (NewOut w l.length (madeF l)) := by
  have H := Lib.hid h
  have HM := Lib.hid (make_map (l.length : Int))
  have HF := Lib.hid (MemIs.fresh w)
  clear h
  have hmk := HM.out w
  go_enter Try.func9, Try.ntmps9
  go_wp2_with fail
  generalize hw2 : (w.alloc (.map #[] 0)).alloc (.cells #[.map (some w.heap.size)] 51) = w2
  have HF2 : Hid (MemIs w2 (w.heap.size + 1) w.heap.size 0 (fun _ => 0) ∧ Below w.heap.size w w2) := Lib.hid (by
    rw [← hw2]
    exact ⟨HF.out, ((Below.refl _ _).alloc (Nat.le_refl _) _).alloc (by simp) _⟩)
  clear hw2 HF hmk HM
  go_loopg [13] (l.length + 1) (fun k vi wx => ∃ i : Nat, vi = .int .i64 i ∧ i ≤ l.length ∧ l.length + 1 ≤ i + k ∧ Hid (MemIs wx (w.heap.size + 1) w.heap.size i (madeF (l.take i)) ∧ Below w.heap.size w wx))
  case atStart => exact ⟨0, rfl, Nat.zero_le _, by omega, HF2⟩
  case round =>
    clear HF2
    obtain ⟨i, rfl, hi, hk, HI⟩ := hrel
    by_cases hlt : i < l.length
    · have hlti : (i : Int) < l.length := by omega
      have hic : (i : Int) < c := by omega
      obtain ⟨x, hx⟩ : ∃ x, l[i]? = some x := ⟨_, List.getElem?_eq_getElem hlt⟩
      obtain ⟨g, o, rfl, hg, e0, e1⟩ := (H.out.at_ i x hx)
      have f0 : wr.cell? ⟨g, o + i * 2, none⟩ = some (.int .u32 x.1) := (HI.out.2.cell (p := ⟨g, o + i * 2, none⟩) hg).trans e0
      have f1 : wr.cell? ⟨g, o + i * 2 + 1, none⟩ = some (.int .u8 x.2) := (HI.out.2.cell (p := ⟨g, o + i * 2 + 1, none⟩) hg).trans e1
      obtain ⟨x0, x1, x2, x3⟩ := H.out.ok x (List.mem_of_getElem? hx)
      have HP := Lib.hid (fun q => put_is (HI.out.1.next ((Below.refl _ _).alloc (Nat.le_refl _) q)) x.1 x.2 x0 x1 x2 x3 (by omega))
      have HT : Hid (madeF (l.take (i + 1)) = upd (madeF (l.take i)) x.1 x.2) := Lib.hid (by
        rw [List.take_add_one, hx]
        exact madeF_snoc _ _)
      clear e0 e1 hx x0 x1 x2 x3
      obtain ⟨xa, xb⟩ := x
      go_wp2_with (go_at_call 23; refine (HP.out _).mono ?_; rintro e w3 ⟨rfl, q1, q2⟩)
      have HX : Hid (MemIs w3 (w.heap.size + 1) w.heap.size (i + 1) (madeF (l.take (i + 1))) ∧ Below w.heap.size w w3) := Lib.hid ⟨by rw [HT.out]; exact q1, (HI.out.2.alloc HI.out.2.size _).grown q2 (by have := HI.out.2.size; simp; omega) (fun k q => by injection q with q; omega)⟩
      clear q1 q2
      go_roundg (l.length - i)
      case measure => omega
      case rel => exact ⟨i + 1, by go_num, by omega, by omega, HX⟩
    · have hlti : ¬ (i : Int) < l.length := by omega
      obtain rfl : i = l.length := by omega
      go_wp2
      go_ret
      exact NewOut.mk (Nat.le_succ _) (Nat.le_refl _) (by have := HI.out.1; rwa [List.take_length] at this) HI.out.2
end Go.Proofs.Yticfffndciddgaa
