/-
  The contract of the reference's New: the memory that some cells make. Condition: the cells lie in the memory; there are not too many.
-/
import Derived.Test.YticfffndciddgaaMeRef
import Derived.StillTailTactics
namespace Go.Proofs.Yticfffndciddgaa
open Go.RowKit Go.Maps

def madeL (l : List (Int × Int)) : List (Int × Int) := l.foldl (fun L x => putL L x.1 x.2) []
theorem madeL_snoc (l : List (Int × Int)) (x : Int × Int) : madeL (l ++ [x]) = putL (madeL l) x.1 x.2 := by unfold madeL; rw [List.foldl_append]; rfl
theorem look_fold : ∀ (l L : List (Int × Int)) (g : Int → Int), (∀ a, lookF L a = g a) → ∀ a, lookF (l.foldl (fun L x => putL L x.1 x.2) L) a = l.foldl (fun f x => upd f x.1 x.2) g a
  | [], _, _, h, a => h a
  | y :: l, L, g, h, a => by
    rw [List.foldl_cons, List.foldl_cons]
    refine look_fold l _ _ (fun b => ?_) a
    rw [look_put]
    unfold upd
    rw [h b]
theorem look_made (l : List (Int × Int)) (a : Int) : lookF (madeL l) a = madeF l a := look_fold l [] _ (fun _ => rfl) a
theorem madeL_le (l : List (Int × Int)) : ∀ i, (madeL (l.take i)).length ≤ i
  | 0 => by simp [madeL]
  | i + 1 => by
    have ih := madeL_le l i
    rw [List.take_add_one]
    cases h : l[i]? with
    | none => simp only [Option.toList_none, List.append_nil]; omega
    | some x =>
      simp only [Option.toList_some]
      rw [madeL_snoc]
      have := (put_length x.1 x.2 (madeL (l.take i))).2
      omega

/-- A new memory of the reference's. -/
def RNewOut (w : World) (L : List (Int × Int)) (e : Ending) (w' : World) : Prop :=
  ∃ r, e = .returned (.pointer (some ⟨r, 0, none⟩)) ∧ RefIs w.heap.size w' r L ∧ Below w.heap.size w w'
theorem RNewOut.mk {w w' : World} {L : List (Int × Int)} {r : Nat} (h1 : RefIs w.heap.size w' r L) (h2 : Below w.heap.size w w') : RNewOut w L (.returned (.pointer (some ⟨r, 0, none⟩))) w' := ⟨r, rfl, h1, h2⟩
theorem RefIs.fresh (w : World) : RefIs w.heap.size (w.alloc (.cells #[.slice none 0 0] 53)) w.heap.size [] :=
  ⟨⟨_, heap_alloc_new w _, World.ownsRow_nil _ _ _ _⟩, Nat.le_refl _, by simp, fun x hx => by simp at hx⟩

set_option maxRecDepth 100000 in
set_option maxHeartbeats 4000000 in
theorem rnew_is {w : World} {A : Option Addr} {c : Nat} {l : List (Int × Int)} (h : CellsAt w A l) (hlc : l.length ≤ c) (hcm : c ≤ maxLen) (hn : l.length ≤ 100000) :
    Calls Try.prog 10 #[.slice A l.length c] w (RNewOut w (madeL l)) := by
  have H := Lib.hid h
  have hbd := fun W => (run_build (P := Try.prog) W 53 #[] #[.slice none 0 0] (by kernel_rfl))
  have HF := Lib.hid (And.intro (RefIs.fresh w) ((Below.refl w.heap.size w).alloc (Nat.le_refl _) (.cells #[.slice none 0 0] 53)))
  clear h
  go_enter Try.func10, Try.ntmps10
  go_wp2_with fail
  generalize w.alloc (.cells #[.slice none 0 0] 53) = w1 at HF ⊢
  clear hbd
  go_loopg [4] (l.length + 1) (fun k vi wr => ∃ i : Nat, vi = .int .i64 i ∧ i ≤ l.length ∧ l.length + 1 ≤ i + k ∧ Hid (RefIs w.heap.size wr w.heap.size (madeL (l.take i)) ∧ Below w.heap.size w wr))
  case atStart => exact ⟨0, rfl, Nat.zero_le _, by omega, HF⟩
  case round =>
    obtain ⟨i, rfl, hi, hk, HI⟩ := hrel
    by_cases hlt : i < l.length
    · have hlti : (i : Int) < l.length := by omega
      have hic : (i : Int) < c := by omega
      obtain ⟨x, hx⟩ : ∃ x, l[i]? = some x := ⟨_, List.getElem?_eq_getElem hlt⟩
      obtain ⟨g, o, rfl, hg, e0, e1⟩ := (H.out.next HI.out.2).at_ i x hx
      obtain ⟨x0, x1, x2, x3⟩ := H.out.ok x (List.mem_of_getElem? hx)
      have hml := madeL_le l i
      have HP := Lib.hid (fun W (q : Below wr.heap.size wr W) => rput_is (HI.out.1.next q) x.1 x.2 x0 x1 x2 x3 (by omega))
      have HT : Hid (madeL (l.take (i + 1)) = putL (madeL (l.take i)) x.1 x.2) := Lib.hid (by
        rw [List.take_add_one, hx]
        exact madeL_snoc _ _)
      clear hx x0 x1 x2 x3
      go_wp2_with fail
      go_still_tail 11, (by kernel_rfl)
      change wpList _ _ _ _ _ wr.drew
      have hdw : Below wr.heap.size wr wr.drew := (Below.refl _ _).drew
      generalize wr.drew = wq at hdw ⊢
      have HQ := Lib.hid (And.intro (HP.out wq hdw) (HI.out.2.trans (hdw.mono HI.out.2.size)))
      clear hdw
      go_wp2_with (go_at_call 14; refine HQ.out.1.mono ?_; rintro e w3 ⟨rfl, q1, q2⟩)
      have HX : Hid (RefIs w.heap.size w3 w.heap.size (madeL (l.take (i + 1))) ∧ Below w.heap.size w w3) := Lib.hid ⟨by rw [HT.out]; exact q1, HQ.out.2.trans q2⟩
      clear q1 q2
      go_roundg (l.length - i)
      case measure => omega
      case rel => exact ⟨i + 1, by go_num, by omega, by omega, HX⟩
    · have hlti : ¬ (i : Int) < l.length := by omega
      obtain rfl : i = l.length := by omega
      go_wp2_with fail
      go_ret
      exact RNewOut.mk (by have := HI.out.1; rwa [List.take_length] at this) HI.out.2
end Go.Proofs.Yticfffndciddgaa
