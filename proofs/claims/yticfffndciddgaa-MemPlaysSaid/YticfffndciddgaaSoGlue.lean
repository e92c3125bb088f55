/-
  Plain facts on parts of an array: what a sort's round owes, and what it leaves to do. No program's contract.
-/
import Derived.Test.YticfffndciddgaaSoBase
import Derived.Sort.LotD2
namespace Go.Proofs.Yticfffndciddgaa
open Go.RowKit Go.Sort

theorem glue_eq {a b p mid : Nat} {d3 d4 : Array Int} (ha0 : 0 < a) (hb : b ≤ d3.size) (hB : Sort.Below ltInt a b d3) (hnl : ltInt d3[a - 1]! d3[p]! = false)
    (h1 : a < mid) (h2 : mid ≤ b) (hperm : PermIn a b d3 d4) (hle : ∀ i, a ≤ i → i < mid → ltInt d3[p]! d4[i]! = false) (hgt : ∀ i, mid ≤ i → i < b → ltInt d3[p]! d4[i]! = true) :
    Sort.Below ltInt mid b d4 ∧ ∀ R, PermIn mid b d4 R → SortedIn ltInt mid b R → PermIn a b d3 R ∧ SortedIn ltInt a b R := by
  have hge : ∀ i, a ≤ i → i < b → ltInt d4[i]! d3[p]! = false :=
    permIn_all d3 d4 a b (fun x => ltInt x d3[p]! = false) hb hperm (fun i h3 h4 => by
      rcases hB with h0 | h0
      · omega
      · exact swo_ltInt.ntrans _ _ _ (h0 i h3 h4) hnl)
  have hb4 : b ≤ d4.size := by rw [hperm.1]; exact hb
  refine ⟨.inr fun i h3 h4 => ?_, fun R hR hs => ⟨permIn_trans _ _ _ _ _ hperm (permIn_mono _ _ mid b a b (by omega) (Nat.le_refl _) hb4 hR), ?_⟩⟩
  · exact swo_ltInt.ntrans _ d3[p]! _ (SWO.asymm swo_ltInt (hgt i h3 h4)) (hle (mid - 1) (by omega) (by omega))
  · refine sorted_glue_eq swo_ltInt d3[p]! hs (fun i h3 h4 => ?_) (fun i h3 h4 => ?_) (permIn_all d4 R mid b (fun x => ltInt d3[p]! x = true) hb4 hR hgt)
    · rw [hR.2.1 i (.inl h4)]; exact hle i h3 h4
    · rw [hR.2.1 i (.inl h4)]; exact hge i h3 (by omega)

section
variable {a b mid : Nat} {d3 d4 L R : Array Int}
theorem glue_part_left (hb : b ≤ d3.size) (h1 : a ≤ mid) (h2 : mid < b) (hperm : PermIn a b d3 d4) (hlo : ∀ i, a ≤ i → i < mid → ltInt d4[i]! d4[mid]! = true) (hhi : ∀ i, mid < i → i < b → ltInt d4[i]! d4[mid]! = false)
    (hL : PermIn a mid d4 L) (hsL : SortedIn ltInt a mid L) : Sort.Below ltInt (mid + 1) b L ∧ ∀ R, PermIn (mid + 1) b L R → SortedIn ltInt (mid + 1) b R → PermIn a b d3 R ∧ SortedIn ltInt a b R := by
  have hb4 : b ≤ d4.size := by rw [hperm.1]; exact hb
  have hbL : b ≤ L.size := by rw [hL.1]; exact hb4
  have eL : ∀ i, mid ≤ i → L[i]! = d4[i]! := fun i hi => hL.2.1 i (.inr hi)
  have lL := permIn_all d4 L a mid (fun x => ltInt x d4[mid]! = true) (by omega) hL hlo
  refine ⟨.inr fun i h3 h4 => by rw [Nat.add_sub_cancel, eL i (by omega), eL mid (Nat.le_refl _)]; exact hhi i (by omega) h4, fun R hR hsR => ⟨?_, ?_⟩⟩
  · exact permIn_trans _ _ _ _ _ hperm (permIn_trans _ _ _ _ _ (permIn_mono _ _ a mid a b (Nat.le_refl _) (by omega) hb4 hL) (permIn_mono _ _ (mid + 1) b a b (by omega) (Nat.le_refl _) hbL hR))
  · have eR : ∀ i, i ≤ mid → R[i]! = L[i]! := fun i hi => hR.2.1 i (.inl (by omega))
    have hR2 := permIn_all L R (mid + 1) b (fun x => ltInt x d4[mid]! = false) hbL hR (fun i h3 h4 => by rw [eL i (by omega)]; exact hhi i (by omega) h4)
    refine sorted_glue swo_ltInt (SortedIn.congr hsL (fun i _ h4 => eR i (by omega))) hsR (fun i h3 h4 => ?_) (fun i h3 h4 => ?_)
    · rw [eR i (by omega), eR mid (Nat.le_refl _), eL mid (Nat.le_refl _)]; exact lL i h3 h4
    · rw [eR mid (Nat.le_refl _), eL mid (Nat.le_refl _)]; exact hR2 i (by omega) h4
theorem glue_part_right (hb : b ≤ d3.size) (h1 : a ≤ mid) (h2 : mid < b) (hB : Sort.Below ltInt a b d3) (hperm : PermIn a b d3 d4) (hlo : ∀ i, a ≤ i → i < mid → ltInt d4[i]! d4[mid]! = true) (hhi : ∀ i, mid < i → i < b → ltInt d4[i]! d4[mid]! = false)
    (hL : PermIn (mid + 1) b d4 L) (hsL : SortedIn ltInt (mid + 1) b L) : Sort.Below ltInt a mid L ∧ ∀ R, PermIn a mid L R → SortedIn ltInt a mid R → PermIn a b d3 R ∧ SortedIn ltInt a b R := by
  have hb4 : b ≤ d4.size := by rw [hperm.1]; exact hb
  have hbL : b ≤ L.size := by rw [hL.1]; exact hb4
  have eL : ∀ i, i ≤ mid → L[i]! = d4[i]! := fun i hi => hL.2.1 i (.inl (by omega))
  have lL := permIn_all d4 L (mid + 1) b (fun x => ltInt x d4[mid]! = false) hb4 hL (fun i h3 h4 => hhi i (by omega) h4)
  have hB4 := Below.perm hB hb hperm
  refine ⟨?_, fun R hR hsR => ⟨?_, ?_⟩⟩
  · rcases hB4 with h0 | h0
    · exact .inl h0
    · refine .inr fun i h3 h4 => ?_
      rw [eL i (by omega), eL (a - 1) (by omega)]
      exact h0 i h3 (by omega)
  · exact permIn_trans _ _ _ _ _ hperm (permIn_trans _ _ _ _ _ (permIn_mono _ _ (mid + 1) b a b (by omega) (Nat.le_refl _) hb4 hL) (permIn_mono _ _ a mid a b (Nat.le_refl _) (by omega) hbL hR))
  · have eR : ∀ i, mid ≤ i → R[i]! = L[i]! := fun i hi => hR.2.1 i (.inr (by omega))
    have hR2 := permIn_all L R a mid (fun x => ltInt x d4[mid]! = true) (by omega) hR (fun i h3 h4 => by rw [eL i (by omega)]; exact hlo i h3 h4)
    refine sorted_glue swo_ltInt hsR (SortedIn.congr hsL (fun i h3 _ => eR i (by omega))) (fun i h3 h4 => ?_) (fun i h3 h4 => ?_)
    · rw [eR mid (Nat.le_refl _), eL mid (Nat.le_refl _)]; exact hR2 i h3 h4
    · rw [eR i (by omega), eR mid (Nat.le_refl _), eL mid (Nat.le_refl _)]; exact lL i (by omega) h4
end
theorem below_left {a b mid : Nat} {d3 d4 : Array Int} (hb : b ≤ d3.size) (h2 : mid < b) (hB : Sort.Below ltInt a b d3) (hperm : PermIn a b d3 d4) : Sort.Below ltInt a mid d4 := Below.mono (Below.perm hB hb hperm) (by omega)
theorem below_right {b mid : Nat} {d4 : Array Int} (hhi : ∀ i, mid < i → i < b → ltInt d4[i]! d4[mid]! = false) : Sort.Below ltInt (mid + 1) b d4 := .inr fun i h3 h4 => by rw [Nat.add_sub_cancel]; exact hhi i (by omega) h4

/-- Where the sort of the part from a0 to b0 of d stands: only the part from a to b is left to sort. -/
structure Pq (B : Nat) (w0 : World) (g o a0 b0 : Nat) (d : Array Int) (a b : Nat) (dk : Array Int) (w : World) : Prop where
  cont : ∀ R, PermIn a b dk R → SortedIn ltInt a b R → PermIn a0 b0 d R ∧ SortedIn ltInt a0 b0 R
  low : Sort.Below ltInt a b dk
  srt : Srt B w0 g o dk w
  size : dk.size = d.size
theorem Pq.perm {B g o a0 b0 a b : Nat} {w0 w w' : World} {d dk dk' : Array Int} (h : Pq B w0 g o a0 b0 d a b dk w) (hb : b ≤ d.size) (hp : PermIn a b dk dk') (hs : Srt B w0 g o dk' w') : Pq B w0 g o a0 b0 d a b dk' w' :=
  ⟨fun R h1 h2 => h.cont R (permIn_trans _ _ _ _ _ hp h1) h2, Below.perm h.low (by rw [h.size]; exact hb) hp, hs, hp.1.trans h.size⟩
theorem Pq.draw {B g o a0 b0 a b : Nat} {w0 w : World} {d dk : Array Int} (h : Pq B w0 g o a0 b0 d a b dk w) (n : Nat) : Pq B w0 g o a0 b0 d a b dk (w.drewN n) := ⟨h.cont, h.low, h.srt.drew n, h.size⟩
/-- Only a smaller part is left. -/
theorem Pq.less {B g o a0 b0 a b a' b' : Nat} {w0 w w' : World} {d dk dk' : Array Int} (h : Pq B w0 g o a0 b0 d a b dk w) (hl : Sort.Below ltInt a' b' dk' ∧ ∀ R, PermIn a' b' dk' R → SortedIn ltInt a' b' R → PermIn a b dk R ∧ SortedIn ltInt a b R) (hs : Srt B w0 g o dk' w') (hz : dk'.size = dk.size) :
    Pq B w0 g o a0 b0 d a' b' dk' w' :=
  ⟨fun R h1 h2 => h.cont R (hl.2 R h1 h2).1 (hl.2 R h1 h2).2, hl.1, hs, hz.trans h.size⟩
end Go.Proofs.Yticfffndciddgaa
