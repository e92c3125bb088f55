/-
  slices.Sorted of maps.Keys at uint32: the map's keys, rising. Condition: the map is the call's to read, and small.
-/
import Derived.Test.YticfffndciddgaaItKeys
import Derived.Test.YticfffndciddgaaSoSort
namespace Go.Proofs.Yticfffndciddgaa
open Go.RowKit Go.Maps Go.Sort

set_option maxRecDepth 100000 in
set_option maxHeartbeats 1000000 in
theorem keys_is (mb : Option Nat) (w : World) : Calls Try.prog 27 #[.map mb] w fun e w' => e = .returned (.func (.func 31) #[] #[.pointer (some ⟨w.heap.size, 0, none⟩)]) ∧ w' = w.alloc (.cells #[.map mb] 49) := by
  go_enter Try.func27, Try.ntmps27
  go_wp2
  go_ret
  exact ⟨rfl, rfl⟩

set_option maxRecDepth 100000 in
set_option maxHeartbeats 1000000 in
theorem collect_keys {H : Type} (m b nn : Nat) (D : DataW H) (hsz : Maps.size D ≤ 100000) (w : World) (hml : m < w.heap.size) (hm : w.cell? ⟨m, 0, none⟩ = some (.map (some b))) (hown : w.ownsMap Try.prog 24 (plainElem Try.prog 5) b nn D) :
    Calls Try.prog 29 #[.func (.func 31) #[] #[.pointer (some ⟨m, 0, none⟩)]] w fun r w' => ∃ (v : Value) (ss : List Int), r = .returned v ∧ AllKeys D ss ∧ w'.ownsRow w.heap.size 24 1 v ss.length (ss.map encU) ∧ (v = .slice none 0 0 ↔ ss = []) ∧ Below w.heap.size w w' := by
  have HC := Lib.hid (append_keys m b nn D hsz w hml hm hown)
  clear hown hm
  go_enter Try.func29, Try.ntmps29
  go_wp2_with fail
  refine HC.out.mono ?_
  rintro e w1 ⟨v, ss, rfl, h1, h2, h3, h4⟩
  have H := Lib.hid (And.intro h1 (And.intro h2 (And.intro h3 h4)))
  clear h1 h2 h3 h4
  go_wp2_with fail
  go_ret
  exact ⟨v, ss, rfl, H.out⟩

/-- What comes: the keys, rising, in memory of the call's own. -/
def SortedOut {H : Type} (D : DataW H) (w : World) (e : Ending) (w' : World) : Prop :=
  ∃ (A : Option Addr) (cap : Nat) (ss : List Int), e = .returned (.slice A ss.length cap) ∧ AllKeys D ss ∧ ss.Pairwise (· < ·) ∧ (∀ i x, ss[i]? = some x → ∃ g, A = some ⟨g, 0, none⟩ ∧ w.heap.size ≤ g ∧ w'.cell? ⟨g, i, none⟩ = some (encU x)) ∧ ss.length ≤ cap ∧ Below w.heap.size w w'

theorem srt_of_owns {B g cap : Nat} {w0 w : World} {ss : List Int} (h : w.ownsRow B 24 1 (.slice (some ⟨g, 0, none⟩) ss.length cap) ss.length (ss.map encU)) (hb : Below B w0 w) : Srt B w0 g 0 ss.toArray w := by
  rcases h.2 with ⟨q, _⟩ | ⟨g', cap', cur, q, hB, hg, _, _, _, hc⟩
  · cases q
  · injection q with q1 _ q3
    injection q1 with q1
    injection q1 with q1
    subst q1 q3
    refine ⟨fun t ht => ?_, fun t ht => ?_, hb, hB, (Array.getElem?_eq_some_iff.1 hg).1⟩
    · have ht' : t < ss.length := by simpa using ht
      have h1 : (cur.toList.take (ss.length * 1))[t]? = (ss.map encU)[t]? := by rw [hc]
      rw [List.getElem?_take_of_lt (by omega), List.getElem?_map, List.getElem?_eq_getElem ht'] at h1
      simp only [World.cell?, hg, Nat.zero_add]
      simpa [ht'] using h1
    · simp [World.frozen?, hg]

theorem rising_of {n : Nat} {ss : List Int} {d' : Array Int} (hn : n = ss.toArray.size) (hp : PermIn 0 n ss.toArray d') (hs : SortedIn ltInt 0 n d') (hnd : ss.Nodup) : d'.toList.Perm ss ∧ d'.toList.Pairwise (· < ·) := by
  subst hn
  have hz : d'.size = ss.toArray.size := hp.1
  have hperm : d'.toList.Perm ss := by
    have := hp.2.2
    rwa [show d'.extract 0 ss.toArray.size = d' by rw [← hz]; simp, show ss.toArray.extract 0 ss.toArray.size = ss.toArray by simp] at this
  refine ⟨hperm, ?_⟩
  have hnd' : d'.toList.Nodup := hperm.nodup_iff.2 hnd
  rw [List.pairwise_iff_getElem]
  intro i j hi hj hij
  have hi' : i < d'.size := by simpa using hi
  have hj' : j < d'.size := by simpa using hj
  have h1 := hs i j (Nat.zero_le _) hij (by omega)
  rw [getElem!_pos d' i hi', getElem!_pos d' j hj'] at h1
  have h2 : ¬ d'[j] < d'[i] := by simpa [ltInt] using h1
  have h3 : d'[i] ≠ d'[j] := fun q => by
    have := (List.nodup_iff_pairwise_ne.1 hnd')
    rw [List.pairwise_iff_getElem] at this
    exact this i j hi hj hij (by simpa using q)
  show d'.toList[i] < d'.toList[j]
  simp only [Array.getElem_toList]
  omega

set_option maxRecDepth 100000 in
set_option maxHeartbeats 1000000 in
theorem sorted_keys {H : Type} (m b nn : Nat) (D : DataW H) (hsz : Maps.size D ≤ 100000) (w : World) (hml : m < w.heap.size) (hm : w.cell? ⟨m, 0, none⟩ = some (.map (some b))) (hown : w.ownsMap Try.prog 24 (plainElem Try.prog 5) b nn D) :
    Calls Try.prog 26 #[.func (.func 31) #[] #[.pointer (some ⟨m, 0, none⟩)]] w (SortedOut D w) := by
  have HC := Lib.hid (collect_keys m b nn D hsz w hml hm hown)
  clear hown hm
  go_enter Try.func26, Try.ntmps26
  go_wp2_with fail
  refine HC.out.mono ?_
  rintro e w1 ⟨v, ss, rfl, h1, h2, h3, h4⟩
  by_cases hss : ss = []
  · have hv := h3.2 hss
    subst hss hv
    have H := Lib.hid (And.intro h1 h4)
    clear h1 h2 h3 h4
    go_wp2_with fail
    refine (sort_nil _).mono ?_
    rintro e w2 ⟨rfl, rfl⟩
    go_wp2_with fail
    go_ret
    exact ⟨none, 0, [], rfl, H.out.1, List.Pairwise.nil, fun i x hx => by simp at hx, Nat.le_refl _, H.out.2⟩
  · obtain ⟨g, cap, rfl, hle⟩ : ∃ g cap, v = .slice (some ⟨g, 0, none⟩) ss.length cap ∧ ss.length ≤ cap := by
      rcases h2.2 with ⟨_, q0⟩ | ⟨g, cap, cur, q1, _, _, q4, _⟩
      · exact absurd (List.eq_nil_of_length_eq_zero q0) hss
      · exact ⟨g, cap, q1, q4⟩
    have hlen := h1.2.2
    have hS := srt_of_owns h2 h4
    have hs := sort_is hS cap (by simp; omega)
    rw [show ss.toArray.size = ss.length by simp] at hs
    have H := Lib.hid (And.intro h1 hs)
    clear h1 h2 h3 h4 hS hs hlen
    go_wp2_with fail
    refine H.out.2.mono ?_
    rintro e w2 ⟨rfl, d', p1, p2, p3⟩
    have HR := Lib.hid (And.intro (rising_of (by simp) p1 p2 H.out.1.1) (And.intro p1.1 p3))
    clear p1 p2 p3
    go_wp2_with fail
    go_ret
    obtain ⟨⟨r1, r2⟩, r3, r4⟩ := HR.out
    have hl2 : d'.toList.length = ss.length := r1.length_eq
    refine ⟨some ⟨g, 0, none⟩, cap, d'.toList, by rw [hl2]; rfl, ⟨r1.nodup_iff.2 H.out.1.1, fun x => by rw [r1.mem_iff]; exact H.out.1.2.1 x, by rw [hl2]; exact H.out.1.2.2⟩, r2, fun i x hx => ⟨g, rfl, r4.base, ?_⟩, by omega, r4.below⟩
    have hi : i < d'.size := by
      have := (List.getElem?_eq_some_iff.1 hx).1
      simpa using this
    have := r4.cell i hi
    rw [Nat.zero_add] at this
    rw [this]
    have hx2 : d'[i]? = some x := by simpa using hx
    rw [getElem!_pos d' i hi]
    rw [Array.getElem?_eq_getElem hi] at hx2
    injection hx2 with hx2
    rw [hx2]
end Go.Proofs.Yticfffndciddgaa
