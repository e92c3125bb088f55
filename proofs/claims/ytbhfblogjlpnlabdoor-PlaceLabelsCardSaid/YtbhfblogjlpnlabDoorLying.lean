/-
  Where items lie, and the contract of the iterator that place.lying hands back. Conditions: numbers in their bounds; the items' and the sizes' cells are there.
-/
import Derived.Test.YtbhfblogjlpnlabDoorWrong
import Derived.RangeFuncNested
import Derived.RangeFuncBound
import Derived.RangeFuncCalls
import Derived.RangeFuncLeaves
import Derived.Shelf.Abstract
import Derived.Shelf.RegionOpen
import Derived.WalkKit
import Derived.OwnWalkIn
import Derived.TacticsInMore
import Derived.LoopNIn
import Derived.LoopIn
namespace Go.Proofs.YtbhfblogjlpnlabDoor
open Go.RowKit Go.Shelf
attribute [local go_sem] Oper.semAt_some

/-- The fifteen cells of an item. -/
structure ItAt (w : World) (b o : Nat) (t : Itm) : Prop where
  c0 : w.cell? ⟨b, o, none⟩ = some (.int .i64 t.K)
  c1 : w.cell? ⟨b, o + 1, none⟩ = some (.int .i64 t.L)
  c2 : w.cell? ⟨b, o + 2, none⟩ = some (.int .i64 t.C)
  c3 : w.cell? ⟨b, o + 3, none⟩ = some (.string t.nm)
  c4 : w.cell? ⟨b, o + 4, none⟩ = some (.int .i64 t.i0)
  c5 : w.cell? ⟨b, o + 5, none⟩ = some (.int .i64 t.i1)
  c6 : w.cell? ⟨b, o + 6, none⟩ = some (.int .i64 t.i2)
  c7 : w.cell? ⟨b, o + 7, none⟩ = some (.int .i64 t.i3)
  c8 : w.cell? ⟨b, o + 8, none⟩ = some (.int .i32 t.i4)
  c9 : w.cell? ⟨b, o + 9, none⟩ = some (.string t.sh)
  c10 : w.cell? ⟨b, o + 10, none⟩ = some (.int .i64 t.sz)
  c11 : w.cell? ⟨b, o + 11, none⟩ = some (.slice t.NA t.nl t.nc)
  c12 : w.cell? ⟨b, o + 12, none⟩ = some (.int .u32 t.num)
  c13 : w.cell? ⟨b, o + 13, none⟩ = some (.bool t.gr)
  c14 : w.cell? ⟨b, o + 14, none⟩ = some (.bool t.rv)
theorem ItAt.keep {w w' : World} {b o : Nat} {t : Itm} (h : ItAt w b o t) (hk : w'.heap[b]? = w.heap[b]?) : ItAt w' b o t :=
  ⟨(World.cell?_of_block hk).trans h.c0, (World.cell?_of_block hk).trans h.c1, (World.cell?_of_block hk).trans h.c2, (World.cell?_of_block hk).trans h.c3, (World.cell?_of_block hk).trans h.c4, (World.cell?_of_block hk).trans h.c5, (World.cell?_of_block hk).trans h.c6, (World.cell?_of_block hk).trans h.c7, (World.cell?_of_block hk).trans h.c8, (World.cell?_of_block hk).trans h.c9, (World.cell?_of_block hk).trans h.c10, (World.cell?_of_block hk).trans h.c11, (World.cell?_of_block hk).trans h.c12, (World.cell?_of_block hk).trans h.c13, (World.cell?_of_block hk).trans h.c14⟩

/-- n items lie there, below n₀. -/
def ItsIn (n₀ : Nat) (F : Nat → Itm) (w : World) (A : Option Addr) (n : Nat) : Prop := ∀ k, k < n → ∃ B O, A = some ⟨B, O, none⟩ ∧ B < n₀ ∧ ItAt w B (O + k * 15) (F k)
theorem ItsIn.below {n₀ : Nat} {F : Nat → Itm} {w w' : World} {A : Option Addr} {n : Nat} (h : ItsIn n₀ F w A n) (hb : Below n₀ w w') : ItsIn n₀ F w' A n := by
  intro k hk
  obtain ⟨B, O, hA, hB, hi⟩ := h k hk
  exact ⟨B, O, hA, hB, hi.keep (hb.block B hB)⟩
def SzsB (n₀ : Nat) (S : Nat → Int) (w : World) (A : Option Addr) (m : Nat) : Prop := ∀ j, j < m → ∃ B O, A = some ⟨B, O, none⟩ ∧ B < n₀ ∧ w.cell? ⟨B, O + j, none⟩ = some (.int .i64 (S j))
theorem SzsB.below {n₀ : Nat} {S : Nat → Int} {w w' : World} {A : Option Addr} {m : Nat} (h : SzsB n₀ S w A m) (hb : Below n₀ w w') : SzsB n₀ S w' A m := by
  intro j hj
  obtain ⟨B, O, hA, hB, hc⟩ := h j hj
  exact ⟨B, O, hA, hB, (hb.cell (p := ⟨B, O + j, none⟩) hB).trans hc⟩
theorem SzsB.in_ {n₀ : Nat} {S : Nat → Int} {w : World} {A : Option Addr} {m : Nat} (h : SzsB n₀ S w A m) : SzsIn S w A m := fun j hj => by
  obtain ⟨B, O, hA, _, hc⟩ := h j hj
  exact ⟨B, O, hA, hc⟩

/-- What is placed: items, what is said of their sizes, and the base. -/
structure Pl where
  F : Nat → Itm
  S : Nat → Int
  m : Nat
  n : Nat
  base : Int
def Pl.sizeAt (p : Pl) (k : Nat) : Int := sizeOf_ p.S p.m k
def Pl.at_ (p : Pl) : Nat → Int
  | 0 => p.base
  | k + 1 => p.at_ k + bytesN (p.F k) (p.sizeAt k) (p.at_ k) p.base
def Pl.by_ (p : Pl) (k : Nat) : Int := bytesN (p.F k) (p.sizeAt k) (p.at_ k) p.base
theorem Pl.at_succ (p : Pl) (k : Nat) : p.at_ (k + 1) = p.at_ k + p.by_ k := rfl
def Pl.wrong (p : Pl) (k : Nat) : Int := wrongN (p.F k) (p.at_ k) (p.by_ k) p.base
structure Pl.Ok (p : Pl) : Prop where
  b0 : 0 ≤ p.base
  b1 : p.base < 4294967296
  num : ∀ k, k < p.n → 0 ≤ (p.F k).num ∧ (p.F k).num < 4294967296
  nm : ∀ k, k < p.n → (p.F k).nm.size ≤ 4294967296
  few : p.n ≤ 4000

theorem bytesN_bounds (t : Itm) (size a base : Int) (n0 : 0 ≤ t.num) (n1 : t.num < 4294967296) (hs : t.nm.size ≤ 4294967296) (b0 : 0 ≤ base) (b1 : base < 4294967296) (_h0 : 0 ≤ a) :
    0 ≤ a + bytesN t size a base ∧ (a + bytesN t size a base ≤ a + 8589934592 ∨ a + bytesN t size a base ≤ 8589934592) := by
  unfold bytesN
  split
  · omega
  · split
    · split
      · omega
      · rename_i hz
        have := num_bits n0 a hz
        omega
    · split
      · omega
      · have h1 := fixedN_pos t
        have h2 := fixedN_le t hs
        omega
theorem Pl.bounds {p : Pl} (h : p.Ok) : ∀ k, k ≤ p.n → 0 ≤ p.at_ k ∧ p.at_ k ≤ 8589934592 * ((k : Int) + 1) := by
  intro k
  induction k with
  | zero => intro _; have h0 := h.b0; have h1 := h.b1; show 0 ≤ p.base ∧ p.base ≤ _; omega
  | succ k ih =>
    intro hk
    obtain ⟨i0, i1⟩ := ih (by omega)
    obtain ⟨n0, n1⟩ := h.num k (by omega)
    have hb := bytesN_bounds (p.F k) (p.sizeAt k) (p.at_ k) p.base n0 n1 (h.nm k (by omega)) h.b0 h.b1 i0
    show 0 ≤ p.at_ k + bytesN _ _ _ _ ∧ p.at_ k + bytesN _ _ _ _ ≤ _
    push_cast
    omega
theorem Pl.small {p : Pl} (h : p.Ok) {k : Nat} (hk : k < p.n) : 0 ≤ p.at_ k ∧ p.at_ k < 281474976710656 ∧ 0 ≤ p.at_ k + p.by_ k ∧ p.at_ k + p.by_ k < 281474976710656 ∧ -281474976710656 < p.by_ k ∧ p.by_ k < 281474976710656 := by
  have h1 := Pl.bounds h k (by omega)
  have h2 := Pl.bounds h (k + 1) (by omega)
  rw [p.at_succ] at h2
  have h3 := h.few
  push_cast at h2
  omega

/-- The first k places of n. -/
def upF (n : Nat) : Nat → List (Fin n)
  | 0 => []
  | k + 1 => if h : k < n then upF n k ++ [⟨k, h⟩] else upF n k
theorem upF_succ {n k : Nat} (h : k < n) : upF n (k + 1) = upF n k ++ [⟨k, h⟩] := by simp [upF, h]
theorem upF_length {n : Nat} : ∀ {k : Nat}, k ≤ n → (upF n k).length = k
  | 0, _ => rfl
  | k + 1, h => by rw [upF_succ (by omega), List.length_append, upF_length (by omega)]; rfl

/-- What a round that goes on keeps: what lay below n₀, the iterator's own boxes, and all items and extents. -/
def KpL (n₀ b : Nat) (W W' : World) : Prop := Below n₀ W W' ∧ ∀ k cs t z, W.heap[k]? = some (.cells cs t z) → (t = 89 ∨ t = 122 ∨ (b ≤ k ∧ k < b + 3)) → W'.heap[k]? = some (.cells cs t z)
theorem KpL.trans {n₀ b : Nat} {A B C : World} (h : KpL n₀ b A B) (h' : KpL n₀ b B C) : KpL n₀ b A C :=
  ⟨h.1.trans h'.1, fun k cs t z hk ht => h'.2 k cs t z (h.2 k cs t z hk ht) ht⟩
theorem grows_of {W W' : World} (h : Below W.heap.size W W') : W.grownBy W' none := ⟨h.os, h.tape, h.output, h.size, fun k hk _ => h.block k hk⟩

def encL (p : Pl) (x : Fin p.n) : Array Value := #[.int .i64 (x.1 : Int), .agg #[.int .i64 (p.at_ x.1), .int .i64 (p.by_ x.1)]]

set_option maxRecDepth 100000 in
set_option maxHeartbeats 8000000 in
theorem lying1_in (p : Pl) (hp : p.Ok) (nn : Nat) (hn : 3 ≤ nn) (l b n₀ : Nat) (hbn : n₀ ≤ b) (A : Option Addr) (cap : Nat) (As : Option Addr) (caps : Nat) (J Jx : List (Fin p.n) → World → Prop)
    (W : World) (hJ : ∀ s W W', J s W → W.grownBy W' none → J s W')
    (hY : ∀ pre x W, J pre W → pre.length < p.n → YieldAt Fence.wide (nn - 1) Tryd.prog l (encL p x) W fun e W' =>
      (e = .returned (.bool true) ∧ J (pre ++ [x]) W' ∧ KpL n₀ b W W') ∨ (e = .returned (.bool false) ∧ Jx (pre ++ [x]) W'))
    (h1 : Boxed W b 67 (.slice A p.n cap)) (h2 : Boxed W (b + 1) 68 (.slice As p.m caps)) (h3 : Boxed W (b + 2) 35 (.int .u32 p.base)) (hF : ItsIn n₀ p.F W A p.n) (hS : SzsB n₀ p.S W As p.m) (h0 : J [] W) :
    CallsIn Fence.wide nn Tryd.prog 74 #[.func (.yield l) #[] #[], .pointer (some ⟨b + 2, 0, none⟩), .pointer (some ⟨b, 0, none⟩), .pointer (some ⟨b + 1, 0, none⟩)] W fun e W' => (∃ v, e = .returned v) ∧
      ((∃ ys, ys = upF p.n p.n ∧ J ys W') ∨ (∃ pre, (∃ k, k ≤ p.n ∧ pre = upF p.n k) ∧ Jx pre W')) := by
  have c1 := h1.cell
  have c3 := h3.cell
  obtain ⟨b0, b1⟩ : 0 ≤ p.base ∧ p.base < 4294967296 := ⟨hp.b0, hp.b1⟩
  have hn1 : 1 ≤ nn - 1 := by omega
  refine callsIn_of_wp Tryd.func74 rfl trivial ?_ rfl
  simp only [Tryd.ntmps74, List.size_toArray, List.length_cons, List.length_nil, Nat.reduceAdd, Nat.reduceSub, Array.replicate_succ, Array.replicate_zero, List.push_toArray, List.append_toArray, List.nil_append, List.cons_append]
  gi_wp2
  clear c1 c3
  have HS := Lib.hid hS
  have HF := Lib.hid hF
  have HP := Lib.hid hp
  have HJ := Lib.hid hJ
  have HY := Lib.hid hY
  clear hS hF hp hJ hY
  gi_loopw [5, 14] (fun a i wr => ∃ k : Nat, k ≤ p.n ∧ i = .int .i64 k ∧ a = .int .i64 (p.at_ k) ∧ J (upF p.n k) wr ∧ Boxed wr b 67 (.slice A p.n cap) ∧ Boxed wr (b + 1) 68 (.slice As p.m caps) ∧ Boxed wr (b + 2) 35 (.int .u32 p.base) ∧ Below n₀ W wr)
    (fun _ i _ => p.n - (intOf i).toNat)
  case atStart => exact ⟨0, Nat.zero_le _, rfl, rfl, h0, h1, h2, h3, Below.refl _ _⟩
  case round =>
    obtain ⟨k, hk, rfl, rfl, hJs, g1, g2, g3, hnx⟩ := hrel
    by_cases hlt : k < p.n
    · obtain ⟨B, O, hA, hB, hit⟩ := (HF.out.below hnx) k hlt
      subst hA
      obtain ⟨c0, c1, c2, c3, c4, c5, c6, c7, c8, c9, c10, c11, c12, c13, c14⟩ := hit
      have d2 := g2.cell
      have d3 := g3.cell
      obtain ⟨s1, s2, s3, s4, s5, s6⟩ := Pl.small HP.out hlt
      obtain ⟨m0, m1⟩ := HP.out.num k hlt
      have hfew := HP.out.few
      have hnb : n₀ ≤ wr.heap.size := Nat.le_trans hbn (Nat.le_of_lt g1.lt)
      have hl2 : b + 1 < wr.heap.size := g2.lt
      have hl3 : b + 2 < wr.heap.size := g3.lt
      have hcase : (k < p.m ∧ p.sizeAt k = p.S k) ∨ (¬ k < p.m ∧ p.sizeAt k = 0) := by
        unfold Pl.sizeAt sizeOf_
        by_cases h : k < p.m
        · exact .inl ⟨h, if_pos h⟩
        · exact .inr ⟨h, if_neg h⟩
      have HST := Lib.hid (show J (upF p.n k) wr from hJs)
      have HB0 := Lib.hid hnx
      have G1 := Lib.hid g1
      have G2 := Lib.hid g2
      have G3 := Lib.hid g3
      clear hJs g1 g2 g3
      rcases hcase with ⟨hkm, hsk⟩ | ⟨hkm, hsk⟩
      case inl =>
        obtain ⟨B2, O2, hA2, hB2, hc2⟩ := (HS.out.below hnx) k hkm
        subst hA2
        have hl4 : B2 < wr.heap.size := by omega
        have hby : ∀ W', Calls Tryd.prog 75 #[.agg (p.F k).cs, .int .i64 (p.S k), .int .i64 (p.at_ k), .int .i64 p.base] W' fun e w' => e = .returned (.int .i64 (p.by_ k)) ∧ Below W'.heap.size W' w' := fun W' => by
          rw [← hsk]; exact bytes_any (p.F k) (p.sizeAt k) (p.at_ k) p.base s1 (by omega) m0 m1 b0 b1 W'
        have HBY := Lib.hid hby
        clear hsk hnx hby
        gi_wp2_with fail
        refine ⟨trivial, fun _ => by omega, (callsIn_wide.2 (HBY.out _)).mono ?_⟩
        rintro e w2 ⟨rfl, hb2⟩
        have hB2 := ((Below.refl wr.heap.size wr).alloc (Nat.le_refl _) (.cells (p.F k).cs 89)).trans (hb2.mono (by simp))
        have hB3 := hB2.alloc hB2.size (.cells #[.int .i64 (p.at_ k), .int .i64 (p.by_ k)] 122)
        obtain ⟨fn, tmps, assign, body, hy, hR⟩ := HY.out _ ⟨k, hlt⟩ (w2.alloc (.cells #[.int .i64 (p.at_ k), .int .i64 (p.by_ k)] 122)) (HJ.out _ _ _ HST.out (grows_of hB3)) (by rw [upF_length hk]; exact hlt)
        dsimp only [encL] at hy
        have HB3 := Lib.hid hB3
        clear hB3 hB2 hb2
        gi_wp2_with fail
        refine ⟨fun _ => by omega, hR.mono ?_⟩
        rintro e W3 (⟨rfl, hJ3, hk3⟩ | ⟨rfl, hJx3⟩)
        · have hX : Blk W3 w2.heap.size 122 #[.int .i64 (p.at_ k), .int .i64 (p.by_ k)] := hk3.2 _ _ _ _ (Blk.new w2 _ _) (.inr (.inl rfl))
          have e0 := hX.cell 0
          have e1 := hX.cell 1
          simp at e0 e1
          have g1 : Boxed W3 b _ _ := hk3.2 _ _ _ _ (G1.out.kept (grows_of HB3.out) (by simp)) (.inr (.inr ⟨by omega, by omega⟩))
          have g2 : Boxed W3 (b + 1) _ _ := hk3.2 _ _ _ _ (G2.out.kept (grows_of HB3.out) (by simp)) (.inr (.inr ⟨by omega, by omega⟩))
          have g3 : Boxed W3 (b + 2) _ _ := hk3.2 _ _ _ _ (G3.out.kept (grows_of HB3.out) (by simp)) (.inr (.inr ⟨by omega, by omega⟩))
          have hb4 : Below n₀ W W3 := (HB0.out.trans (HB3.out.mono hnb)).trans hk3.1
          have hn3 : n₀ ≤ W3.heap.size := Nat.le_trans hbn (Nat.le_of_lt g1.lt)
          gi_wp2_with fail
          refine ⟨trivial, fun _ => by omega, (callsIn_wide.2 (end_any (p.at_ k) (p.by_ k) _ (by omega) (by omega))).mono ?_⟩
          rintro e w4 ⟨rfl, rfl⟩
          gi_wp2
          go_roundw
          case rel => exact ⟨k + 1, by omega, by go_num, rfl, HJ.out _ _ _ (by rw [upF_succ hlt]; exact hJ3) (World.grownBy_alloc W3 _ none), g1.alloc _, g2.alloc _, g3.alloc _, hb4.alloc hn3 _⟩
          case measure => simp [intOf]; omega
        · gi_wp2
          refine bodyPost_ret (results_none rfl _ _ _) rfl ?_
          exact ⟨⟨_, rfl⟩, .inr ⟨_, ⟨k + 1, by omega, (upF_succ hlt).symm⟩, hJx3⟩⟩
      case inr =>
        have hkm' : (p.m : Int) ≤ k := by omega
        have hby : ∀ W', Calls Tryd.prog 75 #[.agg (p.F k).cs, .int .i64 0, .int .i64 (p.at_ k), .int .i64 p.base] W' fun e w' => e = .returned (.int .i64 (p.by_ k)) ∧ Below W'.heap.size W' w' := fun W' => by
          rw [← hsk]; exact bytes_any (p.F k) (p.sizeAt k) (p.at_ k) p.base s1 (by omega) m0 m1 b0 b1 W'
        have HBY := Lib.hid hby
        clear hsk hnx hby hkm
        gi_wp2_with fail
        refine ⟨trivial, fun _ => by omega, (callsIn_wide.2 (HBY.out _)).mono ?_⟩
        rintro e w2 ⟨rfl, hb2⟩
        have hB2 := ((Below.refl wr.heap.size wr).alloc (Nat.le_refl _) (.cells (p.F k).cs 89)).trans (hb2.mono (by simp))
        have hB3 := hB2.alloc hB2.size (.cells #[.int .i64 (p.at_ k), .int .i64 (p.by_ k)] 122)
        obtain ⟨fn, tmps, assign, body, hy, hR⟩ := HY.out _ ⟨k, hlt⟩ (w2.alloc (.cells #[.int .i64 (p.at_ k), .int .i64 (p.by_ k)] 122)) (HJ.out _ _ _ HST.out (grows_of hB3)) (by rw [upF_length hk]; exact hlt)
        dsimp only [encL] at hy
        have HB3 := Lib.hid hB3
        clear hB3 hB2 hb2
        gi_wp2_with fail
        refine ⟨fun _ => by omega, hR.mono ?_⟩
        rintro e W3 (⟨rfl, hJ3, hk3⟩ | ⟨rfl, hJx3⟩)
        · have hX : Blk W3 w2.heap.size 122 #[.int .i64 (p.at_ k), .int .i64 (p.by_ k)] := hk3.2 _ _ _ _ (Blk.new w2 _ _) (.inr (.inl rfl))
          have e0 := hX.cell 0
          have e1 := hX.cell 1
          simp at e0 e1
          have g1 : Boxed W3 b _ _ := hk3.2 _ _ _ _ (G1.out.kept (grows_of HB3.out) (by simp)) (.inr (.inr ⟨by omega, by omega⟩))
          have g2 : Boxed W3 (b + 1) _ _ := hk3.2 _ _ _ _ (G2.out.kept (grows_of HB3.out) (by simp)) (.inr (.inr ⟨by omega, by omega⟩))
          have g3 : Boxed W3 (b + 2) _ _ := hk3.2 _ _ _ _ (G3.out.kept (grows_of HB3.out) (by simp)) (.inr (.inr ⟨by omega, by omega⟩))
          have hb4 : Below n₀ W W3 := (HB0.out.trans (HB3.out.mono hnb)).trans hk3.1
          have hn3 : n₀ ≤ W3.heap.size := Nat.le_trans hbn (Nat.le_of_lt g1.lt)
          gi_wp2_with fail
          refine ⟨trivial, fun _ => by omega, (callsIn_wide.2 (end_any (p.at_ k) (p.by_ k) _ (by omega) (by omega))).mono ?_⟩
          rintro e w4 ⟨rfl, rfl⟩
          gi_wp2
          go_roundw
          case rel => exact ⟨k + 1, by omega, by go_num, rfl, HJ.out _ _ _ (by rw [upF_succ hlt]; exact hJ3) (World.grownBy_alloc W3 _ none), g1.alloc _, g2.alloc _, g3.alloc _, hb4.alloc hn3 _⟩
          case measure => simp [intOf]; omega
        · gi_wp2
          refine bodyPost_ret (results_none rfl _ _ _) rfl ?_
          exact ⟨⟨_, rfl⟩, .inr ⟨_, ⟨k + 1, by omega, (upF_succ hlt).symm⟩, hJx3⟩⟩
    · obtain rfl : k = p.n := by omega
      gi_wp2
      go_end0
      exact ⟨⟨_, rfl⟩, .inl ⟨_, rfl, hJs⟩⟩
end Go.Proofs.YtbhfblogjlpnlabDoor
