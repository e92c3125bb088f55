/-
  The program's memory and the reference's, side by side: what they have in common, and how it is kept. No condition.
-/
import Derived.Test.YticfffndciddgaaMeAwake
import Derived.Test.YticfffndciddgaaMeLight
import Derived.Test.YticfffndciddgaaMeRCells
namespace Go.Proofs.Yticfffndciddgaa
open Go.RowKit Go.Maps

theorem MemIs.under {w w' : World} {p b n : Nat} {f : Int → Int} (h : MemIs w p b n f) {B : Nat} (hb : Below B w w') (hpB : p < B) (hbB : b < B) : MemIs w' p b n f := by
  refine ⟨(hb.cell (p := ⟨p, 0, none⟩) hpB).trans h.cell, ?_, h.byte⟩
  obtain ⟨D, ⟨es, clock, h1, h3⟩, h2⟩ := h.map
  exact ⟨D, ⟨es, clock, (hb.block b hbB).trans h1, h3⟩, h2⟩

/-- The bytes that the reference's Put lays, one behind the other. -/
def layL (g : Nat → Int) (L : List (Int × Int)) (a : Int) : Nat → List (Int × Int)
  | 0 => L
  | k + 1 => putL (layL g L a k) (adr a k) (g k)
theorem layL_len (g : Nat → Int) (L : List (Int × Int)) (a : Int) : ∀ k, (layL g L a k).length ≤ L.length + k
  | 0 => Nat.le_refl _
  | k + 1 => by
    have h := layL_len g L a k
    have := (put_length (adr a k) (g k) (layL g L a k)).2
    simp only [layL]
    omega
theorem look_lay (g : Nat → Int) (L : List (Int × Int)) (f : Int → Int) (a : Int) (h : ∀ x, lookF L x = f x) : ∀ k x, lookF (layL g L a k) x = laidF g f a k x
  | 0, x => h x
  | k + 1, x => by
    simp only [layL, laidF, look_put, upd]
    rw [look_lay g L f a h k x]

/-- Both memories hold the same. -/
structure Both (w0 : World) (B p b r T s : Nat) (f : Int → Int) (L : List (Int × Int)) (w : World) : Prop where
  m : MemIs w p b s f
  r : RefIs B w r L
  look : ∀ x, lookF L x = f x
  below : Below w0.heap.size w0 w
  s_le : s ≤ T
  L_le : L.length ≤ T
theorem Both.next {w0 : World} {B p b r T s : Nat} {f : Int → Int} {L : List (Int × Int)} {w w' : World} (h : Both w0 B p b r T s f L w) (hb : Below w.heap.size w w') : Both w0 B p b r T s f L w' :=
  ⟨h.m.next hb, h.r.next hb, h.look, h.below.trans (hb.mono h.below.size), h.s_le, h.L_le⟩
/-- Where the program's is turned first, and then the reference's. -/
theorem Both.turn {w0 : World} {B p b r T s T' s' : Nat} {f f' : Int → Int} {L L' : List (Int × Int)} {w w1 w2 : World} (h : Both w0 B p b r T s f L w) (hpB : p < B) (hbB : b < B) (h0b : w0.heap.size ≤ b) (h0B : w0.heap.size ≤ B)
    (m1 : MemIs w1 p b s' f') (g1 : w.grownBy w1 (some b)) (r2 : RefIs B w2 r L') (b2 : Below B w1 w2) (hl : ∀ x, lookF L' x = f' x) (hs : s' ≤ T') (hL : L'.length ≤ T') : Both w0 B p b r T' s' f' L' w2 :=
  ⟨m1.under b2 hpB hbB, r2, hl, (h.below.grown g1 h.below.size (fun k e => by injection e with e; omega)).trans (b2.mono h0B), hs, hL⟩
theorem Both.first {w0 : World} {B p b r T s : Nat} {f : Int → Int} {L : List (Int × Int)} {w w1 : World} (h : Both w0 B p b r T s f L w) (hbB : b < B) (g1 : w.grownBy w1 (some b)) : RefIs B w1 r L := h.r.kept g1 (fun k e => by injection e with e; omega)

/-- An act of the call's own. -/
def ActBlk (w : World) (g : Nat) (x : Act5) : Prop := w.heap[g]? = some (.cells #[.int .i64 x.k, .int .u32 x.a, .int .i64 x.n, .int .u32 x.v, .slice x.B x.bs.length x.c] 33)
theorem ActBlk.lt {w : World} {g : Nat} {x : Act5} (h : ActBlk w g x) : g < w.heap.size := (Array.getElem?_eq_some_iff.1 h).1
theorem ActBlk.cells {w : World} {g : Nat} {x : Act5} (h : ActBlk w g x) : w.cell? ⟨g, 0, none⟩ = some (.int .i64 x.k) ∧ w.cell? ⟨g, 1, none⟩ = some (.int .u32 x.a) ∧ w.cell? ⟨g, 2, none⟩ = some (.int .i64 x.n) ∧ w.cell? ⟨g, 3, none⟩ = some (.int .u32 x.v) ∧ w.cell? ⟨g, 4, none⟩ = some (.slice x.B x.bs.length x.c) := by
  unfold ActBlk at h
  simp [World.cell?, h]
theorem ActBlk.keep {w w' : World} {g : Nat} {x : Act5} (h : ActBlk w g x) (k : Keep w w') : ActBlk w' g x := k g _ _ (by decide) (by decide) h
theorem ActBlk.below {w w' : World} {g : Nat} {x : Act5} (h : ActBlk w g x) (k : Below w.heap.size w w') : ActBlk w' g x := h.keep (.of k)
theorem ActBlk.grown {w w' : World} {g b : Nat} {x : Act5} (h : ActBlk w g x) (k : w.grownBy w' (some b)) (hb : b ≠ g) : ActBlk w' g x := (k.block g h.lt (fun q => hb (by injection q with q; exact q.symm))).trans h
end Go.Proofs.Yticfffndciddgaa
