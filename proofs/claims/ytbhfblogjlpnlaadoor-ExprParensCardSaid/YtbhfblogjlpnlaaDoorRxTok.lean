/-
  The contract of the reference lexer's token. Condition: the string has a byte, and at most 65536.
-/
import Derived.Test.YtbhfblogjlpnlaaDoorRxNum
namespace Go.Proofs.YtbhfblogjlpnlaaDoor
open Go.RowKit

/-- What token answers: the token, how long it is, and a code (that counts where it is 0 long). -/
def RTok (w0 : World) (r : Tk) (e : Ending) (w' : World) : Prop := (match r with
  | .ok k t v n => ∃ code : Int, e = .returned (.tuple #[.agg #[.int .i64 k, .int .i64 0, .int .i64 0, .string (ba t), .int .u32 v, .int .i64 0], .int .i64 n, .int .i64 code])
  | .bad c => ∃ (k : Int) (t : ByteArray) (v : Int), e = .returned (.tuple #[.agg #[.int .i64 k, .int .i64 0, .int .i64 0, .string t, .int .u32 v, .int .i64 0], .int .i64 0, .int .i64 c])) ∧ Below w0.heap.size w0 w'

@[reducible] def zerosT : Obj := .cells #[.int .i64 0, .int .i64 0, .int .i64 0, .string ByteArray.empty, .int .u32 0, .int .i64 0] 39
/-- The result's cells, in every world behind it. -/
structure TokAt (w0 w : World) : Prop where
  f0 : w.cell? ⟨w0.heap.size, 0, none⟩ = some (.int .i64 0)
  f1 : w.cell? ⟨w0.heap.size, 1, none⟩ = some (.int .i64 0)
  f2 : w.cell? ⟨w0.heap.size, 2, none⟩ = some (.int .i64 0)
  f3 : w.cell? ⟨w0.heap.size, 3, none⟩ = some (.string ByteArray.empty)
  f4 : w.cell? ⟨w0.heap.size, 4, none⟩ = some (.int .u32 0)
  f5 : w.cell? ⟨w0.heap.size, 5, none⟩ = some (.int .i64 0)
  z0 : w.frozen? ⟨w0.heap.size, 0, none⟩ = false
  z1 : w.frozen? ⟨w0.heap.size, 1, none⟩ = false
  z2 : w.frozen? ⟨w0.heap.size, 2, none⟩ = false
  z3 : w.frozen? ⟨w0.heap.size, 3, none⟩ = false
  z4 : w.frozen? ⟨w0.heap.size, 4, none⟩ = false
  z5 : w.frozen? ⟨w0.heap.size, 5, none⟩ = false
theorem tokAt {w0 w : World} (h : Below (w0.heap.size + 1) (w0.alloc zerosT) w) : TokAt w0 w := by
  have g : ∀ i, w.cell? ⟨w0.heap.size, i, none⟩ = (w0.alloc zerosT).cell? ⟨w0.heap.size, i, none⟩ := fun i => h.cell (p := ⟨w0.heap.size, i, none⟩) (by simp)
  have z : ∀ i, w.frozen? ⟨w0.heap.size, i, none⟩ = (w0.alloc zerosT).frozen? ⟨w0.heap.size, i, none⟩ := fun i => h.frozen (p := ⟨w0.heap.size, i, none⟩) (by simp)
  refine ⟨(g 0).trans ?_, (g 1).trans ?_, (g 2).trans ?_, (g 3).trans ?_, (g 4).trans ?_, (g 5).trans ?_, (z 0).trans ?_, (z 1).trans ?_, (z 2).trans ?_, (z 3).trans ?_, (z 4).trans ?_, (z 5).trans ?_⟩ <;> simp
theorem below_of_tok {w0 w : World} (h : Below (w0.heap.size + 1) (w0.alloc zerosT) w) : Below w0.heap.size w0 w := ((Below.refl _ _).alloc (Nat.le_refl _) _).trans (h.mono (by omega))

theorem bdrew {B : Nat} {w w' : World} (h : Below B w w') {n : Nat} : Below B w (w'.drewN n) := ⟨h.os, h.tape, h.output, h.size, h.block⟩

theorem tok_at (s : ByteArray) (h0 : 0 < s.size) : tokR s.data.toList = tokC (s[0]'h0) (s.data.toList.drop 1) := by
  rw [List.drop_one]
  have hc := bytes_cons s h0
  generalize s.data.toList = l at *
  rw [hc]
  rfl

theorem ba_take (s : ByteArray) (n : Nat) : s.extract 0 n = ba (s.data.toList.take n) := ba_eq (by rw [ext_take, ba_list])

section
variable (s : ByteArray) (w : World) (hs : s.size ≤ 65536) (h0 : 0 < s.size)
include hs

set_option maxRecDepth 100000 in
set_option maxHeartbeats 1000000 in
theorem tok_head (hh : isHead (s[0]'h0) = true) : Calls Tryd.prog 38 #[.string s] w (RTok w (tokR s.data.toList)) := by
  have hr : tokR s.data.toList = .ok 1 (s.data.toList.take (pre goOnName s.data.toList)) 0 (pre goOnName s.data.toList) := by
    rw [tok_at s h0]
    unfold tokC
    rw [if_pos hh, List.drop_one, ← bytes_cons s h0]
  have hi := fun W => in_any (s[0]'h0) setHead W (by decide)
  rw [in_head, hh] at hi
  have hw := fun W => while_any s setName W (by simp [maxLen]; omega) (by decide)
  rw [run_pre _ _ _ in_name] at hw
  have hp := pre_le goOnName s.data.toList
  rw [len_size] at hp
  have hb := ba_take s (pre goOnName s.data.toList)
  have h0i : (0 : Int) < s.size := by omega
  rw [hr]
  generalize pre goOnName s.data.toList = n at *
  have HB := Lib.hid hb
  have HI := Lib.hid hi
  have HW := Lib.hid hw
  have hpi : (n : Int) ≤ s.size := by omega
  clear hh hr hi hw hb
  go_enter Tryd.func38, Tryd.ntmps38
  go_wp2_with fail
  refine (HI.out _).mono ?_
  rintro e w' ⟨rfl, rfl⟩
  go_wp2_with fail
  refine (HW.out _).mono ?_
  rintro e w' ⟨rfl, rfl⟩
  go_wp2_with fail
  refine bodyPost_ret (v := .tuple #[.agg #[.int .i64 1, .int .i64 0, .int .i64 0, .string (s.extract 0 n), .int .u32 0, .int .i64 0], .int .i64 n, .int .i64 0]) (by simp [results, Tryd.results38, go_sem]) rfl ⟨⟨0, by rw [HB.out]⟩, (Below.refl _ _).alloc (Nat.le_refl _) _⟩

set_option maxRecDepth 100000 in
set_option maxHeartbeats 1000000 in
theorem tok_dig (hh : isHead (s[0]'h0) = false) (hd : isDig (s[0]'h0) = true) : Calls Tryd.prog 38 #[.string s] w (RTok w (tokR s.data.toList)) := by
  have hr : tokR s.data.toList = match numeral s.data.toList with
      | some (v, n) => .ok 5 [] v n
      | none => .bad 3 := by
    rw [tok_at s h0]
    unfold tokC
    rw [if_neg (by rw [hh]; decide), if_pos hd, List.drop_one, ← bytes_cons s h0]
    rfl
  have hi := fun W => in_any (s[0]'h0) setHead W (by decide)
  rw [in_head, hh] at hi
  have hi2 := fun W => in_any (s[0]'h0) setDig W (by decide)
  rw [in_dig, hd] at hi2
  have hn := fun W => numeral_any s W hs h0
  have h0i : (0 : Int) < s.size := by omega
  rw [hr]
  generalize numeral s.data.toList = r at *
  have HI := Lib.hid hi
  have HI2 := Lib.hid hi2
  have HN := Lib.hid hn
  clear hh hd hr hi hi2 hn
  go_enter Tryd.func38, Tryd.ntmps38
  go_wp2_with fail
  refine (HI.out _).mono ?_
  rintro e w' ⟨rfl, rfl⟩
  go_wp2_with fail
  refine (HI2.out _).mono ?_
  rintro e w' ⟨rfl, rfl⟩
  go_wp2_with fail
  refine (HN.out _).mono ?_
  rintro e w' ⟨hu, rfl⟩
  cases r with
  | none =>
    unfold NumOut at hu
    subst hu
    go_wp2_with fail
    exact bodyPost_ret (v := .tuple #[.agg #[.int .i64 5, .int .i64 0, .int .i64 0, .string ⟨#[]⟩, .int .u32 0, .int .i64 0], .int .i64 0, .int .i64 3]) (by simp [results, Tryd.results38, go_sem]) rfl ⟨⟨5, _, 0, rfl⟩, (Below.refl _ _).alloc (Nat.le_refl _) _⟩
  | some x =>
    obtain ⟨v, n⟩ := x
    unfold NumOut at hu
    subst hu
    go_wp2_with fail
    exact bodyPost_ret (v := .tuple #[.agg #[.int .i64 5, .int .i64 0, .int .i64 0, .string ⟨#[]⟩, .int .u32 v, .int .i64 0], .int .i64 n, .int .i64 3]) (by simp [results, Tryd.results38, go_sem]) rfl ⟨⟨3, rfl⟩, (Below.refl _ _).alloc (Nat.le_refl _) _⟩

set_option maxRecDepth 100000 in
set_option maxHeartbeats 1000000 in
theorem tok_char (hh : isHead (s[0]'h0) = false) (hd : isDig (s[0]'h0) = false) (hc : (s[0]'h0) = 39) : Calls Tryd.prog 38 #[.string s] w (RTok w (tokR s.data.toList)) := by
  have hr : tokR s.data.toList = match unit 39 (s.data.toList.drop 1) with
      | some (b, n) => if (s.data.toList.drop 1).getD n 0 = 39 ∧ n < (s.data.toList.drop 1).length then .ok 5 [] b.toNat (n + 2) else .bad 3
      | none => .bad 3 := by
    rw [tok_at s h0]
    unfold tokC
    rw [if_neg (by rw [hh]; decide), if_neg (by rw [hd]; decide), if_pos hc]
    rfl
  have hi := fun W => in_any (s[0]'h0) setHead W (by decide)
  rw [in_head, hh] at hi
  have hi2 := fun W => in_any (s[0]'h0) setDig W (by decide)
  rw [in_dig, hd] at hi2
  have hq := fun W => quoted_any (s.extract 1 s.size) 39 W (by simp [maxLen]; omega)
  rw [ext_drop] at hq
  have h0i : (0 : Int) < s.size := by omega
  have h1i : (1 : Int) ≤ s.size := by omega
  have h39 : (((s[0]'h0).toNat : Int) == 39) = true := by rw [hc]; decide
  have hrest : ∀ n (h : n < (s.extract 1 s.size).size), (s.data.toList.drop 1).getD n 0 = (s.extract 1 s.size)[n]'h := fun n h => by rw [← ext_drop]; exact at_getD _ n h
  have hlen : (s.data.toList.drop 1).length = (s.extract 1 s.size).size := by rw [← ext_drop, len_size]
  have hul := fun b n (h : unit 39 (s.data.toList.drop 1) = some (b, n)) => unit_len h
  rw [hr]
  rw [hlen] at *
  have hxs : (s.extract 1 s.size).size = s.size - 1 := by simp
  generalize hun : unit 39 (s.data.toList.drop 1) = r at *
  have HI := Lib.hid hi
  have HI2 := Lib.hid hi2
  have HQ := Lib.hid hq
  have HRS := Lib.hid hrest
  clear hh hd hr hi hi2 hq hc hlen hun hrest
  cases r with
  | none =>
    clear hul
    go_enter Tryd.func38, Tryd.ntmps38
    go_wp2_with fail
    refine (HI.out _).mono ?_
    rintro e w' ⟨rfl, rfl⟩
    go_wp2_with fail
    refine (HI2.out _).mono ?_
    rintro e w' ⟨rfl, rfl⟩
    go_wp2_with fail
    refine (HQ.out _).mono ?_
    rintro e w' ⟨hu, hd⟩
    unfold UnitOut unitB unitN at hu
    subst hu
    obtain ⟨q, rfl⟩ := hd
    go_wp2_with fail
    exact bodyPost_ret (v := .tuple #[.agg #[.int .i64 0, .int .i64 0, .int .i64 0, .string ⟨#[]⟩, .int .u32 0, .int .i64 0], .int .i64 0, .int .i64 3]) (by simp [results, Tryd.results38, go_sem]) rfl ⟨⟨0, _, 0, rfl⟩, (((((((bdrew ((Below.refl _ _).alloc (Nat.le_refl _) _)).setCell (by simp) _).setCell (by simp) _).setCell (by simp) _).setCell (by simp) _).setCell (by simp) _).setCell (by simp) _)⟩
  | some x =>
    obtain ⟨b, n⟩ := x
    obtain ⟨n1, n2⟩ := hul b n rfl
    clear hul
    have hn1 : (0 : Int) < n := by omega
    simp only
    by_cases hlt : n < (s.extract 1 s.size).size
    · have hlti : (n : Int) < (s.size : Int) - 1 := by omega
      have hlt3 : (n : Int) < ((s.extract 1 s.size).size : Int) := by omega
      rw [HRS.out n hlt]
      by_cases hq : ((s.extract 1 s.size)[n]'hlt) = 39
      · have hq2 : ((((s.extract 1 s.size)[n]'hlt).toNat : Int) == 39) = true := by rw [hq]; decide
        rw [if_pos ⟨hq, hlt⟩]
        clear hq
        go_enter Tryd.func38, Tryd.ntmps38
        go_wp2_with fail
        refine (HI.out _).mono ?_
        rintro e w' ⟨rfl, rfl⟩
        go_wp2_with fail
        refine (HI2.out _).mono ?_
        rintro e w' ⟨rfl, rfl⟩
        go_wp2_with fail
        refine (HQ.out _).mono ?_
        rintro e w' ⟨hu, hd⟩
        unfold UnitOut unitB unitN at hu
        subst hu
        obtain ⟨q, rfl⟩ := hd
        go_wp2_with fail
        exact bodyPost_ret (v := .tuple #[.agg #[.int .i64 5, .int .i64 0, .int .i64 0, .string ⟨#[]⟩, .int .u32 b.toNat, .int .i64 0], .int .i64 ((n : Int) + 2), .int .i64 0]) (by simp [results, Tryd.results38, go_sem]; have hb := b.toNat_lt; omega) rfl ⟨⟨0, rfl⟩, (((((((bdrew ((Below.refl _ _).alloc (Nat.le_refl _) _)).setCell (by simp) _).setCell (by simp) _).setCell (by simp) _).setCell (by simp) _).setCell (by simp) _).setCell (by simp) _)⟩
      · have hq2 : ((((s.extract 1 s.size)[n]'hlt).toNat : Int) == 39) = false := beq_eq_false_iff_ne.2 (fun e => hq ((nat_eq _ 39 (by omega)).1 e))
        rw [if_neg (fun h => hq h.1)]
        clear hq
        go_enter Tryd.func38, Tryd.ntmps38
        go_wp2_with fail
        refine (HI.out _).mono ?_
        rintro e w' ⟨rfl, rfl⟩
        go_wp2_with fail
        refine (HI2.out _).mono ?_
        rintro e w' ⟨rfl, rfl⟩
        go_wp2_with fail
        refine (HQ.out _).mono ?_
        rintro e w' ⟨hu, hd⟩
        unfold UnitOut unitB unitN at hu
        subst hu
        obtain ⟨q, rfl⟩ := hd
        go_wp2_with fail
        exact bodyPost_ret (v := .tuple #[.agg #[.int .i64 0, .int .i64 0, .int .i64 0, .string ⟨#[]⟩, .int .u32 0, .int .i64 0], .int .i64 0, .int .i64 3]) (by simp [results, Tryd.results38, go_sem]) rfl ⟨⟨0, _, 0, rfl⟩, (((((((bdrew ((Below.refl _ _).alloc (Nat.le_refl _) _)).setCell (by simp) _).setCell (by simp) _).setCell (by simp) _).setCell (by simp) _).setCell (by simp) _).setCell (by simp) _)⟩
    · have hlti : ¬ (n : Int) < (s.size : Int) - 1 := by omega
      have hlt3 : ¬ (n : Int) < ((s.extract 1 s.size).size : Int) := by omega
      rw [if_neg (fun h => hlt h.2)]
      go_enter Tryd.func38, Tryd.ntmps38
      go_wp2_with fail
      refine (HI.out _).mono ?_
      rintro e w' ⟨rfl, rfl⟩
      go_wp2_with fail
      refine (HI2.out _).mono ?_
      rintro e w' ⟨rfl, rfl⟩
      go_wp2_with fail
      refine (HQ.out _).mono ?_
      rintro e w' ⟨hu, hd⟩
      unfold UnitOut unitB unitN at hu
      subst hu
      obtain ⟨q, rfl⟩ := hd
      go_wp2_with fail
      exact bodyPost_ret (v := .tuple #[.agg #[.int .i64 0, .int .i64 0, .int .i64 0, .string ⟨#[]⟩, .int .u32 0, .int .i64 0], .int .i64 0, .int .i64 3]) (by simp [results, Tryd.results38, go_sem]) rfl ⟨⟨0, _, 0, rfl⟩, (((((((bdrew ((Below.refl _ _).alloc (Nat.le_refl _) _)).setCell (by simp) _).setCell (by simp) _).setCell (by simp) _).setCell (by simp) _).setCell (by simp) _).setCell (by simp) _)⟩

set_option maxRecDepth 100000 in
set_option maxHeartbeats 1000000 in
theorem tok_text (hh : isHead (s[0]'h0) = false) (hd : isDig (s[0]'h0) = false) (hc : (s[0]'h0) = 34) : Calls Tryd.prog 38 #[.string s] w (RTok w (tokR s.data.toList)) := by
  have hr : tokR s.data.toList = match body 34 0 (s.data.toList.drop 1) with
      | some (bs, n) => .ok 6 bs 0 (n + 1)
      | none => .bad 4 := by
    rw [tok_at s h0]
    unfold tokC
    rw [if_neg (by rw [hh]; decide), if_neg (by rw [hd]; decide), if_neg (by rw [hc]; decide), if_pos hc]
    rfl
  have hi := fun W => in_any (s[0]'h0) setHead W (by decide)
  rw [in_head, hh] at hi
  have hi2 := fun W => in_any (s[0]'h0) setDig W (by decide)
  rw [in_dig, hd] at hi2
  have hq := fun W => text_any s W hs h0
  have h0i : (0 : Int) < s.size := by omega
  have h1i : (1 : Int) ≤ s.size := by omega
  have h39 : (((s[0]'h0).toNat : Int) == 39) = false := by rw [hc]; decide
  have h34 : (((s[0]'h0).toNat : Int) == 34) = true := by rw [hc]; decide
  rw [hr]
  generalize body 34 0 (s.data.toList.drop 1) = r at *
  have HI := Lib.hid hi
  have HI2 := Lib.hid hi2
  have HQ := Lib.hid hq
  clear hh hd hr hi hi2 hq hc
  go_enter Tryd.func38, Tryd.ntmps38
  go_wp2_with fail
  refine (HI.out _).mono ?_
  rintro e w' ⟨rfl, rfl⟩
  go_wp2_with fail
  refine (HI2.out _).mono ?_
  rintro e w' ⟨rfl, rfl⟩
  go_wp2_with fail
  refine (HQ.out _).mono ?_
  rintro e w2 ⟨hu, hb⟩
  have hbt : Below (w.heap.size + 1) (w.alloc zerosT) w2 := by
    rw [World.size_alloc] at hb
    exact hb
  obtain ⟨f0, f1, f2, f3, f4, f5, z0, z1, z2, z3, z4, z5⟩ := tokAt hbt
  have HB := Lib.hid (below_of_tok hbt)
  clear hb hbt
  cases r with
  | none =>
    unfold TextOut at hu
    subst hu
    go_wp2_with fail
    exact bodyPost_ret (v := .tuple #[.agg #[.int .i64 6, .int .i64 0, .int .i64 0, .string (ba []), .int .u32 0, .int .i64 0], .int .i64 0, .int .i64 4]) (by simp [results, Tryd.results38, go_sem, f0, f1, f2, f3, f4, f5]) rfl ⟨⟨6, _, 0, rfl⟩, (((((HB.out.setCell (by simp) _).setCell (by simp) _).setCell (by simp) _).setCell (by simp) _).setCell (by simp) _).setCell (by simp) _⟩
  | some x =>
    obtain ⟨bs, n⟩ := x
    unfold TextOut at hu
    subst hu
    go_wp2_with fail
    exact bodyPost_ret (v := .tuple #[.agg #[.int .i64 6, .int .i64 0, .int .i64 0, .string (ba bs), .int .u32 0, .int .i64 0], .int .i64 ((n : Int) + 1), .int .i64 4]) (by simp [results, Tryd.results38, go_sem, f0, f1, f2, f3, f4, f5]) rfl ⟨⟨4, rfl⟩, (((((HB.out.setCell (by simp) _).setCell (by simp) _).setCell (by simp) _).setCell (by simp) _).setCell (by simp) _).setCell (by simp) _⟩
end
end Go.Proofs.YtbhfblogjlpnlaaDoor
