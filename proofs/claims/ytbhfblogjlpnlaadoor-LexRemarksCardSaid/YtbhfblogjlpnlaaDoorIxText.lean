/-
  The contracts of the lexer's text and character, and of errors.Is where it asks. Conditions: the slice's bytes lie in the memory; it has a byte, and at most 65536.
-/
import Derived.Test.YtbhfblogjlpnlaaDoorIxQuo
import Derived.Test.YtbhfblogjlpnlaaDoorIxMark
import Derived.Test.YtbhfblogjlpnlaaDoorAs
import Derived.Laws.BytesArg
import Derived.Laws.OwnMore
namespace Go.Proofs.YtbhfblogjlpnlaaDoor
open Go.RowKit Go.Extern

theorem equalIn_nil (d : Nat) (t : TypeId) (v : Value) (w : World) : (Op.equalIn (d + 1) 26 .nilIface (.iface t v)).run Tryd.prog w = .ok false w := by
  simp [Op.equalIn, run_underlying Tryd.underlying26]
theorem eql_nil (t : TypeId) (v : Value) (w : World) : (binOp .eql 26 .nilIface (.iface t v)).run Tryd.prog w = .ok (.bool false) w := by
  simp only [binOp]
  simp [show Op.equal 26 .nilIface (.iface t v) = Op.equalIn (9999 + 1) 26 .nilIface (.iface t v) from rfl, equalIn_nil]

set_option maxHeartbeats 4000000 in
set_option maxRecDepth 100000 in
/-- errors.Is(nil, an api.Code): false. -/
theorem is_nil (k : Int) (w : World) : Calls Tryd.prog 27 #[.nilIface, .iface 56 (.int .i64 k)] w fun e w' => e = .returned (.bool false) ∧ w = w' := by
  have hel := eql_nil 56 (.int .i64 k) w
  go_enter Tryd.func27, Tryd.ntmps27
  go_wp2
  go_ret
  exact ⟨rfl, rfl⟩

set_option maxHeartbeats 4000000 in
set_option maxRecDepth 100000 in
/-- errors.Is(an api.Code, the same one): true. -/
theorem is_same (k : Int) (w : World) : Calls Tryd.prog 27 #[.iface 56 (.int .i64 k), .iface 56 (.int .i64 k)] w fun e w' => e = .returned (.bool true) ∧ w = w' := by
  obtain ⟨i, hi, hcmp⟩ := Option.map_eq_some_iff.1 fact_compC
  have h8 := @run_callFunc_extern Tryd.prog 43 _ Extern.ReflectliteType.typeOf Tryd.func43 (by kernel_rfl) (by kernel_rfl) (by kernel_rfl) (by kernel_rfl)
  have h32 := @run_callFunc_extern Tryd.prog 150 _ cmpEntry Tryd.func150 (by kernel_rfl) (by kernel_rfl) (by kernel_rfl) (by kernel_rfl)
  have tT := fact_typeOfC
  have cT := fact_comparableC
  have mR := fact_methodComparable
  have heq := run_eql_iface_int (P := Tryd.prog) w k k Tryd.underlying26 Tryd.underlying56 hi hcmp
  rw [beq_self_eq_true] at heq
  go_enter Tryd.func27, Tryd.ntmps27
  go_wp2
  refine wp_loop_rounds 1 ?_
  rw [rounds_succ]
  go_wp2
  go_ret
  exact ⟨rfl, rfl⟩

theorem conv_own {w : World} {base : Nat} {v : Value} {bs : Bs} (h : w.ownsRow base 5 1 v bs.length (bs.map u8V)) : (convert 22 9 v).run Tryd.prog w = .ok (.string (ba bs)) w := by
  rcases h.2 with ⟨rfl, h0⟩ | ⟨g, cap, cur, rfl, _⟩
  · have hb : bs = [] := List.eq_nil_of_length_eq_zero h0
    subst hb
    exact run_convert_bytes_nil (P := Tryd.prog) w 22 5 Tryd.underlying22 Tryd.underlying5 0 0 9 Tryd.underlying9
  · have := run_convert_bytes_back (P := Tryd.prog) w 22 9 5 ⟨g, 0, none⟩ cap bs Tryd.underlying22 Tryd.underlying5 Tryd.underlying9 (fun j hj => by
      have := h.cells (g := g) rfl j (u8V bs[j]) (by simp [hj])
      exact this)
    exact this

theorem own_form {w : World} {base e size n : Nat} {v : Value} {xs : List Value} (h : w.ownsRow base e size v n xs) : ∃ A c, v = .slice A n c := by
  rcases h.2 with ⟨rfl, rfl⟩ | ⟨g, cap, cur, rfl, _⟩
  · exact ⟨none, 0, rfl⟩
  · exact ⟨_, _, rfl⟩
theorem own_one {w : World} {base : Nat} {v : Value} {x : UInt8} (h : w.ownsRow base 5 1 v 1 [u8V x]) : ∃ g c, v = .slice (some ⟨g, 0, none⟩) 1 c ∧ w.cell? ⟨g, 0, none⟩ = some (u8V x) ∧ base ≤ g ∧ 1 ≤ c := by
  rcases h.2 with ⟨_, h0⟩ | ⟨g, cap, cur, rfl, hg, _, hc, _⟩
  · cases h0
  · have := h.cells (g := g) rfl 0 (u8V x) rfl
    exact ⟨g, cap, rfl, this, hg, hc⟩

set_option maxRecDepth 100000 in
set_option maxHeartbeats 1000000 in
theorem text_is (s : ByteArray) (b o c : Nat) (w : World) (hs : s.size ≤ 65536) (h0 : 0 < s.size) (hc : s.size ≤ c) (hB : Bytes w b o s) (h34 : (s[0]'h0) = 34) :
    Calls Tryd.prog 55 #[.slice (some ⟨b, o, none⟩) s.size c] w (ITok w (match body 34 0 (s.data.toList.drop 1) with
      | some (bs, n) => .ok 6 bs 0 (n + 1)
      | none => .bad 4)) := by
  have hq := quoted_is s b o c (w.alloc zerosI) hs h0 hc (hB.below ((Below.refl _ _).alloc (Nat.le_refl _) _))
  rw [h34] at hq
  clear hB
  cases hn : body 34 0 (s.data.toList.drop 1) with
  | none =>
    have HN := Lib.hid (hq _ hn)
    clear hn hq
    go_enter Tryd.func55, Tryd.ntmps55
    go_wp2_with fail
    refine HN.out.mono ?_
    rintro e w1 ⟨rfl, hb1⟩
    rw [World.size_alloc] at hb1
    obtain ⟨f0, f1, f2, f3, f4, f5, z0, z1, z2, z3, z4, z5⟩ := tokAt hb1
    have HW1 := Lib.hid (below_of_tok hb1)
    have hsz1 : w.heap.size < w1.heap.size := by have := hb1.size; simp at this; omega
    clear hb1
    go_wp2_with fail
    exact bodyPost_ret (v := .tuple #[.agg #[.int .i64 0, .int .i64 0, .int .i64 0, .string ⟨#[]⟩, .int .u32 0, .int .i64 0], .int .i64 0, .iface 56 (.int .i64 4)]) (by simp [results, Tryd.results55, go_sem, f0, f1, f2, f3, f4, f5]; done) rfl ⟨rfl, ((((((HW1.out.setCell (by simp) _).setCell (by simp) _).setCell (by simp) _).setCell (by simp) _).setCell (by simp) _).setCell (by simp) _)⟩
  | some x =>
    obtain ⟨bs, n⟩ := x
    have HN := Lib.hid (hq _ hn)
    clear hn hq
    go_enter Tryd.func55, Tryd.ntmps55
    go_wp2_with fail
    refine HN.out.mono ?_
    rintro e w1 ⟨⟨v, rfl, hown⟩, hb1⟩
    have hcv := conv_own hown
    clear hown
    rw [World.size_alloc] at hb1
    obtain ⟨f0, f1, f2, f3, f4, f5, z0, z1, z2, z3, z4, z5⟩ := tokAt hb1
    have HW1 := Lib.hid (below_of_tok hb1)
    have hsz1 : w.heap.size < w1.heap.size := by have := hb1.size; simp at this; omega
    clear hb1
    go_wp2_with fail
    exact bodyPost_ret (v := .tuple #[.agg #[.int .i64 6, .int .i64 0, .int .i64 0, .string (ba bs), .int .u32 0, .int .i64 0], .int .i64 ((n : Int) + 1), .nilIface]) (by simp [results, Tryd.results55, go_sem, f0, f1, f2, f3, f4, f5]; done) rfl (itok_ok rfl rfl (by omega) ((((((HW1.out.setCell (by simp) _).setCell (by simp) _).setCell (by simp) _).setCell (by simp) _).setCell (by simp) _).setCell (by simp) _))

theorem body_more {q c : UInt8} {r : Bs} (h : c ≠ q) : body q 0 (c :: r) = none ∨ ∃ x xs n, body q 0 (c :: r) = some (x :: xs, n) := by
  rw [body_step, if_neg h]
  cases unit q (c :: r) with
  | none => exact .inl rfl
  | some y =>
    obtain ⟨x, n⟩ := y
    simp only
    cases body q 0 ((c :: r).drop n) with
    | none => exact .inl rfl
    | some z => exact .inr ⟨_, _, _, rfl⟩

/-- A character's number. -/
def charR (r : Bs) : Tk := match body 39 0 r with
  | some ([x], n) => .ok 5 [] x.toNat (n + 1)
  | _ => .bad 3
theorem char_is (r : Bs) : (match unit 39 r with
      | some (b, n) => if r.getD n 0 = 39 ∧ n < r.length then Tk.ok 5 [] b.toNat (n + 2) else .bad 3
      | none => .bad 3) = charR r := by
  unfold charR
  cases r with
  | nil => rfl
  | cons c r =>
    by_cases hc : c = 39
    · rw [body_step, if_pos hc, unit_cons, if_pos hc]
    · rw [body_step, if_neg hc]
      cases hu : unit 39 (c :: r) with
      | none => rfl
      | some y =>
        obtain ⟨x, n⟩ := y
        simp only
        by_cases hn : n < (c :: r).length
        · have hd : (c :: r).drop n = (c :: r).getD n 0 :: (c :: r).drop (n + 1) := by
            rw [List.drop_eq_getElem_cons hn, List.getD_eq_getElem?_getD, List.getElem?_eq_getElem hn]
            rfl
          generalize (c :: r).getD n 0 = d at *
          rw [hd]
          by_cases h39 : d = 39
          · rw [if_pos ⟨h39, hn⟩, body_step, if_pos h39]
            show Tk.ok 5 [] x.toNat (n + 2) = Tk.ok 5 [] x.toNat (1 + n + 1)
            rw [show 1 + n + 1 = n + 2 by omega]
          · rw [if_neg (fun h => h39 h.1)]
            rcases body_more (r := (c :: r).drop (n + 1)) h39 with h | ⟨z, zs, m, h⟩
            · rw [h]; rfl
            · rw [h]; rfl
        · rw [if_neg (fun h => hn h.2), List.drop_eq_nil_of_le (by omega)]
          rfl

set_option maxRecDepth 100000 in
set_option maxHeartbeats 1000000 in
theorem character_any (s : ByteArray) (b o c : Nat) (w : World) (hs : s.size ≤ 65536) (h0 : 0 < s.size) (hc : s.size ≤ c) (hB : Bytes w b o s) (h39 : (s[0]'h0) = 39) :
    Calls Tryd.prog 54 #[.slice (some ⟨b, o, none⟩) s.size c] w (ITok w (charR (s.data.toList.drop 1))) := by
  have hq := quoted_is s b o c (w.alloc zerosI) hs h0 hc (hB.below ((Below.refl _ _).alloc (Nat.le_refl _) _))
  rw [h39] at hq
  clear hB
  unfold charR
  cases hn : body 39 0 (s.data.toList.drop 1) with
  | none =>
    have HN := Lib.hid (hq _ hn)
    clear hn hq
    have HI := Lib.hid (fun W => is_same 4 W)
    go_enter Tryd.func54, Tryd.ntmps54
    go_wp2_with fail
    refine HN.out.mono ?_
    rintro e w1 ⟨rfl, hb1⟩
    rw [World.size_alloc] at hb1
    obtain ⟨f0, f1, f2, f3, f4, f5, z0, z1, z2, z3, z4, z5⟩ := tokAt hb1
    have HW1 := Lib.hid (below_of_tok hb1)
    have hsz1 : w.heap.size < w1.heap.size := by have := hb1.size; simp at this; omega
    clear hb1
    go_wp2_with fail
    refine (HI.out _).mono ?_
    rintro e w' ⟨rfl, rfl⟩
    go_wp2_with fail
    exact bodyPost_ret (v := .tuple #[.agg #[.int .i64 0, .int .i64 0, .int .i64 0, .string ⟨#[]⟩, .int .u32 0, .int .i64 0], .int .i64 0, .iface 56 (.int .i64 3)]) (by simp [results, Tryd.results54, go_sem, f0, f1, f2, f3, f4, f5]; done) rfl ⟨rfl, ((((((HW1.out.setCell (by simp) _).setCell (by simp) _).setCell (by simp) _).setCell (by simp) _).setCell (by simp) _).setCell (by simp) _)⟩
  | some x =>
    obtain ⟨bs, n⟩ := x
    have HN := Lib.hid (hq _ hn)
    have hbl := body_len _ _ hn
    rw [List.length_drop, len_size] at hbl
    have hle : bs.length ≤ 65536 := by have h1 := hbl.2.1; have h2 := hbl.2.2; simp only at h1 h2; omega
    have hnle : n ≤ 65536 := by have h1 := hbl.2.1; simp only at h1; omega
    clear hn hq hbl
    have HI := Lib.hid (fun W => is_nil 4 W)
    by_cases h1 : bs.length = 1
    · obtain ⟨x, rfl⟩ : ∃ x, bs = [x] := by
        cases bs with
        | nil => cases h1
        | cons x xs =>
          cases xs with
          | nil => exact ⟨x, rfl⟩
          | cons y ys => simp at h1
      clear h1 hle
      go_enter Tryd.func54, Tryd.ntmps54
      go_wp2_with fail
      refine HN.out.mono ?_
      rintro e w1 ⟨⟨v, rfl, hown⟩, hb1⟩
      obtain ⟨g, cp, rfl, hcg, hgb, hcp⟩ := own_one hown
      rw [World.size_alloc] at hgb
      have hgn : ¬ w.heap.size = g := by omega
      have hgn2 : ¬ g = w.heap.size := by omega
      unfold u8V at hcg
      clear hown
      have hx := x.toNat_lt
      have hx0 : (0 : Int) ≤ (x.toNat : Int) := by omega
      have hx1 : (x.toNat : Int) < 256 := by omega
      rw [World.size_alloc] at hb1
      obtain ⟨f0, f1, f2, f3, f4, f5, z0, z1, z2, z3, z4, z5⟩ := tokAt hb1
      have HW1 := Lib.hid (below_of_tok hb1)
      have hsz1 : w.heap.size < w1.heap.size := by have := hb1.size; simp at this; omega
      clear hb1
      go_wp2_with fail
      refine (HI.out _).mono ?_
      rintro e w' ⟨rfl, rfl⟩
      go_wp2_with fail
      exact bodyPost_ret (v := .tuple #[.agg #[.int .i64 5, .int .i64 0, .int .i64 0, .string ⟨#[]⟩, .int .u32 (x.toNat : Int), .int .i64 0], .int .i64 ((n : Int) + 1), .nilIface]) (by simp [results, Tryd.results54, go_sem, f0, f1, f2, f3, f4, f5]; done) rfl (itok_ok rfl rfl (by omega) ((((((HW1.out.setCell (by simp) _).setCell (by simp) _).setCell (by simp) _).setCell (by simp) _).setCell (by simp) _).setCell (by simp) _))
    · have hne : (((bs.length : Nat) : Int) == 1) = false := by rw [beq_eq_false_iff_ne]; omega
      have hne2 : (((bs.length : Nat) : Int) != 1) = true := by rw [bne_iff_ne]; omega
      have hr : (match (some (bs, n) : Option (Bs × Nat)) with
        | some ([x], n) => Tk.ok 5 [] x.toNat (n + 1)
        | _ => .bad 3) = .bad 3 := by
        cases bs with
        | nil => rfl
        | cons x xs =>
          cases xs with
          | nil => exact absurd rfl h1
          | cons y ys => rfl
      rw [hr]
      clear hr h1
      go_enter Tryd.func54, Tryd.ntmps54
      go_wp2_with fail
      refine HN.out.mono ?_
      rintro e w1 ⟨⟨v, rfl, hown⟩, hb1⟩
      obtain ⟨A, cp, rfl⟩ := own_form hown
      clear hown
      rw [World.size_alloc] at hb1
      obtain ⟨f0, f1, f2, f3, f4, f5, z0, z1, z2, z3, z4, z5⟩ := tokAt hb1
      have HW1 := Lib.hid (below_of_tok hb1)
      have hsz1 : w.heap.size < w1.heap.size := by have := hb1.size; simp at this; omega
      clear hb1
      go_wp2_with fail
      refine (HI.out _).mono ?_
      rintro e w' ⟨rfl, rfl⟩
      go_wp2_with fail
      exact bodyPost_ret (v := .tuple #[.agg #[.int .i64 0, .int .i64 0, .int .i64 0, .string ⟨#[]⟩, .int .u32 0, .int .i64 0], .int .i64 0, .iface 56 (.int .i64 3)]) (by simp [results, Tryd.results54, go_sem, f0, f1, f2, f3, f4, f5]; done) rfl ⟨rfl, ((((((HW1.out.setCell (by simp) _).setCell (by simp) _).setCell (by simp) _).setCell (by simp) _).setCell (by simp) _).setCell (by simp) _)⟩
end Go.Proofs.YtbhfblogjlpnlaaDoor
