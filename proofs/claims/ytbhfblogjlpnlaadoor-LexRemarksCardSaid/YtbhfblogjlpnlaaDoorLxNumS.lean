/-
  A number's digits, and those of base sixteen, are read as two tokens: on lists of bytes. No program.
-/
import Derived.Test.YtbhfblogjlpnlaaDoorSpecLines
namespace Go.Proofs.YtbhfblogjlpnlaaDoor

theorem pre_all {p : UInt8 → Bool} : ∀ {d : Bs}, (∀ c ∈ d, p c = true) → pre p d = d.length
  | [], _ => rfl
  | c :: d, h => by
    have h1 := h c (by simp)
    have := pre_all (p := p) (d := d) (fun x hx => h x (by simp [hx]))
    unfold pre at *
    rw [List.takeWhile_cons, if_pos h1, List.length_cons, this, List.length_cons]
theorem pre_app {p : UInt8 → Bool} {x : UInt8} (r : Bs) (hx : p x = false) : ∀ {d : Bs}, (∀ c ∈ d, p c = true) → pre p (d ++ x :: r) = d.length
  | [], _ => by
    unfold pre
    rw [List.nil_append, List.takeWhile_cons, hx]
    rfl
  | c :: d, h => by
    have h1 := h c (by simp)
    have := pre_app (p := p) r hx (d := d) (fun y hy => h y (by simp [hy]))
    unfold pre at *
    rw [List.cons_append, List.takeWhile_cons, if_pos h1, List.length_cons, this, List.length_cons]

theorem dig_val (c : UInt8) : isDig c = true → digV c < 10 ∧ isHead c = false ∧ c ≠ 120 ∧ c ≠ 98 ∧ c ≠ 10 ∧ isBlank c = false ∧ c ≠ 35 := all_bytes (p := fun c => isDig c = true → digV c < 10 ∧ isHead c = false ∧ c ≠ 120 ∧ c ≠ 98 ∧ c ≠ 10 ∧ isBlank c = false ∧ c ≠ 35) (by decide +kernel) c
theorem hex_val (c : UInt8) : digV c < 16 → c ≠ 10 := all_bytes (p := fun c => digV c < 16 → c ≠ 10) (by decide +kernel) c

theorem base_ten {d : Bs} (r : Bs) (hd : ∀ c ∈ d, isDig c = true) (h0 : d ≠ []) : baseOf (d ++ 32 :: r) = (10, 0) := by
  unfold baseOf
  cases d with
  | nil => exact absurd rfl h0
  | cons a d =>
    cases d with
    | nil => rw [if_neg (by simp), if_neg (by simp)]
    | cons b d =>
      have hb := dig_val b (hd b (by simp))
      rw [if_neg (by simp [hb.2.2.1]), if_neg (by simp [hb.2.2.2.1])]

theorem num_ten {d : Bs} {v : Nat} (r : Bs) (hd : ∀ c ∈ d, isDig c = true) (h0 : d ≠ []) (hv : valF 10 d 0 = v) (hlt : v < 4294967296) : numeral (d ++ 32 :: r) = some (v, d.length) := by
  have hp : pre (fun c => decide (digV c < 10)) (d ++ 32 :: r) = d.length := pre_app r (by decide) (fun c hc => decide_eq_true (dig_val c (hd c hc)).1)
  have hl : 0 < d.length := List.length_pos_iff.2 h0
  unfold numeral
  simp only [base_ten r hd h0, List.drop_zero, Nat.zero_add, hp]
  rw [if_neg (by omega)]
  have hg : (d ++ 32 :: r).getD d.length 0 = 32 := by simp [List.getD_eq_getElem?_getD]
  rw [hg, show goOnName 32 = false from rfl, Bool.false_and, if_neg (by decide), List.take_left, hv, if_pos hlt]

theorem num_hex {h : Bs} {v : Nat} (hh : ∀ c ∈ h, digV c < 16) (h0 : h ≠ []) (hv : valF 16 h 0 = v) (hlt : v < 4294967296) : numeral (48 :: 120 :: h) = some (v, h.length + 2) := by
  have hp : pre (fun c => decide (digV c < 16)) h = h.length := pre_all (fun c hc => decide_eq_true (hh c hc))
  have hl : 0 < h.length := List.length_pos_iff.2 h0
  unfold numeral
  have hb : baseOf (48 :: 120 :: h) = (16, 2) := rfl
  simp only [hb, List.drop_succ_cons, List.drop_zero, hp]
  rw [if_neg (by omega), decide_eq_false (by simp; omega), Bool.and_false, if_neg (by decide)]
  have ht : ((48 :: 120 :: h).take (2 + h.length)).drop 2 = h := by
    rw [Nat.add_comm, List.take_succ_cons, List.take_succ_cons, List.drop_succ_cons, List.drop_succ_cons, List.drop_zero, List.take_length]
  rw [ht, hv, if_pos hlt, Nat.add_comm]

theorem getD_at (l : Bs) (x : UInt8) (r : Bs) (n : Nat) (hn : n = l.length) : (l ++ x :: r).getD n 0 = x := by
  subst hn
  simp [List.getD_eq_getElem?_getD]

theorem tokC_dig {c : UInt8} (r : Bs) (h : isDig c = true) : tokC c r = match numeral (c :: r) with
    | some (v, n) => .ok 5 [] v n
    | none => .bad 3 := by
  unfold tokC
  rw [(dig_val c h).2.1, if_neg (by decide), if_pos h]
  rfl

theorem read_num {d h : Bs} {v : Nat} (hd : ∀ c ∈ d, isDig c = true) (hd0 : d ≠ []) (hv : valF 10 d 0 = v) (hh : ∀ c ∈ h, digV c < 16) (hh0 : h ≠ []) (hw : valF 16 h 0 = v) (hlt : v < 4294967296) :
    LinesR 0 (cut (d ++ 32 :: 48 :: 120 :: h)) [[⟨0, 5, [], v⟩, ⟨d.length + 1, 5, [], v⟩]] none := by
  have hn : ∀ c ∈ d ++ 32 :: 48 :: 120 :: h, c ≠ 10 := by
    intro c hc
    rcases List.mem_append.1 hc with hc | hc
    · exact (dig_val c (hd c hc)).2.2.2.2.1
    · simp only [List.mem_cons] at hc
      rcases hc with rfl | rfl | rfl | hc
      · decide
      · decide
      · decide
      · exact hex_val c (hh c hc)
  rw [cut_last hn]
  refine .good 0 _ [] _ [] none ?_ (.nil 1)
  have hl : (d ++ 32 :: 48 :: 120 :: h).length = d.length + 3 + h.length := by simp; omega
  obtain ⟨a, d', hd'⟩ : ∃ a d', d = a :: d' := List.exists_cons_of_ne_nil hd0
  have ha := dig_val a (hd a (by rw [hd']; simp))
  have hg0 : (d ++ 32 :: 48 :: 120 :: h).getD 0 0 = a := by rw [hd']; rfl
  refine .tok 0 d.length 5 [] v _ none (by omega) (by rw [hg0]; exact ha.2.2.2.2.2.1) (by rw [hg0]; exact ha.2.2.2.2.2.2) ?_ ?_
  · rw [List.drop_zero, hd', List.cons_append]
    show tokC a _ = _
    rw [tokC_dig _ (hd a (by rw [hd']; simp)), ← List.cons_append, ← hd', num_ten _ hd hd0 hv hlt]
  · rw [Nat.zero_add]
    have hg1 : (d ++ 32 :: 48 :: 120 :: h).getD d.length 0 = 32 := getD_at d 32 _ _ rfl
    refine .blank d.length _ none (by omega) (by rw [hg1]; rfl) ?_
    have hg2 : (d ++ 32 :: 48 :: 120 :: h).getD (d.length + 1) 0 = 48 := by
      simp
    have hdr : (d ++ 32 :: 48 :: 120 :: h).drop (d.length + 1) = 48 :: 120 :: h := by
      rw [← List.drop_drop, List.drop_left]
      rfl
    refine .tok (d.length + 1) (h.length + 2) 5 [] v [] none (by omega) (by rw [hg2]; rfl) (by rw [hg2]; decide) ?_ ?_
    · rw [hdr]
      show tokC 48 _ = _
      rw [tokC_dig _ rfl, num_hex hh hh0 hw hlt]
    · have : d.length + 1 + (h.length + 2) = (d ++ 32 :: 48 :: 120 :: h).length := by omega
      rw [this]
      exact .done
end Go.Proofs.YtbhfblogjlpnlaaDoor
