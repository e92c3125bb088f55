/-
  The contracts of the reference lexer's quoted and text. Condition: the string's length is within the model's bound.
-/
import Derived.Test.YtbhfblogjlpnlaaDoorRxEsc
import Derived.Laws.IdiomStrings
import Derived.ShutString
namespace Go.Proofs.YtbhfblogjlpnlaaDoor
open Go.RowKit

theorem bytes_cons (s : ByteArray) (h : 0 < s.size) : s.data.toList = (s[0]'h) :: s.data.toList.tail := by
  have h2 : 0 < s.data.toList.length := by simpa using h
  cases hl : s.data.toList with
  | nil => simp [hl] at h2
  | cons a l =>
    have := at_getD s 0 h
    rw [hl] at this
    simp at this
    simp [← this]

theorem unit_at (s : ByteArray) (q : UInt8) (h0 : 0 < s.size) : unit q s.data.toList = if (s[0]'h0) = q then none else if (s[0]'h0) = 92 then escR s.data.toList else if decide ((32 : UInt8) ≤ (s[0]'h0)) || ((s[0]'h0) == 9 && q == 34) then some ((s[0]'h0), 1) else none := by
  have hc := bytes_cons s h0
  generalize s.data.toList = l at *
  rw [hc, unit_cons]
theorem nat32 (c : UInt8) : ((32 : Int) ≤ c.toNat) ↔ 32 ≤ c := by
  rw [UInt8.le_iff_toNat_le]
  show (32 : Int) ≤ c.toNat ↔ 32 ≤ c.toNat
  omega
theorem nat_eq (c : UInt8) (n : Nat) (hn : n < 256) : ((c.toNat : Int) = n) ↔ c = UInt8.ofNat n := by
  constructor
  · intro h
    apply UInt8.toNat_inj.1
    rw [UInt8.toNat_ofNat']
    omega
  · intro h
    rw [h, UInt8.toNat_ofNat']
    omega

set_option maxRecDepth 100000 in
set_option maxHeartbeats 1000000 in
theorem quoted_any (s : ByteArray) (q : UInt8) (w : World) (hs : s.size ≤ maxLen) :
    Calls Tryd.prog 59 #[.string s, .int .u8 q.toNat] w fun e w' => UnitOut (unit q s.data.toList) e ∧ Drew w w' := by
  by_cases h0 : 0 < s.size
  · have hc := bytes_cons s h0
    have hz : ((s.size : Int) == 0) = false := beq_eq_false_iff_ne.2 (by omega)
    have h0i : (0 : Int) < s.size := by omega
    have he := fun (h : ((s[0]'h0).toNat : Int) = 92) W => escape_any s W hs h0 h
    clear hc
    unfold maxLen at hs
    by_cases hq : ((s[0]'h0).toNat : Int) = q.toNat
    · have hq2 : (((s[0]'h0).toNat : Int) == (q.toNat : Int)) = true := by simpa using hq
      have hR : unit q s.data.toList = none := by
        rw [unit_at s q h0, if_pos (UInt8.toNat_inj.1 (by omega))]
      rw [hR]
      clear hR he hq
      go_enter Tryd.func59, Tryd.ntmps59
      go_wp2
      go_ret2
      exact ⟨rfl, Drew.start _⟩
    · have hq2 : (((s[0]'h0).toNat : Int) == (q.toNat : Int)) = false := by simpa using hq
      by_cases h92 : ((s[0]'h0).toNat : Int) = 92
      · have h922 : (((s[0]'h0).toNat : Int) == 92) = true := by simpa using h92
        have hR : unit q s.data.toList = escR s.data.toList := by
          rw [unit_at s q h0, if_neg (fun e => hq (by rw [e])), if_pos (show (s[0]'h0) = 92 from (nat_eq _ 92 (by omega)).1 h92)]
        rw [hR]
        have HE := Lib.hid (he h92)
        clear hR he hq h92
        go_enter Tryd.func59, Tryd.ntmps59
        go_wp2_with fail
        refine (HE.out _).mono ?_
        rintro e w' ⟨hu, hd⟩
        unfold UnitOut at hu
        subst hu
        go_wp2_with fail
        go_ret2
        exact ⟨rfl, hd⟩
      · have h922 : (((s[0]'h0).toNat : Int) == 92) = false := by simpa using h92
        have h1 : unit q s.data.toList = if decide ((32 : UInt8) ≤ (s[0]'h0)) || ((s[0]'h0) == 9 && q == 34) then some ((s[0]'h0), 1) else none := by
          rw [unit_at s q h0, if_neg (fun e => hq (by rw [e])), if_neg (fun (e : (s[0]'h0) = 92) => h92 ((nat_eq _ 92 (by omega)).2 e))]
        clear he hq h92
        by_cases h32 : (32 : Int) ≤ (s[0]'h0).toNat
        · have hR : unit q s.data.toList = some ((s[0]'h0), 1) := by
            rw [h1, if_pos]
            have h := (nat32 _).1 h32
            simp [h]
          rw [hR]
          clear hR h1
          go_enter Tryd.func59, Tryd.ntmps59
          go_wp2
          go_ret2
          exact ⟨rfl, Drew.start _⟩
        · by_cases h9 : ((s[0]'h0).toNat : Int) = 9
          · have h92' : (((s[0]'h0).toNat : Int) == 9) = true := by simpa using h9
            have he9 : (s[0]'h0) = 9 := (nat_eq _ 9 (by omega)).1 h9
            by_cases h34 : (q.toNat : Int) = 34
            · have h342 : ((q.toNat : Int) == 34) = true := by simpa using h34
              have he34 : q = 34 := (nat_eq _ 34 (by omega)).1 h34
              have hR : unit q s.data.toList = some ((s[0]'h0), 1) := by
                rw [h1, if_pos]
                simp [he9, he34]
              rw [hR]
              clear hR h1 he9 he34 h9 h34
              go_enter Tryd.func59, Tryd.ntmps59
              go_wp2
              go_ret2
              exact ⟨rfl, Drew.start _⟩
            · have h342 : ((q.toNat : Int) == 34) = false := by simpa using h34
              have hR : unit q s.data.toList = none := by
                rw [h1, if_neg]
                simp only [Bool.or_eq_true, Bool.and_eq_true, decide_eq_true_eq, beq_iff_eq, not_or, not_and]
                exact ⟨fun h => h32 ((nat32 _).2 h), fun _ e => h34 ((nat_eq _ 34 (by omega)).2 e)⟩
              rw [hR]
              clear hR h1 he9 h9 h34
              go_enter Tryd.func59, Tryd.ntmps59
              go_wp2
              go_ret2
              exact ⟨rfl, Drew.start _⟩
          · have h92' : (((s[0]'h0).toNat : Int) == 9) = false := by simpa using h9
            have hR : unit q s.data.toList = none := by
              rw [h1, if_neg]
              simp only [Bool.or_eq_true, Bool.and_eq_true, decide_eq_true_eq, beq_iff_eq, not_or, not_and]
              exact ⟨fun h => h32 ((nat32 _).2 h), fun e => absurd ((nat_eq _ 9 (by omega)).2 e) h9⟩
            rw [hR]
            clear hR h1 h9
            go_enter Tryd.func59, Tryd.ntmps59
            go_wp2
            go_ret2
            exact ⟨rfl, Drew.start _⟩
  · have hn : s.data.toList = [] := List.eq_nil_of_length_eq_zero (by rw [Array.length_toList]; change s.size = 0; omega)
    have hz : ((s.size : Int) == 0) = true := beq_iff_eq.2 (by omega)
    rw [hn]
    clear hn h0
    go_enter Tryd.func59, Tryd.ntmps59
    go_wp2
    go_ret2
    exact ⟨rfl, Drew.start _⟩
theorem ext_list (s : ByteArray) (a b : Nat) : (s.extract a b).data.toList = (s.data.toList.take b).drop a := by
  rw [ByteArray.data_extract, Array.toList_extract, List.extract_eq_take_drop, List.take_drop]
  by_cases h : a ≤ b
  · congr 2
    omega
  · have h1 : b - a = 0 := by omega
    rw [h1, Nat.add_zero]
    rw [List.drop_eq_nil_of_le (by simp; omega), List.drop_eq_nil_of_le (by simp; omega)]
theorem ext_drop (s : ByteArray) (a : Nat) : (s.extract a s.size).data.toList = s.data.toList.drop a := by
  rw [ext_list, List.take_of_length_le (by rw [Array.length_toList]; exact Nat.le_refl _)]
theorem ext_take (s : ByteArray) (b : Nat) : (s.extract 0 b).data.toList = s.data.toList.take b := by
  rw [ext_list, List.drop_zero]
theorem ba_eq {s t : ByteArray} (h : s.data.toList = t.data.toList) : s = t := by
  cases s; cases t
  simp at h
  rw [h]
/-- Bytes as a string. -/
def ba (l : Bs) : ByteArray := ⟨l.toArray⟩
theorem ba_list (l : Bs) : (ba l).data.toList = l := by simp [ba]
theorem ba_of (s : ByteArray) : ba s.data.toList = s := ba_eq (by rw [ba_list])

theorem ba_size (l : Bs) : (ba l).size = l.length := by show l.toArray.size = _; simp

/-- What text answers: bytes, and how long it is. -/
def TextOut (r : Option (Bs × Nat)) (e : Ending) : Prop := match r with
  | some x => e = .returned (.tuple #[.string (ba x.1), .int .i64 ((x.2 : Int) + 1)])
  | none => e = .returned (.tuple #[.string (ba []), .int .i64 0])

theorem conv_one (b : UInt8) (W : World) : (convert 22 9 (.slice (some ⟨W.heap.size, 0, none⟩) 1 1)).run Tryd.prog (W.alloc (.cells #[.int .u8 (b.toNat : Int)] 5)) = .ok (.string (ba [b])) (W.alloc (.cells #[.int .u8 (b.toNat : Int)] 5)) := by
  have h := run_convert_bytes_back (P := Tryd.prog) (W.alloc (.cells #[.int .u8 (b.toNat : Int)] 5)) 22 9 5 ⟨W.heap.size, 0, none⟩ 1 [b] Tryd.underlying22 Tryd.underlying5 Tryd.underlying9
    (fun j hj => by
      obtain rfl : j = 0 := by simpa using hj
      simp [Addr.add])
  exact h
theorem ba_app (l m : Bs) : ba l ++ ba m = ba (l ++ m) := ba_eq (by simp [ba, ByteArray.data_append])

theorem drop_cons (s : ByteArray) (k : Nat) (h : k < s.size) : s.data.toList.drop k = (s[k]'h) :: s.data.toList.drop (k + 1) := by
  have h2 : k < s.data.toList.length := by rw [Array.length_toList]; exact h
  rw [List.drop_eq_getElem_cons h2]
  rfl

set_option maxRecDepth 100000 in
set_option maxHeartbeats 1000000 in
theorem text_any (s : ByteArray) (w : World) (hs : s.size ≤ 65536) (h0 : 0 < s.size) :
    Calls Tryd.prog 60 #[.string s] w fun e w' => TextOut (body 34 0 (s.data.toList.drop 1)) e ∧ Below w.heap.size w w' := by
  have hq := fun (i : Nat) W => quoted_any (s.extract i s.size) 34 W (by simp [maxLen]; omega)
  have HQ := Lib.hid hq
  have hcv := conv_one
  have h0i : (0 : Int) < s.size := by omega
  clear hq
  go_enter Tryd.func60, Tryd.ntmps60
  go_wp2_with fail
  go_loopg [4, 5] (s.size - 1) (fun g o i wr => ∃ (k : Nat) (out : Bs), 1 ≤ k ∧ k + g = s.size ∧ i = .int .i64 k ∧ o = .string (ba out) ∧ out.length ≤ k ∧ Hid (body 34 0 (s.data.toList.drop 1) = (body 34 0 (s.data.toList.drop k)).map fun x => (out ++ x.1, x.2 + k - 1)) ∧ Below w.heap.size w wr)
  case atStart =>
    refine ⟨1, [], Nat.le_refl _, by omega, rfl, rfl, by simp, Lib.hid ?_, Below.refl _ _⟩
    cases body 34 0 (s.data.toList.drop 1) with
    | none => rfl
    | some x => simp
  case round =>
    obtain ⟨k, out, hk1, hk, rfl, rfl, hol, hR, hb⟩ := hrel
    have hk' : k ≤ s.size := by omega
    have HK := Lib.hid hk
    have HB := Lib.hid hb
    have HR := Lib.hid hR.out
    have hed := ext_drop s k
    have HED := Lib.hid hed
    clear hk hb hR hed
    have hcall := fun W => (HQ.out k W)
    rw [HED.out] at hcall
    have HC := Lib.hid hcall
    clear hcall
    cases hu : unit 34 (s.data.toList.drop k) with
    | none =>
      rw [hu] at HC
      by_cases hlt : k < s.size
      · have hlt2 : (k : Int) < s.size := by omega
        by_cases h34 : ((s[k]'hlt).toNat : Int) = 34
        · have h342 : (((s[k]'hlt).toNat : Int) == 34) = true := by simpa using h34
          have hbody : body 34 0 (s.data.toList.drop k) = some ([], 1) := by
            rw [drop_cons s k hlt, body_step, if_pos (show (s[k]'hlt) = 34 from (nat_eq _ 34 (by omega)).1 h34)]
          have HT : Hid (body 34 0 (s.data.toList.drop 1) = some (out, k)) := Lib.hid (by rw [HR.out, hbody]; simp)
          clear hu hbody h34
          go_wp2_with fail
          refine (HC.out _).mono ?_
          rintro e w2 ⟨hu, hd⟩
          unfold UnitOut unitB unitN at hu
          subst hu
          have HD := Lib.hid (HB.out.trans (hd.below.mono HB.out.size))
          clear hd
          go_wp2_with fail
          go_ret2
          exact ⟨by rw [HT.out]; rfl, HD.out⟩
        · have h342 : (((s[k]'hlt).toNat : Int) == 34) = false := by simpa using h34
          have hbody : body 34 0 (s.data.toList.drop k) = none := by
            rw [drop_cons s k hlt] at hu ⊢
            rw [body_step, if_neg (fun (e : (s[k]'hlt) = 34) => h34 ((nat_eq _ 34 (by omega)).2 e)), hu]
          have HT : Hid (body 34 0 (s.data.toList.drop 1) = none) := Lib.hid (by rw [HR.out, hbody]; rfl)
          clear hu hbody h34
          go_wp2_with fail
          refine (HC.out _).mono ?_
          rintro e w2 ⟨hu, hd⟩
          unfold UnitOut unitB unitN at hu
          subst hu
          have HD := Lib.hid (HB.out.trans (hd.below.mono HB.out.size))
          clear hd
          go_wp2_with fail
          go_ret2
          exact ⟨by rw [HT.out]; rfl, HD.out⟩
      · have hlt2 : ¬ (k : Int) < s.size := by omega
        have hbody : body 34 0 (s.data.toList.drop k) = none := by
          rw [List.drop_eq_nil_of_le (by rw [Array.length_toList]; change s.size ≤ k; omega)]
          rfl
        have HT : Hid (body 34 0 (s.data.toList.drop 1) = none) := Lib.hid (by rw [HR.out, hbody]; rfl)
        clear hu hbody
        go_wp2_with fail
        refine (HC.out _).mono ?_
        rintro e w2 ⟨hu, hd⟩
        unfold UnitOut unitB unitN at hu
        subst hu
        have HD := Lib.hid (HB.out.trans (hd.below.mono HB.out.size))
        clear hd
        go_wp2_with fail
        go_ret2
        exact ⟨by rw [HT.out]; rfl, HD.out⟩
    | some x =>
      obtain ⟨b, n⟩ := x
      rw [hu] at HC
      obtain ⟨n1, n2⟩ := unit_len hu
      have hlt : k < s.size := by
        rw [List.length_drop, Array.length_toList] at n2
        change n ≤ s.size - k at n2
        omega
      have hn2 : k + n ≤ s.size := by
        rw [List.length_drop, Array.length_toList] at n2
        change n ≤ s.size - k at n2
        omega
      have hne : ¬ (s[k]'hlt) = 34 := by
        intro e
        rw [drop_cons s k hlt, unit_cons, if_pos e] at hu
        cases hu
      have hbody : body 34 0 (s.data.toList.drop k) = (body 34 0 (s.data.toList.drop (k + n))).map fun x => (b :: x.1, x.2 + n) := by
        have hu2 := hu
        rw [drop_cons s k hlt] at hu2 ⊢
        rw [body_step, if_neg hne, hu2]
        simp only
        rw [← drop_cons s k hlt, List.drop_drop]
      have HT : Hid (body 34 0 (s.data.toList.drop 1) = (body 34 0 (s.data.toList.drop (k + n))).map fun x => ((out ++ [b]) ++ x.1, x.2 + (k + n) - 1)) := Lib.hid (by
        rw [HR.out, hbody]
        cases body 34 0 (s.data.toList.drop (k + n)) with
        | none => rfl
        | some x => simp; omega)
      have hsum : (ba out).size + (ba [b]).size ≤ 9223372036854775807 := by rw [ba_size, ba_size]; simp; omega
      have hnz : ((n : Int) == 0) = false := beq_eq_false_iff_ne.2 (by omega)
      clear hu hbody hne n2
      go_wp2_with fail
      refine (HC.out _).mono ?_
      rintro e w2 ⟨hu, hd⟩
      unfold UnitOut unitB unitN at hu
      subst hu
      have HD := Lib.hid (HB.out.trans (hd.below.mono HB.out.size))
      clear hd
      go_wp2_with fail
      go_roundg (s.size - (k + n))
      case measure => have := HK.out; omega
      case rel => exact ⟨k + n, out ++ [b], by omega, by omega, by go_num, by rw [ba_app], by simp; omega, HT, HD.out.alloc HD.out.size _⟩
end Go.Proofs.YtbhfblogjlpnlaaDoor
