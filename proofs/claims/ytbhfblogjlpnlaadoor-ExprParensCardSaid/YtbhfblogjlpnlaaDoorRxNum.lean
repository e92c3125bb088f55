/-
  The contract of the reference lexer's numeral. Condition: the string has a byte, and at most 65536.
-/
import Derived.Test.YtbhfblogjlpnlaaDoorRxUnit
namespace Go.Proofs.YtbhfblogjlpnlaaDoor
open Go.RowKit

def NumOut (r : Option (Nat × Nat)) (e : Ending) : Prop := match r with
  | some x => e = .returned (.tuple #[.int .u32 x.1, .int .i64 x.2])
  | none => e = .returned (.tuple #[.int .u32 0, .int .i64 0])

theorem valF_append (b : Nat) (l m : Bs) (v : Nat) : valF b (l ++ m) v = valF b m (valF b l v) := by simp [valF, List.foldl_append]
theorem valF_le (b : Nat) (hb : 1 ≤ b) : ∀ (l : Bs) (v : Nat), v ≤ valF b l v
  | [], v => Nat.le_refl v
  | c :: l, v => by
    have h := valF_le b hb l (v * b + digV c)
    have h2 : v ≤ v * b := Nat.le_mul_of_pos_right v hb
    show v ≤ valF b l (v * b + digV c)
    omega
theorem pre_at {p : UInt8 → Bool} : ∀ {l : Bs} {i : Nat} (_ : i < pre p l) (h2 : i < l.length), p l[i] = true
  | [], i, h, h2 => by simp at h2
  | c :: l, i, h, h2 => by
    unfold pre at h
    by_cases hc : p c = true
    · simp [hc] at h
      cases i with
      | zero => simpa using hc
      | succ i =>
        have := pre_at (p := p) (l := l) (i := i) (by unfold pre; omega) (by simpa using h2)
        simpa using this
    · simp [hc] at h
theorem slice_snoc (s : ByteArray) (a k : Nat) (ha : a ≤ k) (h : k < s.size) : (s.data.toList.take (k + 1)).drop a = (s.data.toList.take k).drop a ++ [s[k]'h] := by
  have h2 : k < s.data.toList.length := by rw [Array.length_toList]; exact h
  rw [List.take_succ_eq_append_getElem h2, List.drop_append_of_le_length (by rw [List.length_take]; omega)]
  rfl
theorem slice_part (l : Bs) (a k n : Nat) (ha : a ≤ k) (hk : k ≤ n) (hn : n ≤ l.length) : (l.take n).drop a = (l.take k).drop a ++ (l.take n).drop k := by
  have h1 : l.take n = l.take k ++ (l.take n).drop k := by
    have := List.take_append_drop k (l.take n)
    rw [List.take_take, Nat.min_eq_left hk] at this
    exact this.symm
  conv => lhs; rw [h1]
  rw [List.drop_append_of_le_length (by rw [List.length_take]; omega)]

theorem base_ge (l : Bs) : 2 ≤ (baseOf l).1 ∧ (baseOf l).1 ≤ 16 := by
  unfold baseOf
  split
  · exact ⟨by decide, by decide⟩
  · split
    · exact ⟨by decide, by decide⟩
    · exact ⟨by decide, by decide⟩

theorem num_at {l : Bs} {b a : Nat} (hb : baseOf l = (b, a)) : numeral l = (if a + pre (fun c => digV c < b) (l.drop a) = a then none
    else if goOnName (l.getD (a + pre (fun c => digV c < b) (l.drop a)) 0) && decide (a + pre (fun c => digV c < b) (l.drop a) < l.length) then none
    else if valF b ((l.take (a + pre (fun c => digV c < b) (l.drop a))).drop a) 0 < 4294967296 then some (valF b ((l.take (a + pre (fun c => digV c < b) (l.drop a))).drop a) 0, a + pre (fun c => digV c < b) (l.drop a)) else none) := by
  unfold numeral
  rw [hb]
theorem len_size (s : ByteArray) : s.data.toList.length = s.size := by rw [Array.length_toList]; rfl
theorem str_list (s : ByteArray) (l : Bs) : (s.toList == l) = decide (s.data.toList = l) := by
  rw [ByteArray.toList_eq, Bool.eq_iff_iff]
  simp only [beq_iff_eq, decide_eq_true_eq]
theorem dig_at {s : ByteArray} {a b : Nat} (i : Nat) (h : i < s.size) (hai : a ≤ i) (hi : i < a + pre (fun c => digV c < b) (s.data.toList.drop a)) : digV (s[i]'h) < b := by
  have h2 : i < s.data.toList.length := by rw [len_size]; exact h
  have := pre_at (p := fun c => digV c < b) (l := s.data.toList.drop a) (i := i - a) (by omega) (by rw [List.length_drop]; omega)
  simp only [decide_eq_true_eq, List.getElem_drop] at this
  have e : a + (i - a) = i := by omega
  simp only [e] at this
  exact this

set_option maxRecDepth 100000 in
set_option maxHeartbeats 2000000 in
theorem num16 (s : ByteArray) (w : World) (hs : s.size ≤ 65536) (h0i : (0 : Int) < s.size) (hl1 : (1 : Int) < s.size) (q1 : ((s.extract 0 2).toList == [48, 120]) = true) (q2 : ((s.extract 0 2).toList == [48, 98]) = false) (hbase : baseOf s.data.toList = (16, 2)) :
    Calls Tryd.prog 58 #[.string s] w fun e w' => NumOut (numeral s.data.toList) e ∧ w = w' := by
  have hw := fun W => while_any (s.extract 2 s.size) setHex W (by simp [maxLen]; omega) (by decide)
  have hrun : run (s.extract 2 s.size).data.toList setHex = pre (fun c => digV c < 16) (s.data.toList.drop 2) := by rw [run_pre _ _ (fun c => digV c < 16) in_hex, ext_drop]
  have hd0 := @dig_at s 2 16
  have hnum := num_at hbase
  have hple := pre_le (fun c => digV c < 16) (s.data.toList.drop 2)
  rw [hrun] at hw
  rw [List.length_drop, len_size] at hple
  rw [len_size] at hnum
  clear hrun hbase
  generalize pre (fun c => digV c < 16) (s.data.toList.drop 2) = P at *
  have HD0 := Lib.hid hd0
  have HNUM := Lib.hid hnum
  have HW := Lib.hid hw
  clear hd0 hnum hw
  by_cases hz : P = 0
  · have HR : Hid (numeral s.data.toList = none) := Lib.hid (by rw [HNUM.out, if_pos (by omega)])
    have hz1 : ((2 : Int) + (P : Int) == 2) = true := beq_iff_eq.2 (by omega)
    clear hz HNUM
    go_enter Tryd.func58, Tryd.ntmps58
    go_wp2_with fail
    refine (HW.out _).mono ?_
    rintro e w' ⟨rfl, rfl⟩
    go_wp2_with fail
    go_ret2
    exact ⟨by rw [HR.out]; rfl, rfl⟩
  · have hz1 : ((2 : Int) + (P : Int) == 2) = false := beq_eq_false_iff_ne.2 (by omega)
    have hN : 2 + P ≤ s.size := by omega
    have HZ : Hid (¬ 2 + P = 2) := Lib.hid (by omega)
    have hP : 0 < P := by omega
    clear hz
    by_cases hlt : 2 + P < s.size
    · have hlti : (2 : Int) + (P : Int) < (s.size : Int) := by omega
      have hg := at_getD s (2 + P) hlt
      have hin := fun W => in_any (s[2 + P]'hlt) setName W (by decide)
      rw [in_name] at hin
      cases hgo : goOnName (s[2 + P]'hlt) with
      | true =>
        have HR : Hid (numeral s.data.toList = none) := Lib.hid (by rw [HNUM.out, if_neg HZ.out, hg, hgo, if_pos (by simpa using hlt)])
        rw [hgo] at hin
        have HIN := Lib.hid hin
        clear hgo hin hg HNUM
        go_enter Tryd.func58, Tryd.ntmps58
        go_wp2_with fail
        refine (HW.out _).mono ?_
        rintro e w' ⟨rfl, rfl⟩
        go_wp2_with fail
        skip
        refine (HIN.out _).mono ?_
        rintro e w' ⟨rfl, rfl⟩
        go_wp2_with fail
        go_ret2
        exact ⟨by rw [HR.out]; rfl, rfl⟩
      | false =>
        have HRR : Hid (numeral s.data.toList = if valF 16 ((s.data.toList.take (2 + P)).drop 2) 0 < 4294967296 then some (valF 16 ((s.data.toList.take (2 + P)).drop 2) 0, 2 + P) else none) := Lib.hid (by rw [HNUM.out, if_neg HZ.out, hg, hgo]; simp)
        rw [hgo] at hin
        have HIN := Lib.hid hin
        clear hgo hin hg HNUM
        go_enter Tryd.func58, Tryd.ntmps58
        go_wp2_with fail
        refine (HW.out _).mono ?_
        rintro e w' ⟨rfl, rfl⟩
        go_wp2_with fail
        skip
        refine (HIN.out _).mono ?_
        rintro e w' ⟨rfl, rfl⟩
        go_wp2_with fail
        go_loopg [8, 9] P (fun g v i wr => ∃ (k : Nat) (X : Int), 2 ≤ k ∧ k + g = 2 + P ∧ i = .int .i64 k ∧ v = .int .u64 X ∧ 0 ≤ X ∧ X < 4294967296 ∧ Hid (X = (valF 16 ((s.data.toList.take k).drop 2) 0 : Nat)) ∧ wr = w)
        case atStart => exact ⟨2, 0, Nat.le_refl _, by omega, rfl, rfl, by omega, by omega, Lib.hid (by rw [List.drop_eq_nil_of_le (by rw [List.length_take]; omega)]; rfl), rfl⟩
        case round =>
          obtain ⟨k, X, hk1, hk, rfl, rfl, hx0, hx1, hv, hwr⟩ := hrel
          subst hwr
          have HK := Lib.hid hk
          have hk' : k ≤ 2 + P := by omega
          clear hk
          by_cases hkn : k < 2 + P
          · have hki : (k : Int) < (2 : Int) + (P : Int) := by omega
            have hks : k < s.size := by omega
            have hksi : (k : Int) < s.size := by omega
            have hd := HD0.out k hks hk1 hkn
            have hdg := fun W => rdigit_any (s[k]'hks) (by omega) W
            have HVN : Hid (((valF 16 ((s.data.toList.take (k + 1)).drop 2) 0 : Nat) : Int) = X * 16 + (digV (s[k]'hks) : Int)) := Lib.hid (by rw [slice_snoc s 2 k hk1 hks, valF_append, hv.out]; exact Int.natCast_add _ _)
            have y0 : (0 : Int) ≤ (digV (s[k]'hks) : Int) := by omega
            have y1 : (digV (s[k]'hks) : Int) < 16 := by omega
            clear hd
            generalize (digV (s[k]'hks) : Int) = D at *
            by_cases hov : (4294967296 : Int) ≤ X * 16 + D
            · have HR : Hid (numeral s.data.toList = none) := Lib.hid (by
                rw [HRR.out, if_neg]
                intro hc
                have h1 := slice_part s.data.toList 2 (k + 1) (2 + P) (by omega) (by omega) (by rw [len_size]; omega)
                rw [h1, valF_append] at hc
                have h2 := valF_le 16 (by omega) ((s.data.toList.take (2 + P)).drop (k + 1)) (valF 16 ((s.data.toList.take (k + 1)).drop 2) 0)
                have h3 := HVN.out
                omega)
              go_wp2_with (go_at_call 82; refine (hdg _).mono ?_; rintro e w' ⟨rfl, rfl⟩)
              go_ret2
              exact ⟨by rw [HR.out]; rfl, rfl⟩
            · have hov2 : X * 16 + D < 4294967296 := by omega
              clear hov
              go_wp2_with (go_at_call 82; refine (hdg _).mono ?_; rintro e w' ⟨rfl, rfl⟩)
              go_roundg (gk - 1)
              case measure => have := HK.out; omega
              case rel => exact ⟨k + 1, X * 16 + D, by omega, by have := HK.out; omega, by go_num, rfl, by omega, hov2, Lib.hid (HVN.out).symm, rfl⟩
          · obtain rfl : k = 2 + P := by omega
            have hki : ¬ ((2 + P : Nat) : Int) < (2 : Int) + (P : Int) := by omega
            have HR : Hid (numeral s.data.toList = some (valF 16 ((s.data.toList.take (2 + P)).drop 2) 0, 2 + P)) := Lib.hid (by rw [HRR.out, if_pos (by have := hv.out; omega)])
            go_wp2_with fail
            go_ret2
            exact ⟨by rw [HR.out]; show _ = Ending.returned (.tuple #[.int .u32 ((valF 16 ((s.data.toList.take (2 + P)).drop 2) 0 : Nat) : Int), .int .i64 ((2 + P : Nat) : Int)]); rw [← hv.out]; go_num, rfl⟩
    · have hlti : ¬ (2 : Int) + (P : Int) < (s.size : Int) := by omega
      have HRR : Hid (numeral s.data.toList = if valF 16 ((s.data.toList.take (2 + P)).drop 2) 0 < 4294967296 then some (valF 16 ((s.data.toList.take (2 + P)).drop 2) 0, 2 + P) else none) := Lib.hid (by
        rw [HNUM.out, if_neg HZ.out, if_neg (c := (goOnName _ && decide (2 + P < s.size)) = true)]
        simp [hlt])
      clear HNUM
      go_enter Tryd.func58, Tryd.ntmps58
      go_wp2_with fail
      refine (HW.out _).mono ?_
      rintro e w' ⟨rfl, rfl⟩
      go_wp2_with fail
      go_loopg [8, 9] P (fun g v i wr => ∃ (k : Nat) (X : Int), 2 ≤ k ∧ k + g = 2 + P ∧ i = .int .i64 k ∧ v = .int .u64 X ∧ 0 ≤ X ∧ X < 4294967296 ∧ Hid (X = (valF 16 ((s.data.toList.take k).drop 2) 0 : Nat)) ∧ wr = w)
      case atStart => exact ⟨2, 0, Nat.le_refl _, by omega, rfl, rfl, by omega, by omega, Lib.hid (by rw [List.drop_eq_nil_of_le (by rw [List.length_take]; omega)]; rfl), rfl⟩
      case round =>
        obtain ⟨k, X, hk1, hk, rfl, rfl, hx0, hx1, hv, hwr⟩ := hrel
        subst hwr
        have HK := Lib.hid hk
        have hk' : k ≤ 2 + P := by omega
        clear hk
        by_cases hkn : k < 2 + P
        · have hki : (k : Int) < (2 : Int) + (P : Int) := by omega
          have hks : k < s.size := by omega
          have hksi : (k : Int) < s.size := by omega
          have hd := HD0.out k hks hk1 hkn
          have hdg := fun W => rdigit_any (s[k]'hks) (by omega) W
          have HVN : Hid (((valF 16 ((s.data.toList.take (k + 1)).drop 2) 0 : Nat) : Int) = X * 16 + (digV (s[k]'hks) : Int)) := Lib.hid (by rw [slice_snoc s 2 k hk1 hks, valF_append, hv.out]; exact Int.natCast_add _ _)
          have y0 : (0 : Int) ≤ (digV (s[k]'hks) : Int) := by omega
          have y1 : (digV (s[k]'hks) : Int) < 16 := by omega
          clear hd
          generalize (digV (s[k]'hks) : Int) = D at *
          by_cases hov : (4294967296 : Int) ≤ X * 16 + D
          · have HR : Hid (numeral s.data.toList = none) := Lib.hid (by
              rw [HRR.out, if_neg]
              intro hc
              have h1 := slice_part s.data.toList 2 (k + 1) (2 + P) (by omega) (by omega) (by rw [len_size]; omega)
              rw [h1, valF_append] at hc
              have h2 := valF_le 16 (by omega) ((s.data.toList.take (2 + P)).drop (k + 1)) (valF 16 ((s.data.toList.take (k + 1)).drop 2) 0)
              have h3 := HVN.out
              omega)
            go_wp2_with (go_at_call 82; refine (hdg _).mono ?_; rintro e w' ⟨rfl, rfl⟩)
            go_ret2
            exact ⟨by rw [HR.out]; rfl, rfl⟩
          · have hov2 : X * 16 + D < 4294967296 := by omega
            clear hov
            go_wp2_with (go_at_call 82; refine (hdg _).mono ?_; rintro e w' ⟨rfl, rfl⟩)
            go_roundg (gk - 1)
            case measure => have := HK.out; omega
            case rel => exact ⟨k + 1, X * 16 + D, by omega, by have := HK.out; omega, by go_num, rfl, by omega, hov2, Lib.hid (HVN.out).symm, rfl⟩
        · obtain rfl : k = 2 + P := by omega
          have hki : ¬ ((2 + P : Nat) : Int) < (2 : Int) + (P : Int) := by omega
          have HR : Hid (numeral s.data.toList = some (valF 16 ((s.data.toList.take (2 + P)).drop 2) 0, 2 + P)) := Lib.hid (by rw [HRR.out, if_pos (by have := hv.out; omega)])
          go_wp2_with fail
          go_ret2
          exact ⟨by rw [HR.out]; show _ = Ending.returned (.tuple #[.int .u32 ((valF 16 ((s.data.toList.take (2 + P)).drop 2) 0 : Nat) : Int), .int .i64 ((2 + P : Nat) : Int)]); rw [← hv.out]; go_num, rfl⟩

set_option maxRecDepth 100000 in
set_option maxHeartbeats 2000000 in
theorem num2 (s : ByteArray) (w : World) (hs : s.size ≤ 65536) (h0i : (0 : Int) < s.size) (hl1 : (1 : Int) < s.size) (q1 : ((s.extract 0 2).toList == [48, 120]) = false) (q2 : ((s.extract 0 2).toList == [48, 98]) = true) (hbase : baseOf s.data.toList = (2, 2)) :
    Calls Tryd.prog 58 #[.string s] w fun e w' => NumOut (numeral s.data.toList) e ∧ w = w' := by
  have hw := fun W => while_any (s.extract 2 s.size) setBin W (by simp [maxLen]; omega) (by decide)
  have hrun : run (s.extract 2 s.size).data.toList setBin = pre (fun c => digV c < 2) (s.data.toList.drop 2) := by rw [run_pre _ _ (fun c => digV c < 2) in_bin, ext_drop]
  have hd0 := @dig_at s 2 2
  have hnum := num_at hbase
  have hple := pre_le (fun c => digV c < 2) (s.data.toList.drop 2)
  rw [hrun] at hw
  rw [List.length_drop, len_size] at hple
  rw [len_size] at hnum
  clear hrun hbase
  generalize pre (fun c => digV c < 2) (s.data.toList.drop 2) = P at *
  have HD0 := Lib.hid hd0
  have HNUM := Lib.hid hnum
  have HW := Lib.hid hw
  clear hd0 hnum hw
  by_cases hz : P = 0
  · have HR : Hid (numeral s.data.toList = none) := Lib.hid (by rw [HNUM.out, if_pos (by omega)])
    have hz1 : ((2 : Int) + (P : Int) == 2) = true := beq_iff_eq.2 (by omega)
    clear hz HNUM
    go_enter Tryd.func58, Tryd.ntmps58
    go_wp2_with fail
    refine (HW.out _).mono ?_
    rintro e w' ⟨rfl, rfl⟩
    go_wp2_with fail
    go_ret2
    exact ⟨by rw [HR.out]; rfl, rfl⟩
  · have hz1 : ((2 : Int) + (P : Int) == 2) = false := beq_eq_false_iff_ne.2 (by omega)
    have hN : 2 + P ≤ s.size := by omega
    have HZ : Hid (¬ 2 + P = 2) := Lib.hid (by omega)
    have hP : 0 < P := by omega
    clear hz
    by_cases hlt : 2 + P < s.size
    · have hlti : (2 : Int) + (P : Int) < (s.size : Int) := by omega
      have hg := at_getD s (2 + P) hlt
      have hin := fun W => in_any (s[2 + P]'hlt) setName W (by decide)
      rw [in_name] at hin
      cases hgo : goOnName (s[2 + P]'hlt) with
      | true =>
        have HR : Hid (numeral s.data.toList = none) := Lib.hid (by rw [HNUM.out, if_neg HZ.out, hg, hgo, if_pos (by simpa using hlt)])
        rw [hgo] at hin
        have HIN := Lib.hid hin
        clear hgo hin hg HNUM
        go_enter Tryd.func58, Tryd.ntmps58
        go_wp2_with fail
        refine (HW.out _).mono ?_
        rintro e w' ⟨rfl, rfl⟩
        go_wp2_with fail
        skip
        refine (HIN.out _).mono ?_
        rintro e w' ⟨rfl, rfl⟩
        go_wp2_with fail
        go_ret2
        exact ⟨by rw [HR.out]; rfl, rfl⟩
      | false =>
        have HRR : Hid (numeral s.data.toList = if valF 2 ((s.data.toList.take (2 + P)).drop 2) 0 < 4294967296 then some (valF 2 ((s.data.toList.take (2 + P)).drop 2) 0, 2 + P) else none) := Lib.hid (by rw [HNUM.out, if_neg HZ.out, hg, hgo]; simp)
        rw [hgo] at hin
        have HIN := Lib.hid hin
        clear hgo hin hg HNUM
        go_enter Tryd.func58, Tryd.ntmps58
        go_wp2_with fail
        refine (HW.out _).mono ?_
        rintro e w' ⟨rfl, rfl⟩
        go_wp2_with fail
        skip
        refine (HIN.out _).mono ?_
        rintro e w' ⟨rfl, rfl⟩
        go_wp2_with fail
        go_loopg [8, 9] P (fun g v i wr => ∃ (k : Nat) (X : Int), 2 ≤ k ∧ k + g = 2 + P ∧ i = .int .i64 k ∧ v = .int .u64 X ∧ 0 ≤ X ∧ X < 4294967296 ∧ Hid (X = (valF 2 ((s.data.toList.take k).drop 2) 0 : Nat)) ∧ wr = w)
        case atStart => exact ⟨2, 0, Nat.le_refl _, by omega, rfl, rfl, by omega, by omega, Lib.hid (by rw [List.drop_eq_nil_of_le (by rw [List.length_take]; omega)]; rfl), rfl⟩
        case round =>
          obtain ⟨k, X, hk1, hk, rfl, rfl, hx0, hx1, hv, hwr⟩ := hrel
          subst hwr
          have HK := Lib.hid hk
          have hk' : k ≤ 2 + P := by omega
          clear hk
          by_cases hkn : k < 2 + P
          · have hki : (k : Int) < (2 : Int) + (P : Int) := by omega
            have hks : k < s.size := by omega
            have hksi : (k : Int) < s.size := by omega
            have hd := HD0.out k hks hk1 hkn
            have hdg := fun W => rdigit_any (s[k]'hks) (by omega) W
            have HVN : Hid (((valF 2 ((s.data.toList.take (k + 1)).drop 2) 0 : Nat) : Int) = X * 2 + (digV (s[k]'hks) : Int)) := Lib.hid (by rw [slice_snoc s 2 k hk1 hks, valF_append, hv.out]; exact Int.natCast_add _ _)
            have y0 : (0 : Int) ≤ (digV (s[k]'hks) : Int) := by omega
            have y1 : (digV (s[k]'hks) : Int) < 2 := by omega
            clear hd
            generalize (digV (s[k]'hks) : Int) = D at *
            by_cases hov : (4294967296 : Int) ≤ X * 2 + D
            · have HR : Hid (numeral s.data.toList = none) := Lib.hid (by
                rw [HRR.out, if_neg]
                intro hc
                have h1 := slice_part s.data.toList 2 (k + 1) (2 + P) (by omega) (by omega) (by rw [len_size]; omega)
                rw [h1, valF_append] at hc
                have h2 := valF_le 2 (by omega) ((s.data.toList.take (2 + P)).drop (k + 1)) (valF 2 ((s.data.toList.take (k + 1)).drop 2) 0)
                have h3 := HVN.out
                omega)
              go_wp2_with (go_at_call 82; refine (hdg _).mono ?_; rintro e w' ⟨rfl, rfl⟩)
              go_ret2
              exact ⟨by rw [HR.out]; rfl, rfl⟩
            · have hov2 : X * 2 + D < 4294967296 := by omega
              clear hov
              go_wp2_with (go_at_call 82; refine (hdg _).mono ?_; rintro e w' ⟨rfl, rfl⟩)
              go_roundg (gk - 1)
              case measure => have := HK.out; omega
              case rel => exact ⟨k + 1, X * 2 + D, by omega, by have := HK.out; omega, by go_num, rfl, by omega, hov2, Lib.hid (HVN.out).symm, rfl⟩
          · obtain rfl : k = 2 + P := by omega
            have hki : ¬ ((2 + P : Nat) : Int) < (2 : Int) + (P : Int) := by omega
            have HR : Hid (numeral s.data.toList = some (valF 2 ((s.data.toList.take (2 + P)).drop 2) 0, 2 + P)) := Lib.hid (by rw [HRR.out, if_pos (by have := hv.out; omega)])
            go_wp2_with fail
            go_ret2
            exact ⟨by rw [HR.out]; show _ = Ending.returned (.tuple #[.int .u32 ((valF 2 ((s.data.toList.take (2 + P)).drop 2) 0 : Nat) : Int), .int .i64 ((2 + P : Nat) : Int)]); rw [← hv.out]; go_num, rfl⟩
    · have hlti : ¬ (2 : Int) + (P : Int) < (s.size : Int) := by omega
      have HRR : Hid (numeral s.data.toList = if valF 2 ((s.data.toList.take (2 + P)).drop 2) 0 < 4294967296 then some (valF 2 ((s.data.toList.take (2 + P)).drop 2) 0, 2 + P) else none) := Lib.hid (by
        rw [HNUM.out, if_neg HZ.out, if_neg (c := (goOnName _ && decide (2 + P < s.size)) = true)]
        simp [hlt])
      clear HNUM
      go_enter Tryd.func58, Tryd.ntmps58
      go_wp2_with fail
      refine (HW.out _).mono ?_
      rintro e w' ⟨rfl, rfl⟩
      go_wp2_with fail
      go_loopg [8, 9] P (fun g v i wr => ∃ (k : Nat) (X : Int), 2 ≤ k ∧ k + g = 2 + P ∧ i = .int .i64 k ∧ v = .int .u64 X ∧ 0 ≤ X ∧ X < 4294967296 ∧ Hid (X = (valF 2 ((s.data.toList.take k).drop 2) 0 : Nat)) ∧ wr = w)
      case atStart => exact ⟨2, 0, Nat.le_refl _, by omega, rfl, rfl, by omega, by omega, Lib.hid (by rw [List.drop_eq_nil_of_le (by rw [List.length_take]; omega)]; rfl), rfl⟩
      case round =>
        obtain ⟨k, X, hk1, hk, rfl, rfl, hx0, hx1, hv, hwr⟩ := hrel
        subst hwr
        have HK := Lib.hid hk
        have hk' : k ≤ 2 + P := by omega
        clear hk
        by_cases hkn : k < 2 + P
        · have hki : (k : Int) < (2 : Int) + (P : Int) := by omega
          have hks : k < s.size := by omega
          have hksi : (k : Int) < s.size := by omega
          have hd := HD0.out k hks hk1 hkn
          have hdg := fun W => rdigit_any (s[k]'hks) (by omega) W
          have HVN : Hid (((valF 2 ((s.data.toList.take (k + 1)).drop 2) 0 : Nat) : Int) = X * 2 + (digV (s[k]'hks) : Int)) := Lib.hid (by rw [slice_snoc s 2 k hk1 hks, valF_append, hv.out]; exact Int.natCast_add _ _)
          have y0 : (0 : Int) ≤ (digV (s[k]'hks) : Int) := by omega
          have y1 : (digV (s[k]'hks) : Int) < 2 := by omega
          clear hd
          generalize (digV (s[k]'hks) : Int) = D at *
          by_cases hov : (4294967296 : Int) ≤ X * 2 + D
          · have HR : Hid (numeral s.data.toList = none) := Lib.hid (by
              rw [HRR.out, if_neg]
              intro hc
              have h1 := slice_part s.data.toList 2 (k + 1) (2 + P) (by omega) (by omega) (by rw [len_size]; omega)
              rw [h1, valF_append] at hc
              have h2 := valF_le 2 (by omega) ((s.data.toList.take (2 + P)).drop (k + 1)) (valF 2 ((s.data.toList.take (k + 1)).drop 2) 0)
              have h3 := HVN.out
              omega)
            go_wp2_with (go_at_call 82; refine (hdg _).mono ?_; rintro e w' ⟨rfl, rfl⟩)
            go_ret2
            exact ⟨by rw [HR.out]; rfl, rfl⟩
          · have hov2 : X * 2 + D < 4294967296 := by omega
            clear hov
            go_wp2_with (go_at_call 82; refine (hdg _).mono ?_; rintro e w' ⟨rfl, rfl⟩)
            go_roundg (gk - 1)
            case measure => have := HK.out; omega
            case rel => exact ⟨k + 1, X * 2 + D, by omega, by have := HK.out; omega, by go_num, rfl, by omega, hov2, Lib.hid (HVN.out).symm, rfl⟩
        · obtain rfl : k = 2 + P := by omega
          have hki : ¬ ((2 + P : Nat) : Int) < (2 : Int) + (P : Int) := by omega
          have HR : Hid (numeral s.data.toList = some (valF 2 ((s.data.toList.take (2 + P)).drop 2) 0, 2 + P)) := Lib.hid (by rw [HRR.out, if_pos (by have := hv.out; omega)])
          go_wp2_with fail
          go_ret2
          exact ⟨by rw [HR.out]; show _ = Ending.returned (.tuple #[.int .u32 ((valF 2 ((s.data.toList.take (2 + P)).drop 2) 0 : Nat) : Int), .int .i64 ((2 + P : Nat) : Int)]); rw [← hv.out]; go_num, rfl⟩

set_option maxRecDepth 100000 in
set_option maxHeartbeats 2000000 in
theorem num10 (s : ByteArray) (w : World) (hs : s.size ≤ 65536) (h0i : (0 : Int) < s.size) (hl1 : (1 : Int) < s.size) (q1 : ((s.extract 0 2).toList == [48, 120]) = false) (q2 : ((s.extract 0 2).toList == [48, 98]) = false) (hbase : baseOf s.data.toList = (10, 0)) :
    Calls Tryd.prog 58 #[.string s] w fun e w' => NumOut (numeral s.data.toList) e ∧ w = w' := by
  have hw := fun W => while_any s setDig W (by simp [maxLen]; omega) (by decide)
  have hrun : run s.data.toList setDig = pre (fun c => digV c < 10) (s.data.toList.drop 0) := by rw [run_pre _ _ (fun c => digV c < 10) in_dig10, List.drop_zero]
  have hd0 := @dig_at s 0 10
  have hnum := num_at hbase
  have hple := pre_le (fun c => digV c < 10) (s.data.toList.drop 0)
  rw [hrun] at hw
  rw [List.length_drop, len_size] at hple
  rw [len_size] at hnum
  clear hrun hbase
  generalize pre (fun c => digV c < 10) (s.data.toList.drop 0) = P at *
  simp only [Nat.zero_add, Nat.sub_zero] at hd0 hnum hple
  have HD0 := Lib.hid hd0
  have HNUM := Lib.hid hnum
  have HW := Lib.hid hw
  clear hd0 hnum hw
  by_cases hz : P = 0
  · have HR : Hid (numeral s.data.toList = none) := Lib.hid (by rw [HNUM.out, if_pos (by omega)])
    have hz1 : ((P : Int) == 0) = true := beq_iff_eq.2 (by omega)
    clear hz HNUM
    go_enter Tryd.func58, Tryd.ntmps58
    go_wp2_with fail
    refine (HW.out _).mono ?_
    rintro e w' ⟨rfl, rfl⟩
    go_wp2_with fail
    go_ret2
    exact ⟨by rw [HR.out]; rfl, rfl⟩
  · have hz1 : ((P : Int) == 0) = false := beq_eq_false_iff_ne.2 (by omega)
    have hN : P ≤ s.size := by omega
    have HZ : Hid (¬ P = 0) := Lib.hid (by omega)
    have hP : 0 < P := by omega
    clear hz
    by_cases hlt : P < s.size
    · have hlti : (P : Int) < (s.size : Int) := by omega
      have hg := at_getD s (P) hlt
      have hin := fun W => in_any (s[P]'hlt) setName W (by decide)
      rw [in_name] at hin
      cases hgo : goOnName (s[P]'hlt) with
      | true =>
        have HR : Hid (numeral s.data.toList = none) := Lib.hid (by rw [HNUM.out, if_neg HZ.out, hg, hgo, if_pos (by simpa using hlt)])
        rw [hgo] at hin
        have HIN := Lib.hid hin
        clear hgo hin hg HNUM
        go_enter Tryd.func58, Tryd.ntmps58
        go_wp2_with fail
        refine (HW.out _).mono ?_
        rintro e w' ⟨rfl, rfl⟩
        go_wp2_with fail
        skip
        refine (HIN.out _).mono ?_
        rintro e w' ⟨rfl, rfl⟩
        go_wp2_with fail
        go_ret2
        exact ⟨by rw [HR.out]; rfl, rfl⟩
      | false =>
        have HRR : Hid (numeral s.data.toList = if valF 10 ((s.data.toList.take (P)).drop 0) 0 < 4294967296 then some (valF 10 ((s.data.toList.take (P)).drop 0) 0, P) else none) := Lib.hid (by rw [HNUM.out, if_neg HZ.out, hg, hgo]; simp)
        rw [hgo] at hin
        have HIN := Lib.hid hin
        clear hgo hin hg HNUM
        go_enter Tryd.func58, Tryd.ntmps58
        go_wp2_with fail
        refine (HW.out _).mono ?_
        rintro e w' ⟨rfl, rfl⟩
        go_wp2_with fail
        skip
        refine (HIN.out _).mono ?_
        rintro e w' ⟨rfl, rfl⟩
        go_wp2_with fail
        go_loopg [8, 9] P (fun g v i wr => ∃ (k : Nat) (X : Int), 0 ≤ k ∧ k + g = P ∧ i = .int .i64 k ∧ v = .int .u64 X ∧ 0 ≤ X ∧ X < 4294967296 ∧ Hid (X = (valF 10 ((s.data.toList.take k).drop 0) 0 : Nat)) ∧ wr = w)
        case atStart => exact ⟨0, 0, Nat.le_refl _, by omega, rfl, rfl, by omega, by omega, Lib.hid (by rw [List.drop_eq_nil_of_le (by rw [List.length_take]; omega)]; rfl), rfl⟩
        case round =>
          obtain ⟨k, X, hk1, hk, rfl, rfl, hx0, hx1, hv, hwr⟩ := hrel
          subst hwr
          have HK := Lib.hid hk
          have hk' : k ≤ P := by omega
          clear hk
          by_cases hkn : k < P
          · have hki : (k : Int) < (P : Int) := by omega
            have hks : k < s.size := by omega
            have hksi : (k : Int) < s.size := by omega
            have hd := HD0.out k hks hk1 hkn
            have hdg := fun W => rdigit_any (s[k]'hks) (by omega) W
            have HVN : Hid (((valF 10 ((s.data.toList.take (k + 1)).drop 0) 0 : Nat) : Int) = X * 10 + (digV (s[k]'hks) : Int)) := Lib.hid (by rw [slice_snoc s 0 k hk1 hks, valF_append, hv.out]; exact Int.natCast_add _ _)
            have y0 : (0 : Int) ≤ (digV (s[k]'hks) : Int) := by omega
            have y1 : (digV (s[k]'hks) : Int) < 10 := by omega
            clear hd
            generalize (digV (s[k]'hks) : Int) = D at *
            by_cases hov : (4294967296 : Int) ≤ X * 10 + D
            · have HR : Hid (numeral s.data.toList = none) := Lib.hid (by
                rw [HRR.out, if_neg]
                intro hc
                have h1 := slice_part s.data.toList 0 (k + 1) (P) (by omega) (by omega) (by rw [len_size]; omega)
                rw [h1, valF_append] at hc
                have h2 := valF_le 10 (by omega) ((s.data.toList.take (P)).drop (k + 1)) (valF 10 ((s.data.toList.take (k + 1)).drop 0) 0)
                have h3 := HVN.out
                omega)
              go_wp2_with (go_at_call 82; refine (hdg _).mono ?_; rintro e w' ⟨rfl, rfl⟩)
              go_ret2
              exact ⟨by rw [HR.out]; rfl, rfl⟩
            · have hov2 : X * 10 + D < 4294967296 := by omega
              clear hov
              go_wp2_with (go_at_call 82; refine (hdg _).mono ?_; rintro e w' ⟨rfl, rfl⟩)
              go_roundg (gk - 1)
              case measure => have := HK.out; omega
              case rel => exact ⟨k + 1, X * 10 + D, by omega, by have := HK.out; omega, by go_num, rfl, by omega, hov2, Lib.hid (HVN.out).symm, rfl⟩
          · obtain rfl : P = k := by omega
            have hki : ¬ ((P : Nat) : Int) < (P : Int) := by omega
            have HR : Hid (numeral s.data.toList = some (valF 10 ((s.data.toList.take (P)).drop 0) 0, P)) := Lib.hid (by rw [HRR.out, if_pos (by have := hv.out; omega)])
            go_wp2_with fail
            go_ret2
            exact ⟨by rw [HR.out]; show _ = Ending.returned (.tuple #[.int .u32 ((valF 10 ((s.data.toList.take (P)).drop 0) 0 : Nat) : Int), .int .i64 ((P : Nat) : Int)]); rw [← hv.out]; go_num, rfl⟩
    · have hlti : ¬ (P : Int) < (s.size : Int) := by omega
      have HRR : Hid (numeral s.data.toList = if valF 10 ((s.data.toList.take (P)).drop 0) 0 < 4294967296 then some (valF 10 ((s.data.toList.take (P)).drop 0) 0, P) else none) := Lib.hid (by
        rw [HNUM.out, if_neg HZ.out, if_neg (c := (goOnName _ && decide (P < s.size)) = true)]
        simp [hlt])
      clear HNUM
      go_enter Tryd.func58, Tryd.ntmps58
      go_wp2_with fail
      refine (HW.out _).mono ?_
      rintro e w' ⟨rfl, rfl⟩
      go_wp2_with fail
      go_loopg [8, 9] P (fun g v i wr => ∃ (k : Nat) (X : Int), 0 ≤ k ∧ k + g = P ∧ i = .int .i64 k ∧ v = .int .u64 X ∧ 0 ≤ X ∧ X < 4294967296 ∧ Hid (X = (valF 10 ((s.data.toList.take k).drop 0) 0 : Nat)) ∧ wr = w)
      case atStart => exact ⟨0, 0, Nat.le_refl _, by omega, rfl, rfl, by omega, by omega, Lib.hid (by rw [List.drop_eq_nil_of_le (by rw [List.length_take]; omega)]; rfl), rfl⟩
      case round =>
        obtain ⟨k, X, hk1, hk, rfl, rfl, hx0, hx1, hv, hwr⟩ := hrel
        subst hwr
        have HK := Lib.hid hk
        have hk' : k ≤ P := by omega
        clear hk
        by_cases hkn : k < P
        · have hki : (k : Int) < (P : Int) := by omega
          have hks : k < s.size := by omega
          have hksi : (k : Int) < s.size := by omega
          have hd := HD0.out k hks hk1 hkn
          have hdg := fun W => rdigit_any (s[k]'hks) (by omega) W
          have HVN : Hid (((valF 10 ((s.data.toList.take (k + 1)).drop 0) 0 : Nat) : Int) = X * 10 + (digV (s[k]'hks) : Int)) := Lib.hid (by rw [slice_snoc s 0 k hk1 hks, valF_append, hv.out]; exact Int.natCast_add _ _)
          have y0 : (0 : Int) ≤ (digV (s[k]'hks) : Int) := by omega
          have y1 : (digV (s[k]'hks) : Int) < 10 := by omega
          clear hd
          generalize (digV (s[k]'hks) : Int) = D at *
          by_cases hov : (4294967296 : Int) ≤ X * 10 + D
          · have HR : Hid (numeral s.data.toList = none) := Lib.hid (by
              rw [HRR.out, if_neg]
              intro hc
              have h1 := slice_part s.data.toList 0 (k + 1) (P) (by omega) (by omega) (by rw [len_size]; omega)
              rw [h1, valF_append] at hc
              have h2 := valF_le 10 (by omega) ((s.data.toList.take (P)).drop (k + 1)) (valF 10 ((s.data.toList.take (k + 1)).drop 0) 0)
              have h3 := HVN.out
              omega)
            go_wp2_with (go_at_call 82; refine (hdg _).mono ?_; rintro e w' ⟨rfl, rfl⟩)
            go_ret2
            exact ⟨by rw [HR.out]; rfl, rfl⟩
          · have hov2 : X * 10 + D < 4294967296 := by omega
            clear hov
            go_wp2_with (go_at_call 82; refine (hdg _).mono ?_; rintro e w' ⟨rfl, rfl⟩)
            go_roundg (gk - 1)
            case measure => have := HK.out; omega
            case rel => exact ⟨k + 1, X * 10 + D, by omega, by have := HK.out; omega, by go_num, rfl, by omega, hov2, Lib.hid (HVN.out).symm, rfl⟩
        · obtain rfl : P = k := by omega
          have hki : ¬ ((P : Nat) : Int) < (P : Int) := by omega
          have HR : Hid (numeral s.data.toList = some (valF 10 ((s.data.toList.take (P)).drop 0) 0, P)) := Lib.hid (by rw [HRR.out, if_pos (by have := hv.out; omega)])
          go_wp2_with fail
          go_ret2
          exact ⟨by rw [HR.out]; show _ = Ending.returned (.tuple #[.int .u32 ((valF 10 ((s.data.toList.take (P)).drop 0) 0 : Nat) : Int), .int .i64 ((P : Nat) : Int)]); rw [← hv.out]; go_num, rfl⟩

set_option maxRecDepth 100000 in
set_option maxHeartbeats 2000000 in
theorem num1 (s : ByteArray) (w : World) (hs : s.size ≤ 65536) (h0i : (0 : Int) < s.size) (hl1 : ¬ (1 : Int) < s.size) (hbase : baseOf s.data.toList = (10, 0)) :
    Calls Tryd.prog 58 #[.string s] w fun e w' => NumOut (numeral s.data.toList) e ∧ w = w' := by
  have hw := fun W => while_any s setDig W (by simp [maxLen]; omega) (by decide)
  have hrun : run s.data.toList setDig = pre (fun c => digV c < 10) (s.data.toList.drop 0) := by rw [run_pre _ _ (fun c => digV c < 10) in_dig10, List.drop_zero]
  have hd0 := @dig_at s 0 10
  have hnum := num_at hbase
  have hple := pre_le (fun c => digV c < 10) (s.data.toList.drop 0)
  rw [hrun] at hw
  rw [List.length_drop, len_size] at hple
  rw [len_size] at hnum
  clear hrun hbase
  generalize pre (fun c => digV c < 10) (s.data.toList.drop 0) = P at *
  simp only [Nat.zero_add, Nat.sub_zero] at hd0 hnum hple
  have HD0 := Lib.hid hd0
  have HNUM := Lib.hid hnum
  have HW := Lib.hid hw
  clear hd0 hnum hw
  by_cases hz : P = 0
  · have HR : Hid (numeral s.data.toList = none) := Lib.hid (by rw [HNUM.out, if_pos (by omega)])
    have hz1 : ((P : Int) == 0) = true := beq_iff_eq.2 (by omega)
    clear hz HNUM
    go_enter Tryd.func58, Tryd.ntmps58
    go_wp2_with fail
    refine (HW.out _).mono ?_
    rintro e w' ⟨rfl, rfl⟩
    go_wp2_with fail
    go_ret2
    exact ⟨by rw [HR.out]; rfl, rfl⟩
  · have hz1 : ((P : Int) == 0) = false := beq_eq_false_iff_ne.2 (by omega)
    have hN : P ≤ s.size := by omega
    have HZ : Hid (¬ P = 0) := Lib.hid (by omega)
    have hP : 0 < P := by omega
    clear hz
    by_cases hlt : P < s.size
    · exfalso
      omega
    · have hlti : ¬ (P : Int) < (s.size : Int) := by omega
      have HRR : Hid (numeral s.data.toList = if valF 10 ((s.data.toList.take (P)).drop 0) 0 < 4294967296 then some (valF 10 ((s.data.toList.take (P)).drop 0) 0, P) else none) := Lib.hid (by
        rw [HNUM.out, if_neg HZ.out, if_neg (c := (goOnName _ && decide (P < s.size)) = true)]
        simp [hlt])
      clear HNUM
      go_enter Tryd.func58, Tryd.ntmps58
      go_wp2_with fail
      refine (HW.out _).mono ?_
      rintro e w' ⟨rfl, rfl⟩
      go_wp2_with fail
      go_loopg [8, 9] P (fun g v i wr => ∃ (k : Nat) (X : Int), 0 ≤ k ∧ k + g = P ∧ i = .int .i64 k ∧ v = .int .u64 X ∧ 0 ≤ X ∧ X < 4294967296 ∧ Hid (X = (valF 10 ((s.data.toList.take k).drop 0) 0 : Nat)) ∧ wr = w)
      case atStart => exact ⟨0, 0, Nat.le_refl _, by omega, rfl, rfl, by omega, by omega, Lib.hid (by rw [List.drop_eq_nil_of_le (by rw [List.length_take]; omega)]; rfl), rfl⟩
      case round =>
        obtain ⟨k, X, hk1, hk, rfl, rfl, hx0, hx1, hv, hwr⟩ := hrel
        subst hwr
        have HK := Lib.hid hk
        have hk' : k ≤ P := by omega
        clear hk
        by_cases hkn : k < P
        · have hki : (k : Int) < (P : Int) := by omega
          have hks : k < s.size := by omega
          have hksi : (k : Int) < s.size := by omega
          have hd := HD0.out k hks hk1 hkn
          have hdg := fun W => rdigit_any (s[k]'hks) (by omega) W
          have HVN : Hid (((valF 10 ((s.data.toList.take (k + 1)).drop 0) 0 : Nat) : Int) = X * 10 + (digV (s[k]'hks) : Int)) := Lib.hid (by rw [slice_snoc s 0 k hk1 hks, valF_append, hv.out]; exact Int.natCast_add _ _)
          have y0 : (0 : Int) ≤ (digV (s[k]'hks) : Int) := by omega
          have y1 : (digV (s[k]'hks) : Int) < 10 := by omega
          clear hd
          generalize (digV (s[k]'hks) : Int) = D at *
          by_cases hov : (4294967296 : Int) ≤ X * 10 + D
          · have HR : Hid (numeral s.data.toList = none) := Lib.hid (by
              rw [HRR.out, if_neg]
              intro hc
              have h1 := slice_part s.data.toList 0 (k + 1) (P) (by omega) (by omega) (by rw [len_size]; omega)
              rw [h1, valF_append] at hc
              have h2 := valF_le 10 (by omega) ((s.data.toList.take (P)).drop (k + 1)) (valF 10 ((s.data.toList.take (k + 1)).drop 0) 0)
              have h3 := HVN.out
              omega)
            go_wp2_with (go_at_call 82; refine (hdg _).mono ?_; rintro e w' ⟨rfl, rfl⟩)
            go_ret2
            exact ⟨by rw [HR.out]; rfl, rfl⟩
          · have hov2 : X * 10 + D < 4294967296 := by omega
            clear hov
            go_wp2_with (go_at_call 82; refine (hdg _).mono ?_; rintro e w' ⟨rfl, rfl⟩)
            go_roundg (gk - 1)
            case measure => have := HK.out; omega
            case rel => exact ⟨k + 1, X * 10 + D, by omega, by have := HK.out; omega, by go_num, rfl, by omega, hov2, Lib.hid (HVN.out).symm, rfl⟩
        · obtain rfl : P = k := by omega
          have hki : ¬ ((P : Nat) : Int) < (P : Int) := by omega
          have HR : Hid (numeral s.data.toList = some (valF 10 ((s.data.toList.take (P)).drop 0) 0, P)) := Lib.hid (by rw [HRR.out, if_pos (by have := hv.out; omega)])
          go_wp2_with fail
          go_ret2
          exact ⟨by rw [HR.out]; show _ = Ending.returned (.tuple #[.int .u32 ((valF 10 ((s.data.toList.take (P)).drop 0) 0 : Nat) : Int), .int .i64 ((P : Nat) : Int)]); rw [← hv.out]; go_num, rfl⟩

theorem numeral_any (s : ByteArray) (w : World) (hs : s.size ≤ 65536) (h0 : 0 < s.size) :
    Calls Tryd.prog 58 #[.string s] w fun e w' => NumOut (numeral s.data.toList) e ∧ w = w' := by
  have h0i : (0 : Int) < s.size := by omega
  by_cases hl : 1 < s.size
  · have hl1 : (1 : Int) < s.size := by omega
    have e1 : ((s.extract 0 2).toList == [48, 120]) = decide (s.data.toList.take 2 = [48, 120]) := by rw [str_list, ext_take]
    have e2 : ((s.extract 0 2).toList == [48, 98]) = decide (s.data.toList.take 2 = [48, 98]) := by rw [str_list, ext_take]
    by_cases h1 : s.data.toList.take 2 = [48, 120]
    · exact num16 s w hs h0i hl1 (by rw [e1]; exact decide_eq_true h1) (by rw [e2, h1]; decide) (by unfold baseOf; rw [if_pos h1])
    · by_cases h2 : s.data.toList.take 2 = [48, 98]
      · exact num2 s w hs h0i hl1 (by rw [e1]; exact decide_eq_false h1) (by rw [e2]; exact decide_eq_true h2) (by unfold baseOf; rw [if_neg h1, if_pos h2])
      · exact num10 s w hs h0i hl1 (by rw [e1]; exact decide_eq_false h1) (by rw [e2]; exact decide_eq_false h2) (by unfold baseOf; rw [if_neg h1, if_neg h2])
  · have hlen : (s.data.toList.take 2).length ≠ 2 := by rw [List.length_take, len_size]; omega
    exact num1 s w hs h0i (by omega) (by unfold baseOf; rw [if_neg (fun e => hlen (by rw [e]; rfl)), if_neg (fun e => hlen (by rw [e]; rfl))])
end Go.Proofs.YtbhfblogjlpnlaaDoor
