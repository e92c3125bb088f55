/-
  The contract of the lexer's quoted. Conditions: the slice's bytes lie in the memory; it has a byte, and at most 65536.
-/
import Derived.Test.YtbhfblogjlpnlaaDoorIxEsc
import Derived.Test.YtbhfblogjlpnlaaDoorIxNumber
import Derived.Test.YtbhfblogjlpnlaaDoorRxLine
namespace Go.Proofs.YtbhfblogjlpnlaaDoor
open Go.RowKit

def u8V (c : UInt8) : Value := .int .u8 (c.toNat : Int)

/-- What quoted answers. -/
def QOut (w0 : World) (r : Option (Bs × Nat)) (e : Ending) (w' : World) : Prop := (match r with
  | some x => ∃ v, e = .returned (.tuple #[v, .int .i64 ((x.2 : Int) + 1), .nilIface]) ∧ w'.ownsRow w0.heap.size 5 1 v x.1.length (x.1.map u8V)
  | none => e = .returned (.tuple #[.slice none 0 0, .int .i64 0, .iface 56 (.int .i64 4)])) ∧ Below w0.heap.size w0 w'

theorem Tryd.infoByte : (Tryd.prog.info? 5).map (fun i => (i.zero, i.size, i.bytes)) = some (some (.int .u8 0), 1, 1) := by kernel_rfl

structure QInv (s : ByteArray) (q : UInt8) (w0 : World) (k : Nat) (v : Value) (wr : World) (done : Bs) : Prop where
  own : wr.ownsRow w0.heap.size 5 1 v done.length (done.map u8V)
  rest : body q 0 (s.data.toList.drop 1) = (body q 0 (s.data.toList.drop k)).map fun x => (done ++ x.1, x.2 + (k - 1))
  few : done.length ≤ k
  one : 1 ≤ k
  top : k ≤ s.size
  below : Below w0.heap.size w0 wr

theorem q_start (s : ByteArray) (q : UInt8) (w : World) (h0 : 0 < s.size) : QInv s q w 1 (.slice none 0 0) w [] :=
  ⟨World.ownsRow_nil _ _ _ _, by cases body q 0 (s.data.toList.drop 1) <;> simp, Nat.zero_le _, Nat.le_refl _, h0, Below.refl _ _⟩

theorem drop_at (s : ByteArray) (k : Nat) (hk : k < s.size) : s.data.toList.drop k = (s[k]'hk) :: s.data.toList.drop (k + 1) := by
  have h2 : k < s.data.toList.length := by simpa using hk
  rw [List.drop_eq_getElem_cons h2]
  rfl

theorem q_step {s : ByteArray} {q : UInt8} {w0 wr w1 w2 : World} {k n : Nat} {v v' : Value} {done : Bs} {x : UInt8} {o1 : Obj} (hq : QInv s q w0 k v wr done) (hk : k < s.size) (hc : (s[k]'hk) ≠ q)
    (hu : unit q (s.data.toList.drop k) = some (x, n)) (hd : Drew wr w1) (hown : w2.ownsRow w0.heap.size 5 1 v' (done.length + 1) (done.map u8V ++ [u8V x])) (hgrow : (w1.alloc o1).grownBy w2 v.ownBlock) :
    QInv s q w0 (k + n) v' w2 (done ++ [x]) := by
  have hun := unit_len hu
  rw [List.length_drop, len_size] at hun
  have h1 := hq.one
  have h2 := hq.few
  have hs := hq.below.size
  have hd2 := hd.below
  have hs1 := hd2.size
  refine ⟨by simpa using hown, ?_, by simp; omega, by omega, by omega, ?_⟩
  · rw [hq.rest]
    have hdr := drop_at s k hk
    have hb := body_step q (s[k]'hk) (s.data.toList.drop (k + 1))
    rw [← hdr, if_neg hc, hu] at hb
    rw [hb]
    simp only [List.drop_drop]
    cases body q 0 (s.data.toList.drop (k + n)) with
    | none => rfl
    | some y =>
      simp
      omega
  · refine Below.grown ((hq.below.trans (hd2.mono hs)).alloc (by omega) o1) hgrow (by simp; omega) ?_
    intro g hg
    exact (hq.own.lt g hg).1

theorem q_end {s : ByteArray} {q : UInt8} {w0 wr : World} {k : Nat} {v : Value} {done : Bs} (hq : QInv s q w0 k v wr done) (hk : k < s.size) (hc : (s[k]'hk) = q) : body q 0 (s.data.toList.drop 1) = some (done, k) := by
  have h1 := hq.one
  rw [hq.rest, drop_at s k hk, body_step, if_pos hc]
  simp
  omega
theorem q_none {s : ByteArray} {q : UInt8} {w0 wr : World} {k : Nat} {v : Value} {done : Bs} (hq : QInv s q w0 k v wr done) (hk : k < s.size) (hc : (s[k]'hk) ≠ q) (hu : unit q (s.data.toList.drop k) = none) : body q 0 (s.data.toList.drop 1) = none := by
  rw [hq.rest]
  have hb := body_step q (s[k]'hk) (s.data.toList.drop (k + 1))
  rw [← drop_at s k hk, if_neg hc, hu] at hb
  rw [hb]
  rfl
theorem q_out {s : ByteArray} {q : UInt8} {w0 wr : World} {v : Value} {done : Bs} (hq : QInv s q w0 s.size v wr done) : body q 0 (s.data.toList.drop 1) = none := by
  rw [hq.rest, List.drop_eq_nil_of_le (by rw [len_size]; exact Nat.le_refl _)]
  rfl

theorem unit_esc (s : ByteArray) (q : UInt8) (k : Nat) (hk : k < s.size) (hc : (s[k]'hk) ≠ q) (h92 : (s[k]'hk) = 92) : unit q (s.data.toList.drop k) = escR (s.data.toList.drop k) := by
  rw [drop_at s k hk, unit_cons, if_neg hc, if_pos h92]
theorem unit_one (s : ByteArray) (q : UInt8) (k : Nat) (hk : k < s.size) (hc : (s[k]'hk) ≠ q) (h92 : (s[k]'hk) ≠ 92) (h : (32 : Int) ≤ (s[k]'hk).toNat ∨ (s[k]'hk) = 9 ∧ q = 34) : unit q (s.data.toList.drop k) = some ((s[k]'hk), 1) := by
  rw [drop_at s k hk, unit_cons, if_neg hc, if_neg h92, if_pos]
  rcases h with h | ⟨h1, h2⟩
  · simp [(nat32 _).1 h]
  · simp [h1, h2]
theorem unit_no (s : ByteArray) (q : UInt8) (k : Nat) (hk : k < s.size) (hc : (s[k]'hk) ≠ q) (h92 : (s[k]'hk) ≠ 92) (h : ¬ (32 : Int) ≤ (s[k]'hk).toNat) (h9 : ¬ ((s[k]'hk) = 9 ∧ q = 34)) : unit q (s.data.toList.drop k) = none := by
  rw [drop_at s k hk, unit_cons, if_neg hc, if_neg h92, if_neg]
  simp only [Bool.or_eq_true, Bool.and_eq_true, decide_eq_true_eq, beq_iff_eq, not_or]
  exact ⟨fun h' => h ((nat32 _).2 h'), h9⟩

set_option maxRecDepth 100000 in
set_option maxHeartbeats 2000000 in
theorem quoted_is (s : ByteArray) (b o c : Nat) (w : World) (hs : s.size ≤ 65536) (h0 : 0 < s.size) (hc : s.size ≤ c) (hB : Bytes w b o s) (r : Option (Bs × Nat)) (hr : body (s[0]'h0) 0 (s.data.toList.drop 1) = r) :
    Calls Tryd.prog 78 #[.slice (some ⟨b, o, none⟩) s.size c] w (QOut w r) := by
  obtain ⟨i0, hi, hz0, hz1, hz2⟩ := info_parts Tryd.infoByte
  have h0i : (0 : Int) < s.size := by omega
  have hck0 := hB.cell 0 h0
  rw [Nat.add_zero] at hck0
  have HB := Lib.hid hB
  clear hB
  have HST := Lib.hid (q_start s (s[0]'h0) w h0)
  have HR := Lib.hid hr
  clear hr
  generalize (s[0]'h0) = q at *
  go_enter Tryd.func78, Tryd.ntmps78
  go_wp2
  go_loopw [5, 7] (fun v i wr => ∃ (k : Nat) (done : Bs), i = .int .i64 k ∧ Hid (QInv s q w k v wr done)) (fun _ i _ => s.size - (intOf i).toNat)
  case atStart => exact ⟨1, [], rfl, HST⟩
  case round =>
    obtain ⟨k, done, rfl, HQ⟩ := hrel
    have hown := HQ.out.own
    have hfew := HQ.out.few
    have htop := HQ.out.top
    have hone := HQ.out.one
    have hsz := HQ.out.below.size
    by_cases hk : k < s.size
    · have hki : (k : Int) < s.size := by omega
      have hck := (HB.out.below HQ.out.below).cell k hk
      by_cases hq : (s[k]'hk) = q
      · have hq2 : (((s[k]'hk).toNat : Int) == (q.toNat : Int)) = true := by rw [hq]; exact beq_self_eq_true _
        have HE : Hid (r = some (done, k)) := Lib.hid (HR.out.symm.trans (q_end HQ.out hk hq))
        have HO := Lib.hid hown
        clear hown hq
        go_wp2_with fail
        go_ret3
        rw [HE.out]
        exact ⟨⟨_, rfl, HO.out⟩, HQ.out.below⟩
      · have hq2 : (((s[k]'hk).toNat : Int) == (q.toNat : Int)) = false := beq_eq_false_iff_ne.2 (fun h => hq (UInt8.toNat_inj.1 (by omega)))
        by_cases h92 : (s[k]'hk) = 92
        · have h922 : (((s[k]'hk).toNat : Int) == 92) = true := by rw [h92]; rfl
          have hes := esc_any (s.extract k s.size) (some ⟨b, o + k, none⟩) (c - k) wr (by simp; omega) (.inr ⟨b, o + k, rfl, (HB.out.below HQ.out.below).part k s.size (Nat.le_refl _)⟩)
          have hsx : (s.extract k s.size).size = s.size - k := by simp
          rw [hsx, ext_drop] at hes
          have hu := unit_esc s q k hk hq h92
          have hkc : ¬ c = k := by omega
          have hkci : (k : Int) ≤ c := by omega
          have HQ2 := Lib.hid hq
          clear hq h92
          cases hex : escR (s.data.toList.drop k) with
          | none =>
            rw [hex] at hes hu
            have HE : Hid (r = none) := Lib.hid (HR.out.symm.trans (q_none HQ.out hk HQ2.out hu))
            have HES := Lib.hid hes
            clear hes hu hex hown
            go_wp2_with fail
            refine HES.out.mono ?_
            rintro e w1 ⟨he, hd⟩
            have HD := Lib.hid hd
            change e = Ending.returned (.tuple #[.int .u8 0, .int .i64 0]) at he
            subst he
            clear hd
            go_wp2_with fail
            go_ret3
            rw [HE.out]
            exact ⟨rfl, HQ.out.below.trans (HD.out.below.mono HQ.out.below.size)⟩
          | some x =>
            obtain ⟨x, n⟩ := x
            rw [hex] at hes hu
            have HU := Lib.hid hu
            have HES := Lib.hid hes
            have hun := unit_len hu
            rw [List.length_drop, len_size] at hun
            have hn0 : ((n : Int) == 0) = false := by rw [beq_eq_false_iff_ne]; omega
            have hn1 := hun.1
            have hn2 := hun.2
            clear hes hu hex hun
            go_wp2_with fail
            refine HES.out.mono ?_
            rintro e w1 ⟨he, hd⟩
            have HD := Lib.hid hd
            change e = Ending.returned (.tuple #[.int .u8 (x.toNat : Int), .int .i64 (n : Int)]) at he
            subst he
            have hown1 := own_below hown hd.below
            have hsz1 := hd.below.size
            have HC := Lib.hid (cells_new w1 #[u8V x] 5 w1.heap.size rfl)
            clear hd
            go_wp2_with (first | (at_builtin; refine wpList_append_own _ rfl _ _ 22 rfl w.heap.size 5 i0 (.int .u8 0) 1 1 Tryd.underlying22 hi hz0 hz1 hz2 rfl (by decide) _ _ _ rfl (hown1.alloc _) ⟨w1.heap.size, 0, none⟩ 1 1 [u8V x] rfl rfl HC.out (by intro u hu; simp [u8V] at hu; rcases hu with rfl; rfl) (by unfold maxLen; omega) (by omega) (by simp; omega) ?_; intro v' w2 hown' hgrow _; have RR := q_step HQ.out hk HQ2.out HU.out HD.out hown' hgrow; clear hown' hgrow))
            go_roundw
            case rel => exact ⟨k + n, _, by go_num, Lib.hid RR⟩
            case measure => simp [intOf]; omega
        · have h922 : (((s[k]'hk).toNat : Int) == 92) = false := beq_nat_f (k := 92) (by decide) h92
          by_cases h32 : (32 : Int) ≤ (s[k]'hk).toNat
          · have HU := Lib.hid (unit_one s q k hk hq h92 (.inl h32))
            have HC := Lib.hid (cells_new wr #[u8V (s[k]'hk)] 5 wr.heap.size rfl)
            have HQ2 := Lib.hid hq
            clear hq h92 
            go_wp2_with (first | (at_builtin; refine wpList_append_own _ rfl _ _ 22 rfl w.heap.size 5 i0 (.int .u8 0) 1 1 Tryd.underlying22 hi hz0 hz1 hz2 rfl (by decide) _ _ _ rfl (hown.alloc _) ⟨wr.heap.size, 0, none⟩ 1 1 [u8V (s[k]'hk)] rfl rfl HC.out (by intro u hu; simp [u8V] at hu; rcases hu with rfl; rfl) (by unfold maxLen; omega) (by omega) (by simp; omega) ?_; intro v' w2 hown' hgrow _; have RR := q_step HQ.out hk HQ2.out HU.out (Drew.start wr) hown' hgrow; clear hown' hgrow))
            go_roundw
            case rel => exact ⟨k + 1, _, by go_num, Lib.hid RR⟩
            case measure => simp [intOf]; omega
          · by_cases h9 : (s[k]'hk) = 9
            · have h99 : (((s[k]'hk).toNat : Int) == 9) = true := by rw [h9]; rfl
              by_cases h34 : q = 34
              · have h344 : ((q.toNat : Int) == 34) = true := by rw [h34]; rfl
                have HU := Lib.hid (unit_one s q k hk hq h92 (.inr ⟨h9, h34⟩))
                have HC := Lib.hid (cells_new wr #[u8V (s[k]'hk)] 5 wr.heap.size rfl)
                have HQ2 := Lib.hid hq
                clear hq h92 h9 h34
                go_wp2_with (first | (at_builtin; refine wpList_append_own _ rfl _ _ 22 rfl w.heap.size 5 i0 (.int .u8 0) 1 1 Tryd.underlying22 hi hz0 hz1 hz2 rfl (by decide) _ _ _ rfl (hown.alloc _) ⟨wr.heap.size, 0, none⟩ 1 1 [u8V (s[k]'hk)] rfl rfl HC.out (by intro u hu; simp [u8V] at hu; rcases hu with rfl; rfl) (by unfold maxLen; omega) (by omega) (by simp; omega) ?_; intro v' w2 hown' hgrow _; have RR := q_step HQ.out hk HQ2.out HU.out (Drew.start wr) hown' hgrow; clear hown' hgrow))
                go_roundw
                case rel => exact ⟨k + 1, _, by go_num, Lib.hid RR⟩
                case measure => simp [intOf]; omega
              · have h344 : ((q.toNat : Int) == 34) = false := beq_nat_f (k := 34) (by decide) h34
                have HE : Hid (r = none) := Lib.hid (HR.out.symm.trans (q_none HQ.out hk hq (unit_no s q k hk hq h92 h32 (fun h => h34 h.2))))
                clear hq h92 h9 h34 hown
                go_wp2_with fail
                go_ret3
                rw [HE.out]
                exact ⟨rfl, HQ.out.below⟩
            · have h99 : (((s[k]'hk).toNat : Int) == 9) = false := beq_nat_f (k := 9) (by decide) h9
              have HE : Hid (r = none) := Lib.hid (HR.out.symm.trans (q_none HQ.out hk hq (unit_no s q k hk hq h92 h32 (fun h => h9 h.1))))
              clear hq h92 h9 hown
              go_wp2_with fail
              go_ret3
              rw [HE.out]
              exact ⟨rfl, HQ.out.below⟩
    · obtain rfl : k = s.size := by omega
      have HE : Hid (r = none) := Lib.hid (HR.out.symm.trans (q_out HQ.out))
      clear hown
      go_wp2_with fail
      go_ret3
      rw [HE.out]
      exact ⟨rfl, HQ.out.below⟩
end Go.Proofs.YtbhfblogjlpnlaaDoor
