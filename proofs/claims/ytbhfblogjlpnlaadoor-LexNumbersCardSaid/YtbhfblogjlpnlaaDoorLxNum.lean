/-
  LexNumbers: each number below 2^32 is read from its digits, and from those of base sixteen, as itself: the walk. Conditions: the handle of the type error; the variable internal/bytealg.MaxLen holds a number.
-/
import Derived.Test.YtbhfblogjlpnlaaDoorLxAwake
import Derived.Test.YtbhfblogjlpnlaaDoorLxNumS
import Derived.Laws.BitsLemmas
namespace Go.Proofs.YtbhfblogjlpnlaaDoor
open Go.RowKit

theorem valF_lin (b : Nat) : ∀ (l : Bs) (a : Nat), valF b l a = a * b ^ l.length + valF b l 0
  | [], a => by simp [valF]
  | c :: l, a => by
    have h1 := valF_lin b l (a * b + digV c)
    have h2 := valF_lin b l (0 * b + digV c)
    show valF b l (a * b + digV c) = _ + valF b l (0 * b + digV c)
    rw [h1, h2, List.length_cons, Nat.pow_succ, Nat.add_mul, Nat.zero_mul, Nat.zero_add, Nat.mul_assoc, Nat.mul_comm b]
    omega
theorem valF_cons (b : Nat) (c : UInt8) (l : Bs) : valF b (c :: l) 0 = digV c * b ^ l.length + valF b l 0 := by
  show valF b l (0 * b + digV c) = _
  rw [valF_lin, Nat.zero_mul, Nat.zero_add]

def digLit : ByteArray := ⟨#[48, 49, 50, 51, 52, 53, 54, 55, 56, 57]⟩
def hexLit : ByteArray := ⟨#[48, 49, 50, 51, 52, 53, 54, 55, 56, 57, 65, 66, 67, 68, 69, 70]⟩
theorem dig_fin : ∀ x : Fin 10, digLit.extract x.1 (x.1 + 1) = ba [UInt8.ofNat (48 + x.1)] ∧ isDig (UInt8.ofNat (48 + x.1)) = true ∧ digV (UInt8.ofNat (48 + x.1)) = x.1 := by decide +kernel
def hexC (x : Nat) : UInt8 := if x < 10 then UInt8.ofNat (48 + x) else UInt8.ofNat (55 + x)
theorem hexAll : ∀ x : Fin 16, hexLit.extract x.1 (x.1 + 1) = ba [hexC x.1] ∧ digV (hexC x.1) = x.1 := by decide +kernel
theorem no_bytes {p : UInt8 → Prop} : ∀ c ∈ ([] : Bs), p c := fun c h => by cases h

theorem nib (X : Int) (V i : Nat) (hX : X = V) (x1 : X < 4294967296) : ∃ y : Fin 16, bits BinOp.and IntKind.u32 (X / 2 ^ (4 * i)) 15 = y.1 ∧ y.1 = V / 16 ^ i % 16 := by
  have hm := bits_mask .u32 32 (by decide) (fun n h0 h1 => IntWalk.u32_in n ⟨h0, by omega⟩) 4 (by decide) (X / 2 ^ (4 * i)) (Int.ediv_nonneg (by omega) (by exact Int.pow_nonneg (by decide))) (by
    have : X / 2 ^ (4 * i) ≤ X := Int.ediv_le_self _ (by omega)
    omega)
  have hd : X / 2 ^ (4 * i) = ((V / 16 ^ i : Nat) : Int) := by
    rw [hX, Nat.pow_mul 2 4 i |> fun h => (by exact_mod_cast h : (2 : Int) ^ (4 * i) = ((2 : Int) ^ 4) ^ i)]
    norm_cast
  rw [hd] at hm ⊢
  refine ⟨⟨V / 16 ^ i % 16, Nat.mod_lt _ (by decide)⟩, ?_, rfl⟩
  have e1 : ((2 : Int) ^ 4 - 1) = 15 := by decide
  have e2 : ((2 : Int) ^ 4) = 16 := by decide
  rw [e1, e2] at hm
  rw [hm]
  norm_cast

set_option maxRecDepth 100000 in
set_option maxHeartbeats 4000000 in
theorem numbers_law (X : Int) (V : Nat) (w : World) (hv : Vars w) (hX : Hid (X = (V : Int))) (x0 : 0 ≤ X) (x1 : X < 4294967296) : Calls Tryd.prog 6 #[.int .u32 X] w fun e w' => e = .returned (.bool true) ∧ Below w.heap.size w w' := by
  have HAW := Lib.hid (awake_any w hv)
  have HV := Lib.hid hv
  have HDG := Lib.hid dig_fin
  clear hv
  go_enter Tryd.func6, Tryd.ntmps6
  go_wp2_with fail
  refine HAW.out.mono ?_
  rintro e w1 ⟨rfl, hb1⟩
  have HB1 := Lib.hid hb1
  clear hb1
  go_wp2_with fail
  go_loop [3, 5, 6] (fun d n k => ∃ (j : Nat) (D : Bs) (N : Int), j ≤ 10 ∧ k = .int .i64 j ∧ d = .string (ba D) ∧ n = .int .u32 N ∧ 0 ≤ N ∧ N < 4294967296 ∧ Hid (D.length = j ∧ (∀ c ∈ D, isDig c = true) ∧ V = valF 10 D 0 + N.toNat * 10 ^ j)) (fun _ _ k => 10 - (intOf k).toNat)
  case atStart => exact ⟨0, [], X, Nat.zero_le _, rfl, rfl, rfl, x0, x1, Lib.hid ⟨rfl, no_bytes, by have := hX.out; simp [valF]; omega⟩⟩
  case round =>
    obtain ⟨j, D, N, hj, rfl, rfl, rfl, n0, n1, HD⟩ := hrel
    by_cases hj10 : j < 10
    · have hji : (j : Int) < 10 := by omega
      obtain ⟨x, hx⟩ : ∃ x : Fin 10, N % 10 = x.1 := ⟨⟨(N % 10).toNat, by omega⟩, by show N % 10 = ((N % 10).toNat : Int); omega⟩
      obtain ⟨q1, q2, q3⟩ := HDG.out x
      have hext : (⟨#[48, 49, 50, 51, 52, 53, 54, 55, 56, 57]⟩ : ByteArray).extract (N % 10).toNat (N % 10 + 1).toNat = ba [UInt8.ofNat (48 + x.1)] := by
        rw [show (N % 10).toNat = x.1 by omega, show (N % 10 + 1).toNat = x.1 + 1 by omega]
        exact q1
      have hDl := HD.out.1
      have hsb : (ba D).size = j := by rw [ba_size]; exact hDl
      have hsa : (ba [UInt8.ofNat (48 + x.1)]).size = 1 := by rw [ba_size]; rfl
      have HD2 : Hid ((UInt8.ofNat (48 + x.1) :: D).length = j + 1 ∧ (∀ c ∈ UInt8.ofNat (48 + x.1) :: D, isDig c = true) ∧ V = valF 10 (UInt8.ofNat (48 + x.1) :: D) 0 + (N / 10).toNat * 10 ^ (j + 1)) := Lib.hid (by
        refine ⟨by rw [List.length_cons, hDl], fun c hc => ?_, ?_⟩
        · rcases List.mem_cons.1 hc with rfl | hc
          · exact q2
          · exact HD.out.2.1 c hc
        · have h := HD.out.2.2
          have hN : N.toNat = x.1 + 10 * (N / 10).toNat := by omega
          rw [valF_cons, q3, hDl, h, hN, Nat.pow_succ, Nat.add_mul, Nat.mul_comm 10 (N / 10).toNat, Nat.mul_assoc (N / 10).toNat, Nat.mul_comm 10 (10 ^ j)]
          omega)
      have hap : ba [UInt8.ofNat (48 + x.1)] ++ ba D = ba (UInt8.ofNat (48 + x.1) :: D) := ba_app [UInt8.ofNat (48 + x.1)] D
      generalize UInt8.ofNat (48 + x.1) = cc at *
      clear q1 q2 q3 hx hDl
      by_cases hz : N / 10 = 0
      · have hzb : (N / 10 == 0) = true := by rw [hz]; rfl
        have HF : Hid ((∀ c ∈ cc :: D, isDig c = true) ∧ cc :: D ≠ [] ∧ valF 10 (cc :: D) 0 = V) := Lib.hid ⟨HD2.out.2.1, by simp, by have := HD2.out.2.2; rw [hz] at this; simpa using this.symm⟩
        have hlen : (cc :: D).length ≤ 10 := by have := HD2.out.1; omega
        go_wp2_with fail
        generalize cc :: D = DD at *
        have HHX := Lib.hid hexAll
        have HXV := Lib.hid hX.out
        go_loop [4, 7] (fun h k => ∃ (j : Nat) (E : Bs), j ≤ 8 ∧ k = .int .i64 j ∧ h = .string (ba E) ∧ Hid (E.length = j ∧ (∀ c ∈ E, digV c < 16) ∧ valF 16 E 0 = V % 16 ^ j)) (fun _ k => 8 - (intOf k).toNat)
        case atStart => exact ⟨0, [], Nat.zero_le _, rfl, rfl, Lib.hid ⟨rfl, no_bytes, by simp [valF, Nat.mod_one]⟩⟩
        case round =>
          obtain ⟨i, E, hi, rfl, rfl, HE⟩ := hrel
          have hEl := HE.out.1
          have hsE : (ba E).size = i := by rw [ba_size]; exact hEl
          by_cases hi8 : i < 8
          · have hii : (i : Int) < 8 := by omega
            obtain ⟨y, hy⟩ : ∃ y : Fin 16, bits BinOp.and IntKind.u32 (X / 2 ^ (4 * i)) 15 = y.1 ∧ y.1 = V / 16 ^ i % 16 := nib X V i HXV.out x1
            obtain ⟨hy1, hy2⟩ := hy
            obtain ⟨p1, p2⟩ := HHX.out y
            have hext2 : (⟨#[48, 49, 50, 51, 52, 53, 54, 55, 56, 57, 65, 66, 67, 68, 69, 70]⟩ : ByteArray).extract y.1 (y.1 + 1) = ba [hexC y.1] := p1
            have hsy : (ba [hexC y.1]).size = 1 := by rw [ba_size]; rfl
            have HE2 : Hid ((hexC y.1 :: E).length = i + 1 ∧ (∀ c ∈ hexC y.1 :: E, digV c < 16) ∧ valF 16 (hexC y.1 :: E) 0 = V % 16 ^ (i + 1)) := Lib.hid (by
              refine ⟨by rw [List.length_cons, hEl], fun c hc => ?_, ?_⟩
              · rcases List.mem_cons.1 hc with rfl | hc
                · rw [p2]; exact y.2
                · exact HE.out.2.1 c hc
              · rw [valF_cons, p2, hEl, HE.out.2.2, Nat.pow_succ, Nat.mod_mul, hy2, Nat.mul_comm]
                omega)
            have hap2 : ba [hexC y.1] ++ ba E = ba (hexC y.1 :: E) := ba_app [hexC y.1] E
            have y0 : (0 : Int) ≤ (y.1 : Int) := by omega
            have y1 : (y.1 : Int) < 16 := by have := y.2; omega
            generalize hexC y.1 = hc at *
            clear p1 p2 hy2
            go_wp2_with fail
            go_round
            case rel => exact ⟨i + 1, hc :: E, by omega, by go_num, by first | rfl | (rw [hap2]; rfl), HE2⟩
            case measure => simp [intOf]; omega
          · obtain rfl : i = 8 := by omega
            have HR : Hid (LinesR 0 (cut (DD ++ 32 :: 48 :: 120 :: E)) [[⟨0, 5, [], V⟩, ⟨DD.length + 1, 5, [], V⟩]] none) := Lib.hid (read_num HF.out.1 HF.out.2.1 HF.out.2.2 HE.out.2.1 (fun h => by rw [h] at hEl; cases hEl) (by rw [HE.out.2.2]; exact Nat.mod_eq_of_lt (by have := HXV.out; omega)) (by have := HXV.out; omega))
            have hsD : (ba DD).size = DD.length := ba_size DD
            have hs3 : (ba DD ++ ⟨#[32, 48, 120]⟩ : ByteArray) = ba (DD ++ [32, 48, 120]) := ba_app DD [32, 48, 120]
            have hs4 : ba (DD ++ [32, 48, 120]) ++ ba E = ba (DD ++ 32 :: 48 :: 120 :: E) := by rw [ba_app, List.append_assoc]; rfl
            have hs5 : (ba (DD ++ [32, 48, 120])).size = DD.length + 3 := by rw [ba_size]; simp
            have hs6 : (ba (DD ++ 32 :: 48 :: 120 :: E)).size = DD.length + 11 := by rw [ba_size, List.length_append]; simp [hEl]
            have hcb := fun W => run_bytes_of_string (P := Tryd.prog) W 9 22 5 (ba (DD ++ 32 :: 48 :: 120 :: E)) Tryd.underlying9 Tryd.underlying22 Tryd.underlying5
            have hll : (DD.length : Int) ≤ 10 := by omega
            go_wp2_with fail
            have HLS := Lib.hid (lines_str (ba (DD ++ 32 :: 48 :: 120 :: E)) (DD.length + 11) hs6 ((bytesRow (ba (DD ++ 32 :: 48 :: 120 :: E)) (grownCap w1 (DD.length + 11) 0 5)).size, (bytesRow (ba (DD ++ 32 :: 48 :: 120 :: E)) (grownCap w1 (DD.length + 11) 0 5)).size + 1) [[⟨0, 5, [], V⟩, ⟨DD.length + 1, 5, [], V⟩]] none w1 (HV.out.below HB1.out) (by omega) (by rw [ba_list]; exact HR.out))
            have HBA : Hid (∀ o, Below w1.heap.size w1 (w1.alloc o).drew) := Lib.hid (fun o => ((Below.refl _ _).alloc (Nat.le_refl _) o).drew)
            clear hs3 hs4 hs5 hs6
            refine HLS.out.mono ?_
            rintro e w2 ⟨⟨v, us, rfl, hown, hlines⟩, hb2⟩
            obtain ⟨g, cp, rfl, hcp, hg, hr⟩ := lines_form hown (by simp)
            obtain ⟨gi, ci, hL⟩ := line_cells hlines hr (i := 0) (ps := [⟨0, 5, [], V⟩, ⟨DD.length + 1, 5, [], V⟩]) rfl (by simp)
            have HB2 : Hid (Below w.heap.size w w2) := Lib.hid (HB1.out.trans (((HBA.out _).trans (hb2.mono (by simp))).mono HB1.out.size))
            have r0 : w2.cell? ⟨g, 0, none⟩ = some (.slice (some ⟨gi, 0, none⟩) 2 ci) := hL.row
            have c0 : w2.cell? ⟨gi, 0, none⟩ = some (.int .i64 5) := hL.cell 0 _ rfl
            have c4 : w2.cell? ⟨gi, 4, none⟩ = some (.int .u32 X) := by rw [HXV.out]; exact hL.cell 4 _ rfl
            have d0 : w2.cell? ⟨gi, 6, none⟩ = some (.int .i64 5) := hL.cell 6 _ rfl
            have d2 : w2.cell? ⟨gi, 8, none⟩ = some (.int .i64 ((DD.length : Int) + 2)) := (hL.cell 8 _ rfl).trans (by
              show some (Value.int .i64 (((DD.length + 1 : Nat) : Int) + 1)) = _
              rw [show (((DD.length + 1 : Nat) : Int) + 1) = (DD.length : Int) + 2 by omega])
            have d4 : w2.cell? ⟨gi, 10, none⟩ = some (.int .u32 X) := by rw [HXV.out]; exact hL.cell 10 _ rfl
            have hci : 2 ≤ ci := hL.cap
            have hci2 : (2 : Int) ≤ ci := by omega
            clear hown hlines hr hb2 hL
            go_wp2_with fail
            go_ret
            exact ⟨rfl, HB2.out⟩
      · have hzb : (N / 10 == 0) = false := beq_eq_false_iff_ne.2 hz
        go_wp2_with fail
        go_round
        case rel => exact ⟨j + 1, cc :: D, N / 10, by omega, by go_num, by first | rfl | (rw [hap]), rfl, by omega, by omega, HD2⟩
        case measure => simp [intOf]; omega
    · obtain rfl : j = 10 := by omega
      have HNZ : Hid (N = 0) := Lib.hid (by have := HD.out.2.2; have := hX.out; omega)
      have HF : Hid ((∀ c ∈ D, isDig c = true) ∧ D ≠ [] ∧ valF 10 D 0 = V) := Lib.hid ⟨HD.out.2.1, fun h => by have := HD.out.1; rw [h] at this; simp at this, by have := HD.out.2.2; rw [HNZ.out] at this; simpa using this.symm⟩
      have hlen : D.length ≤ 10 := Nat.le_of_eq HD.out.1
      generalize D = DD at *
      go_wp2_with fail
      have HHX := Lib.hid hexAll
      have HXV := Lib.hid hX.out
      go_loop [4, 7] (fun h k => ∃ (j : Nat) (E : Bs), j ≤ 8 ∧ k = .int .i64 j ∧ h = .string (ba E) ∧ Hid (E.length = j ∧ (∀ c ∈ E, digV c < 16) ∧ valF 16 E 0 = V % 16 ^ j)) (fun _ k => 8 - (intOf k).toNat)
      case atStart => exact ⟨0, [], Nat.zero_le _, rfl, rfl, Lib.hid ⟨rfl, no_bytes, by simp [valF, Nat.mod_one]⟩⟩
      case round =>
        obtain ⟨i, E, hi, rfl, rfl, HE⟩ := hrel
        have hEl := HE.out.1
        have hsE : (ba E).size = i := by rw [ba_size]; exact hEl
        by_cases hi8 : i < 8
        · have hii : (i : Int) < 8 := by omega
          obtain ⟨y, hy⟩ : ∃ y : Fin 16, bits BinOp.and IntKind.u32 (X / 2 ^ (4 * i)) 15 = y.1 ∧ y.1 = V / 16 ^ i % 16 := nib X V i HXV.out x1
          obtain ⟨hy1, hy2⟩ := hy
          obtain ⟨p1, p2⟩ := HHX.out y
          have hext2 : (⟨#[48, 49, 50, 51, 52, 53, 54, 55, 56, 57, 65, 66, 67, 68, 69, 70]⟩ : ByteArray).extract y.1 (y.1 + 1) = ba [hexC y.1] := p1
          have hsy : (ba [hexC y.1]).size = 1 := by rw [ba_size]; rfl
          have HE2 : Hid ((hexC y.1 :: E).length = i + 1 ∧ (∀ c ∈ hexC y.1 :: E, digV c < 16) ∧ valF 16 (hexC y.1 :: E) 0 = V % 16 ^ (i + 1)) := Lib.hid (by
            refine ⟨by rw [List.length_cons, hEl], fun c hc => ?_, ?_⟩
            · rcases List.mem_cons.1 hc with rfl | hc
              · rw [p2]; exact y.2
              · exact HE.out.2.1 c hc
            · rw [valF_cons, p2, hEl, HE.out.2.2, Nat.pow_succ, Nat.mod_mul, hy2, Nat.mul_comm]
              omega)
          have hap2 : ba [hexC y.1] ++ ba E = ba (hexC y.1 :: E) := ba_app [hexC y.1] E
          have y0 : (0 : Int) ≤ (y.1 : Int) := by omega
          have y1 : (y.1 : Int) < 16 := by have := y.2; omega
          generalize hexC y.1 = hc at *
          clear p1 p2 hy2
          go_wp2_with fail
          go_round
          case rel => exact ⟨i + 1, hc :: E, by omega, by go_num, by first | rfl | (rw [hap2]; rfl), HE2⟩
          case measure => simp [intOf]; omega
        · obtain rfl : i = 8 := by omega
          have HR : Hid (LinesR 0 (cut (DD ++ 32 :: 48 :: 120 :: E)) [[⟨0, 5, [], V⟩, ⟨DD.length + 1, 5, [], V⟩]] none) := Lib.hid (read_num HF.out.1 HF.out.2.1 HF.out.2.2 HE.out.2.1 (fun h => by rw [h] at hEl; cases hEl) (by rw [HE.out.2.2]; exact Nat.mod_eq_of_lt (by have := HXV.out; omega)) (by have := HXV.out; omega))
          have hsD : (ba DD).size = DD.length := ba_size DD
          have hs3 : (ba DD ++ ⟨#[32, 48, 120]⟩ : ByteArray) = ba (DD ++ [32, 48, 120]) := ba_app DD [32, 48, 120]
          have hs4 : ba (DD ++ [32, 48, 120]) ++ ba E = ba (DD ++ 32 :: 48 :: 120 :: E) := by rw [ba_app, List.append_assoc]; rfl
          have hs5 : (ba (DD ++ [32, 48, 120])).size = DD.length + 3 := by rw [ba_size]; simp
          have hs6 : (ba (DD ++ 32 :: 48 :: 120 :: E)).size = DD.length + 11 := by rw [ba_size, List.length_append]; simp [hEl]
          have hcb := fun W => run_bytes_of_string (P := Tryd.prog) W 9 22 5 (ba (DD ++ 32 :: 48 :: 120 :: E)) Tryd.underlying9 Tryd.underlying22 Tryd.underlying5
          have hll : (DD.length : Int) ≤ 10 := by omega
          go_wp2_with fail
          have HLS := Lib.hid (lines_str (ba (DD ++ 32 :: 48 :: 120 :: E)) (DD.length + 11) hs6 ((bytesRow (ba (DD ++ 32 :: 48 :: 120 :: E)) (grownCap w1 (DD.length + 11) 0 5)).size, (bytesRow (ba (DD ++ 32 :: 48 :: 120 :: E)) (grownCap w1 (DD.length + 11) 0 5)).size + 1) [[⟨0, 5, [], V⟩, ⟨DD.length + 1, 5, [], V⟩]] none w1 (HV.out.below HB1.out) (by omega) (by rw [ba_list]; exact HR.out))
          have HBA : Hid (∀ o, Below w1.heap.size w1 (w1.alloc o).drew) := Lib.hid (fun o => ((Below.refl _ _).alloc (Nat.le_refl _) o).drew)
          clear hs3 hs4 hs5 hs6
          refine HLS.out.mono ?_
          rintro e w2 ⟨⟨v, us, rfl, hown, hlines⟩, hb2⟩
          obtain ⟨g, cp, rfl, hcp, hg, hr⟩ := lines_form hown (by simp)
          obtain ⟨gi, ci, hL⟩ := line_cells hlines hr (i := 0) (ps := [⟨0, 5, [], V⟩, ⟨DD.length + 1, 5, [], V⟩]) rfl (by simp)
          have HB2 : Hid (Below w.heap.size w w2) := Lib.hid (HB1.out.trans (((HBA.out _).trans (hb2.mono (by simp))).mono HB1.out.size))
          have r0 : w2.cell? ⟨g, 0, none⟩ = some (.slice (some ⟨gi, 0, none⟩) 2 ci) := hL.row
          have c0 : w2.cell? ⟨gi, 0, none⟩ = some (.int .i64 5) := hL.cell 0 _ rfl
          have c4 : w2.cell? ⟨gi, 4, none⟩ = some (.int .u32 X) := by rw [HXV.out]; exact hL.cell 4 _ rfl
          have d0 : w2.cell? ⟨gi, 6, none⟩ = some (.int .i64 5) := hL.cell 6 _ rfl
          have d2 : w2.cell? ⟨gi, 8, none⟩ = some (.int .i64 ((DD.length : Int) + 2)) := (hL.cell 8 _ rfl).trans (by
            show some (Value.int .i64 (((DD.length + 1 : Nat) : Int) + 1)) = _
            rw [show (((DD.length + 1 : Nat) : Int) + 1) = (DD.length : Int) + 2 by omega])
          have d4 : w2.cell? ⟨gi, 10, none⟩ = some (.int .u32 X) := by rw [HXV.out]; exact hL.cell 10 _ rfl
          have hci : 2 ≤ ci := hL.cap
          have hci2 : (2 : Int) ≤ ci := by omega
          clear hown hlines hr hb2 hL
          go_wp2_with fail
          go_ret
          exact ⟨rfl, HB2.out⟩
end Go.Proofs.YtbhfblogjlpnlaaDoor
