/-
  LexBytes: any bytes, each written as an escape of base sixteen, are the text of one token: the walk. Conditions: the handle of the type error; the variable internal/bytealg.MaxLen holds a number; the bytes' room is within the model's bound.
-/
import Derived.Test.YtbhfblogjlpnlaaDoorLxGen
import Derived.Test.YtbhfblogjlpnlaaDoorLxBytS
namespace Go.Proofs.YtbhfblogjlpnlaaDoor
open Go.RowKit

theorem src_form {w : World} {v : Value} {s : ByteArray} (h : SrcV w v s) : ∃ A c, v = .slice A s.size c ∧ s.size ≤ c ∧ c ≤ maxLen ∧ Holds w A s := by
  rcases h with ⟨rfl, rfl⟩ | ⟨b, o, c, rfl, h2, h3, h4⟩
  · exact ⟨none, 0, rfl, Nat.le_refl _, Nat.zero_le _, .inl rfl⟩
  · exact ⟨_, c, rfl, h2, h3, .inr ⟨b, o, rfl, h4⟩⟩

def hexLow : ByteArray := ⟨#[48, 49, 50, 51, 52, 53, 54, 55, 56, 57, 97, 98, 99, 100, 101, 102]⟩
theorem hexLowAll : ∀ x : Fin 16, hexLow.extract x.1 (x.1 + 1) = ba [hexL x.1] := by decide +kernel

theorem esc_snoc (s : ByteArray) (k : Nat) (hk : k < s.size) : (s.data.toList.take (k + 1)).flatMap escOf = (s.data.toList.take k).flatMap escOf ++ escOf (s[k]'hk) := by
  have h2 : k < s.data.toList.length := by simpa using hk
  rw [List.take_succ_eq_append_getElem h2, List.flatMap_append]
  simp [List.flatMap_cons]
  rfl

set_option maxRecDepth 100000 in
set_option maxHeartbeats 4000000 in
theorem bytes_law (s : ByteArray) (v : Value) (w : World) (hv : Vars w) (h : SrcV w v s) : Calls Tryd.prog 7 #[v] w fun e w' => e = .returned (.bool true) ∧ Below w.heap.size w w' := by
  have HAW := Lib.hid (awake_any w hv)
  have HV := Lib.hid hv
  have HSRC := Lib.hid h
  obtain ⟨A, c, rfl, hc, hcm, hh⟩ := src_form h
  have HH := Lib.hid hh
  clear hv h hh
  by_cases hlong : 200 < s.size
  · have hli : (200 : Int) < s.size := by omega
    go_enter Tryd.func7, Tryd.ntmps7
    go_wp2_with fail
    refine HAW.out.mono ?_
    rintro e w1 ⟨rfl, hb1⟩
    go_wp2_with fail
    go_ret
    exact ⟨rfl, hb1⟩
  · have hli : ¬ (200 : Int) < s.size := by omega
    have HX := Lib.hid hexLowAll
    go_enter Tryd.func7, Tryd.ntmps7
    go_wp2_with fail
    refine HAW.out.mono ?_
    rintro e w1 ⟨rfl, hb1⟩
    have HB1 := Lib.hid hb1
    clear hb1
    go_wp2_with fail
    go_loopw [3, 5] (fun t i wr => ∃ (k : Nat) (L : Bs), k ≤ s.size ∧ i = .int .i64 k ∧ t = .string (ba L) ∧ Hid (L = 34 :: (s.data.toList.take k).flatMap escOf) ∧ Hid (Drew w1 wr)) (fun _ i _ => s.size - (intOf i).toNat)
    case atStart => exact ⟨0, [34], Nat.zero_le _, rfl, rfl, Lib.hid rfl, Lib.hid (Drew.start _)⟩
    case round =>
      obtain ⟨k, L, hk, rfl, rfl, HL, HD⟩ := hrel
      have hLl : L.length = 4 * k + 1 := by
        rw [HL.out, List.length_cons, flat_len, List.length_take, len_size]
        omega
      by_cases hlt : k < s.size
      · have hki : (k : Int) < s.size := by omega
        obtain ⟨b, o, rfl, hB⟩ := HH.out.resolve_left (by omega)
        have hck := HD.out.old ((hB.below HB1.out).cell k hlt)
        have hx := (s[k]'hlt).toNat_lt
        have HS := Lib.hid (esc_snoc s k hlt)
        have f1 : (⟨#[48, 49, 50, 51, 52, 53, 54, 55, 56, 57, 97, 98, 99, 100, 101, 102]⟩ : ByteArray).extract (((s[k]'hlt).toNat : Int) / 16).toNat (((s[k]'hlt).toNat : Int) / 16 + 1).toNat = ba [hexL ((s[k]'hlt).toNat / 16)] := by
          have := HX.out ⟨(s[k]'hlt).toNat / 16, by omega⟩
          rw [show (((s[k]'hlt).toNat : Int) / 16).toNat = (s[k]'hlt).toNat / 16 by omega, show (((s[k]'hlt).toNat : Int) / 16 + 1).toNat = (s[k]'hlt).toNat / 16 + 1 by omega]
          exact this
        have f2 : (⟨#[48, 49, 50, 51, 52, 53, 54, 55, 56, 57, 97, 98, 99, 100, 101, 102]⟩ : ByteArray).extract (((s[k]'hlt).toNat : Int) % 16).toNat (((s[k]'hlt).toNat : Int) % 16 + 1).toNat = ba [hexL ((s[k]'hlt).toNat % 16)] := by
          have := HX.out ⟨(s[k]'hlt).toNat % 16, by omega⟩
          rw [show (((s[k]'hlt).toNat : Int) % 16).toNat = (s[k]'hlt).toNat % 16 by omega, show (((s[k]'hlt).toNat : Int) % 16 + 1).toNat = (s[k]'hlt).toNat % 16 + 1 by omega]
          exact this
        have HE : Hid (L ++ [92, 120] ++ [hexL ((s[k]'hlt).toNat / 16)] ++ [hexL ((s[k]'hlt).toNat % 16)] = 34 :: (s.data.toList.take (k + 1)).flatMap escOf) := Lib.hid (by
          rw [HS.out, HL.out]
          simp [escOf])
        have a1 : (ba L ++ ⟨#[92, 120]⟩ : ByteArray) = ba (L ++ [92, 120]) := ba_app L [92, 120]
        have z0 : (ba L).size = 4 * k + 1 := by rw [ba_size, hLl]
        have z1 : (ba (L ++ [92, 120])).size = 4 * k + 3 := by rw [ba_size, List.length_append, hLl]; rfl
        have x0 : (0 : Int) ≤ ((s[k]'hlt).toNat : Int) := by omega
        have x1 : ((s[k]'hlt).toNat : Int) < 256 := by omega
        generalize hexL ((s[k]'hlt).toNat / 16) = p at *
        generalize hexL ((s[k]'hlt).toNat % 16) = q at *
        generalize ((s[k]'hlt).toNat : Int) = X at *
        have a2 : ba (L ++ [92, 120]) ++ ba [p] = ba (L ++ [92, 120] ++ [p]) := ba_app _ _
        have a3 : ba (L ++ [92, 120] ++ [p]) ++ ba [q] = ba (L ++ [92, 120] ++ [p] ++ [q]) := ba_app _ _
        have z2 : (ba (L ++ [92, 120] ++ [p])).size = 4 * k + 4 := by rw [ba_size, List.length_append, List.length_append, hLl]; rfl
        have z3 : (ba [p]).size = 1 := by rw [ba_size]; rfl
        have z4 : (ba [q]).size = 1 := by rw [ba_size]; rfl
        generalize L ++ [92, 120] = L1 at *
        generalize L1 ++ [p] = L2 at *
        generalize L2 ++ [q] = L3 at *
        clear hB hx
        go_wp2_with fail
        go_region
        all_goals (try go_wp2_with fail)
        exact ⟨⟨k + 1, L3, by omega, by go_num, rfl, HE, Lib.hid (HD.out.trans ⟨1, rfl⟩)⟩, by simp [intOf]; omega⟩
      · obtain rfl : k = s.size := by omega
        have HR : Hid (LinesR 0 (cut (L ++ [34])) [[⟨0, 6, s.data.toList, 0⟩]] none) := Lib.hid (by
          rw [HL.out, List.take_of_length_le (by rw [len_size]; exact Nat.le_refl _)]
          exact read_hex s.data.toList)
        have z0 : (ba L).size = 4 * s.size + 1 := by rw [ba_size, hLl]
        have a1 : (ba L ++ ⟨#[34]⟩ : ByteArray) = ba (L ++ [34]) := ba_app L [34]
        have z1 : (ba (L ++ [34])).size = 4 * s.size + 2 := by rw [ba_size, List.length_append, hLl]; rfl
        have HW : Hid (Below w.heap.size w wr) := Lib.hid (HB1.out.trans (HD.out.below.mono HB1.out.size))
        have HLS := Lib.hid (lines_str (ba (L ++ [34])) (4 * s.size + 2) z1 ((bytesRow (ba (L ++ [34])) (grownCap wr (4 * s.size + 2) 0 5)).size, (bytesRow (ba (L ++ [34])) (grownCap wr (4 * s.size + 2) 0 5)).size + 1) [[⟨0, 6, s.data.toList, 0⟩]] none wr (HV.out.below HW.out) (by omega) (by rw [ba_list]; exact HR.out))
        have hcb := fun W => run_bytes_of_string (P := Tryd.prog) W 9 22 5 (ba (L ++ [34])) Tryd.underlying9 Tryd.underlying22 Tryd.underlying5
        have HBA : Hid (∀ o, Below wr.heap.size wr (wr.alloc o).drew) := Lib.hid (fun o => ((Below.refl _ _).alloc (Nat.le_refl _) o).drew)
        generalize L ++ [34] = L1 at *
        go_wp2_with fail
        refine HLS.out.mono ?_
        rintro e w2 ⟨⟨v, us, rfl, hown, hlines⟩, hb2⟩
        obtain ⟨g, cp, rfl, hcp, hg, hr⟩ := lines_form hown (by simp)
        obtain ⟨gi, ci, hL⟩ := line_cells hlines hr (i := 0) (ps := [⟨0, 6, s.data.toList, 0⟩]) rfl (by simp)
        have HB2 : Hid (Below w.heap.size w w2) := Lib.hid (HW.out.trans (((HBA.out _).trans (hb2.mono (by simp))).mono HW.out.size))
        have r0 : w2.cell? ⟨g, 0, none⟩ = some (.slice (some ⟨gi, 0, none⟩) 1 ci) := hL.row
        have c0 : w2.cell? ⟨gi, 0, none⟩ = some (.int .i64 6) := hL.cell 0 _ rfl
        have c3 : w2.cell? ⟨gi, 3, none⟩ = some (.string s) := (hL.cell 3 _ rfl).trans (by
          show some (Value.string (ba s.data.toList)) = _
          rw [show ba s.data.toList = s from ba_eq (ba_list _)])
        have hci : 1 ≤ ci := hL.cap
        have hci2 : (1 : Int) ≤ ci := by omega
        have hcv := conv_src (HSRC.out.below HB2.out)
        have hcv2 := conv_src ((HSRC.out.below HB2.out).below (Below.refl _ _).drew)
        have hsb : (s.toList == s.toList) = true := beq_self_eq_true _
        clear hown hlines hr hb2 hL hcb HLS
        go_wp2_with fail
        go_region
        all_goals (try go_wp2_with fail)
        go_ret
        exact ⟨rfl, HB2.out.drew⟩
end Go.Proofs.YtbhfblogjlpnlaaDoor
