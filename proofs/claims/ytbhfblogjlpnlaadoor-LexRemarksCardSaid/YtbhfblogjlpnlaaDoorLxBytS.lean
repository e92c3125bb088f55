/-
  Bytes, each written as an escape of base sixteen between quotes, are read as one token: on lists of bytes. No program.
-/
import Derived.Test.YtbhfblogjlpnlaaDoorLxNumS
import Derived.Test.YtbhfblogjlpnlaaDoorRxEsc
namespace Go.Proofs.YtbhfblogjlpnlaaDoor

def hexL (x : Nat) : UInt8 := if x < 10 then UInt8.ofNat (48 + x) else UInt8.ofNat (87 + x)
def escOf (c : UInt8) : Bs := [92, 120, hexL (c.toNat / 16), hexL (c.toNat % 16)]
theorem escOf_all (c : UInt8) : digV (hexL (c.toNat / 16)) < 16 ∧ digV (hexL (c.toNat % 16)) < 16 ∧ UInt8.ofNat (digV (hexL (c.toNat / 16)) * 16 + digV (hexL (c.toNat % 16))) = c ∧ hexL (c.toNat / 16) ≠ 10 ∧ hexL (c.toNat % 16) ≠ 10 :=
  all_bytes (p := fun c => digV (hexL (c.toNat / 16)) < 16 ∧ digV (hexL (c.toNat % 16)) < 16 ∧ UInt8.ofNat (digV (hexL (c.toNat / 16)) * 16 + digV (hexL (c.toNat % 16))) = c ∧ hexL (c.toNat / 16) ≠ 10 ∧ hexL (c.toNat % 16) ≠ 10) (by decide +kernel) c
theorem escR_hex (c : UInt8) (r : Bs) : escR (escOf c ++ r) = some (c, 4) := by
  have h := escOf_all c
  have hl : (escOf c ++ r).length = r.length + 4 := by simp [escOf]
  rw [escR_x (by omega) (by exact esc_x)]
  have g1 : (escOf c ++ r).getD 1 0 = 120 := rfl
  have g2 : (escOf c ++ r).getD 2 0 = hexL (c.toNat / 16) := rfl
  have g3 : (escOf c ++ r).getD 3 0 = hexL (c.toNat % 16) := rfl
  rw [g1, g2, g3, if_pos ⟨rfl, by omega, h.1, h.2.1⟩, h.2.2.1]
theorem body_hex : ∀ (bs : Bs), body 34 0 (bs.flatMap escOf ++ [34]) = some (bs, 4 * bs.length + 1)
  | [] => rfl
  | c :: bs => by
    have hc : (c :: bs).flatMap escOf ++ [34] = 92 :: ([120, hexL (c.toNat / 16), hexL (c.toNat % 16)] ++ (bs.flatMap escOf ++ [34])) := by
      rw [List.flatMap_cons]
      rfl
    have he : 92 :: ([120, hexL (c.toNat / 16), hexL (c.toNat % 16)] ++ (bs.flatMap escOf ++ [34])) = escOf c ++ (bs.flatMap escOf ++ [34]) := rfl
    rw [hc, body_step, if_neg (by decide), unit_cons, if_neg (by decide), if_pos rfl, he, escR_hex]
    have hd : (escOf c ++ (bs.flatMap escOf ++ [34])).drop 4 = bs.flatMap escOf ++ [34] := rfl
    simp only [hd, body_hex bs, Option.map_some, List.length_cons]
    congr 2
theorem flat_len (bs : Bs) : (bs.flatMap escOf).length = 4 * bs.length := by
  induction bs with
  | nil => rfl
  | cons c bs ih =>
    rw [List.flatMap_cons, List.length_append, ih]
    simp [escOf]
    omega
theorem read_hex (bs : Bs) : LinesR 0 (cut (34 :: (bs.flatMap escOf ++ [34]))) [[⟨0, 6, bs, 0⟩]] none := by
  have hn : ∀ c ∈ 34 :: (bs.flatMap escOf ++ [34]), c ≠ 10 := by
    intro c hc
    rcases List.mem_cons.1 hc with rfl | hc
    · decide
    · rcases List.mem_append.1 hc with hc | hc
      · obtain ⟨d, _, hd⟩ := List.mem_flatMap.1 hc
        have h := escOf_all d
        simp only [escOf, List.mem_cons, List.mem_nil_iff, or_false] at hd
        rcases hd with rfl | rfl | rfl | rfl
        · decide
        · decide
        · exact h.2.2.2.1
        · exact h.2.2.2.2
      · rw [List.mem_singleton.1 hc]
        decide
  rw [cut_last hn]
  refine .good 0 _ [] _ [] none ?_ (.nil 1)
  have hl : (34 :: (bs.flatMap escOf ++ [34])).length = 4 * bs.length + 2 := by rw [List.length_cons, List.length_append, flat_len]; rfl
  refine .tok 0 (4 * bs.length + 2) 6 bs 0 [] none (by omega) (by rfl) (by show (34 : UInt8) ≠ 35; decide) ?_ ?_
  · rw [List.drop_zero]
    show tokC 34 _ = _
    have h34 : tokC 34 (bs.flatMap escOf ++ [34]) = match body 34 0 (bs.flatMap escOf ++ [34]) with
      | some (bs, n) => .ok 6 bs 0 (n + 1)
      | none => .bad 4 := rfl
    rw [h34, body_hex]
  · rw [Nat.zero_add, ← hl]
    exact .done
end Go.Proofs.YtbhfblogjlpnlaaDoor
