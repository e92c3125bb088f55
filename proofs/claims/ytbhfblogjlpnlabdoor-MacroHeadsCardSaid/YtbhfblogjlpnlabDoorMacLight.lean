/-
  The contracts of the law's own light, at one list of rows, and small: where they answer true, there are few rows and tokens. Conditions: they lie in the memory; no slice is longer than the reach.
-/
import Derived.Test.YtbhfblogjlpnlabDoorMacOpen2
import Derived.Test.YtbhfblogjlpnlabDoorErr
import Derived.RegionTactic
import Derived.BigRegion
namespace Go.Proofs.YtbhfblogjlpnlabDoor
open Go.RowKit

def lenSum (pss : List (List Tk6)) (k : Nat) : Nat := ((pss.take k).map List.length).sum
theorem lenSum_succ {pss : List (List Tk6)} {k : Nat} {p : List Tk6} (h : pss[k]? = some p) : lenSum pss (k + 1) = lenSum pss k + p.length := sum_take pss k p h
theorem len_le_sum : ∀ (pss : List (List Tk6)) (p : List Tk6), p ∈ pss → p.length ≤ (pss.map List.length).sum
  | q :: r, p, hp => by
    rw [List.map_cons, List.sum_cons]
    rcases List.mem_cons.1 hp with rfl | h
    · omega
    · have := len_le_sum r p h
      omega
theorem lenSum_all (pss : List (List Tk6)) (p : List Tk6) (hp : p ∈ pss) : p.length ≤ lenSum pss pss.length := by
  unfold lenSum
  rw [List.take_length]
  exact len_le_sum pss p hp

set_option maxRecDepth 100000 in
set_option maxHeartbeats 4000000 in
theorem light_is (pss : List (List Tk6)) (va : Value) (g : Nat) (w : World) (hv : TokRows w va pss) (hc : w.cell? ⟨g, 0, none⟩ = some va) (hl : pss.length ≤ 140737488351232) (hp : ∀ p ∈ pss, p.length ≤ 140737488351232) :
    Calls Tryd.prog 25 #[.slice (some ⟨g, 0, none⟩) 1 1] w fun e w' => (∃ B, e = .returned (.bool B) ∧ (B = true → pss.length ≤ 600 ∧ ∀ p ∈ pss, p.length ≤ 600)) ∧ Below w.heap.size w w' := by
  obtain ⟨A, c, rfl, hcc, _, hcell⟩ := hv.form
  have HCELL := Lib.hid hcell
  have HP := Lib.hid hp
  have HC := Lib.hid (fun W (hW : Below w.heap.size w W) => (hW.cell (p := ⟨g, 0, none⟩) (World.block_lt_of_cell? w _ hc)).trans hc)
  clear hv hcell hp hc
  go_enter Tryd.func25, Tryd.ntmps25
  go_wp2_with fail
  go_loopw [3, 4] (fun n i wr => (i = .int .i64 0 ∧ n = .int .i64 0 ∧ Hid (Below w.heap.size w wr)) ∨ (∃ N : Int, i = .int .i64 1 ∧ n = .int .i64 N ∧ Hid (N ≤ 600 → pss.length ≤ 600 ∧ ∀ p ∈ pss, p.length ≤ 600) ∧ Hid (Below w.heap.size w wr))) (fun _ i _ => 1 - (intOf i).toNat)
  case atStart => exact .inl ⟨rfl, rfl, Lib.hid (Below.refl _ _)⟩
  case round =>
    rcases hrel with ⟨rfl, rfl, HX⟩ | ⟨N, rfl, rfl, HN, HX⟩
    · have r0 := HC.out wr HX.out
      obtain ⟨wo, rfl⟩ : ∃ wo : World, wo = wr := ⟨_, rfl⟩
      go_wp2_with fail
      go_loopw [3, 5] (fun n i wx => ∃ (k S : Nat), k ≤ pss.length ∧ i = .int .i64 k ∧ n = .int .i64 ((pss.length : Int) + S) ∧ (pss.length : Int) + S ≤ 281474976702464 ∧ Hid (S = lenSum pss k) ∧ Hid (Below w.heap.size w wx)) (fun _ i _ => pss.length - (intOf i).toNat)
      case atStart => exact ⟨0, 0, Nat.zero_le _, rfl, by simp, by omega, Lib.hid rfl, HX⟩
      case round =>
        obtain ⟨k, S, hk, rfl, rfl, hS, HS, HX2⟩ := hrel
        clear r0
        have r0 := HC.out _ HX2.out
        by_cases hlt : k < pss.length
        · have hki : (k : Int) < pss.length := by omega
          have hkd : decide ((k : Int) < pss.length) = true := decide_eq_true hki
          have hkc : (k : Int) < c := by omega
          by_cases hn : (pss.length : Int) + S ≤ 600
          · have hnd : decide ((pss.length : Int) + S ≤ 600) = true := decide_eq_true hn
            obtain ⟨ps, hps⟩ : ∃ ps, pss[k]? = some ps := ⟨_, List.getElem?_eq_getElem hlt⟩
            have hpl := HP.out ps (List.mem_of_getElem? hps)
            obtain ⟨b, o, d, rfl, hd, hdc⟩ := HCELL.out k ps hps
            obtain ⟨Ad, cd, rfl, -⟩ := hd.form
            have r1 := hdc _ HX2.out
            have hpli : (ps.length : Int) ≤ 140737488351232 := by omega
            have HSS : Hid (S + ps.length = lenSum pss (k + 1)) := Lib.hid (by rw [lenSum_succ hps, HS.out])
            clear hps hd hdc
            go_wp2_with fail
            go_roundw
            case rel => exact ⟨k + 1, S + ps.length, by omega, by go_num, by congr 1; omega, by omega, HSS, HX2⟩
            case measure => simp [intOf]; omega
          · have hnd : decide ((pss.length : Int) + S ≤ 600) = false := decide_eq_false hn
            go_wp2_with fail
            go_roundw
            case rel => exact .inr ⟨(pss.length : Int) + S, rfl, rfl, Lib.hid (fun h => absurd h hn), HX2⟩
            case measure => simp [intOf]
        · obtain rfl : k = pss.length := by omega
          have HB : Hid ((pss.length : Int) + S ≤ 600 → pss.length ≤ 600 ∧ ∀ p ∈ pss, p.length ≤ 600) := Lib.hid (fun h => ⟨by omega, fun p hp => by have := lenSum_all pss p hp; have := HS.out; omega⟩)
          go_wp2_with fail
          go_roundw
          case rel => exact .inr ⟨(pss.length : Int) + S, rfl, rfl, HB, HX2⟩
          case measure => simp [intOf]
    · go_wp2_with fail
      go_ret
      exact ⟨⟨decide (N ≤ 600), rfl, fun h => HN.out (of_decide_eq_true h)⟩, HX.out⟩

/-- What small says, where it is true. -/
structure Few (m : Mac) : Prop where
  ps : m.ps.length ≤ 100
  dflt : ∀ p ∈ m.ps, p.dflt.length ≤ 100
  lines : m.lines.length ≤ 600
  line : ∀ l ∈ m.lines, l.length ≤ 600
/-- The reach's bounds of a macro. -/
structure Reach (m : Mac) : Prop where
  ps : m.ps.length ≤ 140737488351232
  dflt : ∀ p ∈ m.ps, p.dflt.length ≤ 140737488351232
  lines : m.lines.length ≤ 140737488351232
  line : ∀ l ∈ m.lines, l.length ≤ 140737488351232

def dfSum (ps : List HPar) (k : Nat) : Nat := lenSum (ps.map HPar.dflt) k
theorem dfSum_succ {ps : List HPar} {k : Nat} {p : HPar} (h : ps[k]? = some p) : dfSum ps (k + 1) = dfSum ps k + p.dflt.length := lenSum_succ (by rw [List.getElem?_map, h]; rfl)
theorem dfSum_all (ps : List HPar) (p : HPar) (hp : p ∈ ps) : p.dflt.length ≤ dfSum ps ps.length := by
  have := lenSum_all (ps.map HPar.dflt) p.dflt (List.mem_map.2 ⟨p, hp, rfl⟩)
  rwa [List.length_map] at this

set_option maxRecDepth 100000 in
set_option maxHeartbeats 4000000 in
theorem small_is (m : Mac) (v vp vl : Value) (w : World) (hm : MacV w v m vp vl) (hr : Reach m) :
    Calls Tryd.prog 24 #[v] w fun e w' => (∃ B, e = .returned (.bool B) ∧ (B = true → Few m)) ∧ Below w.heap.size w w' := by
  obtain ⟨rfl, hps, hlines⟩ := hm
  obtain ⟨Ap, cp, rfl, hpc, hpm, hpcell⟩ := hps.form
  obtain ⟨Al, cl, rfl, hlc, _, -⟩ := hlines.form
  have HR := Lib.hid hr
  have hr1 := hr.ps
  have HP := Lib.hid hpcell
  have HL := Lib.hid (fun W (hW : Below w.heap.size w W) => hlines.below hW)
  have HBA : Hid (∀ o, Below w.heap.size w (w.alloc o)) := Lib.hid (fun o => (Below.refl _ _).alloc (Nat.le_refl _) o)
  have HM := Lib.hid (Blk.new w 46 #[.string m.name, .slice Ap m.ps.length cp, .slice Al m.lines.length cl])
  clear hps hlines hpcell hr
  go_enter Tryd.func24, Tryd.ntmps24
  go_wp2_with fail
  obtain ⟨wB, hwB⟩ : ∃ wB, w.alloc (.cells #[.string m.name, .slice Ap m.ps.length cp, .slice Al m.lines.length cl] 46) = wB := ⟨_, rfl⟩
  have kM := HM.out
  have kB := HBA.out (.cells #[.string m.name, .slice Ap m.ps.length cp, .slice Al m.lines.length cl] 46)
  rw [hwB] at kM kB ⊢
  have KM := Lib.hid kM
  have KB := Lib.hid kB
  clear kM kB hwB HM HBA
  go_loopw [3, 4] (fun n i wx => ∃ (k S : Nat), k ≤ m.ps.length ∧ i = .int .i64 k ∧ n = .int .i64 ((m.ps.length : Int) + S) ∧ (m.ps.length : Int) + S ≤ 281474976702464 ∧ Hid (S = dfSum m.ps k) ∧ Hid (Below wB.heap.size wB wx)) (fun _ i _ => m.ps.length - (intOf i).toNat)
  case atStart => exact ⟨0, 0, Nat.zero_le _, rfl, by simp, by omega, Lib.hid rfl, Lib.hid (Below.refl _ _)⟩
  case round =>
    obtain ⟨k, S, hk, rfl, rfl, hS, HS, HX⟩ := hrel
    have r1 : wr.cell? ⟨w.heap.size, 1, none⟩ = some (.slice Ap m.ps.length cp) := (KM.out.below HX.out KM.out.lt).cell 1
    have r2 : wr.cell? ⟨w.heap.size, 2, none⟩ = some (.slice Al m.lines.length cl) := (KM.out.below HX.out KM.out.lt).cell 2
    have HW : Hid (Below w.heap.size w wr) := Lib.hid (KB.out.trans (HX.out.mono KB.out.size))
    by_cases hn : (m.ps.length : Int) + S ≤ 100
    · have hnd : decide ((m.ps.length : Int) + S ≤ 100) = true := decide_eq_true hn
      by_cases hlt : k < m.ps.length
      · have hki : (k : Int) < m.ps.length := by omega
        have hkd : decide ((k : Int) < m.ps.length) = true := decide_eq_true hki
        have hkc : (k : Int) < cp := by omega
        obtain ⟨p, hpk⟩ : ∃ p, m.ps[k]? = some p := ⟨_, List.getElem?_eq_getElem hlt⟩
        have hpl := HR.out.dflt p (List.mem_of_getElem? hpk)
        obtain ⟨b, o, d, rfl, hd, hdc⟩ := HP.out k p hpk
        obtain ⟨Ad, cd, rfl, -⟩ := hd.form
        obtain ⟨-, -, e2⟩ := hdc _ HW.out
        have hpli : (p.dflt.length : Int) ≤ 140737488351232 := by omega
        have HSS : Hid (S + p.dflt.length = dfSum m.ps (k + 1)) := Lib.hid (by rw [dfSum_succ hpk, HS.out])
        clear hpk hd hdc
        go_wp2_with fail
        go_roundw
        case rel => exact ⟨k + 1, S + p.dflt.length, by omega, by go_num, by congr 1; omega, by omega, HSS, HX⟩
        case measure => simp [intOf]; omega
      · obtain rfl : k = m.ps.length := by omega
        have HF1 : Hid (m.ps.length ≤ 100 ∧ ∀ p ∈ m.ps, p.dflt.length ≤ 100) := Lib.hid ⟨by omega, fun p hp => by have := dfSum_all m.ps p hp; have := HS.out; omega⟩
        have HLI := Lib.hid (fun o (h : (wr.alloc o).cell? ⟨wr.heap.size, 0, none⟩ = some (.slice Al m.lines.length cl)) => light_is m.lines (.slice Al m.lines.length cl) wr.heap.size (wr.alloc o) (HL.out _ (HW.out.alloc HW.out.size o)) h HR.out.lines HR.out.line)
        have HWA : Hid (∀ o, Below w.heap.size w (wr.alloc o)) := Lib.hid (fun o => HW.out.alloc HW.out.size o)
        go_wp2_with fail
        refine (HLI.out _ (by simp)).mono ?_
        rintro e w5 ⟨⟨B, rfl, hB⟩, hb5⟩
        have HB5 := Lib.hid hB
        have HW5 := Lib.hid ((HWA.out _).trans (hb5.mono (HWA.out _).size))
        clear hB hb5
        go_wp2_with fail
        go_ret
        exact ⟨⟨B, rfl, fun h => ⟨HF1.out.1, HF1.out.2, (HB5.out h).1, (HB5.out h).2⟩⟩, HW5.out⟩
    · have hnd : decide ((m.ps.length : Int) + S ≤ 100) = false := decide_eq_false hn
      by_cases hlt : k < m.ps.length
      · have hki : (k : Int) < m.ps.length := by omega
        have hkd : decide ((k : Int) < m.ps.length) = true := decide_eq_true hki
        go_wp2_with fail
        go_ret
        exact ⟨.inl rfl, HW.out⟩
      · obtain rfl : k = m.ps.length := by omega
        go_wp2_with fail
        go_ret
        exact ⟨.inl rfl, HW.out⟩
end Go.Proofs.YtbhfblogjlpnlabDoor
