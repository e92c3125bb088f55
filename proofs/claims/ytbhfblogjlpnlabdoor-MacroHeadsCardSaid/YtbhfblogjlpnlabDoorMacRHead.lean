/-
  The contract of the reference's Head: what HRun says of the tokens. Conditions: the tokens lie in the memory, at most 100000 of them.
-/
import Derived.Test.YtbhfblogjlpnlabDoorMacRHeadS
import Derived.Test.YtbhfblogjlpnlabDoorMacTheirs
namespace Go.Proofs.YtbhfblogjlpnlabDoor
open Go.RowKit

theorem dot_byte (s : ByteArray) (h : 0 < s.size) : (s.data.toList.take 1 == [46]) = (((s[0]'h).toNat : Int) == 46) := by
  have hl : 0 < s.data.toList.length := by simpa using h
  have e : s.data.toList = (s[0]'h) :: s.data.toList.drop 1 := by
    have := List.drop_eq_getElem_cons hl
    rw [List.drop_zero] at this
    exact this
  rw [e]
  simp only [List.take_succ_cons, List.take_zero]
  rw [Bool.eq_iff_iff, beq_iff_eq, beq_iff_eq]
  constructor
  · intro h2
    injection h2 with h2 _
    rw [h2]
    rfl
  · intro h2
    congr 1
    apply UInt8.toNat_inj.1
    have h3 : (s[0]'h).toNat = 46 := by omega
    rw [h3]
    rfl

set_option maxRecDepth 100000 in
set_option maxHeartbeats 100000000 in
theorem rhead_is (ts : List Tk6) (vt : Value) (r : HState ⊕ (Nat × Int)) (w : World) (hn : ts.length ≤ 100000) (hv : Toks w vt ts) (hr : HRun ts (some .name) headStart r) :
    Calls Tryd.prog 17 #[vt] w (RHeadOut w ts r) := by
  obtain ⟨i1, hi1, pz0, pz1, pz2⟩ := info_parts Tryd.infoDstTheirs
  obtain ⟨i0, hi0, tz0, tz1, tz2⟩ := info_parts Tryd.infoTok
  obtain ⟨A, c, rfl, hc, hcm, hcell⟩ := hv.form
  obtain ⟨wB, hwB⟩ : ∃ wB, (w.alloc (.cells #[.string ⟨#[]⟩, .slice none 0 0, .slice none 0 0] 46)).alloc (.cells #[.int .i64 0, .int .i64 0, .int .i64 0] 25) = wB := ⟨_, rfl⟩
  have hRb : Blk wB w.heap.size 46 #[.string ⟨#[]⟩, .slice none 0 0, .slice none 0 0] := by rw [← hwB]; exact (Blk.new _ _ _).alloc _
  have hFb : Blk wB (w.heap.size + 1) 25 #[.int .i64 0, .int .i64 0, .int .i64 0] := by rw [← hwB]; have := Blk.new (w.alloc (.cells #[.string ⟨#[]⟩, .slice none 0 0, .slice none 0 0] 46)) 25 #[.int .i64 0, .int .i64 0, .int .i64 0]; simpa using this
  have hBb : Below w.heap.size w wB := by rw [← hwB]; exact ((Below.refl _ _).alloc (Nat.le_refl _) _).alloc (by simp) _
  have hsB : wB.heap.size = w.heap.size + 1 + 1 := by rw [← hwB]; simp
  have HWB := Lib.hid hwB
  have HSB := Lib.hid hsB
  have HRB := Lib.hid hRb
  have HFB := Lib.hid hFb
  have HBB := Lib.hid hBb
  have HTC := Lib.hid (fun i t (h : ts[i]? = some t) => (by
    obtain ⟨b, o, hA, hc⟩ := hcell i t h
    exact ⟨b, o, hA, fun W hW => hc W (hBb.trans (hW.mono hBb.size))⟩ : ∃ b o, A = some ⟨b, o, none⟩ ∧ ∀ W, Below wB.heap.size wB W → W.cell? ⟨b, o + i * 6, none⟩ = some (.int .i64 t.kind) ∧ W.cell? ⟨b, o + i * 6 + 1, none⟩ = some (.int .i64 t.line) ∧ W.cell? ⟨b, o + i * 6 + 2, none⟩ = some (.int .i64 t.col) ∧ W.cell? ⟨b, o + i * 6 + 3, none⟩ = some (.string t.text) ∧ W.cell? ⟨b, o + i * 6 + 4, none⟩ = some (.int .u32 t.num) ∧ W.cell? ⟨b, o + i * 6 + 5, none⟩ = some (.int .i64 t.spare)))
  have HTK := Lib.hid (fun W (hW : Below wB.heap.size wB W) => (hv.below hBb).below hW)
  have HAT : Hid (∀ W (i : Nat) (cd : Int), Below wB.heap.size wB W → Calls Tryd.prog 44 #[.slice A ts.length c, .int .i64 i, .int .i64 cd] W fun e w' => e = .returned (.agg #[.int .i64 (placeAt ts i).1, .int .i64 (placeAt ts i).2, .int .i64 cd]) ∧ Below wB.heap.size wB w') := Lib.hid (fun W i cd hW => (rat_is ts _ i cd W ((hv.below hBb).below hW) hn).mono (by
    rintro e w' ⟨he, hb⟩
    exact ⟨he, hW.trans (hb.mono hW.size)⟩))
  have HXF := Lib.hid (fun W (hW : Below wB.heap.size wB W) => (⟨(hRb.below hW hRb.lt).cell 0, (hRb.below hW hRb.lt).cell 1, (hRb.below hW hRb.lt).cell 2, (hRb.below hW hRb.lt).frozen 0, (hRb.below hW hRb.lt).frozen 1, (hRb.below hW hRb.lt).frozen 2, (hFb.below hW hFb.lt).cell 0, (hFb.below hW hFb.lt).cell 1, (hFb.below hW hFb.lt).cell 2, (hFb.below hW hFb.lt).frozen 0, (hFb.below hW hFb.lt).frozen 1, (hFb.below hW hFb.lt).frozen 2⟩ : W.cell? ⟨w.heap.size, 0, none⟩ = some (.string ⟨#[]⟩) ∧ W.cell? ⟨w.heap.size, 1, none⟩ = some (.slice none 0 0) ∧ W.cell? ⟨w.heap.size, 2, none⟩ = some (.slice none 0 0) ∧ W.frozen? ⟨w.heap.size, 0, none⟩ = false ∧ W.frozen? ⟨w.heap.size, 1, none⟩ = false ∧ W.frozen? ⟨w.heap.size, 2, none⟩ = false ∧ W.cell? ⟨w.heap.size + 1, 0, none⟩ = some (.int .i64 0) ∧ W.cell? ⟨w.heap.size + 1, 1, none⟩ = some (.int .i64 0) ∧ W.cell? ⟨w.heap.size + 1, 2, none⟩ = some (.int .i64 0) ∧ W.frozen? ⟨w.heap.size + 1, 0, none⟩ = false ∧ W.frozen? ⟨w.heap.size + 1, 1, none⟩ = false ∧ W.frozen? ⟨w.heap.size + 1, 2, none⟩ = false))
  have HRU := Lib.hid hr
  have h00 : w.heap.size ≤ w.heap.size := Nat.le_refl _
  have h01 : w.heap.size ≤ w.heap.size + 1 := Nat.le_succ _
  have hne1 : ¬ w.heap.size = w.heap.size + 1 := by omega
  have hne2 : ¬ w.heap.size + 1 = w.heap.size := by omega
  have hne3 : ¬ w.heap.size + 1 + 1 = w.heap.size := by omega
  have hne4 : ¬ w.heap.size = w.heap.size + 1 + 1 := by omega
  have hne5 : ¬ w.heap.size + 1 + 1 = w.heap.size + 1 := by omega
  have hne6 : ¬ w.heap.size + 1 = w.heap.size + 1 + 1 := by omega
  clear hv hcell hwB hRb hFb hBb hsB hr
  by_cases hna : nameAt ts 1 = true
  · obtain ⟨t, ht, hk⟩ : ∃ t, ts[1]? = some t ∧ t.kind = 1 := by
      unfold nameAt at hna
      split at hna
      · rename_i t ht
        exact ⟨t, ht, by simpa using hna⟩
      · cases hna
    have hil := (List.getElem?_eq_some_iff.1 ht).1
    have hl2 : ¬ (ts.length : Int) < 2 := by omega
    have hc1 : (1 : Int) < c := by omega
    have hl1 : (1 : Int) < ts.length := by omega
    obtain ⟨b, o, rfl, hcs⟩ := HTC.out 1 t ht
    have e0 : ∀ W, Below wB.heap.size wB W → W.cell? ⟨b, o + 6, none⟩ = some (.int .i64 t.kind) := fun W hW => by have := (hcs W hW).1; rwa [Nat.one_mul] at this
    have e3 : ∀ W, Below wB.heap.size wB W → W.cell? ⟨b, o + 6 + 3, none⟩ = some (.string t.text) := fun W hW => by have := (hcs W hW).2.2.2.1; rwa [Nat.one_mul] at this
    have hkn : (t.kind != 1) = false := by rw [hk]; rfl
    have f0 : ((w.alloc (.cells #[.string ⟨#[]⟩, .slice none 0 0, .slice none 0 0] 46)).alloc (.cells #[.int .i64 0, .int .i64 0, .int .i64 0] 25)).cell? ⟨b, o + 6, none⟩ = some (.int .i64 t.kind) := by rw [HWB.out]; exact e0 _ (Below.refl _ _)
    have f3 : ((w.alloc (.cells #[.string ⟨#[]⟩, .slice none 0 0, .slice none 0 0] 46)).alloc (.cells #[.int .i64 0, .int .i64 0, .int .i64 0] 25)).cell? ⟨b, o + 6 + 3, none⟩ = some (.string t.text) := by rw [HWB.out]; exact e3 _ (Below.refl _ _)
    have f9 : ((w.alloc (.cells #[.string ⟨#[]⟩, .slice none 0 0, .slice none 0 0] 46)).alloc (.cells #[.int .i64 0, .int .i64 0, .int .i64 0] 25)).cell? ⟨b, o + 9, none⟩ = some (.string t.text) := by rw [HWB.out]; exact e3 _ (Below.refl _ _)
    have HT := Lib.hid ht
    have HK := Lib.hid hk
    clear hcs e0 e3
    by_cases hd : t.dotted = true
    · have hres := (hrun_step HRU.out).1 _ (name_dot (n := ByteArray.empty) (ps := []) ht hk hd)
      subst hres
      have hs0 : 0 < t.text.size := by
        rcases Nat.eq_zero_or_pos t.text.size with h | h
        · have hl : t.text.data.toList.length = t.text.size := by simp
          have : t.text.data.toList = [] := List.eq_nil_of_length_eq_zero (by omega)
          unfold Tk6.dotted at hd
          rw [this] at hd
          exact absurd hd (by decide)
        · exact h
      have hsi : (0 : Int) < t.text.size := by omega
      have hsd : decide ((0 : Int) < t.text.size) = true := decide_eq_true hsi
      have hbt : (((t.text[0]'hs0).toNat : Int) == 46) = true := by rw [← dot_byte]; exact hd
      clear hd ht hk
      go_enter Tryd.func17, Tryd.ntmps17
      go_wp2_with fail
      rw [HWB.out]
      refine (HAT.out _ (1) 8 (Below.refl _ _)).mono ?_
      rintro e w5 ⟨rfl, hb5⟩
      have hRw := HRB.out.below hb5 HRB.out.lt
      have hFw := HFB.out.below hb5 HFB.out.lt
      have x0 : w5.cell? ⟨w.heap.size, 0, none⟩ = some (.string ⟨#[]⟩) := hRw.cell 0
      have x1 : w5.cell? ⟨w.heap.size, 1, none⟩ = some (.slice none 0 0) := hRw.cell 1
      have x2 : w5.cell? ⟨w.heap.size, 2, none⟩ = some (.slice none 0 0) := hRw.cell 2
      have z0 := hRw.frozen 0
      have z1 := hRw.frozen 1
      have z2 := hRw.frozen 2
      have y0 : w5.cell? ⟨w.heap.size + 1, 0, none⟩ = some (.int .i64 0) := hFw.cell 0
      have y1 : w5.cell? ⟨w.heap.size + 1, 1, none⟩ = some (.int .i64 0) := hFw.cell 1
      have y2 : w5.cell? ⟨w.heap.size + 1, 2, none⟩ = some (.int .i64 0) := hFw.cell 2
      have u0 := hFw.frozen 0
      have u1 := hFw.frozen 1
      have u2 := hFw.frozen 2
      clear hRw hFw
      have HB5 := Lib.hid (HBB.out.trans (hb5.mono HBB.out.size))
      clear hb5
      go_wp2_with fail
      exact bodyPost_ret (v := .tuple #[.agg #[.string ⟨#[]⟩, .slice none 0 0, .slice none 0 0], .agg #[.int .i64 (placeAt ts (1)).1, .int .i64 (placeAt ts (1)).2, .int .i64 8]]) (by simp [results, Tryd.results17, go_sem, x0, x1, x2, y0, y1, y2]) rfl ⟨rfl, (((((HB5.out.setCell h00 _).setCell h00 _).setCell h00 _).setCell h01 _).setCell h01 _).setCell h01 _⟩
    · have hd2 : t.dotted = false := (Bool.not_eq_true _).mp hd
      have hgo := (hrun_step HRU.out).2 _ _ (name_ok (n := ByteArray.empty) (ps := []) ht hk hd2)
      have HGO : Hid (HRun ts (if 2 < ts.length then some .param else none) ⟨2, t.text, []⟩ r) := Lib.hid hgo
      have HDOT := Lib.hid hd2
      clear hd hgo
      have HLOOP : Hid (∀ (a : Act) (Q : Exit → Act → World → Prop), True) := Lib.hid (fun _ _ => trivial)
      clear HLOOP
      rcases Nat.eq_zero_or_pos t.text.size with hs0 | hs0
      · have hsi : ¬ (0 : Int) < t.text.size := by omega
        have hsd : decide ((0 : Int) < t.text.size) = false := decide_eq_false hsi
        clear hs0 ht hk hd2
        go_enter Tryd.func17, Tryd.ntmps17
        go_wp2_with fail
        rw [HWB.out]
        have HST : Hid (RInv wB t.text [] (.slice none 0 0) [] (wB.alloc (.cells #[.string t.text, .slice none 0 0, .slice none 0 0] 46))) := Lib.hid ⟨Blk.new _ _ _, rfl, World.ownsRow_nil _ _ _ _, (fun q hq => nomatch hq), (Below.refl _ _).alloc (Nat.le_refl _) _⟩
        have HIL := Lib.hid hil
        clear f0 f3 f9 hl2 hc1 hl1 hkn HT HK HDOT HRU hil
        skip
        generalize t.text = nm at *
        go_loopw [5] (fun iv wr => ∃ (i : Nat) (ps : List HPar) (vp : Value) (qs : List (HPar × Value)), 2 ≤ i ∧ i ≤ ts.length + 1 ∧ iv = .int .i64 i ∧ ps.length ≤ i ∧ Hid (RInv wB nm ps vp qs wr) ∧ Hid (HRun ts (if i < ts.length ∨ 2 < i then some .param else none) ⟨i, nm, ps⟩ r)) (fun iv _ => ts.length + 2 - (intOf iv).toNat)
        case atStart => exact ⟨2, [], .slice none 0 0, [], by omega, by have := HIL.out; omega, rfl, by simp, HST, Lib.hid (by have := HGO.out; simpa using this)⟩
        case round =>
          obtain ⟨i, ps, vp, qs, h2i, hil1, rfl, hfew, HI, HRN⟩ := hrel
          obtain ⟨Ap, cp, hvp⟩ := own_shape HI.out.own
          subst hvp
          have hql : qs.length ≤ 100001 := by have := congrArg List.length HI.out.eq; rw [List.length_map] at this; omega
          have hqe : Hid (qs.length = ps.length) := Lib.hid (by have := congrArg List.length HI.out.eq; rwa [List.length_map] at this)
          have hib : (i : Int) ≤ 100001 := by omega
          have hmb := HI.out.blk
          rw [HSB.out] at hmb
          have m0 : wr.cell? ⟨w.heap.size + 1 + 1, 0, none⟩ = some (.string nm) := hmb.cell 0
          have m1 : wr.cell? ⟨w.heap.size + 1 + 1, 1, none⟩ = some (.slice Ap qs.length cp) := hmb.cell 1
          have m2 : wr.cell? ⟨w.heap.size + 1 + 1, 2, none⟩ = some (.slice none 0 0) := hmb.cell 2
          have mz := hmb.frozen 1
          clear hmb
          have HWr := Lib.hid HI.out.below
          by_cases hcond : i < ts.length ∨ 2 < i
          · have HRP : Hid (HRun ts (some .param) ⟨i, nm, ps⟩ r) := Lib.hid (by have := HRN.out; rwa [if_pos hcond] at this)
            clear HRN
            by_cases hlt : i < ts.length
            · have hli : (i : Int) < ts.length := by omega
              have hlid : decide ((i : Int) < ts.length) = true := decide_eq_true hli
              have hge : ¬ (ts.length : Int) ≤ i := by omega
              have hged : decide ((ts.length : Int) ≤ i) = false := decide_eq_false hge
              have hic : (i : Int) < c := by omega
              obtain ⟨t2, ht2⟩ : ∃ t2, ts[i]? = some t2 := ⟨_, List.getElem?_eq_getElem hlt⟩
              obtain ⟨b2, o2, hA2, hcs2⟩ := HTC.out i t2 ht2
              injection hA2 with hA2
              injection hA2 with hA2 hA3 _
              subst hA2 hA3
              have HC2 := Lib.hid hcs2
              obtain ⟨e0, -, -, e3, -⟩ := hcs2 wr HWr.out
              clear hcs2
              by_cases hk2 : t2.kind = 1
              · have hkn2 : (t2.kind != 1) = false := by rw [hk2]; rfl
                have HT2 := Lib.hid ht2
                have HK2 := Lib.hid hk2
                clear ht2 hk2
                obtain ⟨wo, rfl⟩ : ∃ wo : World, wo = wr := ⟨_, rfl⟩
                obtain ⟨Ap2, cp2, hve, hpc, _, hpcell⟩ := HI.out.pars.form
                injection hve with hve1 hve2 hve3
                subst hve1 hve3
                have HPC := Lib.hid hpcell
                clear hve2 hpcell
                go_wp2_with fail
                go_loopw [6] (fun kv wx => ∃ k : Nat, k ≤ qs.length ∧ kv = .int .i64 k ∧ Hid (∀ (j : Nat) (q : HPar), j < k → ps[j]? = some q → q.named t2.text = false) ∧ Hid (Below wo.heap.size wo wx)) (fun kv _ => qs.length - (intOf kv).toNat)
                case atStart => exact ⟨0, Nat.zero_le _, rfl, Lib.hid (fun j q h => by omega), Lib.hid (Below.refl _ _)⟩
                case round =>
                  obtain ⟨k, hk, rfl, HNM, HY⟩ := hrel
                  have HIX := Lib.hid (HI.out.next HY.out)
                  have HWx := Lib.hid HIX.out.below
                  clear m0 m1 m2 mz e0 e3
                  have hmb := HIX.out.blk
                  rw [HSB.out] at hmb
                  have m0 : wr.cell? ⟨w.heap.size + 1 + 1, 0, none⟩ = some (.string nm) := hmb.cell 0
                  have m1 : wr.cell? ⟨w.heap.size + 1 + 1, 1, none⟩ = some (.slice Ap qs.length cp) := hmb.cell 1
                  have m2 : wr.cell? ⟨w.heap.size + 1 + 1, 2, none⟩ = some (.slice none 0 0) := hmb.cell 2
                  have mz := hmb.frozen 1
                  clear hmb
                  obtain ⟨e0, e1, e2, e3, e4, e5⟩ := HC2.out wr HWx.out
                  by_cases hkq : k < qs.length
                  · have hki : (k : Int) < qs.length := by omega
                    have hkc : (k : Int) < cp := by have := hqe.out; omega
                    have hkb : (k : Int) ≤ 100001 := by omega
                    obtain ⟨q, hpk⟩ : ∃ q, ps[k]? = some q := ⟨_, List.getElem?_eq_getElem (by have := hqe.out; omega)⟩
                    obtain ⟨bq, oq, dq, hAq, _, hqc⟩ := HPC.out k q hpk
                    subst hAq
                    obtain ⟨p0, -, -⟩ := hqc wr HY.out
                    have HPK := Lib.hid hpk
                    clear hqc hpk
                    by_cases hnm : q.named t2.text = true
                    · have hres := (hrun_step HRP.out).1 _ (param_dup HT2.out HK2.out (List.any_eq_true.2 ⟨q, List.mem_of_getElem? HPK.out, hnm⟩))
                      subst hres
                      have hne : (q.name.toList == t2.text.toList) = true := hnm
                      clear hnm
                      go_wp2_with fail
                      go_quiet (fail)
                      go_wp2_with fail
                      refine (HAT.out _ (i) 10 (by first | exact HWx.out | exact bdrew HWx.out | exact HWx.out.drew)).mono ?_
                      rintro e w5 ⟨rfl, hb5⟩
                      have hRw := HRB.out.below hb5 HRB.out.lt
                      have hFw := HFB.out.below hb5 HFB.out.lt
                      have x0 : w5.cell? ⟨w.heap.size, 0, none⟩ = some (.string ⟨#[]⟩) := hRw.cell 0
                      have x1 : w5.cell? ⟨w.heap.size, 1, none⟩ = some (.slice none 0 0) := hRw.cell 1
                      have x2 : w5.cell? ⟨w.heap.size, 2, none⟩ = some (.slice none 0 0) := hRw.cell 2
                      have z0 := hRw.frozen 0
                      have z1 := hRw.frozen 1
                      have z2 := hRw.frozen 2
                      have y0 : w5.cell? ⟨w.heap.size + 1, 0, none⟩ = some (.int .i64 0) := hFw.cell 0
                      have y1 : w5.cell? ⟨w.heap.size + 1, 1, none⟩ = some (.int .i64 0) := hFw.cell 1
                      have y2 : w5.cell? ⟨w.heap.size + 1, 2, none⟩ = some (.int .i64 0) := hFw.cell 2
                      have u0 := hFw.frozen 0
                      have u1 := hFw.frozen 1
                      have u2 := hFw.frozen 2
                      clear hRw hFw
                      have HB5 := Lib.hid (HBB.out.trans (hb5.mono HBB.out.size))
                      clear hb5
                      go_wp2_with fail
                      exact bodyPost_ret (v := .tuple #[.agg #[.string ⟨#[]⟩, .slice none 0 0, .slice none 0 0], .agg #[.int .i64 (placeAt ts (i)).1, .int .i64 (placeAt ts (i)).2, .int .i64 10]]) (by simp [results, Tryd.results17, go_sem, x0, x1, x2, y0, y1, y2]) rfl ⟨rfl, (((((HB5.out.setCell h00 _).setCell h00 _).setCell h00 _).setCell h01 _).setCell h01 _).setCell h01 _⟩
                    · have hne : (q.name.toList == t2.text.toList) = false := (Bool.not_eq_true _).mp hnm
                      have HNM2 : Hid (∀ (j : Nat) (p : HPar), j < k + 1 → ps[j]? = some p → p.named t2.text = false) := Lib.hid (fun j p hj hp => by
                        rcases Nat.lt_or_ge j k with h | h
                        · exact HNM.out j p h hp
                        · obtain rfl : j = k := by omega
                          rw [HPK.out] at hp
                          injection hp with hp
                          rw [← hp]
                          exact hne)
                      clear hnm
                      go_wp2_with fail
                      go_quiet (fail)
                      go_wp2_with fail
                      go_roundw
                      case rel => exact ⟨k + 1, by omega, by go_num, HNM2, Lib.hid (bdrew HY.out)⟩
                      case measure => simp [intOf]; omega
                  · obtain rfl : k = qs.length := by omega
                    have hnp : hasPar ps t2.text = false := by
                      unfold hasPar
                      rw [List.any_eq_false]
                      intro x hx
                      obtain ⟨j, hj, rfl⟩ := List.getElem_of_mem hx
                      rw [HNM.out j _ (by have := hqe.out; omega) (List.getElem?_eq_getElem hj)]
                      decide
                    have HR1 := Lib.hid ((hrun_step HRP.out).2 _ _ (param_ok HT2.out HK2.out hnp))
                    clear hnp
                    by_cases hmore : i + 1 < ts.length
                    · have hmi : (i : Int) + 1 < ts.length := by omega
                      have hmd : decide ((i : Int) + 1 < ts.length) = true := decide_eq_true hmi
                      have hmg : ¬ (ts.length : Int) ≤ i + 1 := by omega
                      have hmc : (i : Int) + 1 < c := by omega
                      have HRB1 : Hid (HRun ts (some .behind) ⟨i + 1, nm, ps ++ [⟨t2.text, false, []⟩]⟩ r) := Lib.hid (by have := HR1.out; rwa [if_pos hmore] at this)
                      obtain ⟨t3, ht3⟩ : ∃ t3, ts[i + 1]? = some t3 := ⟨_, List.getElem?_eq_getElem hmore⟩
                      obtain ⟨b3, o3, hA3, hcs3⟩ := HTC.out (i + 1) t3 ht3
                      injection hA3 with hA3
                      injection hA3 with hA3 hA4 _
                      subst hA3 hA4
                      have HT3 := Lib.hid ht3
                      have HC4 := Lib.hid hcs3
                      have HC3 := Lib.hid (fun (w1 : World) => cells_new w1 #[.string t2.text, .bool false, .slice none 0 0] 104 w1.heap.size rfl)
                      have HIP := Lib.hid (HIX.out.next ((Below.refl _ _).alloc (Nat.le_refl _) (.cells #[.string t2.text, .bool false, .slice none 0 0] 104)))
                      have hup : ∀ o', Below wB.heap.size wB (wr.alloc o') := fun o' => HIX.out.below.alloc HIX.out.below.size o'
                      have k0 := fun o' => (hcs3 _ (hup o')).1
                      have k1 := fun o' => (hcs3 _ (hup o')).2.1
                      have k2 := fun o' => (hcs3 _ (hup o')).2.2.1
                      have k3 := fun o' => (hcs3 _ (hup o')).2.2.2.1
                      have k4 := fun o' => (hcs3 _ (hup o')).2.2.2.2.1
                      have k5 := fun o' => (hcs3 _ (hup o')).2.2.2.2.2
                      have HPB := Lib.hid (Blk.new wr 104 #[.string t2.text, .bool false, .slice none 0 0])
                      clear hcs3 hup
                      by_cases c44 : t3.isM ⟨#[44]⟩ = true
                      · have c61 : t3.isM ⟨#[61]⟩ = false := isM_ne (by rw [ByteArray.toList_eq, ByteArray.toList_eq]; decide) c44
                        have HRN : Hid (HRun ts (if i + 1 + 1 < ts.length ∨ 2 < i + 1 + 1 then some .param else none) ⟨i + 1 + 1, nm, ps ++ [⟨t2.text, false, []⟩]⟩ r) := Lib.hid (by rw [if_pos (.inr (by omega))]; exact (hrun_step HRB1.out).2 _ _ (behind_comma ht3 c44))
                        clear ht3
                        go_wp2_with fail
                        refine (rmark_is t3 ⟨#[61]⟩ _).mono ?_
                        rintro e w6 ⟨rfl, hb6⟩
                        rw [c61]
                        have HI6 := Lib.hid (HIP.out.next hb6)
                        have hpb6 := HPB.out.below hb6 HPB.out.lt
                        clear m0 m1 m2 mz
                        obtain ⟨q0, q1, q2⟩ : w6.cell? ⟨wr.heap.size, 0, none⟩ = some (.string t2.text) ∧ w6.cell? ⟨wr.heap.size, 1, none⟩ = some (.bool false) ∧ w6.cell? ⟨wr.heap.size, 2, none⟩ = some (.slice none 0 0) := ⟨hpb6.cell 0, hpb6.cell 1, hpb6.cell 2⟩
                        have hm6 := HI6.out.blk
                        rw [HSB.out] at hm6
                        have m16 : w6.cell? ⟨w.heap.size + 1 + 1, 1, none⟩ = some (.slice Ap qs.length cp) := hm6.cell 1
                        clear hb6 hpb6 hm6 k0 k1 k2 k3 k4 k5
                        go_wp2_with (first | (at_builtin; refine wpList_append_own _ rfl _ _ 44 rfl (wB.heap.size + 1) 104 i1 (.agg #[.string ByteArray.empty, .bool false, .slice none 0 0]) 3 48 Tryd.underlying44 hi1 pz0 pz1 pz2 rfl (by decide) _ _ _ rfl (HI6.out.own.alloc _) ⟨w6.heap.size, 0, none⟩ 1 1 [.string t2.text, .bool false, .slice none 0 0] (by first | rfl | simp) rfl (HC3.out w6) (by intro u hu; simp at hu; rcases hu with rfl | rfl | rfl <;> rfl) (by unfold maxLen; omega) (by omega) (by have h1 := HI6.out.below.size; have h2 := HSB.out; simp at h1 ⊢; omega) ?_; intro v' w9 hown' hgrow _; obtain ⟨A9, c9, rfl⟩ := own_shape hown'; have kb9 := blk_grown ((HI6.out.next ((Below.refl _ _).alloc (Nat.le_refl _) _)).blk) hgrow (own_not_head HI6.out.own HI6.out.blk (by decide)); rw [HSB.out] at kb9; have n0 : w9.cell? ⟨w.heap.size + 1 + 1, 0, none⟩ = some (.string nm) := kb9.cell 0; have n1 : w9.cell? ⟨w.heap.size + 1 + 1, 1, none⟩ = some (.slice Ap qs.length cp) := kb9.cell 1; have n2 : w9.cell? ⟨w.heap.size + 1 + 1, 2, none⟩ = some (.slice none 0 0) := kb9.cell 2; have nz := kb9.frozen 1; have hpu := (HI6.out.next ((Below.refl _ _).alloc (Nat.le_refl _) _)).push (p := ⟨t2.text, false, []⟩) (d := .slice none 0 0) (World.ownsRow_nil _ _ _ _) hown' hgrow; rw [HSB.out] at hpu; have hb9 : Below wB.heap.size wB w9 := Below.grown ((HI6.out.next ((Below.refl _ _).alloc (Nat.le_refl _) _)).below) hgrow ((HI6.out.next ((Below.refl _ _).alloc (Nat.le_refl _) _)).below.size) (fun x hx => by have := (HI6.out.own.lt x hx).1; omega); obtain ⟨x0, x1, x2, z0, z1, z2, y0, y1, y2, u0, u1, u2⟩ := HXF.out w9 hb9; have HPU := Lib.hid hpu; have HB9 := Lib.hid hb9; have hcS := HC4.out _ HPU.out.below; obtain ⟨s0, s1, s2, s3, s4, s5⟩ := hcS; clear kb9 hpu hb9 hown' hgrow))
                        refine (rmark_is t3 ⟨#[44]⟩ _).mono ?_
                        rintro e w10 ⟨rfl, hb10⟩
                        rw [c44]
                        have HI10 := Lib.hid (HPU.out.next hb10)
                        clear hb10 s0 s1 s2 s3 s4 s5 n0 n1 n2 nz x0 x1 x2 z0 z1 z2 y0 y1 y2 u0 u1 u2
                        go_wp2_with fail
                        go_roundw
                        case rel => exact ⟨i + 1 + 1, ps ++ [⟨t2.text, false, []⟩], .slice A9 (qs.length + 1) c9, _, by omega, by omega, by go_num, by simp; omega, HI10, HRN⟩
                        case measure => simp [intOf]; omega
                      · replace c44 : t3.isM ⟨#[44]⟩ = false := (Bool.not_eq_true _).mp c44
                        by_cases c61 : t3.isM ⟨#[61]⟩ = true
                        · clear ht3
                          have hval := (hrun_step ((hrun_step HRB1.out).2 _ _ (behind_eq HT3.out c44 c61))).2 _ _ (value_ok (p := ⟨t2.text, false, []⟩) rfl)
                          have hle := partEnd_le Tk6.mk3 0 (ts.drop (i + 1 + 1))
                          have hstop := partEnd_stop Tk6.mk3 0 (ts.drop (i + 1 + 1))
                          have HPE := Lib.hid (fun W (hW : Below wB.heap.size wB W) => comma_is ts (.slice (some ⟨b, o, none⟩) ts.length c) (i + 1 + 1) W (HTK.out W hW) (by omega) hn)
                          generalize partEnd Tk6.mk3 0 (ts.drop (i + 1 + 1)) = pe at *
                          rw [List.length_drop] at hle hstop
                          obtain ⟨E, hE⟩ : ∃ E, i + 1 + 1 + pe = E := ⟨_, rfl⟩
                          rw [hE] at HPE hval
                          have HVL := Lib.hid hval
                          have HEe := Lib.hid hE
                          have HSP : Hid (E < ts.length → ∃ t, (ts.drop (i + 1 + 1))[pe]? = some t ∧ t.mk3 = 3) := Lib.hid (fun h => hstop (by omega))
                          have HPL : Hid (((ts.drop (i + 1 + 1)).take pe).length = E - (i + 1 + 1)) := Lib.hid (by rw [List.length_take, List.length_drop]; omega)
                          have hkE : (i : Int) + 1 + 1 ≤ E := by omega
                          have hkc : (i : Int) + 1 + 1 ≤ c := by omega
                          have hEc : (E : Int) ≤ c := by omega
                          have hEl : (E : Int) ≤ ts.length := by omega
                          have HSZ := Lib.hid HIX.out.blk.lt
                          clear hval hle hstop hE
                          go_wp2_with fail
                          refine (rmark_is t3 ⟨#[61]⟩ _).mono ?_
                          rintro e w6 ⟨rfl, hb6⟩
                          rw [c61]
                          have HI6 := Lib.hid (HIP.out.next hb6)
                          have hpb6 := HPB.out.below hb6 HPB.out.lt
                          clear m0 m1 m2 mz
                          have HQ6 := Lib.hid hb6
                          clear hb6 hpb6 k0 k1 k2 k3 k4 k5
                          go_wp2_with fail
                          refine (HPE.out _ HI6.out.below).mono ?_
                          rintro e1 w1 ⟨rfl, hb1⟩
                          have hq1 := HQ6.out.trans (hb1.mono HQ6.out.size)
                          have hp1 := HPB.out.below hq1 HPB.out.lt
                          have g1 : w1.cell? ⟨wr.heap.size, 1, none⟩ = some (.bool false) := hp1.cell 1
                          have gz := hp1.frozen 1
                          have HBPS : Hid (Blk (w1.setCell ⟨wr.heap.size, 1, none⟩ (.bool true)) wr.heap.size 104 #[.string t2.text, .bool true, .slice none 0 0]) := Lib.hid (Blk.set hp1 1 _)
                          have HWS : Hid (Below wr.heap.size wr (w1.setCell ⟨wr.heap.size, 1, none⟩ (.bool true))) := Lib.hid ((((Below.refl _ _).alloc (Nat.le_refl _) _).trans (hq1.mono (by simp))).setCell (Nat.le_refl _) _)
                          have HBS := Lib.hid (HWx.out.trans (HWS.out.mono HWx.out.size))
                          have HLIT : Hid (((w1.setCell ⟨wr.heap.size, 1, none⟩ (.bool true)).alloc (.cells #[] 56)).ownsRow (wB.heap.size + 1) 56 6 (.slice (some ⟨w1.heap.size, 0, none⟩) 0 0) 0 []) := Lib.hid (by
                            have h : ((w1.setCell ⟨wr.heap.size, 1, none⟩ (.bool true)).alloc (.cells #[] 56)).ownsRow (wB.heap.size + 1) 56 6 (.slice (some ⟨(w1.setCell ⟨wr.heap.size, 1, none⟩ (.bool true)).heap.size, 0, none⟩) 0 0) 0 [] := World.ownsRow_lit (w1.setCell ⟨wr.heap.size, 1, none⟩ (.bool true)) #[] 0 (by have h1 := HWS.out.size; have h2 := HSZ.out; omega) (Nat.zero_le _) rfl
                            rw [show (w1.setCell ⟨wr.heap.size, 1, none⟩ (.bool true)).heap.size = w1.heap.size by simp] at h
                            exact h)
                          clear hq1 hp1 hb1
                          by_cases hck : c = i + 1 + 1
                          · obtain ⟨hE0, hcE⟩ : E = i + 1 + 1 ∧ ts.length = i + 1 + 1 := by omega
                            have hnil : (ts.drop (i + 1 + 1)).take pe = [] := List.eq_nil_of_length_eq_zero (by rw [HPL.out, hE0, Nat.sub_self])
                            have HNIL := Lib.hid hnil
                            have hEn1 : (ts.length : Int) ≤ E := by omega
                            have hres := hrun_done (show HRun ts none ⟨E, nm, ps ++ [⟨t2.text, true, ((ts.drop (i + 1 + 1)).take pe)⟩]⟩ r by have := HVL.out; rwa [if_neg (by omega)] at this)
                            subst hres
                            subst hE0
                            subst hck
                            clear hcE hnil
                            go_wp2_with (first
                              | (at_builtin; refine wpList_append_own _ rfl _ _ 30 rfl (wB.heap.size + 1) 56 i0 (.agg #[.int .i64 0, .int .i64 0, .int .i64 0, .string ByteArray.empty, .int .u32 0, .int .i64 0]) 6 56 Tryd.underlying30 hi0 tz0 tz1 tz2 rfl (by decide) _ 0 [] rfl HLIT.out ⟨b, o, none⟩ 0 _ ([]) rfl (rfl) (fun q u hq => by simp at hq) (fun u hu => by cases hu) (by unfold maxLen; omega) (by omega) (by have h1 := HWS.out.size; have h2 := HSZ.out; simp at h1 ⊢; omega) ?_
                                 intro u2 w2 hu hgrow2 _
                                 have hbg : Below (w1.setCell ⟨wr.heap.size, 1, none⟩ (.bool true)).heap.size (w1.setCell ⟨wr.heap.size, 1, none⟩ (.bool true)) w2 := Below.grown ((Below.refl _ _).alloc (Nat.le_refl _) _) hgrow2 (by simp) (fun g hg => by cases hg; simp)
                                 rw [Nat.zero_add, List.nil_append] at hu
                                 obtain ⟨Au, cu, rfl⟩ := own_shape hu
                                 have hp2 := HBPS.out.below hbg HBPS.out.lt
                                 have s2 : w2.cell? ⟨wr.heap.size, 2, none⟩ = some (.slice none 0 0) := hp2.cell 2
                                 have sz := hp2.frozen 2
                                 have hp4 : Blk (w2.setCell ⟨wr.heap.size, 2, none⟩ (.slice Au 0 cu)) wr.heap.size 104 #[.string t2.text, .bool true, .slice Au 0 cu] := Blk.set hp2 2 _
                                 have v0 : (w2.setCell ⟨wr.heap.size, 2, none⟩ (.slice Au 0 cu)).cell? ⟨wr.heap.size, 0, none⟩ = some (.string t2.text) := hp4.cell 0
                                 have v1 : (w2.setCell ⟨wr.heap.size, 2, none⟩ (.slice Au 0 cu)).cell? ⟨wr.heap.size, 1, none⟩ = some (.bool true) := hp4.cell 1
                                 have v2 : (w2.setCell ⟨wr.heap.size, 2, none⟩ (.slice Au 0 cu)).cell? ⟨wr.heap.size, 2, none⟩ = some (.slice Au 0 cu) := hp4.cell 2
                                 have HD4 := Lib.hid (show (w2.setCell ⟨wr.heap.size, 2, none⟩ (.slice Au 0 cu)).ownsRow (wB.heap.size + 1) 56 6 (.slice Au 0 cu) ((ts.drop (i + 1 + 1)).take pe).length (cellsOf ((ts.drop (i + 1 + 1)).take pe)) from (by rw [HNIL.out]; exact ownsRow_setCell_other hu (own_not_head hu hp2 (by decide)) _))
                                 have hb4 : Below wr.heap.size wr (w2.setCell ⟨wr.heap.size, 2, none⟩ (.slice Au 0 cu)) := (HWS.out.trans (hbg.mono HWS.out.size)).setCell (Nat.le_refl _) _
                                 have HI4 := Lib.hid (HIX.out.next hb4)
                                 have hm4 := HI4.out.blk
                                 rw [HSB.out] at hm4
                                 have m14 : (w2.setCell ⟨wr.heap.size, 2, none⟩ (.slice Au 0 cu)).cell? ⟨w.heap.size + 1 + 1, 1, none⟩ = some (.slice Ap qs.length cp) := hm4.cell 1
                                 have HC5 := Lib.hid (fun (w1 : World) => cells_new w1 #[.string t2.text, .bool true, .slice Au 0 cu] 104 w1.heap.size rfl)
                                 clear hu hgrow2 hbg hp2 hp4 hb4 hm4)
                              | (at_builtin; refine wpList_append_own _ rfl _ _ 44 rfl (wB.heap.size + 1) 104 i1 (.agg #[.string ByteArray.empty, .bool false, .slice none 0 0]) 3 48 Tryd.underlying44 hi1 pz0 pz1 pz2 rfl (by decide) _ _ _ rfl (HI4.out.own.alloc _) ⟨w2.heap.size, 0, none⟩ 1 1 [.string t2.text, .bool true, .slice Au 0 cu] (by first | rfl | simp) rfl (by have := HC5.out (w2.setCell ⟨wr.heap.size, 2, none⟩ (.slice Au 0 cu)); simpa using this) (by intro u hu; simp at hu; rcases hu with rfl | rfl | rfl <;> rfl) (by unfold maxLen; omega) (by omega) (by have h1 := HI4.out.below.size; have h2 := HSB.out; simp at h1 ⊢; omega) ?_; intro v' w9 hown' hgrow _; obtain ⟨A9, c9, rfl⟩ := own_shape hown'; have kb9 := blk_grown ((HI4.out.next ((Below.refl _ _).alloc (Nat.le_refl _) _)).blk) hgrow (own_not_head HI4.out.own HI4.out.blk (by decide)); rw [HSB.out] at kb9; have n0 : w9.cell? ⟨w.heap.size + 1 + 1, 0, none⟩ = some (.string nm) := kb9.cell 0; have n1 : w9.cell? ⟨w.heap.size + 1 + 1, 1, none⟩ = some (.slice Ap qs.length cp) := kb9.cell 1; have n2 : w9.cell? ⟨w.heap.size + 1 + 1, 2, none⟩ = some (.slice none 0 0) := kb9.cell 2; have nz := kb9.frozen 1; have hpu := (HI4.out.next ((Below.refl _ _).alloc (Nat.le_refl _) _)).push (p := ⟨t2.text, true, ((ts.drop (i + 1 + 1)).take pe)⟩) (d := .slice Au 0 cu) (HD4.out.alloc _) hown' hgrow; rw [HSB.out] at hpu; have hb9 : Below wB.heap.size wB w9 := Below.grown ((HI4.out.next ((Below.refl _ _).alloc (Nat.le_refl _) _)).below) hgrow ((HI4.out.next ((Below.refl _ _).alloc (Nat.le_refl _) _)).below.size) (fun x hx => by have := (HI4.out.own.lt x hx).1; omega); obtain ⟨x0, x1, x2, z0, z1, z2, y0, y1, y2, u0, u1, u2⟩ := HXF.out w9 hb9; have HPU := Lib.hid hpu; have HB9 := Lib.hid hb9; clear kb9 hpu hb9 hown' hgrow))
                            have hpf := fun a0 a1 a2 b0 b1 b2 => (((((((HPU.out.rown.low (R := w.heap.size) (i := 0) (by have := HSB.out; omega) a0).low (R := w.heap.size) (i := 1) (by have := HSB.out; omega) a1).low (R := w.heap.size) (i := 2) (by have := HSB.out; omega) a2).low (R := w.heap.size + 1) (i := 0) (by have := HSB.out; omega) b0).low (R := w.heap.size + 1) (i := 1) (by have := HSB.out; omega) b1).low (R := w.heap.size + 1) (i := 2) (by have := HSB.out; omega) b2)).pars
                            have hbf := HBB.out.trans (HPU.out.below.mono HBB.out.size)
                            exact bodyPost_ret (v := .tuple #[.agg #[.string nm, .slice A9 (qs.length + 1) c9, .slice none 0 0], .agg #[.int .i64 0, .int .i64 0, .int .i64 0]]) (by simp [results, Tryd.results17, go_sem, x0, x1, x2, y0, y1, y2]) rfl ⟨_, rfl, hpf _ _ _ _ _ _, (((((hbf.setCell h00 _).setCell h00 _).setCell h00 _).setCell h01 _).setCell h01 _).setCell h01 _⟩
                          · by_cases hEn : E = ts.length
                            · have hEn1 : (ts.length : Int) ≤ E := by omega
                              have hres := hrun_done (show HRun ts none ⟨E, nm, ps ++ [⟨t2.text, true, ((ts.drop (i + 1 + 1)).take pe)⟩]⟩ r by have := HVL.out; rwa [if_neg (by omega)] at this)
                              subst hres
                              clear hEn
                              have HCL : Hid (∀ q u, (cellsOf ((ts.drop (i + 1 + 1)).take pe))[q]? = some u → ((w1.setCell ⟨wr.heap.size, 1, none⟩ (.bool true)).alloc (.cells #[] 56)).cell? ((⟨b, o + (i + 1 + 1) * 6, none⟩ : Addr).add q) = some u) := Lib.hid (fun q u hq => by
                                have hadd : (⟨b, o + (i + 1 + 1) * 6, none⟩ : Addr).add q = ⟨b, o + ((i + 1 + 1) * 6 + q), none⟩ := by unfold Addr.add; split <;> simp_all [Nat.add_assoc]
                                rw [hadd]
                                exact toks_cells (HTK.out _ (HBS.out.alloc HBS.out.size _)) _ _ (cellsOf_seg ts (i + 1 + 1) pe (by have := HEe.out; omega) q u hq))
                              go_wp2_with (first
                                | (at_builtin; refine wpList_append_own _ rfl _ _ 30 rfl (wB.heap.size + 1) 56 i0 (.agg #[.int .i64 0, .int .i64 0, .int .i64 0, .string ByteArray.empty, .int .u32 0, .int .i64 0]) 6 56 Tryd.underlying30 hi0 tz0 tz1 tz2 rfl (by decide) _ 0 [] rfl HLIT.out ⟨b, o + (i + 1 + 1) * 6, none⟩ (E - (i + 1 + 1)) (c - (i + 1 + 1)) (cellsOf ((ts.drop (i + 1 + 1)).take pe)) rfl (by rw [cellsOf_len, HPL.out]) (HCL.out) (cellsOf_one _) (by unfold maxLen; omega) (by omega) (by have h1 := HWS.out.size; have h2 := HSZ.out; simp at h1 ⊢; omega) ?_
                                   intro u2 w2 hu hgrow2 _
                                   have hbg : Below (w1.setCell ⟨wr.heap.size, 1, none⟩ (.bool true)).heap.size (w1.setCell ⟨wr.heap.size, 1, none⟩ (.bool true)) w2 := Below.grown ((Below.refl _ _).alloc (Nat.le_refl _) _) hgrow2 (by simp) (fun g hg => by cases hg; simp)
                                   rw [Nat.zero_add, List.nil_append] at hu
                                   obtain ⟨Au, cu, rfl⟩ := own_shape hu
                                   have hp2 := HBPS.out.below hbg HBPS.out.lt
                                   have s2 : w2.cell? ⟨wr.heap.size, 2, none⟩ = some (.slice none 0 0) := hp2.cell 2
                                   have sz := hp2.frozen 2
                                   have hp4 : Blk (w2.setCell ⟨wr.heap.size, 2, none⟩ (.slice Au (E - (i + 1 + 1)) cu)) wr.heap.size 104 #[.string t2.text, .bool true, .slice Au (E - (i + 1 + 1)) cu] := Blk.set hp2 2 _
                                   have v0 : (w2.setCell ⟨wr.heap.size, 2, none⟩ (.slice Au (E - (i + 1 + 1)) cu)).cell? ⟨wr.heap.size, 0, none⟩ = some (.string t2.text) := hp4.cell 0
                                   have v1 : (w2.setCell ⟨wr.heap.size, 2, none⟩ (.slice Au (E - (i + 1 + 1)) cu)).cell? ⟨wr.heap.size, 1, none⟩ = some (.bool true) := hp4.cell 1
                                   have v2 : (w2.setCell ⟨wr.heap.size, 2, none⟩ (.slice Au (E - (i + 1 + 1)) cu)).cell? ⟨wr.heap.size, 2, none⟩ = some (.slice Au (E - (i + 1 + 1)) cu) := hp4.cell 2
                                   have HD4 := Lib.hid (show (w2.setCell ⟨wr.heap.size, 2, none⟩ (.slice Au (E - (i + 1 + 1)) cu)).ownsRow (wB.heap.size + 1) 56 6 (.slice Au (E - (i + 1 + 1)) cu) ((ts.drop (i + 1 + 1)).take pe).length (cellsOf ((ts.drop (i + 1 + 1)).take pe)) from (by rw [HPL.out]; exact ownsRow_setCell_other hu (own_not_head hu hp2 (by decide)) _))
                                   have hb4 : Below wr.heap.size wr (w2.setCell ⟨wr.heap.size, 2, none⟩ (.slice Au (E - (i + 1 + 1)) cu)) := (HWS.out.trans (hbg.mono HWS.out.size)).setCell (Nat.le_refl _) _
                                   have HI4 := Lib.hid (HIX.out.next hb4)
                                   have hm4 := HI4.out.blk
                                   rw [HSB.out] at hm4
                                   have m14 : (w2.setCell ⟨wr.heap.size, 2, none⟩ (.slice Au (E - (i + 1 + 1)) cu)).cell? ⟨w.heap.size + 1 + 1, 1, none⟩ = some (.slice Ap qs.length cp) := hm4.cell 1
                                   have HC5 := Lib.hid (fun (w1 : World) => cells_new w1 #[.string t2.text, .bool true, .slice Au (E - (i + 1 + 1)) cu] 104 w1.heap.size rfl)
                                   clear hu hgrow2 hbg hp2 hp4 hb4 hm4)
                                | (at_builtin; refine wpList_append_own _ rfl _ _ 44 rfl (wB.heap.size + 1) 104 i1 (.agg #[.string ByteArray.empty, .bool false, .slice none 0 0]) 3 48 Tryd.underlying44 hi1 pz0 pz1 pz2 rfl (by decide) _ _ _ rfl (HI4.out.own.alloc _) ⟨w2.heap.size, 0, none⟩ 1 1 [.string t2.text, .bool true, .slice Au (E - (i + 1 + 1)) cu] (by first | rfl | simp) rfl (by have := HC5.out (w2.setCell ⟨wr.heap.size, 2, none⟩ (.slice Au (E - (i + 1 + 1)) cu)); simpa using this) (by intro u hu; simp at hu; rcases hu with rfl | rfl | rfl <;> rfl) (by unfold maxLen; omega) (by omega) (by have h1 := HI4.out.below.size; have h2 := HSB.out; simp at h1 ⊢; omega) ?_; intro v' w9 hown' hgrow _; obtain ⟨A9, c9, rfl⟩ := own_shape hown'; have kb9 := blk_grown ((HI4.out.next ((Below.refl _ _).alloc (Nat.le_refl _) _)).blk) hgrow (own_not_head HI4.out.own HI4.out.blk (by decide)); rw [HSB.out] at kb9; have n0 : w9.cell? ⟨w.heap.size + 1 + 1, 0, none⟩ = some (.string nm) := kb9.cell 0; have n1 : w9.cell? ⟨w.heap.size + 1 + 1, 1, none⟩ = some (.slice Ap qs.length cp) := kb9.cell 1; have n2 : w9.cell? ⟨w.heap.size + 1 + 1, 2, none⟩ = some (.slice none 0 0) := kb9.cell 2; have nz := kb9.frozen 1; have hpu := (HI4.out.next ((Below.refl _ _).alloc (Nat.le_refl _) _)).push (p := ⟨t2.text, true, ((ts.drop (i + 1 + 1)).take pe)⟩) (d := .slice Au (E - (i + 1 + 1)) cu) (HD4.out.alloc _) hown' hgrow; rw [HSB.out] at hpu; have hb9 : Below wB.heap.size wB w9 := Below.grown ((HI4.out.next ((Below.refl _ _).alloc (Nat.le_refl _) _)).below) hgrow ((HI4.out.next ((Below.refl _ _).alloc (Nat.le_refl _) _)).below.size) (fun x hx => by have := (HI4.out.own.lt x hx).1; omega); obtain ⟨x0, x1, x2, z0, z1, z2, y0, y1, y2, u0, u1, u2⟩ := HXF.out w9 hb9; have HPU := Lib.hid hpu; have HB9 := Lib.hid hb9; clear kb9 hpu hb9 hown' hgrow))
                              have hpf := fun a0 a1 a2 b0 b1 b2 => (((((((HPU.out.rown.low (R := w.heap.size) (i := 0) (by have := HSB.out; omega) a0).low (R := w.heap.size) (i := 1) (by have := HSB.out; omega) a1).low (R := w.heap.size) (i := 2) (by have := HSB.out; omega) a2).low (R := w.heap.size + 1) (i := 0) (by have := HSB.out; omega) b0).low (R := w.heap.size + 1) (i := 1) (by have := HSB.out; omega) b1).low (R := w.heap.size + 1) (i := 2) (by have := HSB.out; omega) b2)).pars
                              have hbf := HBB.out.trans (HPU.out.below.mono HBB.out.size)
                              exact bodyPost_ret (v := .tuple #[.agg #[.string nm, .slice A9 (qs.length + 1) c9, .slice none 0 0], .agg #[.int .i64 0, .int .i64 0, .int .i64 0]]) (by simp [results, Tryd.results17, go_sem, x0, x1, x2, y0, y1, y2]) rfl ⟨_, rfl, hpf _ _ _ _ _ _, (((((hbf.setCell h00 _).setCell h00 _).setCell h00 _).setCell h01 _).setCell h01 _).setCell h01 _⟩
                            · obtain ⟨t4, ht4, hm4⟩ := HSP.out (by omega)
                              rw [List.getElem?_drop] at ht4
                              obtain ⟨b4, o4, hA4, hcs4⟩ := HTC.out E t4 (by rw [← HEe.out]; exact ht4)
                              injection hA4 with hA4
                              injection hA4 with hA4 hA5 _
                              subst hA4 hA5
                              have HC6 := Lib.hid hcs4
                              have hcm4 := mk3_comma hm4
                              have hEn1 : ¬ (ts.length : Int) ≤ E := by omega
                              have hEi : (E : Int) < ts.length := by omega
                              have hEci : (E : Int) < c := by omega
                              have HRN : Hid (HRun ts (if E + 1 < ts.length ∨ 2 < E + 1 then some .param else none) ⟨E + 1, nm, ps ++ [⟨t2.text, true, ((ts.drop (i + 1 + 1)).take pe)⟩]⟩ r) := Lib.hid (by
                                rw [if_pos (.inr (by have := HEe.out; omega))]
                                have hv := HVL.out
                                rw [if_pos (by omega)] at hv
                                exact (hrun_step hv).2 _ _ (behind_comma (by rw [← HEe.out]; exact ht4) hcm4))
                              clear hcs4 ht4 hm4 hEn
                              have HCL : Hid (∀ q u, (cellsOf ((ts.drop (i + 1 + 1)).take pe))[q]? = some u → ((w1.setCell ⟨wr.heap.size, 1, none⟩ (.bool true)).alloc (.cells #[] 56)).cell? ((⟨b, o + (i + 1 + 1) * 6, none⟩ : Addr).add q) = some u) := Lib.hid (fun q u hq => by
                                have hadd : (⟨b, o + (i + 1 + 1) * 6, none⟩ : Addr).add q = ⟨b, o + ((i + 1 + 1) * 6 + q), none⟩ := by unfold Addr.add; split <;> simp_all [Nat.add_assoc]
                                rw [hadd]
                                exact toks_cells (HTK.out _ (HBS.out.alloc HBS.out.size _)) _ _ (cellsOf_seg ts (i + 1 + 1) pe (by have := HEe.out; omega) q u hq))
                              go_wp2_with (first
                                | (at_builtin; refine wpList_append_own _ rfl _ _ 30 rfl (wB.heap.size + 1) 56 i0 (.agg #[.int .i64 0, .int .i64 0, .int .i64 0, .string ByteArray.empty, .int .u32 0, .int .i64 0]) 6 56 Tryd.underlying30 hi0 tz0 tz1 tz2 rfl (by decide) _ 0 [] rfl HLIT.out ⟨b, o + (i + 1 + 1) * 6, none⟩ (E - (i + 1 + 1)) (c - (i + 1 + 1)) (cellsOf ((ts.drop (i + 1 + 1)).take pe)) rfl (by rw [cellsOf_len, HPL.out]) (HCL.out) (cellsOf_one _) (by unfold maxLen; omega) (by omega) (by have h1 := HWS.out.size; have h2 := HSZ.out; simp at h1 ⊢; omega) ?_
                                   intro u2 w2 hu hgrow2 _
                                   have hbg : Below (w1.setCell ⟨wr.heap.size, 1, none⟩ (.bool true)).heap.size (w1.setCell ⟨wr.heap.size, 1, none⟩ (.bool true)) w2 := Below.grown ((Below.refl _ _).alloc (Nat.le_refl _) _) hgrow2 (by simp) (fun g hg => by cases hg; simp)
                                   rw [Nat.zero_add, List.nil_append] at hu
                                   obtain ⟨Au, cu, rfl⟩ := own_shape hu
                                   have hp2 := HBPS.out.below hbg HBPS.out.lt
                                   have s2 : w2.cell? ⟨wr.heap.size, 2, none⟩ = some (.slice none 0 0) := hp2.cell 2
                                   have sz := hp2.frozen 2
                                   have hp4 : Blk (w2.setCell ⟨wr.heap.size, 2, none⟩ (.slice Au (E - (i + 1 + 1)) cu)) wr.heap.size 104 #[.string t2.text, .bool true, .slice Au (E - (i + 1 + 1)) cu] := Blk.set hp2 2 _
                                   have v0 : (w2.setCell ⟨wr.heap.size, 2, none⟩ (.slice Au (E - (i + 1 + 1)) cu)).cell? ⟨wr.heap.size, 0, none⟩ = some (.string t2.text) := hp4.cell 0
                                   have v1 : (w2.setCell ⟨wr.heap.size, 2, none⟩ (.slice Au (E - (i + 1 + 1)) cu)).cell? ⟨wr.heap.size, 1, none⟩ = some (.bool true) := hp4.cell 1
                                   have v2 : (w2.setCell ⟨wr.heap.size, 2, none⟩ (.slice Au (E - (i + 1 + 1)) cu)).cell? ⟨wr.heap.size, 2, none⟩ = some (.slice Au (E - (i + 1 + 1)) cu) := hp4.cell 2
                                   have HD4 := Lib.hid (show (w2.setCell ⟨wr.heap.size, 2, none⟩ (.slice Au (E - (i + 1 + 1)) cu)).ownsRow (wB.heap.size + 1) 56 6 (.slice Au (E - (i + 1 + 1)) cu) ((ts.drop (i + 1 + 1)).take pe).length (cellsOf ((ts.drop (i + 1 + 1)).take pe)) from (by rw [HPL.out]; exact ownsRow_setCell_other hu (own_not_head hu hp2 (by decide)) _))
                                   have hb4 : Below wr.heap.size wr (w2.setCell ⟨wr.heap.size, 2, none⟩ (.slice Au (E - (i + 1 + 1)) cu)) := (HWS.out.trans (hbg.mono HWS.out.size)).setCell (Nat.le_refl _) _
                                   have HI4 := Lib.hid (HIX.out.next hb4)
                                   have hm4 := HI4.out.blk
                                   rw [HSB.out] at hm4
                                   have m14 : (w2.setCell ⟨wr.heap.size, 2, none⟩ (.slice Au (E - (i + 1 + 1)) cu)).cell? ⟨w.heap.size + 1 + 1, 1, none⟩ = some (.slice Ap qs.length cp) := hm4.cell 1
                                   have HC5 := Lib.hid (fun (w1 : World) => cells_new w1 #[.string t2.text, .bool true, .slice Au (E - (i + 1 + 1)) cu] 104 w1.heap.size rfl)
                                   clear hu hgrow2 hbg hp2 hp4 hb4 hm4)
                                | (at_builtin; refine wpList_append_own _ rfl _ _ 44 rfl (wB.heap.size + 1) 104 i1 (.agg #[.string ByteArray.empty, .bool false, .slice none 0 0]) 3 48 Tryd.underlying44 hi1 pz0 pz1 pz2 rfl (by decide) _ _ _ rfl (HI4.out.own.alloc _) ⟨w2.heap.size, 0, none⟩ 1 1 [.string t2.text, .bool true, .slice Au (E - (i + 1 + 1)) cu] (by first | rfl | simp) rfl (by have := HC5.out (w2.setCell ⟨wr.heap.size, 2, none⟩ (.slice Au (E - (i + 1 + 1)) cu)); simpa using this) (by intro u hu; simp at hu; rcases hu with rfl | rfl | rfl <;> rfl) (by unfold maxLen; omega) (by omega) (by have h1 := HI4.out.below.size; have h2 := HSB.out; simp at h1 ⊢; omega) ?_; intro v' w9 hown' hgrow _; obtain ⟨A9, c9, rfl⟩ := own_shape hown'; have kb9 := blk_grown ((HI4.out.next ((Below.refl _ _).alloc (Nat.le_refl _) _)).blk) hgrow (own_not_head HI4.out.own HI4.out.blk (by decide)); rw [HSB.out] at kb9; have n0 : w9.cell? ⟨w.heap.size + 1 + 1, 0, none⟩ = some (.string nm) := kb9.cell 0; have n1 : w9.cell? ⟨w.heap.size + 1 + 1, 1, none⟩ = some (.slice Ap qs.length cp) := kb9.cell 1; have n2 : w9.cell? ⟨w.heap.size + 1 + 1, 2, none⟩ = some (.slice none 0 0) := kb9.cell 2; have nz := kb9.frozen 1; have hpu := (HI4.out.next ((Below.refl _ _).alloc (Nat.le_refl _) _)).push (p := ⟨t2.text, true, ((ts.drop (i + 1 + 1)).take pe)⟩) (d := .slice Au (E - (i + 1 + 1)) cu) (HD4.out.alloc _) hown' hgrow; rw [HSB.out] at hpu; have hb9 : Below wB.heap.size wB w9 := Below.grown ((HI4.out.next ((Below.refl _ _).alloc (Nat.le_refl _) _)).below) hgrow ((HI4.out.next ((Below.refl _ _).alloc (Nat.le_refl _) _)).below.size) (fun x hx => by have := (HI4.out.own.lt x hx).1; omega); obtain ⟨x0, x1, x2, z0, z1, z2, y0, y1, y2, u0, u1, u2⟩ := HXF.out w9 hb9; have HPU := Lib.hid hpu; have HB9 := Lib.hid hb9; have hcS := HC6.out _ HPU.out.below; obtain ⟨s0, s1, s2, s3, s4, s5⟩ := hcS; clear kb9 hpu hb9 hown' hgrow))
                              refine (rmark_is t4 ⟨#[44]⟩ _).mono ?_
                              rintro e5 w10 ⟨rfl, hb10⟩
                              rw [hcm4]
                              have HI10 := Lib.hid (HPU.out.next hb10)
                              clear hb10 s0 s1 s2 s3 s4 s5 n0 n1 n2 nz x0 x1 x2 z0 z1 z2 y0 y1 y2 u0 u1 u2
                              go_wp2_with fail
                              go_roundw
                              case rel => exact ⟨E + 1, ps ++ [⟨t2.text, true, ((ts.drop (i + 1 + 1)).take pe)⟩], .slice A9 (qs.length + 1) c9, _, by have := HEe.out; omega, by omega, by go_num, by have := HEe.out; simp; omega, HI10, HRN⟩
                              case measure => simp [intOf]; omega
                        · replace c61 : t3.isM ⟨#[61]⟩ = false := (Bool.not_eq_true _).mp c61
                          clear ht3
                          go_wp2_with fail
                          refine (rmark_is t3 ⟨#[61]⟩ _).mono ?_
                          rintro e w6 ⟨rfl, hb6⟩
                          rw [c61]
                          have HI6 := Lib.hid (HIP.out.next hb6)
                          have hpb6 := HPB.out.below hb6 HPB.out.lt
                          clear m0 m1 m2 mz
                          obtain ⟨q0, q1, q2⟩ : w6.cell? ⟨wr.heap.size, 0, none⟩ = some (.string t2.text) ∧ w6.cell? ⟨wr.heap.size, 1, none⟩ = some (.bool false) ∧ w6.cell? ⟨wr.heap.size, 2, none⟩ = some (.slice none 0 0) := ⟨hpb6.cell 0, hpb6.cell 1, hpb6.cell 2⟩
                          have hm6 := HI6.out.blk
                          rw [HSB.out] at hm6
                          have m16 : w6.cell? ⟨w.heap.size + 1 + 1, 1, none⟩ = some (.slice Ap qs.length cp) := hm6.cell 1
                          clear hb6 hpb6 hm6 k0 k1 k2 k3 k4 k5
                          go_wp2_with (first | (at_builtin; refine wpList_append_own _ rfl _ _ 44 rfl (wB.heap.size + 1) 104 i1 (.agg #[.string ByteArray.empty, .bool false, .slice none 0 0]) 3 48 Tryd.underlying44 hi1 pz0 pz1 pz2 rfl (by decide) _ _ _ rfl (HI6.out.own.alloc _) ⟨w6.heap.size, 0, none⟩ 1 1 [.string t2.text, .bool false, .slice none 0 0] (by first | rfl | simp) rfl (HC3.out w6) (by intro u hu; simp at hu; rcases hu with rfl | rfl | rfl <;> rfl) (by unfold maxLen; omega) (by omega) (by have h1 := HI6.out.below.size; have h2 := HSB.out; simp at h1 ⊢; omega) ?_; intro v' w9 hown' hgrow _; obtain ⟨A9, c9, rfl⟩ := own_shape hown'; have kb9 := blk_grown ((HI6.out.next ((Below.refl _ _).alloc (Nat.le_refl _) _)).blk) hgrow (own_not_head HI6.out.own HI6.out.blk (by decide)); rw [HSB.out] at kb9; have n0 : w9.cell? ⟨w.heap.size + 1 + 1, 0, none⟩ = some (.string nm) := kb9.cell 0; have n1 : w9.cell? ⟨w.heap.size + 1 + 1, 1, none⟩ = some (.slice Ap qs.length cp) := kb9.cell 1; have n2 : w9.cell? ⟨w.heap.size + 1 + 1, 2, none⟩ = some (.slice none 0 0) := kb9.cell 2; have nz := kb9.frozen 1; have hpu := (HI6.out.next ((Below.refl _ _).alloc (Nat.le_refl _) _)).push (p := ⟨t2.text, false, []⟩) (d := .slice none 0 0) (World.ownsRow_nil _ _ _ _) hown' hgrow; rw [HSB.out] at hpu; have hb9 : Below wB.heap.size wB w9 := Below.grown ((HI6.out.next ((Below.refl _ _).alloc (Nat.le_refl _) _)).below) hgrow ((HI6.out.next ((Below.refl _ _).alloc (Nat.le_refl _) _)).below.size) (fun x hx => by have := (HI6.out.own.lt x hx).1; omega); obtain ⟨x0, x1, x2, z0, z1, z2, y0, y1, y2, u0, u1, u2⟩ := HXF.out w9 hb9; have HPU := Lib.hid hpu; have HB9 := Lib.hid hb9; have hcS := HC4.out _ HPU.out.below; obtain ⟨s0, s1, s2, s3, s4, s5⟩ := hcS; clear kb9 hpu hb9 hown' hgrow))
                          refine (rmark_is t3 ⟨#[44]⟩ _).mono ?_
                          rintro e w10 ⟨rfl, hb10⟩
                          rw [c44]
                          have HI10 := Lib.hid (HPU.out.next hb10)
                          clear hb10 s0 s1 s2 s3 s4 s5 n0 n1 n2 nz x0 x1 x2 z0 z1 z2 y0 y1 y2 u0 u1 u2
                          have hres := (hrun_step HRB1.out).1 _ (behind_bad HT3.out c44 c61)
                          subst hres
                          go_wp2_with fail
                          refine (HAT.out _ (i + 1) 5 HI10.out.below).mono ?_
                          rintro e w11 ⟨rfl, hb11⟩
                          obtain ⟨x0, x1, x2, z0, z1, z2, y0, y1, y2, u0, u1, u2⟩ := HXF.out w11 hb11
                          have HB11 := Lib.hid (HBB.out.trans (hb11.mono HBB.out.size))
                          clear hb11
                          go_wp2_with fail
                          exact bodyPost_ret (v := .tuple #[.agg #[.string ⟨#[]⟩, .slice none 0 0, .slice none 0 0], .agg #[.int .i64 (placeAt ts (i + 1)).1, .int .i64 (placeAt ts (i + 1)).2, .int .i64 5]]) (by simp [results, Tryd.results17, go_sem, x0, x1, x2, y0, y1, y2]) rfl ⟨rfl, (((((HB11.out.setCell h00 _).setCell h00 _).setCell h00 _).setCell h01 _).setCell h01 _).setCell h01 _⟩
                    · have hmi : ¬ (i : Int) + 1 < ts.length := by omega
                      have hmd : decide ((i : Int) + 1 < ts.length) = false := decide_eq_false hmi
                      have hmg : (ts.length : Int) ≤ i + 1 := by omega
                      have hres := hrun_done (show HRun ts none ⟨i + 1, nm, ps ++ [⟨t2.text, false, []⟩]⟩ r by have := HR1.out; rwa [if_neg hmore] at this)
                      subst hres
                      have HC3 := Lib.hid (fun (w1 : World) => cells_new w1 #[.string t2.text, .bool false, .slice none 0 0] 104 w1.heap.size rfl)
                      have HIP := Lib.hid (HIX.out.next ((Below.refl _ _).alloc (Nat.le_refl _) (.cells #[.string t2.text, .bool false, .slice none 0 0] 104)))
                      have hmp := HIP.out.blk
                      rw [HSB.out] at hmp
                      have m1p : (wr.alloc (.cells #[.string t2.text, .bool false, .slice none 0 0] 104)).cell? ⟨w.heap.size + 1 + 1, 1, none⟩ = some (.slice Ap qs.length cp) := hmp.cell 1
                      clear hmp
                      go_wp2_with (first | (at_builtin; refine wpList_append_own _ rfl _ _ 44 rfl (wB.heap.size + 1) 104 i1 (.agg #[.string ByteArray.empty, .bool false, .slice none 0 0]) 3 48 Tryd.underlying44 hi1 pz0 pz1 pz2 rfl (by decide) _ _ _ rfl (HIP.out.own.alloc _) ⟨wr.heap.size + 1, 0, none⟩ 1 1 [.string t2.text, .bool false, .slice none 0 0] (by first | rfl | simp) rfl (by have := HC3.out (wr.alloc (.cells #[.string t2.text, .bool false, .slice none 0 0] 104)); simpa using this) (by intro u hu; simp at hu; rcases hu with rfl | rfl | rfl <;> rfl) (by unfold maxLen; omega) (by omega) (by have h1 := HIP.out.below.size; have h2 := HSB.out; simp at h1 ⊢; omega) ?_; intro v' w9 hown' hgrow _; obtain ⟨A9, c9, rfl⟩ := own_shape hown'; have kb9 := blk_grown ((HIP.out.next ((Below.refl _ _).alloc (Nat.le_refl _) _)).blk) hgrow (own_not_head HIP.out.own HIP.out.blk (by decide)); rw [HSB.out] at kb9; have n0 : w9.cell? ⟨w.heap.size + 1 + 1, 0, none⟩ = some (.string nm) := kb9.cell 0; have n1 : w9.cell? ⟨w.heap.size + 1 + 1, 1, none⟩ = some (.slice Ap qs.length cp) := kb9.cell 1; have n2 : w9.cell? ⟨w.heap.size + 1 + 1, 2, none⟩ = some (.slice none 0 0) := kb9.cell 2; have nz := kb9.frozen 1; have hpu := (HIP.out.next ((Below.refl _ _).alloc (Nat.le_refl _) _)).push (p := ⟨t2.text, false, []⟩) (d := .slice none 0 0) (World.ownsRow_nil _ _ _ _) hown' hgrow; rw [HSB.out] at hpu; have hb9 : Below wB.heap.size wB w9 := Below.grown ((HIP.out.next ((Below.refl _ _).alloc (Nat.le_refl _) _)).below) hgrow ((HIP.out.next ((Below.refl _ _).alloc (Nat.le_refl _) _)).below.size) (fun x hx => by have := (HIP.out.own.lt x hx).1; omega); obtain ⟨x0, x1, x2, z0, z1, z2, y0, y1, y2, u0, u1, u2⟩ := HXF.out w9 hb9; have HPU := Lib.hid hpu; have HB9 := Lib.hid hb9; clear kb9 hpu hb9 hown' hgrow))
                      have hpf := fun a0 a1 a2 b0 b1 b2 => (((((((HPU.out.rown.low (R := w.heap.size) (i := 0) (by have := HSB.out; omega) a0).low (R := w.heap.size) (i := 1) (by have := HSB.out; omega) a1).low (R := w.heap.size) (i := 2) (by have := HSB.out; omega) a2).low (R := w.heap.size + 1) (i := 0) (by have := HSB.out; omega) b0).low (R := w.heap.size + 1) (i := 1) (by have := HSB.out; omega) b1).low (R := w.heap.size + 1) (i := 2) (by have := HSB.out; omega) b2)).pars
                      have hbf := HBB.out.trans (HPU.out.below.mono HBB.out.size)
                      exact bodyPost_ret (v := .tuple #[.agg #[.string nm, .slice A9 (qs.length + 1) c9, .slice none 0 0], .agg #[.int .i64 0, .int .i64 0, .int .i64 0]]) (by simp [results, Tryd.results17, go_sem, x0, x1, x2, y0, y1, y2]) rfl ⟨_, rfl, hpf _ _ _ _ _ _, (((((hbf.setCell h00 _).setCell h00 _).setCell h00 _).setCell h01 _).setCell h01 _).setCell h01 _⟩
              · have hkn2 : (t2.kind != 1) = true := by simpa using hk2
                have hres := (hrun_step HRP.out).1 _ (param_bad (by unfold nameAt; rw [ht2]; simpa using hk2))
                subst hres
                clear ht2 hk2
                go_wp2_with fail
                refine (HAT.out _ (i) 5 HWr.out).mono ?_
                rintro e w5 ⟨rfl, hb5⟩
                have hRw := HRB.out.below hb5 HRB.out.lt
                have hFw := HFB.out.below hb5 HFB.out.lt
                have x0 : w5.cell? ⟨w.heap.size, 0, none⟩ = some (.string ⟨#[]⟩) := hRw.cell 0
                have x1 : w5.cell? ⟨w.heap.size, 1, none⟩ = some (.slice none 0 0) := hRw.cell 1
                have x2 : w5.cell? ⟨w.heap.size, 2, none⟩ = some (.slice none 0 0) := hRw.cell 2
                have z0 := hRw.frozen 0
                have z1 := hRw.frozen 1
                have z2 := hRw.frozen 2
                have y0 : w5.cell? ⟨w.heap.size + 1, 0, none⟩ = some (.int .i64 0) := hFw.cell 0
                have y1 : w5.cell? ⟨w.heap.size + 1, 1, none⟩ = some (.int .i64 0) := hFw.cell 1
                have y2 : w5.cell? ⟨w.heap.size + 1, 2, none⟩ = some (.int .i64 0) := hFw.cell 2
                have u0 := hFw.frozen 0
                have u1 := hFw.frozen 1
                have u2 := hFw.frozen 2
                clear hRw hFw
                have HB5 := Lib.hid (HBB.out.trans (hb5.mono HBB.out.size))
                clear hb5
                go_wp2_with fail
                exact bodyPost_ret (v := .tuple #[.agg #[.string ⟨#[]⟩, .slice none 0 0, .slice none 0 0], .agg #[.int .i64 (placeAt ts (i)).1, .int .i64 (placeAt ts (i)).2, .int .i64 5]]) (by simp [results, Tryd.results17, go_sem, x0, x1, x2, y0, y1, y2]) rfl ⟨rfl, (((((HB5.out.setCell h00 _).setCell h00 _).setCell h00 _).setCell h01 _).setCell h01 _).setCell h01 _⟩
            · have hli : ¬ (i : Int) < ts.length := by omega
              have hlid : decide ((i : Int) < ts.length) = false := decide_eq_false hli
              have hge : (ts.length : Int) ≤ i := by omega
              have h2ii : (2 : Int) < i := by omega
              have h2id : decide ((2 : Int) < i) = true := decide_eq_true h2ii
              have hres := (hrun_step HRP.out).1 _ (param_bad (by unfold nameAt; rw [List.getElem?_eq_none (by omega)]))
              subst hres
              go_wp2_with fail
              refine (HAT.out _ (i) 5 HWr.out).mono ?_
              rintro e w5 ⟨rfl, hb5⟩
              have hRw := HRB.out.below hb5 HRB.out.lt
              have hFw := HFB.out.below hb5 HFB.out.lt
              have x0 : w5.cell? ⟨w.heap.size, 0, none⟩ = some (.string ⟨#[]⟩) := hRw.cell 0
              have x1 : w5.cell? ⟨w.heap.size, 1, none⟩ = some (.slice none 0 0) := hRw.cell 1
              have x2 : w5.cell? ⟨w.heap.size, 2, none⟩ = some (.slice none 0 0) := hRw.cell 2
              have z0 := hRw.frozen 0
              have z1 := hRw.frozen 1
              have z2 := hRw.frozen 2
              have y0 : w5.cell? ⟨w.heap.size + 1, 0, none⟩ = some (.int .i64 0) := hFw.cell 0
              have y1 : w5.cell? ⟨w.heap.size + 1, 1, none⟩ = some (.int .i64 0) := hFw.cell 1
              have y2 : w5.cell? ⟨w.heap.size + 1, 2, none⟩ = some (.int .i64 0) := hFw.cell 2
              have u0 := hFw.frozen 0
              have u1 := hFw.frozen 1
              have u2 := hFw.frozen 2
              clear hRw hFw
              have HB5 := Lib.hid (HBB.out.trans (hb5.mono HBB.out.size))
              clear hb5
              go_wp2_with fail
              exact bodyPost_ret (v := .tuple #[.agg #[.string ⟨#[]⟩, .slice none 0 0, .slice none 0 0], .agg #[.int .i64 (placeAt ts (i)).1, .int .i64 (placeAt ts (i)).2, .int .i64 5]]) (by simp [results, Tryd.results17, go_sem, x0, x1, x2, y0, y1, y2]) rfl ⟨rfl, (((((HB5.out.setCell h00 _).setCell h00 _).setCell h00 _).setCell h01 _).setCell h01 _).setCell h01 _⟩
          · obtain rfl : i = 2 := by omega
            have hli : ¬ (((2 : Nat) : Int)) < ts.length := by omega
            have hres := hrun_done (show HRun ts none ⟨2, nm, ps⟩ r by have := HRN.out; rwa [if_neg hcond] at this)
            subst hres
            clear HRN
            have hRw := HRB.out.below HWr.out HRB.out.lt
            have hFw := HFB.out.below HWr.out HFB.out.lt
            have x0 : wr.cell? ⟨w.heap.size, 0, none⟩ = some (.string ⟨#[]⟩) := hRw.cell 0
            have x1 : wr.cell? ⟨w.heap.size, 1, none⟩ = some (.slice none 0 0) := hRw.cell 1
            have x2 : wr.cell? ⟨w.heap.size, 2, none⟩ = some (.slice none 0 0) := hRw.cell 2
            have z0 := hRw.frozen 0
            have z1 := hRw.frozen 1
            have z2 := hRw.frozen 2
            have y0 : wr.cell? ⟨w.heap.size + 1, 0, none⟩ = some (.int .i64 0) := hFw.cell 0
            have y1 : wr.cell? ⟨w.heap.size + 1, 1, none⟩ = some (.int .i64 0) := hFw.cell 1
            have y2 : wr.cell? ⟨w.heap.size + 1, 2, none⟩ = some (.int .i64 0) := hFw.cell 2
            have u0 := hFw.frozen 0
            have u1 := hFw.frozen 1
            have u2 := hFw.frozen 2
            clear hRw hFw
            have hpf := fun a0 a1 a2 b0 b1 b2 => (((((((HI.out.rown.low (R := w.heap.size) (i := 0) (by have := HSB.out; omega) a0).low (R := w.heap.size) (i := 1) (by have := HSB.out; omega) a1).low (R := w.heap.size) (i := 2) (by have := HSB.out; omega) a2).low (R := w.heap.size + 1) (i := 0) (by have := HSB.out; omega) b0).low (R := w.heap.size + 1) (i := 1) (by have := HSB.out; omega) b1).low (R := w.heap.size + 1) (i := 2) (by have := HSB.out; omega) b2)).pars
            have HPF := Lib.hid hpf
            have HBF := Lib.hid (HBB.out.trans (HWr.out.mono HBB.out.size))
            clear hpf
            go_wp2_with fail
            exact bodyPost_ret (v := .tuple #[.agg #[.string nm, .slice Ap qs.length cp, .slice none 0 0], .agg #[.int .i64 0, .int .i64 0, .int .i64 0]]) (by simp [results, Tryd.results17, go_sem, x0, x1, x2, y0, y1, y2]) rfl ⟨_, rfl, HPF.out _ _ _ _ _ _, (((((HBF.out.setCell h00 _).setCell h00 _).setCell h00 _).setCell h01 _).setCell h01 _).setCell h01 _⟩
      · have hsi : (0 : Int) < t.text.size := by omega
        have hsd : decide ((0 : Int) < t.text.size) = true := decide_eq_true hsi
        have hbt : (((t.text[0]'hs0).toNat : Int) == 46) = false := by rw [← dot_byte]; exact hd2
        clear ht hk hd2
        go_enter Tryd.func17, Tryd.ntmps17
        go_wp2_with fail
        rw [HWB.out]
        have HST : Hid (RInv wB t.text [] (.slice none 0 0) [] (wB.alloc (.cells #[.string t.text, .slice none 0 0, .slice none 0 0] 46))) := Lib.hid ⟨Blk.new _ _ _, rfl, World.ownsRow_nil _ _ _ _, (fun q hq => nomatch hq), (Below.refl _ _).alloc (Nat.le_refl _) _⟩
        have HIL := Lib.hid hil
        clear f0 f3 f9 hl2 hc1 hl1 hkn HT HK HDOT HRU hil
        skip
        generalize t.text = nm at *
        go_loopw [5] (fun iv wr => ∃ (i : Nat) (ps : List HPar) (vp : Value) (qs : List (HPar × Value)), 2 ≤ i ∧ i ≤ ts.length + 1 ∧ iv = .int .i64 i ∧ ps.length ≤ i ∧ Hid (RInv wB nm ps vp qs wr) ∧ Hid (HRun ts (if i < ts.length ∨ 2 < i then some .param else none) ⟨i, nm, ps⟩ r)) (fun iv _ => ts.length + 2 - (intOf iv).toNat)
        case atStart => exact ⟨2, [], .slice none 0 0, [], by omega, by have := HIL.out; omega, rfl, by simp, HST, Lib.hid (by have := HGO.out; simpa using this)⟩
        case round =>
          obtain ⟨i, ps, vp, qs, h2i, hil1, rfl, hfew, HI, HRN⟩ := hrel
          obtain ⟨Ap, cp, hvp⟩ := own_shape HI.out.own
          subst hvp
          have hql : qs.length ≤ 100001 := by have := congrArg List.length HI.out.eq; rw [List.length_map] at this; omega
          have hqe : Hid (qs.length = ps.length) := Lib.hid (by have := congrArg List.length HI.out.eq; rwa [List.length_map] at this)
          have hib : (i : Int) ≤ 100001 := by omega
          have hmb := HI.out.blk
          rw [HSB.out] at hmb
          have m0 : wr.cell? ⟨w.heap.size + 1 + 1, 0, none⟩ = some (.string nm) := hmb.cell 0
          have m1 : wr.cell? ⟨w.heap.size + 1 + 1, 1, none⟩ = some (.slice Ap qs.length cp) := hmb.cell 1
          have m2 : wr.cell? ⟨w.heap.size + 1 + 1, 2, none⟩ = some (.slice none 0 0) := hmb.cell 2
          have mz := hmb.frozen 1
          clear hmb
          have HWr := Lib.hid HI.out.below
          by_cases hcond : i < ts.length ∨ 2 < i
          · have HRP : Hid (HRun ts (some .param) ⟨i, nm, ps⟩ r) := Lib.hid (by have := HRN.out; rwa [if_pos hcond] at this)
            clear HRN
            by_cases hlt : i < ts.length
            · have hli : (i : Int) < ts.length := by omega
              have hlid : decide ((i : Int) < ts.length) = true := decide_eq_true hli
              have hge : ¬ (ts.length : Int) ≤ i := by omega
              have hged : decide ((ts.length : Int) ≤ i) = false := decide_eq_false hge
              have hic : (i : Int) < c := by omega
              obtain ⟨t2, ht2⟩ : ∃ t2, ts[i]? = some t2 := ⟨_, List.getElem?_eq_getElem hlt⟩
              obtain ⟨b2, o2, hA2, hcs2⟩ := HTC.out i t2 ht2
              injection hA2 with hA2
              injection hA2 with hA2 hA3 _
              subst hA2 hA3
              have HC2 := Lib.hid hcs2
              obtain ⟨e0, -, -, e3, -⟩ := hcs2 wr HWr.out
              clear hcs2
              by_cases hk2 : t2.kind = 1
              · have hkn2 : (t2.kind != 1) = false := by rw [hk2]; rfl
                have HT2 := Lib.hid ht2
                have HK2 := Lib.hid hk2
                clear ht2 hk2
                obtain ⟨wo, rfl⟩ : ∃ wo : World, wo = wr := ⟨_, rfl⟩
                obtain ⟨Ap2, cp2, hve, hpc, _, hpcell⟩ := HI.out.pars.form
                injection hve with hve1 hve2 hve3
                subst hve1 hve3
                have HPC := Lib.hid hpcell
                clear hve2 hpcell
                go_wp2_with fail
                go_loopw [6] (fun kv wx => ∃ k : Nat, k ≤ qs.length ∧ kv = .int .i64 k ∧ Hid (∀ (j : Nat) (q : HPar), j < k → ps[j]? = some q → q.named t2.text = false) ∧ Hid (Below wo.heap.size wo wx)) (fun kv _ => qs.length - (intOf kv).toNat)
                case atStart => exact ⟨0, Nat.zero_le _, rfl, Lib.hid (fun j q h => by omega), Lib.hid (Below.refl _ _)⟩
                case round =>
                  obtain ⟨k, hk, rfl, HNM, HY⟩ := hrel
                  have HIX := Lib.hid (HI.out.next HY.out)
                  have HWx := Lib.hid HIX.out.below
                  clear m0 m1 m2 mz e0 e3
                  have hmb := HIX.out.blk
                  rw [HSB.out] at hmb
                  have m0 : wr.cell? ⟨w.heap.size + 1 + 1, 0, none⟩ = some (.string nm) := hmb.cell 0
                  have m1 : wr.cell? ⟨w.heap.size + 1 + 1, 1, none⟩ = some (.slice Ap qs.length cp) := hmb.cell 1
                  have m2 : wr.cell? ⟨w.heap.size + 1 + 1, 2, none⟩ = some (.slice none 0 0) := hmb.cell 2
                  have mz := hmb.frozen 1
                  clear hmb
                  obtain ⟨e0, e1, e2, e3, e4, e5⟩ := HC2.out wr HWx.out
                  by_cases hkq : k < qs.length
                  · have hki : (k : Int) < qs.length := by omega
                    have hkc : (k : Int) < cp := by have := hqe.out; omega
                    have hkb : (k : Int) ≤ 100001 := by omega
                    obtain ⟨q, hpk⟩ : ∃ q, ps[k]? = some q := ⟨_, List.getElem?_eq_getElem (by have := hqe.out; omega)⟩
                    obtain ⟨bq, oq, dq, hAq, _, hqc⟩ := HPC.out k q hpk
                    subst hAq
                    obtain ⟨p0, -, -⟩ := hqc wr HY.out
                    have HPK := Lib.hid hpk
                    clear hqc hpk
                    by_cases hnm : q.named t2.text = true
                    · have hres := (hrun_step HRP.out).1 _ (param_dup HT2.out HK2.out (List.any_eq_true.2 ⟨q, List.mem_of_getElem? HPK.out, hnm⟩))
                      subst hres
                      have hne : (q.name.toList == t2.text.toList) = true := hnm
                      clear hnm
                      go_wp2_with fail
                      go_quiet (fail)
                      go_wp2_with fail
                      refine (HAT.out _ (i) 10 (by first | exact HWx.out | exact bdrew HWx.out | exact HWx.out.drew)).mono ?_
                      rintro e w5 ⟨rfl, hb5⟩
                      have hRw := HRB.out.below hb5 HRB.out.lt
                      have hFw := HFB.out.below hb5 HFB.out.lt
                      have x0 : w5.cell? ⟨w.heap.size, 0, none⟩ = some (.string ⟨#[]⟩) := hRw.cell 0
                      have x1 : w5.cell? ⟨w.heap.size, 1, none⟩ = some (.slice none 0 0) := hRw.cell 1
                      have x2 : w5.cell? ⟨w.heap.size, 2, none⟩ = some (.slice none 0 0) := hRw.cell 2
                      have z0 := hRw.frozen 0
                      have z1 := hRw.frozen 1
                      have z2 := hRw.frozen 2
                      have y0 : w5.cell? ⟨w.heap.size + 1, 0, none⟩ = some (.int .i64 0) := hFw.cell 0
                      have y1 : w5.cell? ⟨w.heap.size + 1, 1, none⟩ = some (.int .i64 0) := hFw.cell 1
                      have y2 : w5.cell? ⟨w.heap.size + 1, 2, none⟩ = some (.int .i64 0) := hFw.cell 2
                      have u0 := hFw.frozen 0
                      have u1 := hFw.frozen 1
                      have u2 := hFw.frozen 2
                      clear hRw hFw
                      have HB5 := Lib.hid (HBB.out.trans (hb5.mono HBB.out.size))
                      clear hb5
                      go_wp2_with fail
                      exact bodyPost_ret (v := .tuple #[.agg #[.string ⟨#[]⟩, .slice none 0 0, .slice none 0 0], .agg #[.int .i64 (placeAt ts (i)).1, .int .i64 (placeAt ts (i)).2, .int .i64 10]]) (by simp [results, Tryd.results17, go_sem, x0, x1, x2, y0, y1, y2]) rfl ⟨rfl, (((((HB5.out.setCell h00 _).setCell h00 _).setCell h00 _).setCell h01 _).setCell h01 _).setCell h01 _⟩
                    · have hne : (q.name.toList == t2.text.toList) = false := (Bool.not_eq_true _).mp hnm
                      have HNM2 : Hid (∀ (j : Nat) (p : HPar), j < k + 1 → ps[j]? = some p → p.named t2.text = false) := Lib.hid (fun j p hj hp => by
                        rcases Nat.lt_or_ge j k with h | h
                        · exact HNM.out j p h hp
                        · obtain rfl : j = k := by omega
                          rw [HPK.out] at hp
                          injection hp with hp
                          rw [← hp]
                          exact hne)
                      clear hnm
                      go_wp2_with fail
                      go_quiet (fail)
                      go_wp2_with fail
                      go_roundw
                      case rel => exact ⟨k + 1, by omega, by go_num, HNM2, Lib.hid (bdrew HY.out)⟩
                      case measure => simp [intOf]; omega
                  · obtain rfl : k = qs.length := by omega
                    have hnp : hasPar ps t2.text = false := by
                      unfold hasPar
                      rw [List.any_eq_false]
                      intro x hx
                      obtain ⟨j, hj, rfl⟩ := List.getElem_of_mem hx
                      rw [HNM.out j _ (by have := hqe.out; omega) (List.getElem?_eq_getElem hj)]
                      decide
                    have HR1 := Lib.hid ((hrun_step HRP.out).2 _ _ (param_ok HT2.out HK2.out hnp))
                    clear hnp
                    by_cases hmore : i + 1 < ts.length
                    · have hmi : (i : Int) + 1 < ts.length := by omega
                      have hmd : decide ((i : Int) + 1 < ts.length) = true := decide_eq_true hmi
                      have hmg : ¬ (ts.length : Int) ≤ i + 1 := by omega
                      have hmc : (i : Int) + 1 < c := by omega
                      have HRB1 : Hid (HRun ts (some .behind) ⟨i + 1, nm, ps ++ [⟨t2.text, false, []⟩]⟩ r) := Lib.hid (by have := HR1.out; rwa [if_pos hmore] at this)
                      obtain ⟨t3, ht3⟩ : ∃ t3, ts[i + 1]? = some t3 := ⟨_, List.getElem?_eq_getElem hmore⟩
                      obtain ⟨b3, o3, hA3, hcs3⟩ := HTC.out (i + 1) t3 ht3
                      injection hA3 with hA3
                      injection hA3 with hA3 hA4 _
                      subst hA3 hA4
                      have HT3 := Lib.hid ht3
                      have HC4 := Lib.hid hcs3
                      have HC3 := Lib.hid (fun (w1 : World) => cells_new w1 #[.string t2.text, .bool false, .slice none 0 0] 104 w1.heap.size rfl)
                      have HIP := Lib.hid (HIX.out.next ((Below.refl _ _).alloc (Nat.le_refl _) (.cells #[.string t2.text, .bool false, .slice none 0 0] 104)))
                      have hup : ∀ o', Below wB.heap.size wB (wr.alloc o') := fun o' => HIX.out.below.alloc HIX.out.below.size o'
                      have k0 := fun o' => (hcs3 _ (hup o')).1
                      have k1 := fun o' => (hcs3 _ (hup o')).2.1
                      have k2 := fun o' => (hcs3 _ (hup o')).2.2.1
                      have k3 := fun o' => (hcs3 _ (hup o')).2.2.2.1
                      have k4 := fun o' => (hcs3 _ (hup o')).2.2.2.2.1
                      have k5 := fun o' => (hcs3 _ (hup o')).2.2.2.2.2
                      have HPB := Lib.hid (Blk.new wr 104 #[.string t2.text, .bool false, .slice none 0 0])
                      clear hcs3 hup
                      by_cases c44 : t3.isM ⟨#[44]⟩ = true
                      · have c61 : t3.isM ⟨#[61]⟩ = false := isM_ne (by rw [ByteArray.toList_eq, ByteArray.toList_eq]; decide) c44
                        have HRN : Hid (HRun ts (if i + 1 + 1 < ts.length ∨ 2 < i + 1 + 1 then some .param else none) ⟨i + 1 + 1, nm, ps ++ [⟨t2.text, false, []⟩]⟩ r) := Lib.hid (by rw [if_pos (.inr (by omega))]; exact (hrun_step HRB1.out).2 _ _ (behind_comma ht3 c44))
                        clear ht3
                        go_wp2_with fail
                        refine (rmark_is t3 ⟨#[61]⟩ _).mono ?_
                        rintro e w6 ⟨rfl, hb6⟩
                        rw [c61]
                        have HI6 := Lib.hid (HIP.out.next hb6)
                        have hpb6 := HPB.out.below hb6 HPB.out.lt
                        clear m0 m1 m2 mz
                        obtain ⟨q0, q1, q2⟩ : w6.cell? ⟨wr.heap.size, 0, none⟩ = some (.string t2.text) ∧ w6.cell? ⟨wr.heap.size, 1, none⟩ = some (.bool false) ∧ w6.cell? ⟨wr.heap.size, 2, none⟩ = some (.slice none 0 0) := ⟨hpb6.cell 0, hpb6.cell 1, hpb6.cell 2⟩
                        have hm6 := HI6.out.blk
                        rw [HSB.out] at hm6
                        have m16 : w6.cell? ⟨w.heap.size + 1 + 1, 1, none⟩ = some (.slice Ap qs.length cp) := hm6.cell 1
                        clear hb6 hpb6 hm6 k0 k1 k2 k3 k4 k5
                        go_wp2_with (first | (at_builtin; refine wpList_append_own _ rfl _ _ 44 rfl (wB.heap.size + 1) 104 i1 (.agg #[.string ByteArray.empty, .bool false, .slice none 0 0]) 3 48 Tryd.underlying44 hi1 pz0 pz1 pz2 rfl (by decide) _ _ _ rfl (HI6.out.own.alloc _) ⟨w6.heap.size, 0, none⟩ 1 1 [.string t2.text, .bool false, .slice none 0 0] (by first | rfl | simp) rfl (HC3.out w6) (by intro u hu; simp at hu; rcases hu with rfl | rfl | rfl <;> rfl) (by unfold maxLen; omega) (by omega) (by have h1 := HI6.out.below.size; have h2 := HSB.out; simp at h1 ⊢; omega) ?_; intro v' w9 hown' hgrow _; obtain ⟨A9, c9, rfl⟩ := own_shape hown'; have kb9 := blk_grown ((HI6.out.next ((Below.refl _ _).alloc (Nat.le_refl _) _)).blk) hgrow (own_not_head HI6.out.own HI6.out.blk (by decide)); rw [HSB.out] at kb9; have n0 : w9.cell? ⟨w.heap.size + 1 + 1, 0, none⟩ = some (.string nm) := kb9.cell 0; have n1 : w9.cell? ⟨w.heap.size + 1 + 1, 1, none⟩ = some (.slice Ap qs.length cp) := kb9.cell 1; have n2 : w9.cell? ⟨w.heap.size + 1 + 1, 2, none⟩ = some (.slice none 0 0) := kb9.cell 2; have nz := kb9.frozen 1; have hpu := (HI6.out.next ((Below.refl _ _).alloc (Nat.le_refl _) _)).push (p := ⟨t2.text, false, []⟩) (d := .slice none 0 0) (World.ownsRow_nil _ _ _ _) hown' hgrow; rw [HSB.out] at hpu; have hb9 : Below wB.heap.size wB w9 := Below.grown ((HI6.out.next ((Below.refl _ _).alloc (Nat.le_refl _) _)).below) hgrow ((HI6.out.next ((Below.refl _ _).alloc (Nat.le_refl _) _)).below.size) (fun x hx => by have := (HI6.out.own.lt x hx).1; omega); obtain ⟨x0, x1, x2, z0, z1, z2, y0, y1, y2, u0, u1, u2⟩ := HXF.out w9 hb9; have HPU := Lib.hid hpu; have HB9 := Lib.hid hb9; have hcS := HC4.out _ HPU.out.below; obtain ⟨s0, s1, s2, s3, s4, s5⟩ := hcS; clear kb9 hpu hb9 hown' hgrow))
                        refine (rmark_is t3 ⟨#[44]⟩ _).mono ?_
                        rintro e w10 ⟨rfl, hb10⟩
                        rw [c44]
                        have HI10 := Lib.hid (HPU.out.next hb10)
                        clear hb10 s0 s1 s2 s3 s4 s5 n0 n1 n2 nz x0 x1 x2 z0 z1 z2 y0 y1 y2 u0 u1 u2
                        go_wp2_with fail
                        go_roundw
                        case rel => exact ⟨i + 1 + 1, ps ++ [⟨t2.text, false, []⟩], .slice A9 (qs.length + 1) c9, _, by omega, by omega, by go_num, by simp; omega, HI10, HRN⟩
                        case measure => simp [intOf]; omega
                      · replace c44 : t3.isM ⟨#[44]⟩ = false := (Bool.not_eq_true _).mp c44
                        by_cases c61 : t3.isM ⟨#[61]⟩ = true
                        · clear ht3
                          have hval := (hrun_step ((hrun_step HRB1.out).2 _ _ (behind_eq HT3.out c44 c61))).2 _ _ (value_ok (p := ⟨t2.text, false, []⟩) rfl)
                          have hle := partEnd_le Tk6.mk3 0 (ts.drop (i + 1 + 1))
                          have hstop := partEnd_stop Tk6.mk3 0 (ts.drop (i + 1 + 1))
                          have HPE := Lib.hid (fun W (hW : Below wB.heap.size wB W) => comma_is ts (.slice (some ⟨b, o, none⟩) ts.length c) (i + 1 + 1) W (HTK.out W hW) (by omega) hn)
                          generalize partEnd Tk6.mk3 0 (ts.drop (i + 1 + 1)) = pe at *
                          rw [List.length_drop] at hle hstop
                          obtain ⟨E, hE⟩ : ∃ E, i + 1 + 1 + pe = E := ⟨_, rfl⟩
                          rw [hE] at HPE hval
                          have HVL := Lib.hid hval
                          have HEe := Lib.hid hE
                          have HSP : Hid (E < ts.length → ∃ t, (ts.drop (i + 1 + 1))[pe]? = some t ∧ t.mk3 = 3) := Lib.hid (fun h => hstop (by omega))
                          have HPL : Hid (((ts.drop (i + 1 + 1)).take pe).length = E - (i + 1 + 1)) := Lib.hid (by rw [List.length_take, List.length_drop]; omega)
                          have hkE : (i : Int) + 1 + 1 ≤ E := by omega
                          have hkc : (i : Int) + 1 + 1 ≤ c := by omega
                          have hEc : (E : Int) ≤ c := by omega
                          have hEl : (E : Int) ≤ ts.length := by omega
                          have HSZ := Lib.hid HIX.out.blk.lt
                          clear hval hle hstop hE
                          go_wp2_with fail
                          refine (rmark_is t3 ⟨#[61]⟩ _).mono ?_
                          rintro e w6 ⟨rfl, hb6⟩
                          rw [c61]
                          have HI6 := Lib.hid (HIP.out.next hb6)
                          have hpb6 := HPB.out.below hb6 HPB.out.lt
                          clear m0 m1 m2 mz
                          have HQ6 := Lib.hid hb6
                          clear hb6 hpb6 k0 k1 k2 k3 k4 k5
                          go_wp2_with fail
                          refine (HPE.out _ HI6.out.below).mono ?_
                          rintro e1 w1 ⟨rfl, hb1⟩
                          have hq1 := HQ6.out.trans (hb1.mono HQ6.out.size)
                          have hp1 := HPB.out.below hq1 HPB.out.lt
                          have g1 : w1.cell? ⟨wr.heap.size, 1, none⟩ = some (.bool false) := hp1.cell 1
                          have gz := hp1.frozen 1
                          have HBPS : Hid (Blk (w1.setCell ⟨wr.heap.size, 1, none⟩ (.bool true)) wr.heap.size 104 #[.string t2.text, .bool true, .slice none 0 0]) := Lib.hid (Blk.set hp1 1 _)
                          have HWS : Hid (Below wr.heap.size wr (w1.setCell ⟨wr.heap.size, 1, none⟩ (.bool true))) := Lib.hid ((((Below.refl _ _).alloc (Nat.le_refl _) _).trans (hq1.mono (by simp))).setCell (Nat.le_refl _) _)
                          have HBS := Lib.hid (HWx.out.trans (HWS.out.mono HWx.out.size))
                          have HLIT : Hid (((w1.setCell ⟨wr.heap.size, 1, none⟩ (.bool true)).alloc (.cells #[] 56)).ownsRow (wB.heap.size + 1) 56 6 (.slice (some ⟨w1.heap.size, 0, none⟩) 0 0) 0 []) := Lib.hid (by
                            have h : ((w1.setCell ⟨wr.heap.size, 1, none⟩ (.bool true)).alloc (.cells #[] 56)).ownsRow (wB.heap.size + 1) 56 6 (.slice (some ⟨(w1.setCell ⟨wr.heap.size, 1, none⟩ (.bool true)).heap.size, 0, none⟩) 0 0) 0 [] := World.ownsRow_lit (w1.setCell ⟨wr.heap.size, 1, none⟩ (.bool true)) #[] 0 (by have h1 := HWS.out.size; have h2 := HSZ.out; omega) (Nat.zero_le _) rfl
                            rw [show (w1.setCell ⟨wr.heap.size, 1, none⟩ (.bool true)).heap.size = w1.heap.size by simp] at h
                            exact h)
                          clear hq1 hp1 hb1
                          by_cases hck : c = i + 1 + 1
                          · obtain ⟨hE0, hcE⟩ : E = i + 1 + 1 ∧ ts.length = i + 1 + 1 := by omega
                            have hnil : (ts.drop (i + 1 + 1)).take pe = [] := List.eq_nil_of_length_eq_zero (by rw [HPL.out, hE0, Nat.sub_self])
                            have HNIL := Lib.hid hnil
                            have hEn1 : (ts.length : Int) ≤ E := by omega
                            have hres := hrun_done (show HRun ts none ⟨E, nm, ps ++ [⟨t2.text, true, ((ts.drop (i + 1 + 1)).take pe)⟩]⟩ r by have := HVL.out; rwa [if_neg (by omega)] at this)
                            subst hres
                            subst hE0
                            subst hck
                            clear hcE hnil
                            go_wp2_with (first
                              | (at_builtin; refine wpList_append_own _ rfl _ _ 30 rfl (wB.heap.size + 1) 56 i0 (.agg #[.int .i64 0, .int .i64 0, .int .i64 0, .string ByteArray.empty, .int .u32 0, .int .i64 0]) 6 56 Tryd.underlying30 hi0 tz0 tz1 tz2 rfl (by decide) _ 0 [] rfl HLIT.out ⟨b, o, none⟩ 0 _ ([]) rfl (rfl) (fun q u hq => by simp at hq) (fun u hu => by cases hu) (by unfold maxLen; omega) (by omega) (by have h1 := HWS.out.size; have h2 := HSZ.out; simp at h1 ⊢; omega) ?_
                                 intro u2 w2 hu hgrow2 _
                                 have hbg : Below (w1.setCell ⟨wr.heap.size, 1, none⟩ (.bool true)).heap.size (w1.setCell ⟨wr.heap.size, 1, none⟩ (.bool true)) w2 := Below.grown ((Below.refl _ _).alloc (Nat.le_refl _) _) hgrow2 (by simp) (fun g hg => by cases hg; simp)
                                 rw [Nat.zero_add, List.nil_append] at hu
                                 obtain ⟨Au, cu, rfl⟩ := own_shape hu
                                 have hp2 := HBPS.out.below hbg HBPS.out.lt
                                 have s2 : w2.cell? ⟨wr.heap.size, 2, none⟩ = some (.slice none 0 0) := hp2.cell 2
                                 have sz := hp2.frozen 2
                                 have hp4 : Blk (w2.setCell ⟨wr.heap.size, 2, none⟩ (.slice Au 0 cu)) wr.heap.size 104 #[.string t2.text, .bool true, .slice Au 0 cu] := Blk.set hp2 2 _
                                 have v0 : (w2.setCell ⟨wr.heap.size, 2, none⟩ (.slice Au 0 cu)).cell? ⟨wr.heap.size, 0, none⟩ = some (.string t2.text) := hp4.cell 0
                                 have v1 : (w2.setCell ⟨wr.heap.size, 2, none⟩ (.slice Au 0 cu)).cell? ⟨wr.heap.size, 1, none⟩ = some (.bool true) := hp4.cell 1
                                 have v2 : (w2.setCell ⟨wr.heap.size, 2, none⟩ (.slice Au 0 cu)).cell? ⟨wr.heap.size, 2, none⟩ = some (.slice Au 0 cu) := hp4.cell 2
                                 have HD4 := Lib.hid (show (w2.setCell ⟨wr.heap.size, 2, none⟩ (.slice Au 0 cu)).ownsRow (wB.heap.size + 1) 56 6 (.slice Au 0 cu) ((ts.drop (i + 1 + 1)).take pe).length (cellsOf ((ts.drop (i + 1 + 1)).take pe)) from (by rw [HNIL.out]; exact ownsRow_setCell_other hu (own_not_head hu hp2 (by decide)) _))
                                 have hb4 : Below wr.heap.size wr (w2.setCell ⟨wr.heap.size, 2, none⟩ (.slice Au 0 cu)) := (HWS.out.trans (hbg.mono HWS.out.size)).setCell (Nat.le_refl _) _
                                 have HI4 := Lib.hid (HIX.out.next hb4)
                                 have hm4 := HI4.out.blk
                                 rw [HSB.out] at hm4
                                 have m14 : (w2.setCell ⟨wr.heap.size, 2, none⟩ (.slice Au 0 cu)).cell? ⟨w.heap.size + 1 + 1, 1, none⟩ = some (.slice Ap qs.length cp) := hm4.cell 1
                                 have HC5 := Lib.hid (fun (w1 : World) => cells_new w1 #[.string t2.text, .bool true, .slice Au 0 cu] 104 w1.heap.size rfl)
                                 clear hu hgrow2 hbg hp2 hp4 hb4 hm4)
                              | (at_builtin; refine wpList_append_own _ rfl _ _ 44 rfl (wB.heap.size + 1) 104 i1 (.agg #[.string ByteArray.empty, .bool false, .slice none 0 0]) 3 48 Tryd.underlying44 hi1 pz0 pz1 pz2 rfl (by decide) _ _ _ rfl (HI4.out.own.alloc _) ⟨w2.heap.size, 0, none⟩ 1 1 [.string t2.text, .bool true, .slice Au 0 cu] (by first | rfl | simp) rfl (by have := HC5.out (w2.setCell ⟨wr.heap.size, 2, none⟩ (.slice Au 0 cu)); simpa using this) (by intro u hu; simp at hu; rcases hu with rfl | rfl | rfl <;> rfl) (by unfold maxLen; omega) (by omega) (by have h1 := HI4.out.below.size; have h2 := HSB.out; simp at h1 ⊢; omega) ?_; intro v' w9 hown' hgrow _; obtain ⟨A9, c9, rfl⟩ := own_shape hown'; have kb9 := blk_grown ((HI4.out.next ((Below.refl _ _).alloc (Nat.le_refl _) _)).blk) hgrow (own_not_head HI4.out.own HI4.out.blk (by decide)); rw [HSB.out] at kb9; have n0 : w9.cell? ⟨w.heap.size + 1 + 1, 0, none⟩ = some (.string nm) := kb9.cell 0; have n1 : w9.cell? ⟨w.heap.size + 1 + 1, 1, none⟩ = some (.slice Ap qs.length cp) := kb9.cell 1; have n2 : w9.cell? ⟨w.heap.size + 1 + 1, 2, none⟩ = some (.slice none 0 0) := kb9.cell 2; have nz := kb9.frozen 1; have hpu := (HI4.out.next ((Below.refl _ _).alloc (Nat.le_refl _) _)).push (p := ⟨t2.text, true, ((ts.drop (i + 1 + 1)).take pe)⟩) (d := .slice Au 0 cu) (HD4.out.alloc _) hown' hgrow; rw [HSB.out] at hpu; have hb9 : Below wB.heap.size wB w9 := Below.grown ((HI4.out.next ((Below.refl _ _).alloc (Nat.le_refl _) _)).below) hgrow ((HI4.out.next ((Below.refl _ _).alloc (Nat.le_refl _) _)).below.size) (fun x hx => by have := (HI4.out.own.lt x hx).1; omega); obtain ⟨x0, x1, x2, z0, z1, z2, y0, y1, y2, u0, u1, u2⟩ := HXF.out w9 hb9; have HPU := Lib.hid hpu; have HB9 := Lib.hid hb9; clear kb9 hpu hb9 hown' hgrow))
                            have hpf := fun a0 a1 a2 b0 b1 b2 => (((((((HPU.out.rown.low (R := w.heap.size) (i := 0) (by have := HSB.out; omega) a0).low (R := w.heap.size) (i := 1) (by have := HSB.out; omega) a1).low (R := w.heap.size) (i := 2) (by have := HSB.out; omega) a2).low (R := w.heap.size + 1) (i := 0) (by have := HSB.out; omega) b0).low (R := w.heap.size + 1) (i := 1) (by have := HSB.out; omega) b1).low (R := w.heap.size + 1) (i := 2) (by have := HSB.out; omega) b2)).pars
                            have hbf := HBB.out.trans (HPU.out.below.mono HBB.out.size)
                            exact bodyPost_ret (v := .tuple #[.agg #[.string nm, .slice A9 (qs.length + 1) c9, .slice none 0 0], .agg #[.int .i64 0, .int .i64 0, .int .i64 0]]) (by simp [results, Tryd.results17, go_sem, x0, x1, x2, y0, y1, y2]) rfl ⟨_, rfl, hpf _ _ _ _ _ _, (((((hbf.setCell h00 _).setCell h00 _).setCell h00 _).setCell h01 _).setCell h01 _).setCell h01 _⟩
                          · by_cases hEn : E = ts.length
                            · have hEn1 : (ts.length : Int) ≤ E := by omega
                              have hres := hrun_done (show HRun ts none ⟨E, nm, ps ++ [⟨t2.text, true, ((ts.drop (i + 1 + 1)).take pe)⟩]⟩ r by have := HVL.out; rwa [if_neg (by omega)] at this)
                              subst hres
                              clear hEn
                              have HCL : Hid (∀ q u, (cellsOf ((ts.drop (i + 1 + 1)).take pe))[q]? = some u → ((w1.setCell ⟨wr.heap.size, 1, none⟩ (.bool true)).alloc (.cells #[] 56)).cell? ((⟨b, o + (i + 1 + 1) * 6, none⟩ : Addr).add q) = some u) := Lib.hid (fun q u hq => by
                                have hadd : (⟨b, o + (i + 1 + 1) * 6, none⟩ : Addr).add q = ⟨b, o + ((i + 1 + 1) * 6 + q), none⟩ := by unfold Addr.add; split <;> simp_all [Nat.add_assoc]
                                rw [hadd]
                                exact toks_cells (HTK.out _ (HBS.out.alloc HBS.out.size _)) _ _ (cellsOf_seg ts (i + 1 + 1) pe (by have := HEe.out; omega) q u hq))
                              go_wp2_with (first
                                | (at_builtin; refine wpList_append_own _ rfl _ _ 30 rfl (wB.heap.size + 1) 56 i0 (.agg #[.int .i64 0, .int .i64 0, .int .i64 0, .string ByteArray.empty, .int .u32 0, .int .i64 0]) 6 56 Tryd.underlying30 hi0 tz0 tz1 tz2 rfl (by decide) _ 0 [] rfl HLIT.out ⟨b, o + (i + 1 + 1) * 6, none⟩ (E - (i + 1 + 1)) (c - (i + 1 + 1)) (cellsOf ((ts.drop (i + 1 + 1)).take pe)) rfl (by rw [cellsOf_len, HPL.out]) (HCL.out) (cellsOf_one _) (by unfold maxLen; omega) (by omega) (by have h1 := HWS.out.size; have h2 := HSZ.out; simp at h1 ⊢; omega) ?_
                                   intro u2 w2 hu hgrow2 _
                                   have hbg : Below (w1.setCell ⟨wr.heap.size, 1, none⟩ (.bool true)).heap.size (w1.setCell ⟨wr.heap.size, 1, none⟩ (.bool true)) w2 := Below.grown ((Below.refl _ _).alloc (Nat.le_refl _) _) hgrow2 (by simp) (fun g hg => by cases hg; simp)
                                   rw [Nat.zero_add, List.nil_append] at hu
                                   obtain ⟨Au, cu, rfl⟩ := own_shape hu
                                   have hp2 := HBPS.out.below hbg HBPS.out.lt
                                   have s2 : w2.cell? ⟨wr.heap.size, 2, none⟩ = some (.slice none 0 0) := hp2.cell 2
                                   have sz := hp2.frozen 2
                                   have hp4 : Blk (w2.setCell ⟨wr.heap.size, 2, none⟩ (.slice Au (E - (i + 1 + 1)) cu)) wr.heap.size 104 #[.string t2.text, .bool true, .slice Au (E - (i + 1 + 1)) cu] := Blk.set hp2 2 _
                                   have v0 : (w2.setCell ⟨wr.heap.size, 2, none⟩ (.slice Au (E - (i + 1 + 1)) cu)).cell? ⟨wr.heap.size, 0, none⟩ = some (.string t2.text) := hp4.cell 0
                                   have v1 : (w2.setCell ⟨wr.heap.size, 2, none⟩ (.slice Au (E - (i + 1 + 1)) cu)).cell? ⟨wr.heap.size, 1, none⟩ = some (.bool true) := hp4.cell 1
                                   have v2 : (w2.setCell ⟨wr.heap.size, 2, none⟩ (.slice Au (E - (i + 1 + 1)) cu)).cell? ⟨wr.heap.size, 2, none⟩ = some (.slice Au (E - (i + 1 + 1)) cu) := hp4.cell 2
                                   have HD4 := Lib.hid (show (w2.setCell ⟨wr.heap.size, 2, none⟩ (.slice Au (E - (i + 1 + 1)) cu)).ownsRow (wB.heap.size + 1) 56 6 (.slice Au (E - (i + 1 + 1)) cu) ((ts.drop (i + 1 + 1)).take pe).length (cellsOf ((ts.drop (i + 1 + 1)).take pe)) from (by rw [HPL.out]; exact ownsRow_setCell_other hu (own_not_head hu hp2 (by decide)) _))
                                   have hb4 : Below wr.heap.size wr (w2.setCell ⟨wr.heap.size, 2, none⟩ (.slice Au (E - (i + 1 + 1)) cu)) := (HWS.out.trans (hbg.mono HWS.out.size)).setCell (Nat.le_refl _) _
                                   have HI4 := Lib.hid (HIX.out.next hb4)
                                   have hm4 := HI4.out.blk
                                   rw [HSB.out] at hm4
                                   have m14 : (w2.setCell ⟨wr.heap.size, 2, none⟩ (.slice Au (E - (i + 1 + 1)) cu)).cell? ⟨w.heap.size + 1 + 1, 1, none⟩ = some (.slice Ap qs.length cp) := hm4.cell 1
                                   have HC5 := Lib.hid (fun (w1 : World) => cells_new w1 #[.string t2.text, .bool true, .slice Au (E - (i + 1 + 1)) cu] 104 w1.heap.size rfl)
                                   clear hu hgrow2 hbg hp2 hp4 hb4 hm4)
                                | (at_builtin; refine wpList_append_own _ rfl _ _ 44 rfl (wB.heap.size + 1) 104 i1 (.agg #[.string ByteArray.empty, .bool false, .slice none 0 0]) 3 48 Tryd.underlying44 hi1 pz0 pz1 pz2 rfl (by decide) _ _ _ rfl (HI4.out.own.alloc _) ⟨w2.heap.size, 0, none⟩ 1 1 [.string t2.text, .bool true, .slice Au (E - (i + 1 + 1)) cu] (by first | rfl | simp) rfl (by have := HC5.out (w2.setCell ⟨wr.heap.size, 2, none⟩ (.slice Au (E - (i + 1 + 1)) cu)); simpa using this) (by intro u hu; simp at hu; rcases hu with rfl | rfl | rfl <;> rfl) (by unfold maxLen; omega) (by omega) (by have h1 := HI4.out.below.size; have h2 := HSB.out; simp at h1 ⊢; omega) ?_; intro v' w9 hown' hgrow _; obtain ⟨A9, c9, rfl⟩ := own_shape hown'; have kb9 := blk_grown ((HI4.out.next ((Below.refl _ _).alloc (Nat.le_refl _) _)).blk) hgrow (own_not_head HI4.out.own HI4.out.blk (by decide)); rw [HSB.out] at kb9; have n0 : w9.cell? ⟨w.heap.size + 1 + 1, 0, none⟩ = some (.string nm) := kb9.cell 0; have n1 : w9.cell? ⟨w.heap.size + 1 + 1, 1, none⟩ = some (.slice Ap qs.length cp) := kb9.cell 1; have n2 : w9.cell? ⟨w.heap.size + 1 + 1, 2, none⟩ = some (.slice none 0 0) := kb9.cell 2; have nz := kb9.frozen 1; have hpu := (HI4.out.next ((Below.refl _ _).alloc (Nat.le_refl _) _)).push (p := ⟨t2.text, true, ((ts.drop (i + 1 + 1)).take pe)⟩) (d := .slice Au (E - (i + 1 + 1)) cu) (HD4.out.alloc _) hown' hgrow; rw [HSB.out] at hpu; have hb9 : Below wB.heap.size wB w9 := Below.grown ((HI4.out.next ((Below.refl _ _).alloc (Nat.le_refl _) _)).below) hgrow ((HI4.out.next ((Below.refl _ _).alloc (Nat.le_refl _) _)).below.size) (fun x hx => by have := (HI4.out.own.lt x hx).1; omega); obtain ⟨x0, x1, x2, z0, z1, z2, y0, y1, y2, u0, u1, u2⟩ := HXF.out w9 hb9; have HPU := Lib.hid hpu; have HB9 := Lib.hid hb9; clear kb9 hpu hb9 hown' hgrow))
                              have hpf := fun a0 a1 a2 b0 b1 b2 => (((((((HPU.out.rown.low (R := w.heap.size) (i := 0) (by have := HSB.out; omega) a0).low (R := w.heap.size) (i := 1) (by have := HSB.out; omega) a1).low (R := w.heap.size) (i := 2) (by have := HSB.out; omega) a2).low (R := w.heap.size + 1) (i := 0) (by have := HSB.out; omega) b0).low (R := w.heap.size + 1) (i := 1) (by have := HSB.out; omega) b1).low (R := w.heap.size + 1) (i := 2) (by have := HSB.out; omega) b2)).pars
                              have hbf := HBB.out.trans (HPU.out.below.mono HBB.out.size)
                              exact bodyPost_ret (v := .tuple #[.agg #[.string nm, .slice A9 (qs.length + 1) c9, .slice none 0 0], .agg #[.int .i64 0, .int .i64 0, .int .i64 0]]) (by simp [results, Tryd.results17, go_sem, x0, x1, x2, y0, y1, y2]) rfl ⟨_, rfl, hpf _ _ _ _ _ _, (((((hbf.setCell h00 _).setCell h00 _).setCell h00 _).setCell h01 _).setCell h01 _).setCell h01 _⟩
                            · obtain ⟨t4, ht4, hm4⟩ := HSP.out (by omega)
                              rw [List.getElem?_drop] at ht4
                              obtain ⟨b4, o4, hA4, hcs4⟩ := HTC.out E t4 (by rw [← HEe.out]; exact ht4)
                              injection hA4 with hA4
                              injection hA4 with hA4 hA5 _
                              subst hA4 hA5
                              have HC6 := Lib.hid hcs4
                              have hcm4 := mk3_comma hm4
                              have hEn1 : ¬ (ts.length : Int) ≤ E := by omega
                              have hEi : (E : Int) < ts.length := by omega
                              have hEci : (E : Int) < c := by omega
                              have HRN : Hid (HRun ts (if E + 1 < ts.length ∨ 2 < E + 1 then some .param else none) ⟨E + 1, nm, ps ++ [⟨t2.text, true, ((ts.drop (i + 1 + 1)).take pe)⟩]⟩ r) := Lib.hid (by
                                rw [if_pos (.inr (by have := HEe.out; omega))]
                                have hv := HVL.out
                                rw [if_pos (by omega)] at hv
                                exact (hrun_step hv).2 _ _ (behind_comma (by rw [← HEe.out]; exact ht4) hcm4))
                              clear hcs4 ht4 hm4 hEn
                              have HCL : Hid (∀ q u, (cellsOf ((ts.drop (i + 1 + 1)).take pe))[q]? = some u → ((w1.setCell ⟨wr.heap.size, 1, none⟩ (.bool true)).alloc (.cells #[] 56)).cell? ((⟨b, o + (i + 1 + 1) * 6, none⟩ : Addr).add q) = some u) := Lib.hid (fun q u hq => by
                                have hadd : (⟨b, o + (i + 1 + 1) * 6, none⟩ : Addr).add q = ⟨b, o + ((i + 1 + 1) * 6 + q), none⟩ := by unfold Addr.add; split <;> simp_all [Nat.add_assoc]
                                rw [hadd]
                                exact toks_cells (HTK.out _ (HBS.out.alloc HBS.out.size _)) _ _ (cellsOf_seg ts (i + 1 + 1) pe (by have := HEe.out; omega) q u hq))
                              go_wp2_with (first
                                | (at_builtin; refine wpList_append_own _ rfl _ _ 30 rfl (wB.heap.size + 1) 56 i0 (.agg #[.int .i64 0, .int .i64 0, .int .i64 0, .string ByteArray.empty, .int .u32 0, .int .i64 0]) 6 56 Tryd.underlying30 hi0 tz0 tz1 tz2 rfl (by decide) _ 0 [] rfl HLIT.out ⟨b, o + (i + 1 + 1) * 6, none⟩ (E - (i + 1 + 1)) (c - (i + 1 + 1)) (cellsOf ((ts.drop (i + 1 + 1)).take pe)) rfl (by rw [cellsOf_len, HPL.out]) (HCL.out) (cellsOf_one _) (by unfold maxLen; omega) (by omega) (by have h1 := HWS.out.size; have h2 := HSZ.out; simp at h1 ⊢; omega) ?_
                                   intro u2 w2 hu hgrow2 _
                                   have hbg : Below (w1.setCell ⟨wr.heap.size, 1, none⟩ (.bool true)).heap.size (w1.setCell ⟨wr.heap.size, 1, none⟩ (.bool true)) w2 := Below.grown ((Below.refl _ _).alloc (Nat.le_refl _) _) hgrow2 (by simp) (fun g hg => by cases hg; simp)
                                   rw [Nat.zero_add, List.nil_append] at hu
                                   obtain ⟨Au, cu, rfl⟩ := own_shape hu
                                   have hp2 := HBPS.out.below hbg HBPS.out.lt
                                   have s2 : w2.cell? ⟨wr.heap.size, 2, none⟩ = some (.slice none 0 0) := hp2.cell 2
                                   have sz := hp2.frozen 2
                                   have hp4 : Blk (w2.setCell ⟨wr.heap.size, 2, none⟩ (.slice Au (E - (i + 1 + 1)) cu)) wr.heap.size 104 #[.string t2.text, .bool true, .slice Au (E - (i + 1 + 1)) cu] := Blk.set hp2 2 _
                                   have v0 : (w2.setCell ⟨wr.heap.size, 2, none⟩ (.slice Au (E - (i + 1 + 1)) cu)).cell? ⟨wr.heap.size, 0, none⟩ = some (.string t2.text) := hp4.cell 0
                                   have v1 : (w2.setCell ⟨wr.heap.size, 2, none⟩ (.slice Au (E - (i + 1 + 1)) cu)).cell? ⟨wr.heap.size, 1, none⟩ = some (.bool true) := hp4.cell 1
                                   have v2 : (w2.setCell ⟨wr.heap.size, 2, none⟩ (.slice Au (E - (i + 1 + 1)) cu)).cell? ⟨wr.heap.size, 2, none⟩ = some (.slice Au (E - (i + 1 + 1)) cu) := hp4.cell 2
                                   have HD4 := Lib.hid (show (w2.setCell ⟨wr.heap.size, 2, none⟩ (.slice Au (E - (i + 1 + 1)) cu)).ownsRow (wB.heap.size + 1) 56 6 (.slice Au (E - (i + 1 + 1)) cu) ((ts.drop (i + 1 + 1)).take pe).length (cellsOf ((ts.drop (i + 1 + 1)).take pe)) from (by rw [HPL.out]; exact ownsRow_setCell_other hu (own_not_head hu hp2 (by decide)) _))
                                   have hb4 : Below wr.heap.size wr (w2.setCell ⟨wr.heap.size, 2, none⟩ (.slice Au (E - (i + 1 + 1)) cu)) := (HWS.out.trans (hbg.mono HWS.out.size)).setCell (Nat.le_refl _) _
                                   have HI4 := Lib.hid (HIX.out.next hb4)
                                   have hm4 := HI4.out.blk
                                   rw [HSB.out] at hm4
                                   have m14 : (w2.setCell ⟨wr.heap.size, 2, none⟩ (.slice Au (E - (i + 1 + 1)) cu)).cell? ⟨w.heap.size + 1 + 1, 1, none⟩ = some (.slice Ap qs.length cp) := hm4.cell 1
                                   have HC5 := Lib.hid (fun (w1 : World) => cells_new w1 #[.string t2.text, .bool true, .slice Au (E - (i + 1 + 1)) cu] 104 w1.heap.size rfl)
                                   clear hu hgrow2 hbg hp2 hp4 hb4 hm4)
                                | (at_builtin; refine wpList_append_own _ rfl _ _ 44 rfl (wB.heap.size + 1) 104 i1 (.agg #[.string ByteArray.empty, .bool false, .slice none 0 0]) 3 48 Tryd.underlying44 hi1 pz0 pz1 pz2 rfl (by decide) _ _ _ rfl (HI4.out.own.alloc _) ⟨w2.heap.size, 0, none⟩ 1 1 [.string t2.text, .bool true, .slice Au (E - (i + 1 + 1)) cu] (by first | rfl | simp) rfl (by have := HC5.out (w2.setCell ⟨wr.heap.size, 2, none⟩ (.slice Au (E - (i + 1 + 1)) cu)); simpa using this) (by intro u hu; simp at hu; rcases hu with rfl | rfl | rfl <;> rfl) (by unfold maxLen; omega) (by omega) (by have h1 := HI4.out.below.size; have h2 := HSB.out; simp at h1 ⊢; omega) ?_; intro v' w9 hown' hgrow _; obtain ⟨A9, c9, rfl⟩ := own_shape hown'; have kb9 := blk_grown ((HI4.out.next ((Below.refl _ _).alloc (Nat.le_refl _) _)).blk) hgrow (own_not_head HI4.out.own HI4.out.blk (by decide)); rw [HSB.out] at kb9; have n0 : w9.cell? ⟨w.heap.size + 1 + 1, 0, none⟩ = some (.string nm) := kb9.cell 0; have n1 : w9.cell? ⟨w.heap.size + 1 + 1, 1, none⟩ = some (.slice Ap qs.length cp) := kb9.cell 1; have n2 : w9.cell? ⟨w.heap.size + 1 + 1, 2, none⟩ = some (.slice none 0 0) := kb9.cell 2; have nz := kb9.frozen 1; have hpu := (HI4.out.next ((Below.refl _ _).alloc (Nat.le_refl _) _)).push (p := ⟨t2.text, true, ((ts.drop (i + 1 + 1)).take pe)⟩) (d := .slice Au (E - (i + 1 + 1)) cu) (HD4.out.alloc _) hown' hgrow; rw [HSB.out] at hpu; have hb9 : Below wB.heap.size wB w9 := Below.grown ((HI4.out.next ((Below.refl _ _).alloc (Nat.le_refl _) _)).below) hgrow ((HI4.out.next ((Below.refl _ _).alloc (Nat.le_refl _) _)).below.size) (fun x hx => by have := (HI4.out.own.lt x hx).1; omega); obtain ⟨x0, x1, x2, z0, z1, z2, y0, y1, y2, u0, u1, u2⟩ := HXF.out w9 hb9; have HPU := Lib.hid hpu; have HB9 := Lib.hid hb9; have hcS := HC6.out _ HPU.out.below; obtain ⟨s0, s1, s2, s3, s4, s5⟩ := hcS; clear kb9 hpu hb9 hown' hgrow))
                              refine (rmark_is t4 ⟨#[44]⟩ _).mono ?_
                              rintro e5 w10 ⟨rfl, hb10⟩
                              rw [hcm4]
                              have HI10 := Lib.hid (HPU.out.next hb10)
                              clear hb10 s0 s1 s2 s3 s4 s5 n0 n1 n2 nz x0 x1 x2 z0 z1 z2 y0 y1 y2 u0 u1 u2
                              go_wp2_with fail
                              go_roundw
                              case rel => exact ⟨E + 1, ps ++ [⟨t2.text, true, ((ts.drop (i + 1 + 1)).take pe)⟩], .slice A9 (qs.length + 1) c9, _, by have := HEe.out; omega, by omega, by go_num, by have := HEe.out; simp; omega, HI10, HRN⟩
                              case measure => simp [intOf]; omega
                        · replace c61 : t3.isM ⟨#[61]⟩ = false := (Bool.not_eq_true _).mp c61
                          clear ht3
                          go_wp2_with fail
                          refine (rmark_is t3 ⟨#[61]⟩ _).mono ?_
                          rintro e w6 ⟨rfl, hb6⟩
                          rw [c61]
                          have HI6 := Lib.hid (HIP.out.next hb6)
                          have hpb6 := HPB.out.below hb6 HPB.out.lt
                          clear m0 m1 m2 mz
                          obtain ⟨q0, q1, q2⟩ : w6.cell? ⟨wr.heap.size, 0, none⟩ = some (.string t2.text) ∧ w6.cell? ⟨wr.heap.size, 1, none⟩ = some (.bool false) ∧ w6.cell? ⟨wr.heap.size, 2, none⟩ = some (.slice none 0 0) := ⟨hpb6.cell 0, hpb6.cell 1, hpb6.cell 2⟩
                          have hm6 := HI6.out.blk
                          rw [HSB.out] at hm6
                          have m16 : w6.cell? ⟨w.heap.size + 1 + 1, 1, none⟩ = some (.slice Ap qs.length cp) := hm6.cell 1
                          clear hb6 hpb6 hm6 k0 k1 k2 k3 k4 k5
                          go_wp2_with (first | (at_builtin; refine wpList_append_own _ rfl _ _ 44 rfl (wB.heap.size + 1) 104 i1 (.agg #[.string ByteArray.empty, .bool false, .slice none 0 0]) 3 48 Tryd.underlying44 hi1 pz0 pz1 pz2 rfl (by decide) _ _ _ rfl (HI6.out.own.alloc _) ⟨w6.heap.size, 0, none⟩ 1 1 [.string t2.text, .bool false, .slice none 0 0] (by first | rfl | simp) rfl (HC3.out w6) (by intro u hu; simp at hu; rcases hu with rfl | rfl | rfl <;> rfl) (by unfold maxLen; omega) (by omega) (by have h1 := HI6.out.below.size; have h2 := HSB.out; simp at h1 ⊢; omega) ?_; intro v' w9 hown' hgrow _; obtain ⟨A9, c9, rfl⟩ := own_shape hown'; have kb9 := blk_grown ((HI6.out.next ((Below.refl _ _).alloc (Nat.le_refl _) _)).blk) hgrow (own_not_head HI6.out.own HI6.out.blk (by decide)); rw [HSB.out] at kb9; have n0 : w9.cell? ⟨w.heap.size + 1 + 1, 0, none⟩ = some (.string nm) := kb9.cell 0; have n1 : w9.cell? ⟨w.heap.size + 1 + 1, 1, none⟩ = some (.slice Ap qs.length cp) := kb9.cell 1; have n2 : w9.cell? ⟨w.heap.size + 1 + 1, 2, none⟩ = some (.slice none 0 0) := kb9.cell 2; have nz := kb9.frozen 1; have hpu := (HI6.out.next ((Below.refl _ _).alloc (Nat.le_refl _) _)).push (p := ⟨t2.text, false, []⟩) (d := .slice none 0 0) (World.ownsRow_nil _ _ _ _) hown' hgrow; rw [HSB.out] at hpu; have hb9 : Below wB.heap.size wB w9 := Below.grown ((HI6.out.next ((Below.refl _ _).alloc (Nat.le_refl _) _)).below) hgrow ((HI6.out.next ((Below.refl _ _).alloc (Nat.le_refl _) _)).below.size) (fun x hx => by have := (HI6.out.own.lt x hx).1; omega); obtain ⟨x0, x1, x2, z0, z1, z2, y0, y1, y2, u0, u1, u2⟩ := HXF.out w9 hb9; have HPU := Lib.hid hpu; have HB9 := Lib.hid hb9; have hcS := HC4.out _ HPU.out.below; obtain ⟨s0, s1, s2, s3, s4, s5⟩ := hcS; clear kb9 hpu hb9 hown' hgrow))
                          refine (rmark_is t3 ⟨#[44]⟩ _).mono ?_
                          rintro e w10 ⟨rfl, hb10⟩
                          rw [c44]
                          have HI10 := Lib.hid (HPU.out.next hb10)
                          clear hb10 s0 s1 s2 s3 s4 s5 n0 n1 n2 nz x0 x1 x2 z0 z1 z2 y0 y1 y2 u0 u1 u2
                          have hres := (hrun_step HRB1.out).1 _ (behind_bad HT3.out c44 c61)
                          subst hres
                          go_wp2_with fail
                          refine (HAT.out _ (i + 1) 5 HI10.out.below).mono ?_
                          rintro e w11 ⟨rfl, hb11⟩
                          obtain ⟨x0, x1, x2, z0, z1, z2, y0, y1, y2, u0, u1, u2⟩ := HXF.out w11 hb11
                          have HB11 := Lib.hid (HBB.out.trans (hb11.mono HBB.out.size))
                          clear hb11
                          go_wp2_with fail
                          exact bodyPost_ret (v := .tuple #[.agg #[.string ⟨#[]⟩, .slice none 0 0, .slice none 0 0], .agg #[.int .i64 (placeAt ts (i + 1)).1, .int .i64 (placeAt ts (i + 1)).2, .int .i64 5]]) (by simp [results, Tryd.results17, go_sem, x0, x1, x2, y0, y1, y2]) rfl ⟨rfl, (((((HB11.out.setCell h00 _).setCell h00 _).setCell h00 _).setCell h01 _).setCell h01 _).setCell h01 _⟩
                    · have hmi : ¬ (i : Int) + 1 < ts.length := by omega
                      have hmd : decide ((i : Int) + 1 < ts.length) = false := decide_eq_false hmi
                      have hmg : (ts.length : Int) ≤ i + 1 := by omega
                      have hres := hrun_done (show HRun ts none ⟨i + 1, nm, ps ++ [⟨t2.text, false, []⟩]⟩ r by have := HR1.out; rwa [if_neg hmore] at this)
                      subst hres
                      have HC3 := Lib.hid (fun (w1 : World) => cells_new w1 #[.string t2.text, .bool false, .slice none 0 0] 104 w1.heap.size rfl)
                      have HIP := Lib.hid (HIX.out.next ((Below.refl _ _).alloc (Nat.le_refl _) (.cells #[.string t2.text, .bool false, .slice none 0 0] 104)))
                      have hmp := HIP.out.blk
                      rw [HSB.out] at hmp
                      have m1p : (wr.alloc (.cells #[.string t2.text, .bool false, .slice none 0 0] 104)).cell? ⟨w.heap.size + 1 + 1, 1, none⟩ = some (.slice Ap qs.length cp) := hmp.cell 1
                      clear hmp
                      go_wp2_with (first | (at_builtin; refine wpList_append_own _ rfl _ _ 44 rfl (wB.heap.size + 1) 104 i1 (.agg #[.string ByteArray.empty, .bool false, .slice none 0 0]) 3 48 Tryd.underlying44 hi1 pz0 pz1 pz2 rfl (by decide) _ _ _ rfl (HIP.out.own.alloc _) ⟨wr.heap.size + 1, 0, none⟩ 1 1 [.string t2.text, .bool false, .slice none 0 0] (by first | rfl | simp) rfl (by have := HC3.out (wr.alloc (.cells #[.string t2.text, .bool false, .slice none 0 0] 104)); simpa using this) (by intro u hu; simp at hu; rcases hu with rfl | rfl | rfl <;> rfl) (by unfold maxLen; omega) (by omega) (by have h1 := HIP.out.below.size; have h2 := HSB.out; simp at h1 ⊢; omega) ?_; intro v' w9 hown' hgrow _; obtain ⟨A9, c9, rfl⟩ := own_shape hown'; have kb9 := blk_grown ((HIP.out.next ((Below.refl _ _).alloc (Nat.le_refl _) _)).blk) hgrow (own_not_head HIP.out.own HIP.out.blk (by decide)); rw [HSB.out] at kb9; have n0 : w9.cell? ⟨w.heap.size + 1 + 1, 0, none⟩ = some (.string nm) := kb9.cell 0; have n1 : w9.cell? ⟨w.heap.size + 1 + 1, 1, none⟩ = some (.slice Ap qs.length cp) := kb9.cell 1; have n2 : w9.cell? ⟨w.heap.size + 1 + 1, 2, none⟩ = some (.slice none 0 0) := kb9.cell 2; have nz := kb9.frozen 1; have hpu := (HIP.out.next ((Below.refl _ _).alloc (Nat.le_refl _) _)).push (p := ⟨t2.text, false, []⟩) (d := .slice none 0 0) (World.ownsRow_nil _ _ _ _) hown' hgrow; rw [HSB.out] at hpu; have hb9 : Below wB.heap.size wB w9 := Below.grown ((HIP.out.next ((Below.refl _ _).alloc (Nat.le_refl _) _)).below) hgrow ((HIP.out.next ((Below.refl _ _).alloc (Nat.le_refl _) _)).below.size) (fun x hx => by have := (HIP.out.own.lt x hx).1; omega); obtain ⟨x0, x1, x2, z0, z1, z2, y0, y1, y2, u0, u1, u2⟩ := HXF.out w9 hb9; have HPU := Lib.hid hpu; have HB9 := Lib.hid hb9; clear kb9 hpu hb9 hown' hgrow))
                      have hpf := fun a0 a1 a2 b0 b1 b2 => (((((((HPU.out.rown.low (R := w.heap.size) (i := 0) (by have := HSB.out; omega) a0).low (R := w.heap.size) (i := 1) (by have := HSB.out; omega) a1).low (R := w.heap.size) (i := 2) (by have := HSB.out; omega) a2).low (R := w.heap.size + 1) (i := 0) (by have := HSB.out; omega) b0).low (R := w.heap.size + 1) (i := 1) (by have := HSB.out; omega) b1).low (R := w.heap.size + 1) (i := 2) (by have := HSB.out; omega) b2)).pars
                      have hbf := HBB.out.trans (HPU.out.below.mono HBB.out.size)
                      exact bodyPost_ret (v := .tuple #[.agg #[.string nm, .slice A9 (qs.length + 1) c9, .slice none 0 0], .agg #[.int .i64 0, .int .i64 0, .int .i64 0]]) (by simp [results, Tryd.results17, go_sem, x0, x1, x2, y0, y1, y2]) rfl ⟨_, rfl, hpf _ _ _ _ _ _, (((((hbf.setCell h00 _).setCell h00 _).setCell h00 _).setCell h01 _).setCell h01 _).setCell h01 _⟩
              · have hkn2 : (t2.kind != 1) = true := by simpa using hk2
                have hres := (hrun_step HRP.out).1 _ (param_bad (by unfold nameAt; rw [ht2]; simpa using hk2))
                subst hres
                clear ht2 hk2
                go_wp2_with fail
                refine (HAT.out _ (i) 5 HWr.out).mono ?_
                rintro e w5 ⟨rfl, hb5⟩
                have hRw := HRB.out.below hb5 HRB.out.lt
                have hFw := HFB.out.below hb5 HFB.out.lt
                have x0 : w5.cell? ⟨w.heap.size, 0, none⟩ = some (.string ⟨#[]⟩) := hRw.cell 0
                have x1 : w5.cell? ⟨w.heap.size, 1, none⟩ = some (.slice none 0 0) := hRw.cell 1
                have x2 : w5.cell? ⟨w.heap.size, 2, none⟩ = some (.slice none 0 0) := hRw.cell 2
                have z0 := hRw.frozen 0
                have z1 := hRw.frozen 1
                have z2 := hRw.frozen 2
                have y0 : w5.cell? ⟨w.heap.size + 1, 0, none⟩ = some (.int .i64 0) := hFw.cell 0
                have y1 : w5.cell? ⟨w.heap.size + 1, 1, none⟩ = some (.int .i64 0) := hFw.cell 1
                have y2 : w5.cell? ⟨w.heap.size + 1, 2, none⟩ = some (.int .i64 0) := hFw.cell 2
                have u0 := hFw.frozen 0
                have u1 := hFw.frozen 1
                have u2 := hFw.frozen 2
                clear hRw hFw
                have HB5 := Lib.hid (HBB.out.trans (hb5.mono HBB.out.size))
                clear hb5
                go_wp2_with fail
                exact bodyPost_ret (v := .tuple #[.agg #[.string ⟨#[]⟩, .slice none 0 0, .slice none 0 0], .agg #[.int .i64 (placeAt ts (i)).1, .int .i64 (placeAt ts (i)).2, .int .i64 5]]) (by simp [results, Tryd.results17, go_sem, x0, x1, x2, y0, y1, y2]) rfl ⟨rfl, (((((HB5.out.setCell h00 _).setCell h00 _).setCell h00 _).setCell h01 _).setCell h01 _).setCell h01 _⟩
            · have hli : ¬ (i : Int) < ts.length := by omega
              have hlid : decide ((i : Int) < ts.length) = false := decide_eq_false hli
              have hge : (ts.length : Int) ≤ i := by omega
              have h2ii : (2 : Int) < i := by omega
              have h2id : decide ((2 : Int) < i) = true := decide_eq_true h2ii
              have hres := (hrun_step HRP.out).1 _ (param_bad (by unfold nameAt; rw [List.getElem?_eq_none (by omega)]))
              subst hres
              go_wp2_with fail
              refine (HAT.out _ (i) 5 HWr.out).mono ?_
              rintro e w5 ⟨rfl, hb5⟩
              have hRw := HRB.out.below hb5 HRB.out.lt
              have hFw := HFB.out.below hb5 HFB.out.lt
              have x0 : w5.cell? ⟨w.heap.size, 0, none⟩ = some (.string ⟨#[]⟩) := hRw.cell 0
              have x1 : w5.cell? ⟨w.heap.size, 1, none⟩ = some (.slice none 0 0) := hRw.cell 1
              have x2 : w5.cell? ⟨w.heap.size, 2, none⟩ = some (.slice none 0 0) := hRw.cell 2
              have z0 := hRw.frozen 0
              have z1 := hRw.frozen 1
              have z2 := hRw.frozen 2
              have y0 : w5.cell? ⟨w.heap.size + 1, 0, none⟩ = some (.int .i64 0) := hFw.cell 0
              have y1 : w5.cell? ⟨w.heap.size + 1, 1, none⟩ = some (.int .i64 0) := hFw.cell 1
              have y2 : w5.cell? ⟨w.heap.size + 1, 2, none⟩ = some (.int .i64 0) := hFw.cell 2
              have u0 := hFw.frozen 0
              have u1 := hFw.frozen 1
              have u2 := hFw.frozen 2
              clear hRw hFw
              have HB5 := Lib.hid (HBB.out.trans (hb5.mono HBB.out.size))
              clear hb5
              go_wp2_with fail
              exact bodyPost_ret (v := .tuple #[.agg #[.string ⟨#[]⟩, .slice none 0 0, .slice none 0 0], .agg #[.int .i64 (placeAt ts (i)).1, .int .i64 (placeAt ts (i)).2, .int .i64 5]]) (by simp [results, Tryd.results17, go_sem, x0, x1, x2, y0, y1, y2]) rfl ⟨rfl, (((((HB5.out.setCell h00 _).setCell h00 _).setCell h00 _).setCell h01 _).setCell h01 _).setCell h01 _⟩
          · obtain rfl : i = 2 := by omega
            have hli : ¬ (((2 : Nat) : Int)) < ts.length := by omega
            have hres := hrun_done (show HRun ts none ⟨2, nm, ps⟩ r by have := HRN.out; rwa [if_neg hcond] at this)
            subst hres
            clear HRN
            have hRw := HRB.out.below HWr.out HRB.out.lt
            have hFw := HFB.out.below HWr.out HFB.out.lt
            have x0 : wr.cell? ⟨w.heap.size, 0, none⟩ = some (.string ⟨#[]⟩) := hRw.cell 0
            have x1 : wr.cell? ⟨w.heap.size, 1, none⟩ = some (.slice none 0 0) := hRw.cell 1
            have x2 : wr.cell? ⟨w.heap.size, 2, none⟩ = some (.slice none 0 0) := hRw.cell 2
            have z0 := hRw.frozen 0
            have z1 := hRw.frozen 1
            have z2 := hRw.frozen 2
            have y0 : wr.cell? ⟨w.heap.size + 1, 0, none⟩ = some (.int .i64 0) := hFw.cell 0
            have y1 : wr.cell? ⟨w.heap.size + 1, 1, none⟩ = some (.int .i64 0) := hFw.cell 1
            have y2 : wr.cell? ⟨w.heap.size + 1, 2, none⟩ = some (.int .i64 0) := hFw.cell 2
            have u0 := hFw.frozen 0
            have u1 := hFw.frozen 1
            have u2 := hFw.frozen 2
            clear hRw hFw
            have hpf := fun a0 a1 a2 b0 b1 b2 => (((((((HI.out.rown.low (R := w.heap.size) (i := 0) (by have := HSB.out; omega) a0).low (R := w.heap.size) (i := 1) (by have := HSB.out; omega) a1).low (R := w.heap.size) (i := 2) (by have := HSB.out; omega) a2).low (R := w.heap.size + 1) (i := 0) (by have := HSB.out; omega) b0).low (R := w.heap.size + 1) (i := 1) (by have := HSB.out; omega) b1).low (R := w.heap.size + 1) (i := 2) (by have := HSB.out; omega) b2)).pars
            have HPF := Lib.hid hpf
            have HBF := Lib.hid (HBB.out.trans (HWr.out.mono HBB.out.size))
            clear hpf
            go_wp2_with fail
            exact bodyPost_ret (v := .tuple #[.agg #[.string nm, .slice Ap qs.length cp, .slice none 0 0], .agg #[.int .i64 0, .int .i64 0, .int .i64 0]]) (by simp [results, Tryd.results17, go_sem, x0, x1, x2, y0, y1, y2]) rfl ⟨_, rfl, HPF.out _ _ _ _ _ _, (((((HBF.out.setCell h00 _).setCell h00 _).setCell h00 _).setCell h01 _).setCell h01 _).setCell h01 _⟩
  · have hna2 : nameAt ts 1 = false := (Bool.not_eq_true _).mp hna
    have hres := (hrun_step HRU.out).1 _ (name_bad (n := ByteArray.empty) (ps := []) hna2)
    subst hres
    by_cases hl2 : (ts.length : Int) < 2
    · clear hna hna2
      go_enter Tryd.func17, Tryd.ntmps17
      go_wp2_with fail
      rw [HWB.out]
      refine (HAT.out _ (1) 5 (Below.refl _ _)).mono ?_
      rintro e w5 ⟨rfl, hb5⟩
      have hRw := HRB.out.below hb5 HRB.out.lt
      have hFw := HFB.out.below hb5 HFB.out.lt
      have x0 : w5.cell? ⟨w.heap.size, 0, none⟩ = some (.string ⟨#[]⟩) := hRw.cell 0
      have x1 : w5.cell? ⟨w.heap.size, 1, none⟩ = some (.slice none 0 0) := hRw.cell 1
      have x2 : w5.cell? ⟨w.heap.size, 2, none⟩ = some (.slice none 0 0) := hRw.cell 2
      have z0 := hRw.frozen 0
      have z1 := hRw.frozen 1
      have z2 := hRw.frozen 2
      have y0 : w5.cell? ⟨w.heap.size + 1, 0, none⟩ = some (.int .i64 0) := hFw.cell 0
      have y1 : w5.cell? ⟨w.heap.size + 1, 1, none⟩ = some (.int .i64 0) := hFw.cell 1
      have y2 : w5.cell? ⟨w.heap.size + 1, 2, none⟩ = some (.int .i64 0) := hFw.cell 2
      have u0 := hFw.frozen 0
      have u1 := hFw.frozen 1
      have u2 := hFw.frozen 2
      clear hRw hFw
      have HB5 := Lib.hid (HBB.out.trans (hb5.mono HBB.out.size))
      clear hb5
      go_wp2_with fail
      exact bodyPost_ret (v := .tuple #[.agg #[.string ⟨#[]⟩, .slice none 0 0, .slice none 0 0], .agg #[.int .i64 (placeAt ts (1)).1, .int .i64 (placeAt ts (1)).2, .int .i64 5]]) (by simp [results, Tryd.results17, go_sem, x0, x1, x2, y0, y1, y2]) rfl ⟨rfl, (((((HB5.out.setCell h00 _).setCell h00 _).setCell h00 _).setCell h01 _).setCell h01 _).setCell h01 _⟩
    · have hl1 : 1 < ts.length := by omega
      have hl1i : (1 : Int) < ts.length := by omega
      obtain ⟨t, ht⟩ : ∃ t, ts[1]? = some t := ⟨_, List.getElem?_eq_getElem hl1⟩
      have hc1 : (1 : Int) < c := by omega
      obtain ⟨b, o, rfl, hcs⟩ := HTC.out 1 t ht
      have hkn : (t.kind != 1) = true := by
        unfold nameAt at hna2
        rw [ht] at hna2
        simpa using hna2
      have f0 : ((w.alloc (.cells #[.string ⟨#[]⟩, .slice none 0 0, .slice none 0 0] 46)).alloc (.cells #[.int .i64 0, .int .i64 0, .int .i64 0] 25)).cell? ⟨b, o + 6, none⟩ = some (.int .i64 t.kind) := by rw [HWB.out]; have := (hcs wB (Below.refl _ _)).1; rwa [Nat.one_mul] at this
      clear hna hna2 hcs ht hl1
      go_enter Tryd.func17, Tryd.ntmps17
      go_wp2_with fail
      rw [HWB.out]
      refine (HAT.out _ (1) 5 (Below.refl _ _)).mono ?_
      rintro e w5 ⟨rfl, hb5⟩
      have hRw := HRB.out.below hb5 HRB.out.lt
      have hFw := HFB.out.below hb5 HFB.out.lt
      have x0 : w5.cell? ⟨w.heap.size, 0, none⟩ = some (.string ⟨#[]⟩) := hRw.cell 0
      have x1 : w5.cell? ⟨w.heap.size, 1, none⟩ = some (.slice none 0 0) := hRw.cell 1
      have x2 : w5.cell? ⟨w.heap.size, 2, none⟩ = some (.slice none 0 0) := hRw.cell 2
      have z0 := hRw.frozen 0
      have z1 := hRw.frozen 1
      have z2 := hRw.frozen 2
      have y0 : w5.cell? ⟨w.heap.size + 1, 0, none⟩ = some (.int .i64 0) := hFw.cell 0
      have y1 : w5.cell? ⟨w.heap.size + 1, 1, none⟩ = some (.int .i64 0) := hFw.cell 1
      have y2 : w5.cell? ⟨w.heap.size + 1, 2, none⟩ = some (.int .i64 0) := hFw.cell 2
      have u0 := hFw.frozen 0
      have u1 := hFw.frozen 1
      have u2 := hFw.frozen 2
      clear hRw hFw
      have HB5 := Lib.hid (HBB.out.trans (hb5.mono HBB.out.size))
      clear hb5
      go_wp2_with fail
      exact bodyPost_ret (v := .tuple #[.agg #[.string ⟨#[]⟩, .slice none 0 0, .slice none 0 0], .agg #[.int .i64 (placeAt ts (1)).1, .int .i64 (placeAt ts (1)).2, .int .i64 5]]) (by simp [results, Tryd.results17, go_sem, x0, x1, x2, y0, y1, y2]) rfl ⟨rfl, (((((HB5.out.setCell h00 _).setCell h00 _).setCell h00 _).setCell h01 _).setCell h01 _).setCell h01 _⟩
end Go.Proofs.YtbhfblogjlpnlabDoor
