/-
  The contract of the law's own theirs: the same macro, its parameters in new memory. Conditions: the macro's parameters and lines lie in the memory; at most 100000 parameters.
-/
import Derived.Test.YtbhfblogjlpnlabDoorMacBind
import Derived.Test.YtbhfblogjlpnlabDoorMacLight
import Derived.Deep.RegionHeld3
import Derived.Deep.DeepCutAuto
namespace Go.Proofs.YtbhfblogjlpnlabDoor
open Go.RowKit

theorem Tryd.infoDstTheirs : (Tryd.prog.info? 104).map (fun i => (i.zero, i.size, i.bytes)) = some (some (.agg #[.string ByteArray.empty, .bool false, .slice none 0 0]), 3, 48) := by kernel_rfl

/-- What holds while parameters are copied. -/
structure TheirsInv (w0 wB : World) (O : Nat) (ps : List HPar) (nm : ByteArray) (vl : Value) (k : Nat) (vp : Value) (qs : List (HPar × Value)) (wr : World) : Prop where
  eq : qs.map Prod.fst = ps.take k
  toks : ∀ q ∈ qs, Toks w0 q.2 q.1.dflt
  own : wr.ownsRow (wB.heap.size + 1) 104 3 vp qs.length (parCells qs)
  blk : Blk wr O 46 #[.string nm, vp, vl]
  below : Below wB.heap.size wB wr

theorem Theirs_step {w0 wB wr w3 : World} {O : Nat} {ps : List HPar} {nm : ByteArray} {vl vp v' d : Value} {k : Nat} {qs : List (HPar × Value)} {p : HPar} (h : TheirsInv w0 wB O ps nm vl k vp qs wr) (hpk : ps[k]? = some p) (hd : Toks w0 d p.dflt)
    (hown : w3.ownsRow (wB.heap.size + 1) 104 3 v' (qs.length + 1) (parCells qs ++ [.string p.name, .bool p.has, d])) (hb : Blk w3 O 46 #[.string nm, vp, vl]) (hbel : Below wB.heap.size wB (w3.setCell ⟨O, 1, none⟩ v')) : TheirsInv w0 wB O ps nm vl (k + 1) v' (qs ++ [(p, d)]) (w3.setCell ⟨O, 1, none⟩ v') := by
  obtain ⟨hk, rfl⟩ := List.getElem?_eq_some_iff.1 hpk
  refine ⟨by rw [List.map_append, h.eq, List.take_succ_eq_append_getElem hk]; rfl, ?_, ?_, Blk.set hb 1 v', hbel⟩
  · intro q hq
    rcases List.mem_append.1 hq with hq | hq
    · exact h.toks q hq
    · obtain rfl := List.mem_singleton.1 hq
      exact hd
  · rw [parCells_app, List.length_append]
    exact ownsRow_setCell_other hown (own_not_head hown hb (by decide)) v'

set_option maxRecDepth 100000 in
set_option maxHeartbeats 8000000 in
theorem theirs_is (ps : List HPar) (nm : ByteArray) (vp vl : Value) (w : World) (hp : Pars w vp ps) (hn : ps.length ≤ 100000) (hvl : ∃ A n c, vl = .slice A n c) :
    Calls Tryd.prog 19 #[.agg #[.string nm, vp, vl]] w fun e w' => (∃ vp', e = .returned (.agg #[.string nm, vp', vl]) ∧ Pars w' vp' ps) ∧ Below w.heap.size w w' := by
  obtain ⟨i1, hi1, hz0, hz1, hz2⟩ := info_parts Tryd.infoDstTheirs
  obtain ⟨Al, nl, cl, rfl⟩ := hvl
  obtain ⟨Ap, cp, rfl, hpc, hpm, hpcell⟩ := hp.form
  have HP := Lib.hid hpcell
  have hne1 : ¬ w.heap.size + 1 = w.heap.size := by omega
  have hne2 : ¬ w.heap.size = w.heap.size + 1 := by omega
  have hne3 : ¬ w.heap.size + 1 + 1 = w.heap.size + 1 := by omega
  have hne4 : ¬ w.heap.size + 1 = w.heap.size + 1 + 1 := by omega
  obtain ⟨wB, hwB⟩ : ∃ wB, (w.alloc (.cells #[.string nm, .slice Ap ps.length cp, .slice Al nl cl] 41)).alloc (.cells #[.string ⟨#[]⟩, .slice none 0 0, .slice none 0 0] 46) = wB := ⟨_, rfl⟩
  have hsB : wB.heap.size = w.heap.size + 1 + 1 := by rw [← hwB]; simp
  have hMb : Blk wB w.heap.size 41 #[.string nm, .slice Ap ps.length cp, .slice Al nl cl] := by rw [← hwB]; exact (Blk.new _ _ _).alloc _
  have hRb : Blk wB (w.heap.size + 1) 46 #[.string ⟨#[]⟩, .slice none 0 0, .slice none 0 0] := by rw [← hwB]; have := Blk.new (w.alloc (.cells #[.string nm, .slice Ap ps.length cp, .slice Al nl cl] 41)) 46 #[.string ⟨#[]⟩, .slice none 0 0, .slice none 0 0]; simpa using this
  have hBb : Below w.heap.size w wB := by rw [← hwB]; exact ((Below.refl _ _).alloc (Nat.le_refl _) _).alloc (by simp) _
  have HWB := Lib.hid hwB
  have HSB := Lib.hid hsB
  have HMB := Lib.hid hMb
  have HRB := Lib.hid hRb
  have HBB := Lib.hid hBb
  have HST : Hid (TheirsInv w wB (w.heap.size + 1 + 1) ps nm (.slice Al nl cl) 0 (.slice none 0 0) [] (wB.alloc (.cells #[.string nm, .slice none 0 0, .slice Al nl cl] 46))) := Lib.hid (by
    rw [← hsB]
    exact ⟨rfl, (fun q hq => nomatch hq), World.ownsRow_nil _ _ _ _, Blk.new _ _ _, (Below.refl _ _).alloc (Nat.le_refl _) _⟩)
  clear hp hpcell hwB hMb hRb hBb hsB
  go_enter Tryd.func19, Tryd.ntmps19
  go_wp2_with fail
  go_loopw [4] (fun i wr => ∃ (k : Nat) (vp' : Value) (qs : List (HPar × Value)), k ≤ ps.length ∧ i = .int .i64 k ∧ Hid (TheirsInv w wB (w.heap.size + 1 + 1) ps nm (.slice Al nl cl) k vp' qs wr)) (fun i _ => ps.length - (intOf i).toNat)
  case atStart => exact ⟨0, .slice none 0 0, [], Nat.zero_le _, rfl, by rw [HWB.out]; exact HST⟩
  case round =>
    obtain ⟨k, vp', qs, hk, rfl, HI⟩ := hrel
    obtain ⟨Av, cv, rfl⟩ := own_shape HI.out.own
    have hql : qs.length = k := by have := congrArg List.length HI.out.eq; rw [List.length_map, List.length_take] at this; omega
    have HBW : Hid (Below w.heap.size w wr) := Lib.hid (HBB.out.trans (HI.out.below.mono HBB.out.size))
    have m1 : wr.cell? ⟨w.heap.size, 1, none⟩ = some (.slice Ap ps.length cp) := (HMB.out.below HI.out.below HMB.out.lt).cell 1
    by_cases hkl : k < ps.length
    · have hki : (k : Int) < ps.length := by omega
      have hkc : (k : Int) < cp := by omega
      have hkb : (k : Int) ≤ 100000 := by omega
      obtain ⟨p, hpk⟩ : ∃ p, ps[k]? = some p := ⟨_, List.getElem?_eq_getElem hkl⟩
      obtain ⟨bp, op, d, rfl, hd, hpcs⟩ := HP.out k p hpk
      obtain ⟨Ad, cd, rfl, -⟩ := hd.form
      obtain ⟨e0, e1, e2⟩ := hpcs wr HBW.out
      have o1 : wr.cell? ⟨w.heap.size + 1 + 1, 1, none⟩ = some (.slice Av qs.length cv) := HI.out.blk.cell 1
      have hup : ∀ o', Below wr.heap.size wr (wr.alloc o') := fun o' => (Below.refl _ _).alloc (Nat.le_refl _) o'
      have u1 : ∀ o', (wr.alloc o').cell? ⟨w.heap.size + 1 + 1, 1, none⟩ = some (.slice Av qs.length cv) := fun o' => (HI.out.blk.below (hup o') HI.out.blk.lt).cell 1
      have HD := Lib.hid hd
      have HPK := Lib.hid hpk
      have hqb : qs.length ≤ 100000 := by omega
      have um := fun o' => (HMB.out.below (HI.out.below.trans ((hup o').mono HI.out.below.size)) HMB.out.lt).cell 1
      have ue := fun o' => hpcs (wr.alloc o') (HBW.out.trans ((hup o').mono HBW.out.size))
      have UM : Hid (∀ o', (wr.alloc o').cell? ⟨w.heap.size, 1, none⟩ = some (.slice (some ⟨bp, op, none⟩) ps.length cp)) := Lib.hid um
      have UE := Lib.hid ue
      have HPW := Lib.hid hpcs
      have HQL := Lib.hid hql
      clear hpcs hd hpk hup um ue hql
      go_wp2_with fail
      refine wp_region_held_drew (S := (fun W => W.cell? ⟨w.heap.size, 1, none⟩ = some (.slice (some ⟨bp, op, none⟩) ps.length cp) ∧ W.cell? ⟨bp, op + k * 3, none⟩ = some (.string p.name) ∧ W.cell? ⟨bp, op + k * 3 + 1, none⟩ = some (.bool p.has) ∧ W.cell? ⟨bp, op + k * 3 + 2, none⟩ = some (.slice Ad p.dflt.length cd))) (by kernel_rfl) ⟨m1, e0, e1, e2⟩ (fun hHeld => ?_)
      refine wpAnyH_take (i := 0) (v := ?_) rfl (by kernel_rfl) (by kernel_rfl) (by kernel_rfl) (fun _ _ _ h => h) (Or.inl ⟨by rfl, ?_⟩) (by assumption) ?_
      rotate_left
      · intro w hSw
        try dsimp only at hSw
        go_simp
        try with_reducible rfl
      try simp only [Act.put, List.setIfInBounds_toArray, List.set_cons_zero, List.set_cons_succ]
      refine wpAnyH_take (i := 2) (v := ?_) rfl (by kernel_rfl) (by kernel_rfl) (by kernel_rfl) (fun _ _ _ h => h) (Or.inl ⟨by rfl, ?_⟩) (by assumption) ?_
      rotate_left
      · intro w hSw
        try dsimp only at hSw
        go_simp
        try with_reducible rfl
      try simp only [Act.put, List.setIfInBounds_toArray, List.set_cons_zero, List.set_cons_succ]
      refine wpAnyH_take (i := 3) (v := ?_) rfl (by kernel_rfl) (by kernel_rfl) (by kernel_rfl) (fun _ _ _ h => h) (Or.inl ⟨by rfl, ?_⟩) (by assumption) ?_
      rotate_left
      · intro w hSw
        try dsimp only at hSw
        go_simp
        try with_reducible rfl
      try simp only [Act.put, List.setIfInBounds_toArray, List.set_cons_zero, List.set_cons_succ]
      refine wpAnyH_take (i := 4) (v := ?_) rfl (by kernel_rfl) (by kernel_rfl) (by kernel_rfl) (fun _ _ _ h => h) (Or.inl ⟨by rfl, ?_⟩) (by assumption) ?_
      rotate_left
      · intro w hSw
        try dsimp only at hSw
        go_simp
        try with_reducible rfl
      try simp only [Act.put, List.setIfInBounds_toArray, List.set_cons_zero, List.set_cons_succ]
      refine wpAnyH_take (i := 5) (v := ?_) rfl (by kernel_rfl) (by kernel_rfl) (by kernel_rfl) (fun _ _ _ h => h) (Or.inl ⟨by rfl, ?_⟩) (by assumption) ?_
      rotate_left
      · intro w hSw
        try dsimp only at hSw
        go_simp
        try with_reducible rfl
      try simp only [Act.put, List.setIfInBounds_toArray, List.set_cons_zero, List.set_cons_succ]
      refine wpAnyH_take (i := 6) (v := ?_) rfl (by kernel_rfl) (by kernel_rfl) (by kernel_rfl) (fun _ _ _ h => h) (Or.inl ⟨by rfl, ?_⟩) (by assumption) ?_
      rotate_left
      · intro w hSw
        try dsimp only at hSw
        go_simp
        try with_reducible rfl
      try simp only [Act.put, List.setIfInBounds_toArray, List.set_cons_zero, List.set_cons_succ]
      refine wpAnyH_take (i := 7) (v := ?_) rfl (by kernel_rfl) (by kernel_rfl) (by kernel_rfl) (fun _ _ _ h => h) (Or.inl ⟨by rfl, ?_⟩) (by assumption) ?_
      rotate_left
      · intro w hSw
        try dsimp only at hSw
        go_simp
        try with_reducible rfl
      try simp only [Act.put, List.setIfInBounds_toArray, List.set_cons_zero, List.set_cons_succ]
      refine wpAnyH_take (i := 8) (v := ?_) rfl (by kernel_rfl) (by kernel_rfl) (by kernel_rfl) (fun _ _ _ h => h) (Or.inl ⟨by rfl, ?_⟩) (by assumption) ?_
      rotate_left
      · intro w hSw
        try dsimp only at hSw
        go_simp
        try with_reducible rfl
      try simp only [Act.put, List.setIfInBounds_toArray, List.set_cons_zero, List.set_cons_succ]
      refine wpAnyH_take (i := 9) (v := ?_) rfl (by kernel_rfl) (by kernel_rfl) (by kernel_rfl) (fun _ _ _ h => h) (Or.inl ⟨by rfl, ?_⟩) (by assumption) ?_
      rotate_left
      · intro w hSw
        try dsimp only at hSw
        go_simp
        try with_reducible rfl
      try simp only [Act.put, List.setIfInBounds_toArray, List.set_cons_zero, List.set_cons_succ]
      refine wpAnyH_take (i := 10) (v := ?_) rfl (by kernel_rfl) (by kernel_rfl) (by kernel_rfl) (fun _ _ _ h => h) (Or.inl ⟨by rfl, ?_⟩) (by assumption) ?_
      rotate_left
      · intro w hSw
        try dsimp only at hSw
        go_simp
        try with_reducible rfl
      try simp only [Act.put, List.setIfInBounds_toArray, List.set_cons_zero, List.set_cons_succ]
      refine wpAnyH_take (i := 11) (v := ?_) rfl (by kernel_rfl) (by kernel_rfl) (by kernel_rfl) (fun _ _ _ h => h) (Or.inl ⟨by rfl, ?_⟩) (by assumption) ?_
      rotate_left
      · intro w hSw
        try dsimp only at hSw
        go_simp
        try with_reducible rfl
      try simp only [Act.put, List.setIfInBounds_toArray, List.set_cons_zero, List.set_cons_succ]
      refine wpAnyH_take (i := 12) (v := ?_) rfl (by kernel_rfl) (by kernel_rfl) (by kernel_rfl) (fun _ _ _ h => h) (Or.inl ⟨by rfl, ?_⟩) (by assumption) ?_
      rotate_left
      · intro w hSw
        try dsimp only at hSw
        go_simp
        try with_reducible rfl
      try simp only [Act.put, List.setIfInBounds_toArray, List.set_cons_zero, List.set_cons_succ]
      refine wpAnyH_take (i := 13) (v := ?_) rfl (by kernel_rfl) (by kernel_rfl) (by kernel_rfl) (fun _ _ _ h => h) (Or.inl ⟨by rfl, ?_⟩) (by assumption) ?_
      rotate_left
      · intro w hSw
        try dsimp only at hSw
        go_simp
        try with_reducible rfl
      try simp only [Act.put, List.setIfInBounds_toArray, List.set_cons_zero, List.set_cons_succ]
      refine wpAnyH_take (i := 14) (v := ?_) rfl (by kernel_rfl) (by kernel_rfl) (by kernel_rfl) (fun _ _ _ h => h) (Or.inl ⟨by rfl, ?_⟩) (by assumption) ?_
      rotate_left
      · intro w hSw
        try dsimp only at hSw
        go_simp
        try with_reducible rfl
      try simp only [Act.put, List.setIfInBounds_toArray, List.set_cons_zero, List.set_cons_succ]
      refine wpAnyH_take (i := 15) (v := ?_) rfl (by kernel_rfl) (by kernel_rfl) (by kernel_rfl) (fun _ _ _ h => h) (Or.inl ⟨by rfl, ?_⟩) (by assumption) ?_
      rotate_left
      · intro w hSw
        try dsimp only at hSw
        go_simp
        try with_reducible rfl
      try simp only [Act.put, List.setIfInBounds_toArray, List.set_cons_zero, List.set_cons_succ]
      refine wpAnyH_take (i := 16) (v := ?_) rfl (by kernel_rfl) (by kernel_rfl) (by kernel_rfl) (fun _ _ _ h => h) (Or.inl ⟨by rfl, ?_⟩) (by assumption) ?_
      rotate_left
      · intro w hSw
        try dsimp only at hSw
        go_simp
        try with_reducible rfl
      try simp only [Act.put, List.setIfInBounds_toArray, List.set_cons_zero, List.set_cons_succ]
      refine wpAnyH_take (i := 17) (v := ?_) rfl (by kernel_rfl) (by kernel_rfl) (by kernel_rfl) (fun _ _ _ h => h) (Or.inl ⟨by rfl, ?_⟩) (by assumption) ?_
      rotate_left
      · intro w hSw
        try dsimp only at hSw
        go_simp
        try with_reducible rfl
      try simp only [Act.put, List.setIfInBounds_toArray, List.set_cons_zero, List.set_cons_succ]
      refine wpAnyH_take (i := 18) (v := ?_) rfl (by kernel_rfl) (by kernel_rfl) (by kernel_rfl) (fun _ _ _ h => h) (Or.inl ⟨by rfl, ?_⟩) (by assumption) ?_
      rotate_left
      · intro w hSw
        try dsimp only at hSw
        go_simp
        try with_reducible rfl
      try simp only [Act.put, List.setIfInBounds_toArray, List.set_cons_zero, List.set_cons_succ]
      refine wpAnyH_take (i := 19) (v := ?_) rfl (by kernel_rfl) (by kernel_rfl) (by kernel_rfl) (fun _ _ _ h => h) (Or.inl ⟨by rfl, ?_⟩) (by assumption) ?_
      rotate_left
      · intro w hSw
        try dsimp only at hSw
        go_simp
        try with_reducible rfl
      try simp only [Act.put, List.setIfInBounds_toArray, List.set_cons_zero, List.set_cons_succ]
      refine wpAnyH_take (i := 20) (v := ?_) rfl (by kernel_rfl) (by kernel_rfl) (by kernel_rfl) (fun _ _ _ h => h) (Or.inl ⟨by rfl, ?_⟩) (by assumption) ?_
      rotate_left
      · intro w hSw
        try dsimp only at hSw
        go_simp
        try with_reducible rfl
      try simp only [Act.put, List.setIfInBounds_toArray, List.set_cons_zero, List.set_cons_succ]
      refine wpAnyH_ready (rs := [1, 21]) (by kernel_rfl) (by simp) ?_
      refine AllReadyH.cons (o := _) rfl (fun K hK => ?_) ?_
      · go_simp
        refine hK.out _ _ (by first | exact ⟨m1, e0, e1, e2⟩ | exact by assumption) (fun hHeld => ?_)
        clear hK K
        try simp only [Act.put, List.setIfInBounds_toArray, List.set_cons_zero, List.set_cons_succ]
        refine wpAnyH_ready (rs := [21]) (by kernel_rfl) (by simp) ?_
        refine AllReadyH.cons (o := _) rfl (fun K hK => ?_) ?_
        · go_simp
          refine hK.out _ _ (by first | exact ⟨UM.out _, (UE.out _).1, (UE.out _).2.1, (UE.out _).2.2⟩ | exact by assumption) (fun hHeld => ?_)
          clear hK K
          try simp only [Act.put, List.setIfInBounds_toArray, List.set_cons_zero, List.set_cons_succ]
          refine wpAnyH_ready (rs := [22]) (by kernel_rfl) (by simp) ?_
          refine AllReadyH.cons (o := _) rfl (fun K hK => ?_) ?_
          · (refine step_append_own_at rfl (.tmp 18) (.tmp 38) 44 rfl (wB.heap.size + 1) 104 i1 (.agg #[.string ByteArray.empty, .bool false, .slice none 0 0]) 3 48 Tryd.underlying44 hi1 hz0 hz1 hz2 rfl (by decide) (.slice Av qs.length cv) qs.length (parCells qs) (by simp [Act.eval, Act.put]) (own_below HI.out.own ((Below.refl _ _).drew.alloc (Nat.le_refl _) _)) ⟨wr.heap.size, 0, none⟩ 1 1 [.string p.name, .bool p.has, .slice Ad p.dflt.length cd] (by simp [Act.eval, Act.put]) rfl (cells_new _ #[.string p.name, .bool p.has, .slice Ad p.dflt.length cd] _ _ (by simp)) (by intro u hu; simp at hu; rcases hu with rfl | rfl | rfl <;> rfl) (by unfold maxLen; omega) (by omega) (by have := HI.out.blk.lt; have := HSB.out; simp; omega) ?_; intro v' w3 hown3 hg3 _ _; obtain ⟨A3, c3, rfl⟩ := own_shape hown3; have kb3 : Blk w3 (w.heap.size + 1 + 1) 46 #[.string nm, .slice Av qs.length cv, .slice Al nl cl] := Blk.grown (HI.out.blk.below ((Below.refl _ _).drew.alloc (Nat.le_refl _) _) HI.out.blk.lt) hg3 (own_not_head HI.out.own HI.out.blk (by decide)); have hb3 : Below wB.heap.size wB w3 := Below.grown ((HI.out.below.drew).alloc (by have := HI.out.blk.lt; have := HSB.out; simp; omega) _) hg3 (by have := HI.out.blk.lt; have := HSB.out; simp; omega) (fun x hx => by have := (HI.out.own.lt x hx).1; omega); have k1 : w3.cell? ⟨w.heap.size + 1 + 1, 1, none⟩ = some (.slice Av qs.length cv) := kb3.cell 1; have y1 := Blk.frozen kb3 1; have n1 : w3.cell? ⟨w.heap.size, 1, none⟩ = some (.slice (some ⟨bp, op, none⟩) ps.length cp) := (HMB.out.below hb3 HMB.out.lt).cell 1; obtain ⟨n2, n3, n4⟩ := HPW.out w3 (HBB.out.trans (hb3.mono HBB.out.size)); have hb4 := hb3.setCell (p := ⟨w.heap.size + 1 + 1, 1, none⟩) (Nat.le_of_eq HSB.out) (.slice A3 (qs.length + 1) c3); have q1 : (w3.setCell ⟨w.heap.size + 1 + 1, 1, none⟩ (.slice A3 (qs.length + 1) c3)).cell? ⟨w.heap.size, 1, none⟩ = some (.slice (some ⟨bp, op, none⟩) ps.length cp) := (HMB.out.below hb4 HMB.out.lt).cell 1; obtain ⟨q2, q3, q4⟩ := HPW.out _ (HBB.out.trans (hb4.mono HBB.out.size)))
            refine hK.out _ _ (by first | exact ⟨n1, n2, n3, n4⟩ | exact by assumption) (fun hHeld => ?_)
            clear hK K
            try simp only [Act.put, List.setIfInBounds_toArray, List.set_cons_zero, List.set_cons_succ]
            refine wpAnyH_take (i := 23) (v := ?_) rfl (by kernel_rfl) (by kernel_rfl) (by kernel_rfl) (fun _ _ _ h => h) (Or.inl ⟨by rfl, ?_⟩) (by assumption) ?_
            rotate_left
            · intro w hSw
              try dsimp only at hSw
              go_simp
              try with_reducible rfl
            try simp only [Act.put, List.setIfInBounds_toArray, List.set_cons_zero, List.set_cons_succ]
            refine wpAnyH_ready (rs := [24]) (by kernel_rfl) (by simp) ?_
            refine AllReadyH.cons (o := _) rfl (fun K hK => ?_) ?_
            · go_simp
              refine hK.out _ _ (by first | exact ⟨q1, q2, q3, q4⟩ | exact by assumption) (fun hHeld => ?_)
              clear hK K
              try simp only [Act.put, List.setIfInBounds_toArray, List.set_cons_zero, List.set_cons_succ]
              refine wpAnyH_done (by kernel_rfl) ?_ _
              have KI := Lib.hid (Theirs_step HI.out HPK.out HD.out hown3 kb3 hb4)
              clear hown3 kb3 hb3 hb4 k1 y1 n1 n2 n3 n4 q1 q2 q3 q4 hg3
              go_wp2_with fail
              go_roundw
              case rel => exact ⟨k + 1, _, _, by omega, by go_num, KI⟩
              case measure => simp [intOf]; omega
            exact AllReadyH.nil
          exact AllReadyH.nil
        exact AllReadyH.nil
      refine AllReadyH.cons (o := _) rfl (fun K hK => ?_) ?_
      · go_simp
        refine hK.out _ _ (by first | exact ⟨UM.out _, (UE.out _).1, (UE.out _).2.1, (UE.out _).2.2⟩ | exact by assumption) (fun hHeld => ?_)
        clear hK K
        try simp only [Act.put, List.setIfInBounds_toArray, List.set_cons_zero, List.set_cons_succ]
        refine wpAnyH_ready (rs := [1]) (by kernel_rfl) (by simp) ?_
        refine AllReadyH.cons (o := _) rfl (fun K hK => ?_) ?_
        · go_simp
          refine hK.out _ _ (by first | exact ⟨UM.out _, (UE.out _).1, (UE.out _).2.1, (UE.out _).2.2⟩ | exact by assumption) (fun hHeld => ?_)
          clear hK K
          try simp only [Act.put, List.setIfInBounds_toArray, List.set_cons_zero, List.set_cons_succ]
          refine wpAnyH_ready (rs := [22]) (by kernel_rfl) (by simp) ?_
          refine AllReadyH.cons (o := _) rfl (fun K hK => ?_) ?_
          · (refine step_append_own_at rfl (.tmp 18) (.tmp 38) 44 rfl (wB.heap.size + 1) 104 i1 (.agg #[.string ByteArray.empty, .bool false, .slice none 0 0]) 3 48 Tryd.underlying44 hi1 hz0 hz1 hz2 rfl (by decide) (.slice Av qs.length cv) qs.length (parCells qs) (by simp [Act.eval, Act.put]) (own_below HI.out.own ((Below.refl _ _).drew.alloc (Nat.le_refl _) _)) ⟨wr.heap.size, 0, none⟩ 1 1 [.string p.name, .bool p.has, .slice Ad p.dflt.length cd] (by simp [Act.eval, Act.put]) rfl (cells_new _ #[.string p.name, .bool p.has, .slice Ad p.dflt.length cd] _ _ (by simp)) (by intro u hu; simp at hu; rcases hu with rfl | rfl | rfl <;> rfl) (by unfold maxLen; omega) (by omega) (by have := HI.out.blk.lt; have := HSB.out; simp; omega) ?_; intro v' w3 hown3 hg3 _ _; obtain ⟨A3, c3, rfl⟩ := own_shape hown3; have kb3 : Blk w3 (w.heap.size + 1 + 1) 46 #[.string nm, .slice Av qs.length cv, .slice Al nl cl] := Blk.grown (HI.out.blk.below ((Below.refl _ _).drew.alloc (Nat.le_refl _) _) HI.out.blk.lt) hg3 (own_not_head HI.out.own HI.out.blk (by decide)); have hb3 : Below wB.heap.size wB w3 := Below.grown ((HI.out.below.drew).alloc (by have := HI.out.blk.lt; have := HSB.out; simp; omega) _) hg3 (by have := HI.out.blk.lt; have := HSB.out; simp; omega) (fun x hx => by have := (HI.out.own.lt x hx).1; omega); have k1 : w3.cell? ⟨w.heap.size + 1 + 1, 1, none⟩ = some (.slice Av qs.length cv) := kb3.cell 1; have y1 := Blk.frozen kb3 1; have n1 : w3.cell? ⟨w.heap.size, 1, none⟩ = some (.slice (some ⟨bp, op, none⟩) ps.length cp) := (HMB.out.below hb3 HMB.out.lt).cell 1; obtain ⟨n2, n3, n4⟩ := HPW.out w3 (HBB.out.trans (hb3.mono HBB.out.size)); have hb4 := hb3.setCell (p := ⟨w.heap.size + 1 + 1, 1, none⟩) (Nat.le_of_eq HSB.out) (.slice A3 (qs.length + 1) c3); have q1 : (w3.setCell ⟨w.heap.size + 1 + 1, 1, none⟩ (.slice A3 (qs.length + 1) c3)).cell? ⟨w.heap.size, 1, none⟩ = some (.slice (some ⟨bp, op, none⟩) ps.length cp) := (HMB.out.below hb4 HMB.out.lt).cell 1; obtain ⟨q2, q3, q4⟩ := HPW.out _ (HBB.out.trans (hb4.mono HBB.out.size)))
            refine hK.out _ _ (by first | exact ⟨n1, n2, n3, n4⟩ | exact by assumption) (fun hHeld => ?_)
            clear hK K
            try simp only [Act.put, List.setIfInBounds_toArray, List.set_cons_zero, List.set_cons_succ]
            refine wpAnyH_take (i := 23) (v := ?_) rfl (by kernel_rfl) (by kernel_rfl) (by kernel_rfl) (fun _ _ _ h => h) (Or.inl ⟨by rfl, ?_⟩) (by assumption) ?_
            rotate_left
            · intro w hSw
              try dsimp only at hSw
              go_simp
              try with_reducible rfl
            try simp only [Act.put, List.setIfInBounds_toArray, List.set_cons_zero, List.set_cons_succ]
            refine wpAnyH_ready (rs := [24]) (by kernel_rfl) (by simp) ?_
            refine AllReadyH.cons (o := _) rfl (fun K hK => ?_) ?_
            · go_simp
              refine hK.out _ _ (by first | exact ⟨q1, q2, q3, q4⟩ | exact by assumption) (fun hHeld => ?_)
              clear hK K
              try simp only [Act.put, List.setIfInBounds_toArray, List.set_cons_zero, List.set_cons_succ]
              refine wpAnyH_done (by kernel_rfl) ?_ _
              have KI := Lib.hid (Theirs_step HI.out HPK.out HD.out hown3 kb3 hb4)
              clear hown3 kb3 hb3 hb4 k1 y1 n1 n2 n3 n4 q1 q2 q3 q4 hg3
              go_wp2_with fail
              go_roundw
              case rel => exact ⟨k + 1, _, _, by omega, by go_num, KI⟩
              case measure => simp [intOf]; omega
            exact AllReadyH.nil
          exact AllReadyH.nil
        exact AllReadyH.nil
      exact AllReadyH.nil
    · obtain rfl : k = ps.length := by omega
      have hob := HI.out.blk
      have o0 : wr.cell? ⟨w.heap.size + 1 + 1, 0, none⟩ = some (.string nm) := hob.cell 0
      have o1 : wr.cell? ⟨w.heap.size + 1 + 1, 1, none⟩ = some (.slice Av qs.length cv) := hob.cell 1
      have o2 : wr.cell? ⟨w.heap.size + 1 + 1, 2, none⟩ = some (.slice Al nl cl) := hob.cell 2
      have hRb := HRB.out.below HI.out.below HRB.out.lt
      have x0 : wr.cell? ⟨w.heap.size + 1, 0, none⟩ = some (.string ⟨#[]⟩) := hRb.cell 0
      have x1 : wr.cell? ⟨w.heap.size + 1, 1, none⟩ = some (.slice none 0 0) := hRb.cell 1
      have x2 : wr.cell? ⟨w.heap.size + 1, 2, none⟩ = some (.slice none 0 0) := hRb.cell 2
      have z0 := hRb.frozen 0
      have z1 := hRb.frozen 1
      have z2 := hRb.frozen 2
      have hlow : w.heap.size + 1 < wB.heap.size + 1 := by have := HSB.out; omega
      have hbf := fun u0 u1 u2 => ((HBW.out.setCell (p := ⟨w.heap.size + 1, 0, none⟩) (Nat.le_succ _) u0).setCell (p := ⟨w.heap.size + 1, 1, none⟩) (Nat.le_succ _) u1).setCell (p := ⟨w.heap.size + 1, 2, none⟩) (Nat.le_succ _) u2
      have hpf : ∀ u0 u1 u2, Pars (((wr.setCell ⟨w.heap.size + 1, 0, none⟩ u0).setCell ⟨w.heap.size + 1, 1, none⟩ u1).setCell ⟨w.heap.size + 1, 2, none⟩ u2) (.slice Av qs.length cv) ps := fun u0 u1 u2 => by
        have h1 := HI.out.eq
        rw [List.take_length] at h1
        have h2 := pars_of_own (ownsRow_setCell_below (a := ⟨w.heap.size + 1, 2, none⟩) (ownsRow_setCell_below (a := ⟨w.heap.size + 1, 1, none⟩) (ownsRow_setCell_below (a := ⟨w.heap.size + 1, 0, none⟩) HI.out.own hlow u0) hlow u1) hlow u2) rfl (fun q hq => (HI.out.toks q hq).below (hbf u0 u1 u2))
        rwa [h1] at h2
      have HPF := Lib.hid hpf
      have HBF := Lib.hid hbf
      clear hob hRb hbf hpf hql
      go_wp2_with fail
      exact bodyPost_ret (v := .agg #[.string nm, .slice Av qs.length cv, .slice Al nl cl]) (by simp [results, Tryd.results19, go_sem, x0, x1, x2]) rfl ⟨⟨_, rfl, HPF.out _ _ _⟩, HBF.out _ _ _⟩
end Go.Proofs.YtbhfblogjlpnlabDoor
