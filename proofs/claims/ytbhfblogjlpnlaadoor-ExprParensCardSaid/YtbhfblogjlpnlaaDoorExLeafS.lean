/-
  The contract of the reader's leaf: names; and whole. Conditions: as those of the reader; a Local's scope is 0, and no text is longer than 100000 bytes.
-/
import Derived.Test.YtbhfblogjlpnlaaDoorExLeafN
namespace Go.Proofs.YtbhfblogjlpnlaaDoor
open Go.RowKit

set_option maxRecDepth 100000 in
set_option maxHeartbeats 4000000 in
theorem leaf_sym1 (w0 : World) (ts : List Tk6) (vt vn : Value) (ns : List Nd) (R i d : Nat) (t : Tk6) (hk : t.kind = 1) (hm : isT t.text [46] = false) (nm : ByteArray) (HS : Hid (∀ W, Calls Tryd.prog 105 #[t.val] W fun e w' => e = .returned (.string nm) ∧ Below W.heap.size W w')) (w : World) (hn : ns.length ≤ 100001) (hi : i ≤ 100000) (hb : RBlk w R vt i d vn) (hr : ERest w0 R ns vn w) :
    Calls Tryd.prog 91 #[.pointer (some ⟨R, 0, none⟩), t.val] w (EPost w0 ts vt R d (.inl (i + 1, ns ++ [⟨2, t.line, t.col, 0, nm⟩])) w) := by
  obtain ⟨i1, hi1, hz0, hz1, hz2⟩ := info_parts Tryd.infoNode
  obtain ⟨An, cn, rfl⟩ := own_shape hr.own
  have hib : (i : Int) ≤ 100000 := by omega
  have k5 : (t.kind == 5) = false := by rw [hk]; rfl
  have k1 : (t.kind == 1) = true := by rw [hk]; rfl
  have m1 : (t.text.toList == [46]) = false := hm
  clear hk hm
  obtain ⟨kb, kr, kw, kt, -⟩ := tok_world hb hr (Below.refl _ _) t
  have KK := Lib.hid (Keeps.of kw)
  clear hb hr kw
  go_enter Tryd.func91, Tryd.ntmps91
  go_wp2_with fail
  generalize (w.alloc (.cells #[.int .i64 t.kind, .int .i64 t.line, .int .i64 t.col, .string t.text, .int .u32 t.num, .int .i64 t.spare] 39)) = wA at kb kr kt KK ⊢
  generalize w.heap.size = g at kt ⊢
  have c3 : wA.cell? ⟨R, 3, none⟩ = some (.slice An ns.length cn) := kb.cell 3
  obtain ⟨t0, t1, t2, t3, t4, t5⟩ : wA.cell? ⟨g, 0, none⟩ = some (.int .i64 t.kind) ∧ wA.cell? ⟨g, 1, none⟩ = some (.int .i64 t.line) ∧ wA.cell? ⟨g, 2, none⟩ = some (.int .i64 t.col) ∧ wA.cell? ⟨g, 3, none⟩ = some (.string t.text) ∧ wA.cell? ⟨g, 4, none⟩ = some (.int .u32 t.num) ∧ wA.cell? ⟨g, 5, none⟩ = some (.int .i64 t.spare) := ⟨kt.cell 0, kt.cell 1, kt.cell 2, kt.cell 3, kt.cell 4, kt.cell 5⟩
  have KT := Lib.hid kt
  have KB := Lib.hid kb
  have KR := Lib.hid kr
  clear kb kr kt
  refine wp_region_held_drew (S := (fun W => W.cell? ⟨g, 0, none⟩ = some (.int .i64 t.kind) ∧ W.cell? ⟨g, 1, none⟩ = some (.int .i64 t.line) ∧ W.cell? ⟨g, 2, none⟩ = some (.int .i64 t.col) ∧ W.cell? ⟨g, 3, none⟩ = some (.string t.text) ∧ W.cell? ⟨g, 4, none⟩ = some (.int .u32 t.num) ∧ W.cell? ⟨g, 5, none⟩ = some (.int .i64 t.spare))) (by kernel_rfl) ⟨t0, t1, t2, t3, t4, t5⟩ (fun hHeld => ?_)
  refine wpAnyH_take (i := 0) (v := ?_) rfl (by kernel_rfl) (by kernel_rfl) (by kernel_rfl) (fun _ _ _ h => h) (Or.inl ⟨by rfl, ?_⟩) (by assumption) ?_
  rotate_left
  · intro w hSw
    try dsimp only at hSw
    go_simp
    try with_reducible rfl
  try simp only [Act.put, List.setIfInBounds_toArray]
  refine wpAnyH_take (i := 1) (v := ?_) rfl (by kernel_rfl) (by kernel_rfl) (by kernel_rfl) (fun _ _ _ h => h) (Or.inl ⟨by rfl, ?_⟩) (by assumption) ?_
  rotate_left
  · intro w hSw
    try dsimp only at hSw
    go_simp
    try with_reducible rfl
  try simp only [Act.put]
  refine wpAnyH_take (i := 2) (v := ?_) rfl (by kernel_rfl) (by kernel_rfl) (by kernel_rfl) (fun _ _ _ h => h) (Or.inl ⟨by rfl, ?_⟩) (by assumption) ?_
  rotate_left
  · intro w hSw
    try dsimp only at hSw
    go_simp
    try with_reducible rfl
  try simp only [Act.put]
  refine wpAnyH_take (i := 3) (v := ?_) rfl (by kernel_rfl) (by kernel_rfl) (by kernel_rfl) (fun _ _ _ h => h) (Or.inl ⟨by rfl, ?_⟩) (by assumption) ?_
  rotate_left
  · intro w hSw
    try dsimp only at hSw
    go_simp
    try with_reducible rfl
  try simp only [Act.put]
  refine wpAnyH_take (i := 5) (v := ?_) rfl (by kernel_rfl) (by kernel_rfl) (by kernel_rfl) (fun _ _ _ h => h) (Or.inl ⟨by rfl, ?_⟩) (by assumption) ?_
  rotate_left
  · intro w hSw
    try dsimp only at hSw
    go_simp
    try with_reducible rfl
  try simp only [Act.put]
  refine wpAnyH_take (i := 6) (v := ?_) rfl (by kernel_rfl) (by kernel_rfl) (by kernel_rfl) (fun _ _ _ h => h) (Or.inl ⟨by rfl, ?_⟩) (by assumption) ?_
  rotate_left
  · intro w hSw
    try dsimp only at hSw
    go_simp
    try with_reducible rfl
  try simp only [Act.put]
  refine wpAnyH_take (i := 7) (v := ?_) rfl (by kernel_rfl) (by kernel_rfl) (by kernel_rfl) (fun _ _ _ h => h) (Or.inl ⟨by rfl, ?_⟩) (by assumption) ?_
  rotate_left
  · intro w hSw
    try dsimp only at hSw
    go_simp
    try with_reducible rfl
  try simp only [Act.put]
  refine wpAnyH_take (i := 8) (v := ?_) rfl (by kernel_rfl) (by kernel_rfl) (by kernel_rfl) (fun _ _ _ h => h) (Or.inl ⟨by rfl, ?_⟩) (by assumption) ?_
  rotate_left
  · intro w hSw
    try dsimp only at hSw
    go_simp
    try with_reducible rfl
  try simp only [Act.put]
  refine wpAnyH_take (i := 9) (v := ?_) rfl (by kernel_rfl) (by kernel_rfl) (by kernel_rfl) (fun _ _ _ h => h) (Or.inl ⟨by rfl, ?_⟩) (by assumption) ?_
  rotate_left
  · intro w hSw
    try dsimp only at hSw
    go_simp
    try with_reducible rfl
  try simp only [Act.put]
  refine wpAnyH_ready (rs := [4, 10]) (by kernel_rfl) (by simp) ?_
  refine AllReadyH.cons (o := _) rfl (fun K hK => ?_) ?_
  · go_simp
    refine hK.out _ _ (by first | exact ⟨t0, t1, t2, t3, t4, t5⟩ | exact by assumption) (fun hHeld => ?_)
    clear hK K
    try simp only [Act.put, List.setIfInBounds_toArray, List.set_cons_zero, List.set_cons_succ]
    refine wpAnyH_ready (rs := [10]) (by kernel_rfl) (by simp) ?_
    refine AllReadyH.cons (o := _) rfl (fun K hK => ?_) ?_
    · go_simp
      refine (HS.out _).mono ?_
      rintro e w2 ⟨rfl, hb2⟩
      have hbb : Below wA.heap.size wA w2 := (Below.refl _ _).drew.trans hb2
      have HBB := Lib.hid hbb
      obtain ⟨p0, p1, p2, p3, p4, p5⟩ : w2.cell? ⟨g, 0, none⟩ = some (.int .i64 t.kind) ∧ w2.cell? ⟨g, 1, none⟩ = some (.int .i64 t.line) ∧ w2.cell? ⟨g, 2, none⟩ = some (.int .i64 t.col) ∧ w2.cell? ⟨g, 3, none⟩ = some (.string t.text) ∧ w2.cell? ⟨g, 4, none⟩ = some (.int .u32 t.num) ∧ w2.cell? ⟨g, 5, none⟩ = some (.int .i64 t.spare) := ⟨(KT.out.below hbb KT.out.lt).cell 0, (KT.out.below hbb KT.out.lt).cell 1, (KT.out.below hbb KT.out.lt).cell 2, (KT.out.below hbb KT.out.lt).cell 3, (KT.out.below hbb KT.out.lt).cell 4, (KT.out.below hbb KT.out.lt).cell 5⟩
      have pR : w2.cell? ⟨R, 3, none⟩ = some (.slice An ns.length cn) := (KB.out.next hbb).cell 3
      have u3 : ∀ o', (w2.alloc o').cell? ⟨R, 3, none⟩ = some (.slice An ns.length cn) := fun o' => ((KB.out.next HBB.out).next ((Below.refl _ _).alloc (Nat.le_refl _) _)).cell 3
      have UA : Hid (∀ o', (w2.alloc o').cell? ⟨g, 0, none⟩ = some (.int .i64 t.kind) ∧ (w2.alloc o').cell? ⟨g, 1, none⟩ = some (.int .i64 t.line) ∧ (w2.alloc o').cell? ⟨g, 2, none⟩ = some (.int .i64 t.col) ∧ (w2.alloc o').cell? ⟨g, 3, none⟩ = some (.string t.text) ∧ (w2.alloc o').cell? ⟨g, 4, none⟩ = some (.int .u32 t.num) ∧ (w2.alloc o').cell? ⟨g, 5, none⟩ = some (.int .i64 t.spare)) := Lib.hid (fun o' => by
        have h := (KT.out.below hbb KT.out.lt).alloc o'
        exact ⟨h.cell 0, h.cell 1, h.cell 2, h.cell 3, h.cell 4, h.cell 5⟩)
      clear hb2 hbb
      refine hK.out _ _ (by first | exact ⟨p0, p1, p2, p3, p4, p5⟩ | exact by assumption) (fun hHeld => ?_)
      clear hK K
      try simp only [Act.put, List.setIfInBounds_toArray, List.set_cons_zero, List.set_cons_succ]
      refine wpAnyH_take (i := 11) (v := ?_) rfl (by kernel_rfl) (by kernel_rfl) (by kernel_rfl) (fun _ _ _ h => h) (Or.inl ⟨by rfl, ?_⟩) (by assumption) ?_
      rotate_left
      · intro w hSw
        try dsimp only at hSw
        go_simp
        try with_reducible rfl
      try simp only [Act.put, List.setIfInBounds_toArray]
      refine wpAnyH_ready (rs := [12]) (by kernel_rfl) (by simp) ?_
      refine AllReadyH.cons (o := _) rfl (fun K hK => ?_) ?_
      · go_simp
        refine hK.out _ _ (by first | exact UA.out _ | exact by assumption) (fun hHeld => ?_)
        clear hK K
        try simp only [Act.put, List.setIfInBounds_toArray, List.set_cons_zero, List.set_cons_succ]
        refine wpAnyH_ready (rs := [13]) (by kernel_rfl) (by simp) ?_
        refine AllReadyH.cons (o := _) rfl (fun K hK => ?_) ?_
        · refine step_append_own_at rfl (.tmp 52) (.tmp 60) 43 rfl w0.heap.size 54 i1 (.agg #[.int .i64 0, .int .i64 0, .int .i64 0, .int .u32 0, .string ByteArray.empty]) 5 48 Tryd.underlying43 hi1 hz0 hz1 hz2 rfl (by decide) (.slice An ns.length cn) ns.length (ndCells ns) (by simp [Act.eval]) ((KR.out.next HBB.out).alloc _).own ⟨w2.heap.size, 0, none⟩ 1 1 [.int .i64 2, .int .i64 t.line, .int .i64 t.col, .int .u32 0, .string nm] (by simp [Act.eval]) rfl (cells_new _ #[.int .i64 2, .int .i64 t.line, .int .i64 t.col, .int .u32 0, .string nm] _ _ (by simp)) (by intro u hu; simp at hu; rcases hu with rfl | rfl | rfl | rfl | rfl <;> rfl) (by unfold maxLen; omega) (by omega) ((KR.out.next HBB.out).alloc _).below.size ?_
          intro v' w3 hown3 hg3 _ _
          obtain ⟨Av, cv, rfl⟩ := own_shape hown3
          have kb3 : RBlk w3 R vt i d (.slice An ns.length cn) := Blk.grown ((KB.out.next HBB.out).next ((Below.refl _ _).alloc (Nat.le_refl _) _)) hg3 (own_not_blk (KR.out.next HBB.out).own (KB.out.next HBB.out) (by decide))
          have k1 : w3.cell? ⟨R, 1, none⟩ = some (.int .i64 i) := kb3.cell 1
          have k3 : w3.cell? ⟨R, 3, none⟩ = some (.slice An ns.length cn) := kb3.cell 3
          have y1 := Blk.frozen kb3 1
          have y3 := Blk.frozen kb3 3
          have kr3 := ((KR.out.next HBB.out).alloc _).push (n := ⟨2, t.line, t.col, 0, nm⟩) hown3 hg3
          have kk2 := (Keeps.of (HBB.out.alloc HBB.out.size _)).trans (Keeps.grown ((KR.out.next HBB.out).alloc _).own hg3)
          have kk3 := KK.out.trans kk2
          have kt3 := kk2 _ _ _ (by decide) (by decide) KT.out
          obtain ⟨n0, n1, n2, n3, n4, n5⟩ : w3.cell? ⟨g, 0, none⟩ = some (.int .i64 t.kind) ∧ w3.cell? ⟨g, 1, none⟩ = some (.int .i64 t.line) ∧ w3.cell? ⟨g, 2, none⟩ = some (.int .i64 t.col) ∧ w3.cell? ⟨g, 3, none⟩ = some (.string t.text) ∧ w3.cell? ⟨g, 4, none⟩ = some (.int .u32 t.num) ∧ w3.cell? ⟨g, 5, none⟩ = some (.int .i64 t.spare) := ⟨kt3.cell 0, kt3.cell 1, kt3.cell 2, kt3.cell 3, kt3.cell 4, kt3.cell 5⟩
          have kt4 := kt3.far (p := ⟨R, 3, none⟩) (blk_ne kt3 kb3 (by decide)) (.slice Av (ns.length + 1) cv)
          obtain ⟨m0, m1', m2, m3, m4, m5⟩ : (w3.setCell ⟨R, 3, none⟩ (.slice Av (ns.length + 1) cv)).cell? ⟨g, 0, none⟩ = some (.int .i64 t.kind) ∧ (w3.setCell ⟨R, 3, none⟩ (.slice Av (ns.length + 1) cv)).cell? ⟨g, 1, none⟩ = some (.int .i64 t.line) ∧ (w3.setCell ⟨R, 3, none⟩ (.slice Av (ns.length + 1) cv)).cell? ⟨g, 2, none⟩ = some (.int .i64 t.col) ∧ (w3.setCell ⟨R, 3, none⟩ (.slice Av (ns.length + 1) cv)).cell? ⟨g, 3, none⟩ = some (.string t.text) ∧ (w3.setCell ⟨R, 3, none⟩ (.slice Av (ns.length + 1) cv)).cell? ⟨g, 4, none⟩ = some (.int .u32 t.num) ∧ (w3.setCell ⟨R, 3, none⟩ (.slice Av (ns.length + 1) cv)).cell? ⟨g, 5, none⟩ = some (.int .i64 t.spare) := ⟨kt4.cell 0, kt4.cell 1, kt4.cell 2, kt4.cell 3, kt4.cell 4, kt4.cell 5⟩
          clear kt3 kt4 kk2
          refine hK.out _ _ (by first | exact ⟨n0, n1, n2, n3, n4, n5⟩ | exact by assumption) (fun hHeld => ?_)
          clear hK K
          try simp only [Act.put, List.setIfInBounds_toArray]
          refine wpAnyH_take (i := 14) (v := ?_) rfl (by kernel_rfl) (by kernel_rfl) (by kernel_rfl) (fun _ _ _ h => h) (Or.inl ⟨by rfl, ?_⟩) (by assumption) ?_
          rotate_left
          · intro w hSw
            try dsimp only at hSw
            go_simp
            try with_reducible rfl
          try simp only [Act.put]
          refine wpAnyH_take (i := 15) (v := ?_) rfl (by kernel_rfl) (by kernel_rfl) (by kernel_rfl) (fun _ _ _ h => h) (Or.inl ⟨by rfl, ?_⟩) (by assumption) ?_
          rotate_left
          · intro w hSw
            try dsimp only at hSw
            go_simp
            try with_reducible rfl
          try simp only [Act.put]
          refine wpAnyH_ready (rs := [16]) (by kernel_rfl) (by simp) ?_
          refine AllReadyH.cons (o := _) rfl (fun K hK => ?_) ?_
          · go_simp
            refine hK.out _ _ (by first | exact ⟨m0, m1', m2, m3, m4, m5⟩ | exact by assumption) (fun hHeld => ?_)
            clear hK K
            try simp only [Act.put, List.setIfInBounds_toArray, List.set_cons_zero, List.set_cons_succ]
            refine wpAnyH_done (by kernel_rfl) ?_ _
            have KB3 := Lib.hid kb3
            have KR3 := Lib.hid kr3
            have KK3 := Lib.hid kk3
            clear kb3 kr3 kk3 hown3 hg3
            go_wp2_with fail
            go_ret
            exact ⟨⟨rfl, .slice Av (ns.length + 1) cv, (KB3.out.set3 _).set1 (i + 1) _ rfl, (KR3.out.set 3 _).set 1 _⟩, KK3.out.trans ((Keeps.set KB3.out _).trans (Keeps.set (KB3.out.set3 _) _))⟩
          exact AllReadyH.nil
        exact AllReadyH.nil
      exact AllReadyH.nil
    exact AllReadyH.nil
  refine AllReadyH.cons (o := _) rfl (fun K hK => ?_) ?_
  · go_simp
    refine (HS.out _).mono ?_
    rintro e w2 ⟨rfl, hb2⟩
    have hbb : Below wA.heap.size wA w2 := (Below.refl _ _).drew.trans hb2
    have HBB := Lib.hid hbb
    obtain ⟨p0, p1, p2, p3, p4, p5⟩ : w2.cell? ⟨g, 0, none⟩ = some (.int .i64 t.kind) ∧ w2.cell? ⟨g, 1, none⟩ = some (.int .i64 t.line) ∧ w2.cell? ⟨g, 2, none⟩ = some (.int .i64 t.col) ∧ w2.cell? ⟨g, 3, none⟩ = some (.string t.text) ∧ w2.cell? ⟨g, 4, none⟩ = some (.int .u32 t.num) ∧ w2.cell? ⟨g, 5, none⟩ = some (.int .i64 t.spare) := ⟨(KT.out.below hbb KT.out.lt).cell 0, (KT.out.below hbb KT.out.lt).cell 1, (KT.out.below hbb KT.out.lt).cell 2, (KT.out.below hbb KT.out.lt).cell 3, (KT.out.below hbb KT.out.lt).cell 4, (KT.out.below hbb KT.out.lt).cell 5⟩
    have pR : w2.cell? ⟨R, 3, none⟩ = some (.slice An ns.length cn) := (KB.out.next hbb).cell 3
    have u3 : ∀ o', (w2.alloc o').cell? ⟨R, 3, none⟩ = some (.slice An ns.length cn) := fun o' => ((KB.out.next HBB.out).next ((Below.refl _ _).alloc (Nat.le_refl _) _)).cell 3
    have UA : Hid (∀ o', (w2.alloc o').cell? ⟨g, 0, none⟩ = some (.int .i64 t.kind) ∧ (w2.alloc o').cell? ⟨g, 1, none⟩ = some (.int .i64 t.line) ∧ (w2.alloc o').cell? ⟨g, 2, none⟩ = some (.int .i64 t.col) ∧ (w2.alloc o').cell? ⟨g, 3, none⟩ = some (.string t.text) ∧ (w2.alloc o').cell? ⟨g, 4, none⟩ = some (.int .u32 t.num) ∧ (w2.alloc o').cell? ⟨g, 5, none⟩ = some (.int .i64 t.spare)) := Lib.hid (fun o' => by
      have h := (KT.out.below hbb KT.out.lt).alloc o'
      exact ⟨h.cell 0, h.cell 1, h.cell 2, h.cell 3, h.cell 4, h.cell 5⟩)
    clear hb2 hbb
    refine hK.out _ _ (by first | exact ⟨p0, p1, p2, p3, p4, p5⟩ | exact by assumption) (fun hHeld => ?_)
    clear hK K
    try simp only [Act.put, List.setIfInBounds_toArray, List.set_cons_zero, List.set_cons_succ]
    refine wpAnyH_take (i := 11) (v := ?_) rfl (by kernel_rfl) (by kernel_rfl) (by kernel_rfl) (fun _ _ _ h => h) (Or.inl ⟨by rfl, ?_⟩) (by assumption) ?_
    rotate_left
    · intro w hSw
      try dsimp only at hSw
      go_simp
      try with_reducible rfl
    try simp only [Act.put, List.setIfInBounds_toArray]
    refine wpAnyH_ready (rs := [4, 12]) (by kernel_rfl) (by simp) ?_
    refine AllReadyH.cons (o := _) rfl (fun K hK => ?_) ?_
    · go_simp
      refine hK.out _ _ (by first | exact ⟨p0, p1, p2, p3, p4, p5⟩ | exact by assumption) (fun hHeld => ?_)
      clear hK K
      try simp only [Act.put, List.setIfInBounds_toArray, List.set_cons_zero, List.set_cons_succ]
      refine wpAnyH_ready (rs := [12]) (by kernel_rfl) (by simp) ?_
      refine AllReadyH.cons (o := _) rfl (fun K hK => ?_) ?_
      · go_simp
        refine hK.out _ _ (by first | exact UA.out _ | exact by assumption) (fun hHeld => ?_)
        clear hK K
        try simp only [Act.put, List.setIfInBounds_toArray, List.set_cons_zero, List.set_cons_succ]
        refine wpAnyH_ready (rs := [13]) (by kernel_rfl) (by simp) ?_
        refine AllReadyH.cons (o := _) rfl (fun K hK => ?_) ?_
        · refine step_append_own_at rfl (.tmp 52) (.tmp 60) 43 rfl w0.heap.size 54 i1 (.agg #[.int .i64 0, .int .i64 0, .int .i64 0, .int .u32 0, .string ByteArray.empty]) 5 48 Tryd.underlying43 hi1 hz0 hz1 hz2 rfl (by decide) (.slice An ns.length cn) ns.length (ndCells ns) (by simp [Act.eval]) ((KR.out.next HBB.out).alloc _).own ⟨w2.heap.size, 0, none⟩ 1 1 [.int .i64 2, .int .i64 t.line, .int .i64 t.col, .int .u32 0, .string nm] (by simp [Act.eval]) rfl (cells_new _ #[.int .i64 2, .int .i64 t.line, .int .i64 t.col, .int .u32 0, .string nm] _ _ (by simp)) (by intro u hu; simp at hu; rcases hu with rfl | rfl | rfl | rfl | rfl <;> rfl) (by unfold maxLen; omega) (by omega) ((KR.out.next HBB.out).alloc _).below.size ?_
          intro v' w3 hown3 hg3 _ _
          obtain ⟨Av, cv, rfl⟩ := own_shape hown3
          have kb3 : RBlk w3 R vt i d (.slice An ns.length cn) := Blk.grown ((KB.out.next HBB.out).next ((Below.refl _ _).alloc (Nat.le_refl _) _)) hg3 (own_not_blk (KR.out.next HBB.out).own (KB.out.next HBB.out) (by decide))
          have k1 : w3.cell? ⟨R, 1, none⟩ = some (.int .i64 i) := kb3.cell 1
          have k3 : w3.cell? ⟨R, 3, none⟩ = some (.slice An ns.length cn) := kb3.cell 3
          have y1 := Blk.frozen kb3 1
          have y3 := Blk.frozen kb3 3
          have kr3 := ((KR.out.next HBB.out).alloc _).push (n := ⟨2, t.line, t.col, 0, nm⟩) hown3 hg3
          have kk2 := (Keeps.of (HBB.out.alloc HBB.out.size _)).trans (Keeps.grown ((KR.out.next HBB.out).alloc _).own hg3)
          have kk3 := KK.out.trans kk2
          have kt3 := kk2 _ _ _ (by decide) (by decide) KT.out
          obtain ⟨n0, n1, n2, n3, n4, n5⟩ : w3.cell? ⟨g, 0, none⟩ = some (.int .i64 t.kind) ∧ w3.cell? ⟨g, 1, none⟩ = some (.int .i64 t.line) ∧ w3.cell? ⟨g, 2, none⟩ = some (.int .i64 t.col) ∧ w3.cell? ⟨g, 3, none⟩ = some (.string t.text) ∧ w3.cell? ⟨g, 4, none⟩ = some (.int .u32 t.num) ∧ w3.cell? ⟨g, 5, none⟩ = some (.int .i64 t.spare) := ⟨kt3.cell 0, kt3.cell 1, kt3.cell 2, kt3.cell 3, kt3.cell 4, kt3.cell 5⟩
          have kt4 := kt3.far (p := ⟨R, 3, none⟩) (blk_ne kt3 kb3 (by decide)) (.slice Av (ns.length + 1) cv)
          obtain ⟨m0, m1', m2, m3, m4, m5⟩ : (w3.setCell ⟨R, 3, none⟩ (.slice Av (ns.length + 1) cv)).cell? ⟨g, 0, none⟩ = some (.int .i64 t.kind) ∧ (w3.setCell ⟨R, 3, none⟩ (.slice Av (ns.length + 1) cv)).cell? ⟨g, 1, none⟩ = some (.int .i64 t.line) ∧ (w3.setCell ⟨R, 3, none⟩ (.slice Av (ns.length + 1) cv)).cell? ⟨g, 2, none⟩ = some (.int .i64 t.col) ∧ (w3.setCell ⟨R, 3, none⟩ (.slice Av (ns.length + 1) cv)).cell? ⟨g, 3, none⟩ = some (.string t.text) ∧ (w3.setCell ⟨R, 3, none⟩ (.slice Av (ns.length + 1) cv)).cell? ⟨g, 4, none⟩ = some (.int .u32 t.num) ∧ (w3.setCell ⟨R, 3, none⟩ (.slice Av (ns.length + 1) cv)).cell? ⟨g, 5, none⟩ = some (.int .i64 t.spare) := ⟨kt4.cell 0, kt4.cell 1, kt4.cell 2, kt4.cell 3, kt4.cell 4, kt4.cell 5⟩
          clear kt3 kt4 kk2
          refine hK.out _ _ (by first | exact ⟨n0, n1, n2, n3, n4, n5⟩ | exact by assumption) (fun hHeld => ?_)
          clear hK K
          try simp only [Act.put, List.setIfInBounds_toArray]
          refine wpAnyH_take (i := 14) (v := ?_) rfl (by kernel_rfl) (by kernel_rfl) (by kernel_rfl) (fun _ _ _ h => h) (Or.inl ⟨by rfl, ?_⟩) (by assumption) ?_
          rotate_left
          · intro w hSw
            try dsimp only at hSw
            go_simp
            try with_reducible rfl
          try simp only [Act.put]
          refine wpAnyH_take (i := 15) (v := ?_) rfl (by kernel_rfl) (by kernel_rfl) (by kernel_rfl) (fun _ _ _ h => h) (Or.inl ⟨by rfl, ?_⟩) (by assumption) ?_
          rotate_left
          · intro w hSw
            try dsimp only at hSw
            go_simp
            try with_reducible rfl
          try simp only [Act.put]
          refine wpAnyH_ready (rs := [16]) (by kernel_rfl) (by simp) ?_
          refine AllReadyH.cons (o := _) rfl (fun K hK => ?_) ?_
          · go_simp
            refine hK.out _ _ (by first | exact ⟨m0, m1', m2, m3, m4, m5⟩ | exact by assumption) (fun hHeld => ?_)
            clear hK K
            try simp only [Act.put, List.setIfInBounds_toArray, List.set_cons_zero, List.set_cons_succ]
            refine wpAnyH_done (by kernel_rfl) ?_ _
            have KB3 := Lib.hid kb3
            have KR3 := Lib.hid kr3
            have KK3 := Lib.hid kk3
            clear kb3 kr3 kk3 hown3 hg3
            go_wp2_with fail
            go_ret
            exact ⟨⟨rfl, .slice Av (ns.length + 1) cv, (KB3.out.set3 _).set1 (i + 1) _ rfl, (KR3.out.set 3 _).set 1 _⟩, KK3.out.trans ((Keeps.set KB3.out _).trans (Keeps.set (KB3.out.set3 _) _))⟩
          exact AllReadyH.nil
        exact AllReadyH.nil
      exact AllReadyH.nil
    refine AllReadyH.cons (o := _) rfl (fun K hK => ?_) ?_
    · go_simp
      refine hK.out _ _ (by first | exact UA.out _ | exact by assumption) (fun hHeld => ?_)
      clear hK K
      try simp only [Act.put, List.setIfInBounds_toArray, List.set_cons_zero, List.set_cons_succ]
      refine wpAnyH_ready (rs := [4]) (by kernel_rfl) (by simp) ?_
      refine AllReadyH.cons (o := _) rfl (fun K hK => ?_) ?_
      · go_simp
        refine hK.out _ _ (by first | exact UA.out _ | exact by assumption) (fun hHeld => ?_)
        clear hK K
        try simp only [Act.put, List.setIfInBounds_toArray, List.set_cons_zero, List.set_cons_succ]
        refine wpAnyH_ready (rs := [13]) (by kernel_rfl) (by simp) ?_
        refine AllReadyH.cons (o := _) rfl (fun K hK => ?_) ?_
        · refine step_append_own_at rfl (.tmp 52) (.tmp 60) 43 rfl w0.heap.size 54 i1 (.agg #[.int .i64 0, .int .i64 0, .int .i64 0, .int .u32 0, .string ByteArray.empty]) 5 48 Tryd.underlying43 hi1 hz0 hz1 hz2 rfl (by decide) (.slice An ns.length cn) ns.length (ndCells ns) (by simp [Act.eval]) ((KR.out.next HBB.out).alloc _).own ⟨w2.heap.size, 0, none⟩ 1 1 [.int .i64 2, .int .i64 t.line, .int .i64 t.col, .int .u32 0, .string nm] (by simp [Act.eval]) rfl (cells_new _ #[.int .i64 2, .int .i64 t.line, .int .i64 t.col, .int .u32 0, .string nm] _ _ (by simp)) (by intro u hu; simp at hu; rcases hu with rfl | rfl | rfl | rfl | rfl <;> rfl) (by unfold maxLen; omega) (by omega) ((KR.out.next HBB.out).alloc _).below.size ?_
          intro v' w3 hown3 hg3 _ _
          obtain ⟨Av, cv, rfl⟩ := own_shape hown3
          have kb3 : RBlk w3 R vt i d (.slice An ns.length cn) := Blk.grown ((KB.out.next HBB.out).next ((Below.refl _ _).alloc (Nat.le_refl _) _)) hg3 (own_not_blk (KR.out.next HBB.out).own (KB.out.next HBB.out) (by decide))
          have k1 : w3.cell? ⟨R, 1, none⟩ = some (.int .i64 i) := kb3.cell 1
          have k3 : w3.cell? ⟨R, 3, none⟩ = some (.slice An ns.length cn) := kb3.cell 3
          have y1 := Blk.frozen kb3 1
          have y3 := Blk.frozen kb3 3
          have kr3 := ((KR.out.next HBB.out).alloc _).push (n := ⟨2, t.line, t.col, 0, nm⟩) hown3 hg3
          have kk2 := (Keeps.of (HBB.out.alloc HBB.out.size _)).trans (Keeps.grown ((KR.out.next HBB.out).alloc _).own hg3)
          have kk3 := KK.out.trans kk2
          have kt3 := kk2 _ _ _ (by decide) (by decide) KT.out
          obtain ⟨n0, n1, n2, n3, n4, n5⟩ : w3.cell? ⟨g, 0, none⟩ = some (.int .i64 t.kind) ∧ w3.cell? ⟨g, 1, none⟩ = some (.int .i64 t.line) ∧ w3.cell? ⟨g, 2, none⟩ = some (.int .i64 t.col) ∧ w3.cell? ⟨g, 3, none⟩ = some (.string t.text) ∧ w3.cell? ⟨g, 4, none⟩ = some (.int .u32 t.num) ∧ w3.cell? ⟨g, 5, none⟩ = some (.int .i64 t.spare) := ⟨kt3.cell 0, kt3.cell 1, kt3.cell 2, kt3.cell 3, kt3.cell 4, kt3.cell 5⟩
          have kt4 := kt3.far (p := ⟨R, 3, none⟩) (blk_ne kt3 kb3 (by decide)) (.slice Av (ns.length + 1) cv)
          obtain ⟨m0, m1', m2, m3, m4, m5⟩ : (w3.setCell ⟨R, 3, none⟩ (.slice Av (ns.length + 1) cv)).cell? ⟨g, 0, none⟩ = some (.int .i64 t.kind) ∧ (w3.setCell ⟨R, 3, none⟩ (.slice Av (ns.length + 1) cv)).cell? ⟨g, 1, none⟩ = some (.int .i64 t.line) ∧ (w3.setCell ⟨R, 3, none⟩ (.slice Av (ns.length + 1) cv)).cell? ⟨g, 2, none⟩ = some (.int .i64 t.col) ∧ (w3.setCell ⟨R, 3, none⟩ (.slice Av (ns.length + 1) cv)).cell? ⟨g, 3, none⟩ = some (.string t.text) ∧ (w3.setCell ⟨R, 3, none⟩ (.slice Av (ns.length + 1) cv)).cell? ⟨g, 4, none⟩ = some (.int .u32 t.num) ∧ (w3.setCell ⟨R, 3, none⟩ (.slice Av (ns.length + 1) cv)).cell? ⟨g, 5, none⟩ = some (.int .i64 t.spare) := ⟨kt4.cell 0, kt4.cell 1, kt4.cell 2, kt4.cell 3, kt4.cell 4, kt4.cell 5⟩
          clear kt3 kt4 kk2
          refine hK.out _ _ (by first | exact ⟨n0, n1, n2, n3, n4, n5⟩ | exact by assumption) (fun hHeld => ?_)
          clear hK K
          try simp only [Act.put, List.setIfInBounds_toArray]
          refine wpAnyH_take (i := 14) (v := ?_) rfl (by kernel_rfl) (by kernel_rfl) (by kernel_rfl) (fun _ _ _ h => h) (Or.inl ⟨by rfl, ?_⟩) (by assumption) ?_
          rotate_left
          · intro w hSw
            try dsimp only at hSw
            go_simp
            try with_reducible rfl
          try simp only [Act.put]
          refine wpAnyH_take (i := 15) (v := ?_) rfl (by kernel_rfl) (by kernel_rfl) (by kernel_rfl) (fun _ _ _ h => h) (Or.inl ⟨by rfl, ?_⟩) (by assumption) ?_
          rotate_left
          · intro w hSw
            try dsimp only at hSw
            go_simp
            try with_reducible rfl
          try simp only [Act.put]
          refine wpAnyH_ready (rs := [16]) (by kernel_rfl) (by simp) ?_
          refine AllReadyH.cons (o := _) rfl (fun K hK => ?_) ?_
          · go_simp
            refine hK.out _ _ (by first | exact ⟨m0, m1', m2, m3, m4, m5⟩ | exact by assumption) (fun hHeld => ?_)
            clear hK K
            try simp only [Act.put, List.setIfInBounds_toArray, List.set_cons_zero, List.set_cons_succ]
            refine wpAnyH_done (by kernel_rfl) ?_ _
            have KB3 := Lib.hid kb3
            have KR3 := Lib.hid kr3
            have KK3 := Lib.hid kk3
            clear kb3 kr3 kk3 hown3 hg3
            go_wp2_with fail
            go_ret
            exact ⟨⟨rfl, .slice Av (ns.length + 1) cv, (KB3.out.set3 _).set1 (i + 1) _ rfl, (KR3.out.set 3 _).set 1 _⟩, KK3.out.trans ((Keeps.set KB3.out _).trans (Keeps.set (KB3.out.set3 _) _))⟩
          exact AllReadyH.nil
        exact AllReadyH.nil
      exact AllReadyH.nil
    exact AllReadyH.nil
  exact AllReadyH.nil

set_option maxRecDepth 100000 in
set_option maxHeartbeats 4000000 in
theorem leaf_sym2 (w0 : World) (ts : List Tk6) (vt vn : Value) (ns : List Nd) (R i d : Nat) (t : Tk6) (hk : t.kind = 2) (nm : ByteArray) (HS : Hid (∀ W, Calls Tryd.prog 105 #[t.val] W fun e w' => e = .returned (.string nm) ∧ Below W.heap.size W w')) (w : World) (hn : ns.length ≤ 100001) (hi : i ≤ 100000) (hb : RBlk w R vt i d vn) (hr : ERest w0 R ns vn w) :
    Calls Tryd.prog 91 #[.pointer (some ⟨R, 0, none⟩), t.val] w (EPost w0 ts vt R d (.inl (i + 1, ns ++ [⟨2, t.line, t.col, 0, nm⟩])) w) := by
  obtain ⟨i1, hi1, hz0, hz1, hz2⟩ := info_parts Tryd.infoNode
  obtain ⟨An, cn, rfl⟩ := own_shape hr.own
  have hib : (i : Int) ≤ 100000 := by omega
  have k5 : (t.kind == 5) = false := by rw [hk]; rfl
  have k1 : (t.kind == 1) = false := by rw [hk]; rfl
  have k2 : (t.kind == 2) = true := by rw [hk]; rfl
  clear hk
  obtain ⟨kb, kr, kw, kt, -⟩ := tok_world hb hr (Below.refl _ _) t
  have KK := Lib.hid (Keeps.of kw)
  clear hb hr kw
  go_enter Tryd.func91, Tryd.ntmps91
  go_wp2_with fail
  generalize (w.alloc (.cells #[.int .i64 t.kind, .int .i64 t.line, .int .i64 t.col, .string t.text, .int .u32 t.num, .int .i64 t.spare] 39)) = wA at kb kr kt KK ⊢
  generalize w.heap.size = g at kt ⊢
  have c3 : wA.cell? ⟨R, 3, none⟩ = some (.slice An ns.length cn) := kb.cell 3
  obtain ⟨t0, t1, t2, t3, t4, t5⟩ : wA.cell? ⟨g, 0, none⟩ = some (.int .i64 t.kind) ∧ wA.cell? ⟨g, 1, none⟩ = some (.int .i64 t.line) ∧ wA.cell? ⟨g, 2, none⟩ = some (.int .i64 t.col) ∧ wA.cell? ⟨g, 3, none⟩ = some (.string t.text) ∧ wA.cell? ⟨g, 4, none⟩ = some (.int .u32 t.num) ∧ wA.cell? ⟨g, 5, none⟩ = some (.int .i64 t.spare) := ⟨kt.cell 0, kt.cell 1, kt.cell 2, kt.cell 3, kt.cell 4, kt.cell 5⟩
  have KT := Lib.hid kt
  have KB := Lib.hid kb
  have KR := Lib.hid kr
  clear kb kr kt
  refine wp_region_held_drew (S := (fun W => W.cell? ⟨g, 0, none⟩ = some (.int .i64 t.kind) ∧ W.cell? ⟨g, 1, none⟩ = some (.int .i64 t.line) ∧ W.cell? ⟨g, 2, none⟩ = some (.int .i64 t.col) ∧ W.cell? ⟨g, 3, none⟩ = some (.string t.text) ∧ W.cell? ⟨g, 4, none⟩ = some (.int .u32 t.num) ∧ W.cell? ⟨g, 5, none⟩ = some (.int .i64 t.spare))) (by kernel_rfl) ⟨t0, t1, t2, t3, t4, t5⟩ (fun hHeld => ?_)
  refine wpAnyH_take (i := 0) (v := ?_) rfl (by kernel_rfl) (by kernel_rfl) (by kernel_rfl) (fun _ _ _ h => h) (Or.inl ⟨by rfl, ?_⟩) (by assumption) ?_
  rotate_left
  · intro w hSw
    try dsimp only at hSw
    go_simp
    try with_reducible rfl
  try simp only [Act.put, List.setIfInBounds_toArray]
  refine wpAnyH_take (i := 1) (v := ?_) rfl (by kernel_rfl) (by kernel_rfl) (by kernel_rfl) (fun _ _ _ h => h) (Or.inl ⟨by rfl, ?_⟩) (by assumption) ?_
  rotate_left
  · intro w hSw
    try dsimp only at hSw
    go_simp
    try with_reducible rfl
  try simp only [Act.put]
  refine wpAnyH_take (i := 2) (v := ?_) rfl (by kernel_rfl) (by kernel_rfl) (by kernel_rfl) (fun _ _ _ h => h) (Or.inl ⟨by rfl, ?_⟩) (by assumption) ?_
  rotate_left
  · intro w hSw
    try dsimp only at hSw
    go_simp
    try with_reducible rfl
  try simp only [Act.put]
  refine wpAnyH_take (i := 3) (v := ?_) rfl (by kernel_rfl) (by kernel_rfl) (by kernel_rfl) (fun _ _ _ h => h) (Or.inl ⟨by rfl, ?_⟩) (by assumption) ?_
  rotate_left
  · intro w hSw
    try dsimp only at hSw
    go_simp
    try with_reducible rfl
  try simp only [Act.put]
  refine wpAnyH_take (i := 5) (v := ?_) rfl (by kernel_rfl) (by kernel_rfl) (by kernel_rfl) (fun _ _ _ h => h) (Or.inl ⟨by rfl, ?_⟩) (by assumption) ?_
  rotate_left
  · intro w hSw
    try dsimp only at hSw
    go_simp
    try with_reducible rfl
  try simp only [Act.put]
  refine wpAnyH_take (i := 6) (v := ?_) rfl (by kernel_rfl) (by kernel_rfl) (by kernel_rfl) (fun _ _ _ h => h) (Or.inl ⟨by rfl, ?_⟩) (by assumption) ?_
  rotate_left
  · intro w hSw
    try dsimp only at hSw
    go_simp
    try with_reducible rfl
  try simp only [Act.put]
  refine wpAnyH_take (i := 7) (v := ?_) rfl (by kernel_rfl) (by kernel_rfl) (by kernel_rfl) (fun _ _ _ h => h) (Or.inl ⟨by rfl, ?_⟩) (by assumption) ?_
  rotate_left
  · intro w hSw
    try dsimp only at hSw
    go_simp
    try with_reducible rfl
  try simp only [Act.put]
  refine wpAnyH_take (i := 8) (v := ?_) rfl (by kernel_rfl) (by kernel_rfl) (by kernel_rfl) (fun _ _ _ h => h) (Or.inl ⟨by rfl, ?_⟩) (by assumption) ?_
  rotate_left
  · intro w hSw
    try dsimp only at hSw
    go_simp
    try with_reducible rfl
  try simp only [Act.put]
  refine wpAnyH_take (i := 9) (v := ?_) rfl (by kernel_rfl) (by kernel_rfl) (by kernel_rfl) (fun _ _ _ h => h) (Or.inl ⟨by rfl, ?_⟩) (by assumption) ?_
  rotate_left
  · intro w hSw
    try dsimp only at hSw
    go_simp
    try with_reducible rfl
  try simp only [Act.put]
  refine wpAnyH_ready (rs := [4, 10]) (by kernel_rfl) (by simp) ?_
  refine AllReadyH.cons (o := _) rfl (fun K hK => ?_) ?_
  · go_simp
    refine hK.out _ _ (by first | exact ⟨t0, t1, t2, t3, t4, t5⟩ | exact by assumption) (fun hHeld => ?_)
    clear hK K
    try simp only [Act.put, List.setIfInBounds_toArray, List.set_cons_zero, List.set_cons_succ]
    refine wpAnyH_ready (rs := [10]) (by kernel_rfl) (by simp) ?_
    refine AllReadyH.cons (o := _) rfl (fun K hK => ?_) ?_
    · go_simp
      refine (HS.out _).mono ?_
      rintro e w2 ⟨rfl, hb2⟩
      have hbb : Below wA.heap.size wA w2 := (Below.refl _ _).drew.trans hb2
      have HBB := Lib.hid hbb
      obtain ⟨p0, p1, p2, p3, p4, p5⟩ : w2.cell? ⟨g, 0, none⟩ = some (.int .i64 t.kind) ∧ w2.cell? ⟨g, 1, none⟩ = some (.int .i64 t.line) ∧ w2.cell? ⟨g, 2, none⟩ = some (.int .i64 t.col) ∧ w2.cell? ⟨g, 3, none⟩ = some (.string t.text) ∧ w2.cell? ⟨g, 4, none⟩ = some (.int .u32 t.num) ∧ w2.cell? ⟨g, 5, none⟩ = some (.int .i64 t.spare) := ⟨(KT.out.below hbb KT.out.lt).cell 0, (KT.out.below hbb KT.out.lt).cell 1, (KT.out.below hbb KT.out.lt).cell 2, (KT.out.below hbb KT.out.lt).cell 3, (KT.out.below hbb KT.out.lt).cell 4, (KT.out.below hbb KT.out.lt).cell 5⟩
      have pR : w2.cell? ⟨R, 3, none⟩ = some (.slice An ns.length cn) := (KB.out.next hbb).cell 3
      have u3 : ∀ o', (w2.alloc o').cell? ⟨R, 3, none⟩ = some (.slice An ns.length cn) := fun o' => ((KB.out.next HBB.out).next ((Below.refl _ _).alloc (Nat.le_refl _) _)).cell 3
      have UA : Hid (∀ o', (w2.alloc o').cell? ⟨g, 0, none⟩ = some (.int .i64 t.kind) ∧ (w2.alloc o').cell? ⟨g, 1, none⟩ = some (.int .i64 t.line) ∧ (w2.alloc o').cell? ⟨g, 2, none⟩ = some (.int .i64 t.col) ∧ (w2.alloc o').cell? ⟨g, 3, none⟩ = some (.string t.text) ∧ (w2.alloc o').cell? ⟨g, 4, none⟩ = some (.int .u32 t.num) ∧ (w2.alloc o').cell? ⟨g, 5, none⟩ = some (.int .i64 t.spare)) := Lib.hid (fun o' => by
        have h := (KT.out.below hbb KT.out.lt).alloc o'
        exact ⟨h.cell 0, h.cell 1, h.cell 2, h.cell 3, h.cell 4, h.cell 5⟩)
      clear hb2 hbb
      refine hK.out _ _ (by first | exact ⟨p0, p1, p2, p3, p4, p5⟩ | exact by assumption) (fun hHeld => ?_)
      clear hK K
      try simp only [Act.put, List.setIfInBounds_toArray, List.set_cons_zero, List.set_cons_succ]
      refine wpAnyH_take (i := 11) (v := ?_) rfl (by kernel_rfl) (by kernel_rfl) (by kernel_rfl) (fun _ _ _ h => h) (Or.inl ⟨by rfl, ?_⟩) (by assumption) ?_
      rotate_left
      · intro w hSw
        try dsimp only at hSw
        go_simp
        try with_reducible rfl
      try simp only [Act.put, List.setIfInBounds_toArray]
      refine wpAnyH_ready (rs := [12]) (by kernel_rfl) (by simp) ?_
      refine AllReadyH.cons (o := _) rfl (fun K hK => ?_) ?_
      · go_simp
        refine hK.out _ _ (by first | exact UA.out _ | exact by assumption) (fun hHeld => ?_)
        clear hK K
        try simp only [Act.put, List.setIfInBounds_toArray, List.set_cons_zero, List.set_cons_succ]
        refine wpAnyH_ready (rs := [13]) (by kernel_rfl) (by simp) ?_
        refine AllReadyH.cons (o := _) rfl (fun K hK => ?_) ?_
        · refine step_append_own_at rfl (.tmp 52) (.tmp 60) 43 rfl w0.heap.size 54 i1 (.agg #[.int .i64 0, .int .i64 0, .int .i64 0, .int .u32 0, .string ByteArray.empty]) 5 48 Tryd.underlying43 hi1 hz0 hz1 hz2 rfl (by decide) (.slice An ns.length cn) ns.length (ndCells ns) (by simp [Act.eval]) ((KR.out.next HBB.out).alloc _).own ⟨w2.heap.size, 0, none⟩ 1 1 [.int .i64 2, .int .i64 t.line, .int .i64 t.col, .int .u32 0, .string nm] (by simp [Act.eval]) rfl (cells_new _ #[.int .i64 2, .int .i64 t.line, .int .i64 t.col, .int .u32 0, .string nm] _ _ (by simp)) (by intro u hu; simp at hu; rcases hu with rfl | rfl | rfl | rfl | rfl <;> rfl) (by unfold maxLen; omega) (by omega) ((KR.out.next HBB.out).alloc _).below.size ?_
          intro v' w3 hown3 hg3 _ _
          obtain ⟨Av, cv, rfl⟩ := own_shape hown3
          have kb3 : RBlk w3 R vt i d (.slice An ns.length cn) := Blk.grown ((KB.out.next HBB.out).next ((Below.refl _ _).alloc (Nat.le_refl _) _)) hg3 (own_not_blk (KR.out.next HBB.out).own (KB.out.next HBB.out) (by decide))
          have k1 : w3.cell? ⟨R, 1, none⟩ = some (.int .i64 i) := kb3.cell 1
          have k3 : w3.cell? ⟨R, 3, none⟩ = some (.slice An ns.length cn) := kb3.cell 3
          have y1 := Blk.frozen kb3 1
          have y3 := Blk.frozen kb3 3
          have kr3 := ((KR.out.next HBB.out).alloc _).push (n := ⟨2, t.line, t.col, 0, nm⟩) hown3 hg3
          have kk2 := (Keeps.of (HBB.out.alloc HBB.out.size _)).trans (Keeps.grown ((KR.out.next HBB.out).alloc _).own hg3)
          have kk3 := KK.out.trans kk2
          have kt3 := kk2 _ _ _ (by decide) (by decide) KT.out
          obtain ⟨n0, n1, n2, n3, n4, n5⟩ : w3.cell? ⟨g, 0, none⟩ = some (.int .i64 t.kind) ∧ w3.cell? ⟨g, 1, none⟩ = some (.int .i64 t.line) ∧ w3.cell? ⟨g, 2, none⟩ = some (.int .i64 t.col) ∧ w3.cell? ⟨g, 3, none⟩ = some (.string t.text) ∧ w3.cell? ⟨g, 4, none⟩ = some (.int .u32 t.num) ∧ w3.cell? ⟨g, 5, none⟩ = some (.int .i64 t.spare) := ⟨kt3.cell 0, kt3.cell 1, kt3.cell 2, kt3.cell 3, kt3.cell 4, kt3.cell 5⟩
          have kt4 := kt3.far (p := ⟨R, 3, none⟩) (blk_ne kt3 kb3 (by decide)) (.slice Av (ns.length + 1) cv)
          obtain ⟨m0, m1', m2, m3, m4, m5⟩ : (w3.setCell ⟨R, 3, none⟩ (.slice Av (ns.length + 1) cv)).cell? ⟨g, 0, none⟩ = some (.int .i64 t.kind) ∧ (w3.setCell ⟨R, 3, none⟩ (.slice Av (ns.length + 1) cv)).cell? ⟨g, 1, none⟩ = some (.int .i64 t.line) ∧ (w3.setCell ⟨R, 3, none⟩ (.slice Av (ns.length + 1) cv)).cell? ⟨g, 2, none⟩ = some (.int .i64 t.col) ∧ (w3.setCell ⟨R, 3, none⟩ (.slice Av (ns.length + 1) cv)).cell? ⟨g, 3, none⟩ = some (.string t.text) ∧ (w3.setCell ⟨R, 3, none⟩ (.slice Av (ns.length + 1) cv)).cell? ⟨g, 4, none⟩ = some (.int .u32 t.num) ∧ (w3.setCell ⟨R, 3, none⟩ (.slice Av (ns.length + 1) cv)).cell? ⟨g, 5, none⟩ = some (.int .i64 t.spare) := ⟨kt4.cell 0, kt4.cell 1, kt4.cell 2, kt4.cell 3, kt4.cell 4, kt4.cell 5⟩
          clear kt3 kt4 kk2
          refine hK.out _ _ (by first | exact ⟨n0, n1, n2, n3, n4, n5⟩ | exact by assumption) (fun hHeld => ?_)
          clear hK K
          try simp only [Act.put, List.setIfInBounds_toArray]
          refine wpAnyH_take (i := 14) (v := ?_) rfl (by kernel_rfl) (by kernel_rfl) (by kernel_rfl) (fun _ _ _ h => h) (Or.inl ⟨by rfl, ?_⟩) (by assumption) ?_
          rotate_left
          · intro w hSw
            try dsimp only at hSw
            go_simp
            try with_reducible rfl
          try simp only [Act.put]
          refine wpAnyH_take (i := 15) (v := ?_) rfl (by kernel_rfl) (by kernel_rfl) (by kernel_rfl) (fun _ _ _ h => h) (Or.inl ⟨by rfl, ?_⟩) (by assumption) ?_
          rotate_left
          · intro w hSw
            try dsimp only at hSw
            go_simp
            try with_reducible rfl
          try simp only [Act.put]
          refine wpAnyH_ready (rs := [16]) (by kernel_rfl) (by simp) ?_
          refine AllReadyH.cons (o := _) rfl (fun K hK => ?_) ?_
          · go_simp
            refine hK.out _ _ (by first | exact ⟨m0, m1', m2, m3, m4, m5⟩ | exact by assumption) (fun hHeld => ?_)
            clear hK K
            try simp only [Act.put, List.setIfInBounds_toArray, List.set_cons_zero, List.set_cons_succ]
            refine wpAnyH_done (by kernel_rfl) ?_ _
            have KB3 := Lib.hid kb3
            have KR3 := Lib.hid kr3
            have KK3 := Lib.hid kk3
            clear kb3 kr3 kk3 hown3 hg3
            go_wp2_with fail
            go_ret
            exact ⟨⟨rfl, .slice Av (ns.length + 1) cv, (KB3.out.set3 _).set1 (i + 1) _ rfl, (KR3.out.set 3 _).set 1 _⟩, KK3.out.trans ((Keeps.set KB3.out _).trans (Keeps.set (KB3.out.set3 _) _))⟩
          exact AllReadyH.nil
        exact AllReadyH.nil
      exact AllReadyH.nil
    exact AllReadyH.nil
  refine AllReadyH.cons (o := _) rfl (fun K hK => ?_) ?_
  · go_simp
    refine (HS.out _).mono ?_
    rintro e w2 ⟨rfl, hb2⟩
    have hbb : Below wA.heap.size wA w2 := (Below.refl _ _).drew.trans hb2
    have HBB := Lib.hid hbb
    obtain ⟨p0, p1, p2, p3, p4, p5⟩ : w2.cell? ⟨g, 0, none⟩ = some (.int .i64 t.kind) ∧ w2.cell? ⟨g, 1, none⟩ = some (.int .i64 t.line) ∧ w2.cell? ⟨g, 2, none⟩ = some (.int .i64 t.col) ∧ w2.cell? ⟨g, 3, none⟩ = some (.string t.text) ∧ w2.cell? ⟨g, 4, none⟩ = some (.int .u32 t.num) ∧ w2.cell? ⟨g, 5, none⟩ = some (.int .i64 t.spare) := ⟨(KT.out.below hbb KT.out.lt).cell 0, (KT.out.below hbb KT.out.lt).cell 1, (KT.out.below hbb KT.out.lt).cell 2, (KT.out.below hbb KT.out.lt).cell 3, (KT.out.below hbb KT.out.lt).cell 4, (KT.out.below hbb KT.out.lt).cell 5⟩
    have pR : w2.cell? ⟨R, 3, none⟩ = some (.slice An ns.length cn) := (KB.out.next hbb).cell 3
    have u3 : ∀ o', (w2.alloc o').cell? ⟨R, 3, none⟩ = some (.slice An ns.length cn) := fun o' => ((KB.out.next HBB.out).next ((Below.refl _ _).alloc (Nat.le_refl _) _)).cell 3
    have UA : Hid (∀ o', (w2.alloc o').cell? ⟨g, 0, none⟩ = some (.int .i64 t.kind) ∧ (w2.alloc o').cell? ⟨g, 1, none⟩ = some (.int .i64 t.line) ∧ (w2.alloc o').cell? ⟨g, 2, none⟩ = some (.int .i64 t.col) ∧ (w2.alloc o').cell? ⟨g, 3, none⟩ = some (.string t.text) ∧ (w2.alloc o').cell? ⟨g, 4, none⟩ = some (.int .u32 t.num) ∧ (w2.alloc o').cell? ⟨g, 5, none⟩ = some (.int .i64 t.spare)) := Lib.hid (fun o' => by
      have h := (KT.out.below hbb KT.out.lt).alloc o'
      exact ⟨h.cell 0, h.cell 1, h.cell 2, h.cell 3, h.cell 4, h.cell 5⟩)
    clear hb2 hbb
    refine hK.out _ _ (by first | exact ⟨p0, p1, p2, p3, p4, p5⟩ | exact by assumption) (fun hHeld => ?_)
    clear hK K
    try simp only [Act.put, List.setIfInBounds_toArray, List.set_cons_zero, List.set_cons_succ]
    refine wpAnyH_take (i := 11) (v := ?_) rfl (by kernel_rfl) (by kernel_rfl) (by kernel_rfl) (fun _ _ _ h => h) (Or.inl ⟨by rfl, ?_⟩) (by assumption) ?_
    rotate_left
    · intro w hSw
      try dsimp only at hSw
      go_simp
      try with_reducible rfl
    try simp only [Act.put, List.setIfInBounds_toArray]
    refine wpAnyH_ready (rs := [4, 12]) (by kernel_rfl) (by simp) ?_
    refine AllReadyH.cons (o := _) rfl (fun K hK => ?_) ?_
    · go_simp
      refine hK.out _ _ (by first | exact ⟨p0, p1, p2, p3, p4, p5⟩ | exact by assumption) (fun hHeld => ?_)
      clear hK K
      try simp only [Act.put, List.setIfInBounds_toArray, List.set_cons_zero, List.set_cons_succ]
      refine wpAnyH_ready (rs := [12]) (by kernel_rfl) (by simp) ?_
      refine AllReadyH.cons (o := _) rfl (fun K hK => ?_) ?_
      · go_simp
        refine hK.out _ _ (by first | exact UA.out _ | exact by assumption) (fun hHeld => ?_)
        clear hK K
        try simp only [Act.put, List.setIfInBounds_toArray, List.set_cons_zero, List.set_cons_succ]
        refine wpAnyH_ready (rs := [13]) (by kernel_rfl) (by simp) ?_
        refine AllReadyH.cons (o := _) rfl (fun K hK => ?_) ?_
        · refine step_append_own_at rfl (.tmp 52) (.tmp 60) 43 rfl w0.heap.size 54 i1 (.agg #[.int .i64 0, .int .i64 0, .int .i64 0, .int .u32 0, .string ByteArray.empty]) 5 48 Tryd.underlying43 hi1 hz0 hz1 hz2 rfl (by decide) (.slice An ns.length cn) ns.length (ndCells ns) (by simp [Act.eval]) ((KR.out.next HBB.out).alloc _).own ⟨w2.heap.size, 0, none⟩ 1 1 [.int .i64 2, .int .i64 t.line, .int .i64 t.col, .int .u32 0, .string nm] (by simp [Act.eval]) rfl (cells_new _ #[.int .i64 2, .int .i64 t.line, .int .i64 t.col, .int .u32 0, .string nm] _ _ (by simp)) (by intro u hu; simp at hu; rcases hu with rfl | rfl | rfl | rfl | rfl <;> rfl) (by unfold maxLen; omega) (by omega) ((KR.out.next HBB.out).alloc _).below.size ?_
          intro v' w3 hown3 hg3 _ _
          obtain ⟨Av, cv, rfl⟩ := own_shape hown3
          have kb3 : RBlk w3 R vt i d (.slice An ns.length cn) := Blk.grown ((KB.out.next HBB.out).next ((Below.refl _ _).alloc (Nat.le_refl _) _)) hg3 (own_not_blk (KR.out.next HBB.out).own (KB.out.next HBB.out) (by decide))
          have k1 : w3.cell? ⟨R, 1, none⟩ = some (.int .i64 i) := kb3.cell 1
          have k3 : w3.cell? ⟨R, 3, none⟩ = some (.slice An ns.length cn) := kb3.cell 3
          have y1 := Blk.frozen kb3 1
          have y3 := Blk.frozen kb3 3
          have kr3 := ((KR.out.next HBB.out).alloc _).push (n := ⟨2, t.line, t.col, 0, nm⟩) hown3 hg3
          have kk2 := (Keeps.of (HBB.out.alloc HBB.out.size _)).trans (Keeps.grown ((KR.out.next HBB.out).alloc _).own hg3)
          have kk3 := KK.out.trans kk2
          have kt3 := kk2 _ _ _ (by decide) (by decide) KT.out
          obtain ⟨n0, n1, n2, n3, n4, n5⟩ : w3.cell? ⟨g, 0, none⟩ = some (.int .i64 t.kind) ∧ w3.cell? ⟨g, 1, none⟩ = some (.int .i64 t.line) ∧ w3.cell? ⟨g, 2, none⟩ = some (.int .i64 t.col) ∧ w3.cell? ⟨g, 3, none⟩ = some (.string t.text) ∧ w3.cell? ⟨g, 4, none⟩ = some (.int .u32 t.num) ∧ w3.cell? ⟨g, 5, none⟩ = some (.int .i64 t.spare) := ⟨kt3.cell 0, kt3.cell 1, kt3.cell 2, kt3.cell 3, kt3.cell 4, kt3.cell 5⟩
          have kt4 := kt3.far (p := ⟨R, 3, none⟩) (blk_ne kt3 kb3 (by decide)) (.slice Av (ns.length + 1) cv)
          obtain ⟨m0, m1', m2, m3, m4, m5⟩ : (w3.setCell ⟨R, 3, none⟩ (.slice Av (ns.length + 1) cv)).cell? ⟨g, 0, none⟩ = some (.int .i64 t.kind) ∧ (w3.setCell ⟨R, 3, none⟩ (.slice Av (ns.length + 1) cv)).cell? ⟨g, 1, none⟩ = some (.int .i64 t.line) ∧ (w3.setCell ⟨R, 3, none⟩ (.slice Av (ns.length + 1) cv)).cell? ⟨g, 2, none⟩ = some (.int .i64 t.col) ∧ (w3.setCell ⟨R, 3, none⟩ (.slice Av (ns.length + 1) cv)).cell? ⟨g, 3, none⟩ = some (.string t.text) ∧ (w3.setCell ⟨R, 3, none⟩ (.slice Av (ns.length + 1) cv)).cell? ⟨g, 4, none⟩ = some (.int .u32 t.num) ∧ (w3.setCell ⟨R, 3, none⟩ (.slice Av (ns.length + 1) cv)).cell? ⟨g, 5, none⟩ = some (.int .i64 t.spare) := ⟨kt4.cell 0, kt4.cell 1, kt4.cell 2, kt4.cell 3, kt4.cell 4, kt4.cell 5⟩
          clear kt3 kt4 kk2
          refine hK.out _ _ (by first | exact ⟨n0, n1, n2, n3, n4, n5⟩ | exact by assumption) (fun hHeld => ?_)
          clear hK K
          try simp only [Act.put, List.setIfInBounds_toArray]
          refine wpAnyH_take (i := 14) (v := ?_) rfl (by kernel_rfl) (by kernel_rfl) (by kernel_rfl) (fun _ _ _ h => h) (Or.inl ⟨by rfl, ?_⟩) (by assumption) ?_
          rotate_left
          · intro w hSw
            try dsimp only at hSw
            go_simp
            try with_reducible rfl
          try simp only [Act.put]
          refine wpAnyH_take (i := 15) (v := ?_) rfl (by kernel_rfl) (by kernel_rfl) (by kernel_rfl) (fun _ _ _ h => h) (Or.inl ⟨by rfl, ?_⟩) (by assumption) ?_
          rotate_left
          · intro w hSw
            try dsimp only at hSw
            go_simp
            try with_reducible rfl
          try simp only [Act.put]
          refine wpAnyH_ready (rs := [16]) (by kernel_rfl) (by simp) ?_
          refine AllReadyH.cons (o := _) rfl (fun K hK => ?_) ?_
          · go_simp
            refine hK.out _ _ (by first | exact ⟨m0, m1', m2, m3, m4, m5⟩ | exact by assumption) (fun hHeld => ?_)
            clear hK K
            try simp only [Act.put, List.setIfInBounds_toArray, List.set_cons_zero, List.set_cons_succ]
            refine wpAnyH_done (by kernel_rfl) ?_ _
            have KB3 := Lib.hid kb3
            have KR3 := Lib.hid kr3
            have KK3 := Lib.hid kk3
            clear kb3 kr3 kk3 hown3 hg3
            go_wp2_with fail
            go_ret
            exact ⟨⟨rfl, .slice Av (ns.length + 1) cv, (KB3.out.set3 _).set1 (i + 1) _ rfl, (KR3.out.set 3 _).set 1 _⟩, KK3.out.trans ((Keeps.set KB3.out _).trans (Keeps.set (KB3.out.set3 _) _))⟩
          exact AllReadyH.nil
        exact AllReadyH.nil
      exact AllReadyH.nil
    refine AllReadyH.cons (o := _) rfl (fun K hK => ?_) ?_
    · go_simp
      refine hK.out _ _ (by first | exact UA.out _ | exact by assumption) (fun hHeld => ?_)
      clear hK K
      try simp only [Act.put, List.setIfInBounds_toArray, List.set_cons_zero, List.set_cons_succ]
      refine wpAnyH_ready (rs := [4]) (by kernel_rfl) (by simp) ?_
      refine AllReadyH.cons (o := _) rfl (fun K hK => ?_) ?_
      · go_simp
        refine hK.out _ _ (by first | exact UA.out _ | exact by assumption) (fun hHeld => ?_)
        clear hK K
        try simp only [Act.put, List.setIfInBounds_toArray, List.set_cons_zero, List.set_cons_succ]
        refine wpAnyH_ready (rs := [13]) (by kernel_rfl) (by simp) ?_
        refine AllReadyH.cons (o := _) rfl (fun K hK => ?_) ?_
        · refine step_append_own_at rfl (.tmp 52) (.tmp 60) 43 rfl w0.heap.size 54 i1 (.agg #[.int .i64 0, .int .i64 0, .int .i64 0, .int .u32 0, .string ByteArray.empty]) 5 48 Tryd.underlying43 hi1 hz0 hz1 hz2 rfl (by decide) (.slice An ns.length cn) ns.length (ndCells ns) (by simp [Act.eval]) ((KR.out.next HBB.out).alloc _).own ⟨w2.heap.size, 0, none⟩ 1 1 [.int .i64 2, .int .i64 t.line, .int .i64 t.col, .int .u32 0, .string nm] (by simp [Act.eval]) rfl (cells_new _ #[.int .i64 2, .int .i64 t.line, .int .i64 t.col, .int .u32 0, .string nm] _ _ (by simp)) (by intro u hu; simp at hu; rcases hu with rfl | rfl | rfl | rfl | rfl <;> rfl) (by unfold maxLen; omega) (by omega) ((KR.out.next HBB.out).alloc _).below.size ?_
          intro v' w3 hown3 hg3 _ _
          obtain ⟨Av, cv, rfl⟩ := own_shape hown3
          have kb3 : RBlk w3 R vt i d (.slice An ns.length cn) := Blk.grown ((KB.out.next HBB.out).next ((Below.refl _ _).alloc (Nat.le_refl _) _)) hg3 (own_not_blk (KR.out.next HBB.out).own (KB.out.next HBB.out) (by decide))
          have k1 : w3.cell? ⟨R, 1, none⟩ = some (.int .i64 i) := kb3.cell 1
          have k3 : w3.cell? ⟨R, 3, none⟩ = some (.slice An ns.length cn) := kb3.cell 3
          have y1 := Blk.frozen kb3 1
          have y3 := Blk.frozen kb3 3
          have kr3 := ((KR.out.next HBB.out).alloc _).push (n := ⟨2, t.line, t.col, 0, nm⟩) hown3 hg3
          have kk2 := (Keeps.of (HBB.out.alloc HBB.out.size _)).trans (Keeps.grown ((KR.out.next HBB.out).alloc _).own hg3)
          have kk3 := KK.out.trans kk2
          have kt3 := kk2 _ _ _ (by decide) (by decide) KT.out
          obtain ⟨n0, n1, n2, n3, n4, n5⟩ : w3.cell? ⟨g, 0, none⟩ = some (.int .i64 t.kind) ∧ w3.cell? ⟨g, 1, none⟩ = some (.int .i64 t.line) ∧ w3.cell? ⟨g, 2, none⟩ = some (.int .i64 t.col) ∧ w3.cell? ⟨g, 3, none⟩ = some (.string t.text) ∧ w3.cell? ⟨g, 4, none⟩ = some (.int .u32 t.num) ∧ w3.cell? ⟨g, 5, none⟩ = some (.int .i64 t.spare) := ⟨kt3.cell 0, kt3.cell 1, kt3.cell 2, kt3.cell 3, kt3.cell 4, kt3.cell 5⟩
          have kt4 := kt3.far (p := ⟨R, 3, none⟩) (blk_ne kt3 kb3 (by decide)) (.slice Av (ns.length + 1) cv)
          obtain ⟨m0, m1', m2, m3, m4, m5⟩ : (w3.setCell ⟨R, 3, none⟩ (.slice Av (ns.length + 1) cv)).cell? ⟨g, 0, none⟩ = some (.int .i64 t.kind) ∧ (w3.setCell ⟨R, 3, none⟩ (.slice Av (ns.length + 1) cv)).cell? ⟨g, 1, none⟩ = some (.int .i64 t.line) ∧ (w3.setCell ⟨R, 3, none⟩ (.slice Av (ns.length + 1) cv)).cell? ⟨g, 2, none⟩ = some (.int .i64 t.col) ∧ (w3.setCell ⟨R, 3, none⟩ (.slice Av (ns.length + 1) cv)).cell? ⟨g, 3, none⟩ = some (.string t.text) ∧ (w3.setCell ⟨R, 3, none⟩ (.slice Av (ns.length + 1) cv)).cell? ⟨g, 4, none⟩ = some (.int .u32 t.num) ∧ (w3.setCell ⟨R, 3, none⟩ (.slice Av (ns.length + 1) cv)).cell? ⟨g, 5, none⟩ = some (.int .i64 t.spare) := ⟨kt4.cell 0, kt4.cell 1, kt4.cell 2, kt4.cell 3, kt4.cell 4, kt4.cell 5⟩
          clear kt3 kt4 kk2
          refine hK.out _ _ (by first | exact ⟨n0, n1, n2, n3, n4, n5⟩ | exact by assumption) (fun hHeld => ?_)
          clear hK K
          try simp only [Act.put, List.setIfInBounds_toArray]
          refine wpAnyH_take (i := 14) (v := ?_) rfl (by kernel_rfl) (by kernel_rfl) (by kernel_rfl) (fun _ _ _ h => h) (Or.inl ⟨by rfl, ?_⟩) (by assumption) ?_
          rotate_left
          · intro w hSw
            try dsimp only at hSw
            go_simp
            try with_reducible rfl
          try simp only [Act.put]
          refine wpAnyH_take (i := 15) (v := ?_) rfl (by kernel_rfl) (by kernel_rfl) (by kernel_rfl) (fun _ _ _ h => h) (Or.inl ⟨by rfl, ?_⟩) (by assumption) ?_
          rotate_left
          · intro w hSw
            try dsimp only at hSw
            go_simp
            try with_reducible rfl
          try simp only [Act.put]
          refine wpAnyH_ready (rs := [16]) (by kernel_rfl) (by simp) ?_
          refine AllReadyH.cons (o := _) rfl (fun K hK => ?_) ?_
          · go_simp
            refine hK.out _ _ (by first | exact ⟨m0, m1', m2, m3, m4, m5⟩ | exact by assumption) (fun hHeld => ?_)
            clear hK K
            try simp only [Act.put, List.setIfInBounds_toArray, List.set_cons_zero, List.set_cons_succ]
            refine wpAnyH_done (by kernel_rfl) ?_ _
            have KB3 := Lib.hid kb3
            have KR3 := Lib.hid kr3
            have KK3 := Lib.hid kk3
            clear kb3 kr3 kk3 hown3 hg3
            go_wp2_with fail
            go_ret
            exact ⟨⟨rfl, .slice Av (ns.length + 1) cv, (KB3.out.set3 _).set1 (i + 1) _ rfl, (KR3.out.set 3 _).set 1 _⟩, KK3.out.trans ((Keeps.set KB3.out _).trans (Keeps.set (KB3.out.set3 _) _))⟩
          exact AllReadyH.nil
        exact AllReadyH.nil
      exact AllReadyH.nil
    exact AllReadyH.nil
  exact AllReadyH.nil

/-- The leaf's contract. -/
theorem leaf_is (w0 : World) (ts : List Tk6) (vt vn : Value) (ns : List Nd) (R i d : Nat) (t : Tk6) (w : World) (hg : Handle w0) (hn : ns.length ≤ 100001) (hi : i ≤ 100000) (h0 : t.spare = 0) (hs : t.text.size ≤ 100000) (hb : RBlk w R vt i d vn) (hv : Toks w0 vt ts) (hr : ERest w0 R ns vn w) :
    Calls Tryd.prog 91 #[.pointer (some ⟨R, 0, none⟩), t.val] w (EPost w0 ts vt R d (match t.leaf with | some n => .inl (i + 1, ns ++ [n]) | none => .inr (i, 6)) w) := by
  unfold Tk6.leaf
  by_cases h5 : t.kind = 5
  · rw [if_pos h5]
    exact leaf_num w0 ts vt vn ns R i d t h5 w hn hi hb hr
  · rw [if_neg h5]
    by_cases h1 : t.kind = 1
    · rw [if_pos h1]
      cases hm : isT t.text [46] with
      | true => exact leaf_dot w0 ts vt vn ns R i d t h1 hm w hn hi hb hr
      | false => exact leaf_sym1 w0 ts vt vn ns R i d t h1 hm t.text (Lib.hid (fun W => symbol_name t W h1)) w hn hi hb hr
    · rw [if_neg h1]
      by_cases h2 : t.kind = 2
      · rw [if_pos h2]
        exact leaf_sym2 w0 ts vt vn ns R i d t h2 _ (Lib.hid (fun W => symbol_local t W h2 h0 hs)) w hn hi hb hr
      · rw [if_neg h2]
        exact leaf_none w0 ts vt vn ns R i d t h5 h1 h2 w hg hi hb hv hr
end Go.Proofs.YtbhfblogjlpnlaaDoor
