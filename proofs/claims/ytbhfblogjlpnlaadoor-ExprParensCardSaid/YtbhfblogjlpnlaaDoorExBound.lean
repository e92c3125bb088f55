/-
  The contract of the reader's bound, over its part and over itself farther on. Conditions: as those of the reader.
-/
import Derived.Test.YtbhfblogjlpnlaaDoorExPartF
import Derived.Deep.LoopGhost
namespace Go.Proofs.YtbhfblogjlpnlaaDoor
open Go.RowKit

theorem tight_le' (t : Tk6) : t.tight ≤ 6 := by
  unfold Tk6.tight
  repeat' split
  all_goals omega
/-- Each token adds one node at the most. -/
theorem erun_few {ts : List Tk6} {q : EKind} {d i : Nat} {ns : List Nd} {r : (Nat × List Nd) ⊕ (Nat × Int)} (h : ERun ts q d i ns r) : ∀ j ns', r = .inl (j, ns') → ns'.length + i ≤ ns.length + j := by
  induction h with
  | none d i ns h => intro j ns' h; cases h
  | leaf d i ns t n h hf hl =>
    intro j ns' h
    injection h with h
    injection h with h1 h2
    subst h1 h2
    simp
    omega
  | bad d i ns t h hf hl => intro j ns' h; cases h
  | deep d i ns t k q h hf hd => intro j ns' h; cases h
  | fell d i ns t k q e h hf hd hr ih => intro j ns' h; cases h
  | ahead d i ns t k q j ns' h hf hd hr ih =>
    intro j2 ns2 h
    injection h with h
    injection h with h1 h2
    subst h1 h2
    have := ih j ns' rfl
    cases k <;> simp [Tk6.nodes] <;> omega
  | boundFell l d i ns e hr ih => intro j ns' h; cases h
  | bound l d i ns j ns' r hr hm ih1 ih2 =>
    intro j2 ns2 h
    have h1 := ih1 j ns' rfl
    have h2 := ih2 j2 ns2 h
    omega
  | done l d i ns h =>
    intro j ns' h
    injection h with h
    injection h with h1 h2
    subst h1 h2
    omega
  | moreFell l d i ns t e h hl hr ih => intro j ns' h; cases h
  | more l d i ns t j ns' r h hl hr hm ih1 ih2 =>
    intro j2 ns2 h
    have h1 := ih1 j ns' rfl
    have h2 := ih2 j2 ns2 h
    simp at h2
    omega
  | closedFell d i ns e hr ih => intro j ns' h; cases h
  | closedBad d i ns j ns' hr h ih => intro j ns' h; cases h
  | closed d i ns j ns' hr h ih =>
    intro j2 ns2 h
    injection h with h
    injection h with h1 h2
    subst h1 h2
    have := ih j ns' rfl
    omega
  | argumentBad d i ns h => intro j ns' h; cases h
  | argument d i ns r h hr ih =>
    intro j2 ns2 h
    have := ih j2 ns2 h
    omega

set_option maxRecDepth 100000 in
set_option maxHeartbeats 4000000 in
theorem bound_fell (w0 : World) (ts : List Tk6) (vt : Value) (R d : Nat) (l : Int) (x : Nat × Int) (w : World)
    (HP : Hid (Calls Tryd.prog 63 #[.pointer (some ⟨R, 0, none⟩)] w (EPost w0 ts vt R d (.inr x) w))) :
    Calls Tryd.prog 45 #[.pointer (some ⟨R, 0, none⟩), .int .i64 l] w (EPost w0 ts vt R d (.inr x) w) := by
  go_enter Tryd.func45, Tryd.ntmps45
  go_wp2_with fail
  refine HP.out.mono ?_
  rintro e w3 ⟨⟨⟨b, rfl, hbs, hbk, hb3⟩, h3⟩, hk3⟩
  have H3 := Lib.hid (And.intro hbs (And.intro hbk (And.intro hb3 (And.intro h3 hk3))))
  clear h3 hk3 hbs hbk hb3
  go_wp2_with fail
  go_ret
  exact ⟨⟨⟨b, rfl, H3.out.1, H3.out.2.1, H3.out.2.2.1⟩, H3.out.2.2.2.1⟩, H3.out.2.2.2.2⟩

set_option maxRecDepth 100000 in
set_option maxHeartbeats 8000000 in
theorem bound_go (w0 : World) (ts : List Tk6) (vt vn : Value) (ns : List Nd) (R l i d j0 : Nat) (ns0 : List Nd) (r : (Nat × List Nd) ⊕ (Nat × Int)) (w : World) (hn : ts.length ≤ 100000) (_hb : RBlk w R vt i d vn) (hv : Toks w0 vt ts) (_hr : ERest w0 R ns vn w)
    (HP : Hid (Calls Tryd.prog 63 #[.pointer (some ⟨R, 0, none⟩)] w (EPost w0 ts vt R d (.inl (j0, ns0)) w)))
    (hj1 : i < j0) (hj2 : j0 ≤ ts.length) (hj3 : ns0.length ≤ j0) (hm : ERun ts (.more l) d j0 ns0 r)
    (HIH : Hid (∀ (l' i' : Nat) (ns' : List Nd) (r' : (Nat × List Nd) ⊕ (Nat × Int)), i < i' → i' ≤ ts.length → ns'.length ≤ i' → ERun ts (.bound l') d i' ns' r' → ∀ W vn', RBlk W R vt i' d vn' → ERest w0 R ns' vn' W → Calls Tryd.prog 45 #[.pointer (some ⟨R, 0, none⟩), .int .i64 (l' : Int)] W (EPost w0 ts vt R d r' W))) :
    Calls Tryd.prog 45 #[.pointer (some ⟨R, 0, none⟩), .int .i64 (l : Int)] w (EPost w0 ts vt R d r w) := by
  have HV := Lib.hid (fun W (hW : Below w0.heap.size w0 W) => hv.below hW)
  obtain ⟨A, c, rfl, hc, hcm, hcell⟩ := hv.form
  have HCELL := Lib.hid (fun i t (h : ts[i]? = some t) => hcell i t h)
  have HM := Lib.hid hm
  clear _hb hv _hr hcell hm
  go_enter Tryd.func45, Tryd.ntmps45
  go_wp2_with fail
  refine HP.out.mono ?_
  rintro e w3 ⟨⟨rfl, vn3, kb3, kr3⟩, hk3⟩
  have HB3 := Lib.hid kb3
  have HR3 := Lib.hid kr3
  have HK3 := Lib.hid hk3
  clear kb3 kr3 hk3
  go_wp2_with fail
  go_loopg [7, 8] (ts.length + 1) (fun g _ _ wr => ∃ (j : Nat) (nsj : List Nd) (vj : Value), j ≤ ts.length ∧ i < j ∧ nsj.length ≤ j ∧ ts.length + 1 - j ≤ g ∧ Hid (RBlk wr R (.slice A ts.length c) j d vj) ∧ Hid (ERest w0 R nsj vj wr) ∧ Hid (ERun ts (.more l) d j nsj r) ∧ Hid (Keeps w wr))
  case atStart => exact ⟨j0, ns0, vn3, hj2, hj1, hj3, by omega, HB3, HR3, HM, HK3⟩
  case round =>
    obtain ⟨j, nsj, vj, hj, hij, hnj, hgj, HB, HR, HRU, HKW⟩ := hrel
    have c0 : wr.cell? ⟨R, 0, none⟩ = some (.slice A ts.length c) := HB.out.cell 0
    have c1 : wr.cell? ⟨R, 1, none⟩ = some (.int .i64 j) := HB.out.cell 1
    have HDN : Hid (∀ n, Below wr.heap.size wr (wr.drewN n)) := Lib.hid (fun n => bdrew (Below.refl _ _))
    have hjb : (j : Int) ≤ 100000 := by omega
    have hru := HRU.out
    by_cases hlt : j < ts.length
    · obtain ⟨t, ht⟩ : ∃ t, ts[j]? = some t := ⟨_, List.getElem?_eq_getElem hlt⟩
      have hki2 : (j : Int) < ts.length := by omega
      have hkd : decide ((j : Int) < ts.length) = true := decide_eq_true hki2
      have hkn : decide (j < ts.length) = true := decide_eq_true hlt
      have hkc : (j : Int) < c := by omega
      obtain ⟨b, o, rfl, hcs⟩ := HCELL.out j t ht
      have HC := Lib.hid (fun W (hW : Below wr.heap.size wr W) => hcs W (HR.out.below.trans (hW.mono HR.out.below.size)))
      have htt := tight_le' t
      have hti : (t.tight : Int) ≤ 6 := by omega
      by_cases hl : l ≤ t.tight
      · have hli : ¬ (t.tight : Int) < l := by omega
        rcases r with ⟨jr, nsr⟩ | xr
        · obtain ⟨j4, ns4, hrb, hrm⟩ : ∃ j4 ns4, ERun ts (.bound (t.tight + 1)) d (j + 1) nsj (.inl (j4, ns4)) ∧ ERun ts (.more l) d j4 (ns4 ++ [t.node (twoKind t.text)]) (.inl (jr, nsr)) := by
            cases hru with
            | done _ _ _ _ h => exact absurd (h t ht) (by omega)
            | more _ _ _ _ t' j' ns' _ h hl2 hr hm =>
              rw [ht] at h
              injection h with h
              subst h
              exact ⟨j', ns', hr, hm⟩
          have hj4 := erun_far hrb (by omega)
          simp only [EFar] at hj4
          have hf4 := erun_few hrb _ _ rfl
          have HRM := Lib.hid hrm
          clear hru hrm
          have HBO := Lib.hid (HIH.out (t.tight + 1) (j + 1) nsj _ (by omega) (by omega) (by omega) hrb)
          clear hcs ht
          clear hrb
          go_wp2_with fail
          go_quiet (fail)
          generalize hq : wr.drewN _ = wq
          have hbq : Below wr.heap.size wr wq := hq ▸ HDN.out _
          clear hq HDN c0 c1
          have HBQ := Lib.hid hbq
          obtain ⟨e0, e1, e2, e3, e4, e5⟩ := HC.out wq hbq
          have c0 : wq.cell? ⟨R, 0, none⟩ = some (.slice (some ⟨b, o, none⟩) ts.length c) := (HB.out.next hbq).cell 0
          have c1 : wq.cell? ⟨R, 1, none⟩ = some (.int .i64 j) := (HB.out.next hbq).cell 1
          have hup : ∀ o, Below wr.heap.size wr (wq.alloc o) := fun o => hbq.alloc hbq.size o
          have d0 : ∀ o', (wq.alloc o').cell? ⟨R, 0, none⟩ = some (.slice (some ⟨b, o, none⟩) ts.length c) := fun o' => (HB.out.next (hup o')).cell 0
          have d1 : ∀ o', (wq.alloc o').cell? ⟨R, 1, none⟩ = some (.int .i64 j) := fun o' => (HB.out.next (hup o')).cell 1
          have f0 := fun o' => (HC.out _ (hup o')).1
          have f1 := fun o' => (HC.out _ (hup o')).2.1
          have f2 := fun o' => (HC.out _ (hup o')).2.2.1
          have f3 := fun o' => (HC.out _ (hup o')).2.2.2.1
          have f4 := fun o' => (HC.out _ (hup o')).2.2.2.2.1
          have f5 := fun o' => (HC.out _ (hup o')).2.2.2.2.2
          clear hup hbq
          go_wp2_with fail
          go_region
          all_goals (try go_wp2_with fail)
          clear c0 c1 e0 e1 e2 e3 e4 e5 d0 d1 f0 f1 f2 f3 f4 f5
          obtain ⟨kb, kr, kB, kt, -⟩ := tok_world HB.out HR.out HBQ.out t
          have kb : RBlk (wq.alloc (.cells #[.int .i64 t.kind, .int .i64 t.line, .int .i64 t.col, .string t.text, .int .u32 t.num, .int .i64 t.spare] 39)).drew R (.slice (some ⟨b, o, none⟩) ts.length c) j d vj := Blk.drew kb
          have kr := kr.drew
          have kt := Blk.drew kt
          have kB := HKW.out.trans (Keeps.of kB.drew)
          generalize (wq.alloc (.cells #[.int .i64 t.kind, .int .i64 t.line, .int .i64 t.col, .string t.text, .int .u32 t.num, .int .i64 t.spare] 39)).drew = wA at kb kr kB kt ⊢
          generalize wq.heap.size = gt at kt ⊢
          obtain ⟨s0, s1, s2, s3, s4, s5⟩ : wA.cell? ⟨gt, 0, none⟩ = some (.int .i64 t.kind) ∧ wA.cell? ⟨gt, 1, none⟩ = some (.int .i64 t.line) ∧ wA.cell? ⟨gt, 2, none⟩ = some (.int .i64 t.col) ∧ wA.cell? ⟨gt, 3, none⟩ = some (.string t.text) ∧ wA.cell? ⟨gt, 4, none⟩ = some (.int .u32 t.num) ∧ wA.cell? ⟨gt, 5, none⟩ = some (.int .i64 t.spare) := ⟨kt.cell 0, kt.cell 1, kt.cell 2, kt.cell 3, kt.cell 4, kt.cell 5⟩
          have KB := Lib.hid kb
          have KR := Lib.hid kr
          have KW := Lib.hid kB
          have KT := Lib.hid kt
          clear kb kr kB kt
          go_wp2_with fail
          refine (tight_is t _).mono ?_
          rintro e x2 ⟨rfl, hb2⟩
          replace KB := Lib.hid (KB.out.next hb2)
          replace KR := Lib.hid (KR.out.next hb2)
          replace KW := Lib.hid (KW.out.trans (.of hb2))
          replace KT := Lib.hid (KT.out.below hb2 KT.out.lt)
          clear hb2 s0 s1 s2 s3 s4 s5
          have q1 : x2.cell? ⟨R, 1, none⟩ = some (.int .i64 j) := KB.out.cell 1
          have y1 := Blk.frozen KB.out 1
          go_wp2_with fail
          refine (HBO.out _ vj (KB.out.set1 (j + 1) _ rfl) (KR.out.set 1 _)).mono ?_
          rintro e w4 ⟨⟨rfl, vn4, kb4, kr4⟩, hk4⟩
          have kt4 := hk4 _ _ _ (by decide) (by decide) (KT.out.far (blk_ne KT.out KB.out (by decide)) _)
          have HK4 := Lib.hid (KW.out.trans ((Keeps.set KB.out _).trans hk4))
          have HB4 := Lib.hid kb4
          have HR4 := Lib.hid kr4
          have HT4 := Lib.hid kt4
          obtain ⟨s0, s1, s2, s3, s4, s5⟩ : w4.cell? ⟨gt, 0, none⟩ = some (.int .i64 t.kind) ∧ w4.cell? ⟨gt, 1, none⟩ = some (.int .i64 t.line) ∧ w4.cell? ⟨gt, 2, none⟩ = some (.int .i64 t.col) ∧ w4.cell? ⟨gt, 3, none⟩ = some (.string t.text) ∧ w4.cell? ⟨gt, 4, none⟩ = some (.int .u32 t.num) ∧ w4.cell? ⟨gt, 5, none⟩ = some (.int .i64 t.spare) := ⟨kt4.cell 0, kt4.cell 1, kt4.cell 2, kt4.cell 3, kt4.cell 4, kt4.cell 5⟩
          clear kb4 kr4 hk4 kt4 q1 y1 KB KR KW KT
          have HF : Hid (∀ W, Below w4.heap.size w4 W → Calls Tryd.prog 66 #[.string t.text] W fun e w' => e = .returned (.int .i64 (twoKind t.text)) ∧ Below w4.heap.size w4 w') := Lib.hid (fun W hW => (two_is t.text W).mono fun e w' h => ⟨h.1, h.2 ▸ hW⟩)
          have HKT : Hid (∀ W, Keeps w4 W → W.cell? ⟨gt, 0, none⟩ = some (.int .i64 t.kind) ∧ W.cell? ⟨gt, 1, none⟩ = some (.int .i64 t.line) ∧ W.cell? ⟨gt, 2, none⟩ = some (.int .i64 t.col) ∧ W.cell? ⟨gt, 3, none⟩ = some (.string t.text) ∧ W.cell? ⟨gt, 4, none⟩ = some (.int .u32 t.num) ∧ W.cell? ⟨gt, 5, none⟩ = some (.int .i64 t.spare)) := Lib.hid (fun W hW => by
            have h := hW _ _ _ (by decide) (by decide) HT4.out
            exact ⟨h.cell 0, h.cell 1, h.cell 2, h.cell 3, h.cell 4, h.cell 5⟩)
          have HA := Lib.hid (fun W (hW : Below w4.heap.size w4 W) => add_is w0 (.slice (some ⟨b, o, none⟩) ts.length c) vn4 ns4 R j4 d (twoKind t.text) t W (by omega) (HB4.out.next hW) (HR4.out.next hW))
          go_wp2_with fail
          go_region_held3 (fun W => W.cell? ⟨gt, 0, none⟩ = some (.int .i64 t.kind) ∧ W.cell? ⟨gt, 1, none⟩ = some (.int .i64 t.line) ∧ W.cell? ⟨gt, 2, none⟩ = some (.int .i64 t.col) ∧ W.cell? ⟨gt, 3, none⟩ = some (.string t.text) ∧ W.cell? ⟨gt, 4, none⟩ = some (.int .u32 t.num) ∧ W.cell? ⟨gt, 5, none⟩ = some (.int .i64 t.spare))
            (first | exact ⟨s0, s1, s2, s3, s4, s5⟩ | exact ⟨t0, t1, t2, t3, t4, t5⟩ | exact ⟨u0, u1, u2, u3, u4, u5⟩ | (go_split_ands; exact ⟨by assumption, by assumption, by assumption, by assumption, by assumption, by assumption⟩) | go_keep)
            (first | (go_at_call 66; refine (HF.out _ (Below.refl _ _).drew).mono ?_; rintro e w5 ⟨rfl, hb5⟩; obtain ⟨t0, t1, t2, t3, t4, t5⟩ := HKT.out w5 (.of hb5)) | (go_at_call 65; refine (HA.out _ hb5).mono ?_; rintro e w6 ⟨rfl, ⟨vn6, kb6, kr6⟩, hk6⟩; obtain ⟨u0, u1, u2, u3, u4, u5⟩ := HKT.out w6 ((Keeps.of hb5).trans hk6)))
          all_goals
            have HB6 := Lib.hid kb6
            have HR6 := Lib.hid kr6
            have HK6 := Lib.hid (HK4.out.trans ((Keeps.of hb5).trans hk6))
            clear kb6 kr6 hk6
            try go_wp2_with fail
            go_roundg (ts.length + 1 - j4)
            case measure => omega
            case rel => exact ⟨j4, ns4 ++ [t.node (twoKind t.text)], vn6, hj4.1, by omega, by simp; omega, Nat.le_refl _, HB6, HR6, HRM, HK6⟩
        · rcases (show (∃ j4 ns4, ERun ts (.bound (t.tight + 1)) d (j + 1) nsj (.inl (j4, ns4)) ∧ ERun ts (.more l) d j4 (ns4 ++ [t.node (twoKind t.text)]) (.inr xr)) ∨ ERun ts (.bound (t.tight + 1)) d (j + 1) nsj (.inr xr) by
            cases hru with
            | more _ _ _ _ t' j' ns' _ h hl2 hr hm =>
              rw [ht] at h
              injection h with h
              subst h
              exact .inl ⟨j', ns', hr, hm⟩
            | moreFell _ _ _ _ t' e h hl2 hr =>
              rw [ht] at h
              injection h with h
              subst h
              exact .inr hr) with ⟨j4, ns4, hrb, hrm⟩ | hrb
          · have hj4 := erun_far hrb (by omega)
            simp only [EFar] at hj4
            have hf4 := erun_few hrb _ _ rfl
            have HRM := Lib.hid hrm
            clear hru hrm
            have HBO := Lib.hid (HIH.out (t.tight + 1) (j + 1) nsj _ (by omega) (by omega) (by omega) hrb)
            clear hcs ht
            clear hrb
            go_wp2_with fail
            go_quiet (fail)
            generalize hq : wr.drewN _ = wq
            have hbq : Below wr.heap.size wr wq := hq ▸ HDN.out _
            clear hq HDN c0 c1
            have HBQ := Lib.hid hbq
            obtain ⟨e0, e1, e2, e3, e4, e5⟩ := HC.out wq hbq
            have c0 : wq.cell? ⟨R, 0, none⟩ = some (.slice (some ⟨b, o, none⟩) ts.length c) := (HB.out.next hbq).cell 0
            have c1 : wq.cell? ⟨R, 1, none⟩ = some (.int .i64 j) := (HB.out.next hbq).cell 1
            have hup : ∀ o, Below wr.heap.size wr (wq.alloc o) := fun o => hbq.alloc hbq.size o
            have d0 : ∀ o', (wq.alloc o').cell? ⟨R, 0, none⟩ = some (.slice (some ⟨b, o, none⟩) ts.length c) := fun o' => (HB.out.next (hup o')).cell 0
            have d1 : ∀ o', (wq.alloc o').cell? ⟨R, 1, none⟩ = some (.int .i64 j) := fun o' => (HB.out.next (hup o')).cell 1
            have f0 := fun o' => (HC.out _ (hup o')).1
            have f1 := fun o' => (HC.out _ (hup o')).2.1
            have f2 := fun o' => (HC.out _ (hup o')).2.2.1
            have f3 := fun o' => (HC.out _ (hup o')).2.2.2.1
            have f4 := fun o' => (HC.out _ (hup o')).2.2.2.2.1
            have f5 := fun o' => (HC.out _ (hup o')).2.2.2.2.2
            clear hup hbq
            go_wp2_with fail
            go_region
            all_goals (try go_wp2_with fail)
            clear c0 c1 e0 e1 e2 e3 e4 e5 d0 d1 f0 f1 f2 f3 f4 f5
            obtain ⟨kb, kr, kB, kt, -⟩ := tok_world HB.out HR.out HBQ.out t
            have kb : RBlk (wq.alloc (.cells #[.int .i64 t.kind, .int .i64 t.line, .int .i64 t.col, .string t.text, .int .u32 t.num, .int .i64 t.spare] 39)).drew R (.slice (some ⟨b, o, none⟩) ts.length c) j d vj := Blk.drew kb
            have kr := kr.drew
            have kt := Blk.drew kt
            have kB := HKW.out.trans (Keeps.of kB.drew)
            generalize (wq.alloc (.cells #[.int .i64 t.kind, .int .i64 t.line, .int .i64 t.col, .string t.text, .int .u32 t.num, .int .i64 t.spare] 39)).drew = wA at kb kr kB kt ⊢
            generalize wq.heap.size = gt at kt ⊢
            obtain ⟨s0, s1, s2, s3, s4, s5⟩ : wA.cell? ⟨gt, 0, none⟩ = some (.int .i64 t.kind) ∧ wA.cell? ⟨gt, 1, none⟩ = some (.int .i64 t.line) ∧ wA.cell? ⟨gt, 2, none⟩ = some (.int .i64 t.col) ∧ wA.cell? ⟨gt, 3, none⟩ = some (.string t.text) ∧ wA.cell? ⟨gt, 4, none⟩ = some (.int .u32 t.num) ∧ wA.cell? ⟨gt, 5, none⟩ = some (.int .i64 t.spare) := ⟨kt.cell 0, kt.cell 1, kt.cell 2, kt.cell 3, kt.cell 4, kt.cell 5⟩
            have KB := Lib.hid kb
            have KR := Lib.hid kr
            have KW := Lib.hid kB
            have KT := Lib.hid kt
            clear kb kr kB kt
            go_wp2_with fail
            refine (tight_is t _).mono ?_
            rintro e x2 ⟨rfl, hb2⟩
            replace KB := Lib.hid (KB.out.next hb2)
            replace KR := Lib.hid (KR.out.next hb2)
            replace KW := Lib.hid (KW.out.trans (.of hb2))
            replace KT := Lib.hid (KT.out.below hb2 KT.out.lt)
            clear hb2 s0 s1 s2 s3 s4 s5
            have q1 : x2.cell? ⟨R, 1, none⟩ = some (.int .i64 j) := KB.out.cell 1
            have y1 := Blk.frozen KB.out 1
            go_wp2_with fail
            refine (HBO.out _ vj (KB.out.set1 (j + 1) _ rfl) (KR.out.set 1 _)).mono ?_
            rintro e w4 ⟨⟨rfl, vn4, kb4, kr4⟩, hk4⟩
            have kt4 := hk4 _ _ _ (by decide) (by decide) (KT.out.far (blk_ne KT.out KB.out (by decide)) _)
            have HK4 := Lib.hid (KW.out.trans ((Keeps.set KB.out _).trans hk4))
            have HB4 := Lib.hid kb4
            have HR4 := Lib.hid kr4
            have HT4 := Lib.hid kt4
            obtain ⟨s0, s1, s2, s3, s4, s5⟩ : w4.cell? ⟨gt, 0, none⟩ = some (.int .i64 t.kind) ∧ w4.cell? ⟨gt, 1, none⟩ = some (.int .i64 t.line) ∧ w4.cell? ⟨gt, 2, none⟩ = some (.int .i64 t.col) ∧ w4.cell? ⟨gt, 3, none⟩ = some (.string t.text) ∧ w4.cell? ⟨gt, 4, none⟩ = some (.int .u32 t.num) ∧ w4.cell? ⟨gt, 5, none⟩ = some (.int .i64 t.spare) := ⟨kt4.cell 0, kt4.cell 1, kt4.cell 2, kt4.cell 3, kt4.cell 4, kt4.cell 5⟩
            clear kb4 kr4 hk4 kt4 q1 y1 KB KR KW KT
            have HF : Hid (∀ W, Below w4.heap.size w4 W → Calls Tryd.prog 66 #[.string t.text] W fun e w' => e = .returned (.int .i64 (twoKind t.text)) ∧ Below w4.heap.size w4 w') := Lib.hid (fun W hW => (two_is t.text W).mono fun e w' h => ⟨h.1, h.2 ▸ hW⟩)
            have HKT : Hid (∀ W, Keeps w4 W → W.cell? ⟨gt, 0, none⟩ = some (.int .i64 t.kind) ∧ W.cell? ⟨gt, 1, none⟩ = some (.int .i64 t.line) ∧ W.cell? ⟨gt, 2, none⟩ = some (.int .i64 t.col) ∧ W.cell? ⟨gt, 3, none⟩ = some (.string t.text) ∧ W.cell? ⟨gt, 4, none⟩ = some (.int .u32 t.num) ∧ W.cell? ⟨gt, 5, none⟩ = some (.int .i64 t.spare)) := Lib.hid (fun W hW => by
              have h := hW _ _ _ (by decide) (by decide) HT4.out
              exact ⟨h.cell 0, h.cell 1, h.cell 2, h.cell 3, h.cell 4, h.cell 5⟩)
            have HA := Lib.hid (fun W (hW : Below w4.heap.size w4 W) => add_is w0 (.slice (some ⟨b, o, none⟩) ts.length c) vn4 ns4 R j4 d (twoKind t.text) t W (by omega) (HB4.out.next hW) (HR4.out.next hW))
            go_wp2_with fail
            go_region_held3 (fun W => W.cell? ⟨gt, 0, none⟩ = some (.int .i64 t.kind) ∧ W.cell? ⟨gt, 1, none⟩ = some (.int .i64 t.line) ∧ W.cell? ⟨gt, 2, none⟩ = some (.int .i64 t.col) ∧ W.cell? ⟨gt, 3, none⟩ = some (.string t.text) ∧ W.cell? ⟨gt, 4, none⟩ = some (.int .u32 t.num) ∧ W.cell? ⟨gt, 5, none⟩ = some (.int .i64 t.spare))
              (first | exact ⟨s0, s1, s2, s3, s4, s5⟩ | exact ⟨t0, t1, t2, t3, t4, t5⟩ | exact ⟨u0, u1, u2, u3, u4, u5⟩ | (go_split_ands; exact ⟨by assumption, by assumption, by assumption, by assumption, by assumption, by assumption⟩) | go_keep)
              (first | (go_at_call 66; refine (HF.out _ (Below.refl _ _).drew).mono ?_; rintro e w5 ⟨rfl, hb5⟩; obtain ⟨t0, t1, t2, t3, t4, t5⟩ := HKT.out w5 (.of hb5)) | (go_at_call 65; refine (HA.out _ hb5).mono ?_; rintro e w6 ⟨rfl, ⟨vn6, kb6, kr6⟩, hk6⟩; obtain ⟨u0, u1, u2, u3, u4, u5⟩ := HKT.out w6 ((Keeps.of hb5).trans hk6)))
            all_goals
              have HB6 := Lib.hid kb6
              have HR6 := Lib.hid kr6
              have HK6 := Lib.hid (HK4.out.trans ((Keeps.of hb5).trans hk6))
              clear kb6 kr6 hk6
              try go_wp2_with fail
              go_roundg (ts.length + 1 - j4)
              case measure => omega
              case rel => exact ⟨j4, ns4 ++ [t.node (twoKind t.text)], vn6, hj4.1, by omega, by simp; omega, Nat.le_refl _, HB6, HR6, HRM, HK6⟩
          · clear hru
            have HBO := Lib.hid (HIH.out (t.tight + 1) (j + 1) nsj _ (by omega) (by omega) (by omega) hrb)
            clear hcs ht
            clear hrb
            go_wp2_with fail
            go_quiet (fail)
            generalize hq : wr.drewN _ = wq
            have hbq : Below wr.heap.size wr wq := hq ▸ HDN.out _
            clear hq HDN c0 c1
            have HBQ := Lib.hid hbq
            obtain ⟨e0, e1, e2, e3, e4, e5⟩ := HC.out wq hbq
            have c0 : wq.cell? ⟨R, 0, none⟩ = some (.slice (some ⟨b, o, none⟩) ts.length c) := (HB.out.next hbq).cell 0
            have c1 : wq.cell? ⟨R, 1, none⟩ = some (.int .i64 j) := (HB.out.next hbq).cell 1
            have hup : ∀ o, Below wr.heap.size wr (wq.alloc o) := fun o => hbq.alloc hbq.size o
            have d0 : ∀ o', (wq.alloc o').cell? ⟨R, 0, none⟩ = some (.slice (some ⟨b, o, none⟩) ts.length c) := fun o' => (HB.out.next (hup o')).cell 0
            have d1 : ∀ o', (wq.alloc o').cell? ⟨R, 1, none⟩ = some (.int .i64 j) := fun o' => (HB.out.next (hup o')).cell 1
            have f0 := fun o' => (HC.out _ (hup o')).1
            have f1 := fun o' => (HC.out _ (hup o')).2.1
            have f2 := fun o' => (HC.out _ (hup o')).2.2.1
            have f3 := fun o' => (HC.out _ (hup o')).2.2.2.1
            have f4 := fun o' => (HC.out _ (hup o')).2.2.2.2.1
            have f5 := fun o' => (HC.out _ (hup o')).2.2.2.2.2
            clear hup hbq
            go_wp2_with fail
            go_region
            all_goals (try go_wp2_with fail)
            clear c0 c1 e0 e1 e2 e3 e4 e5 d0 d1 f0 f1 f2 f3 f4 f5
            obtain ⟨kb, kr, kB, kt, -⟩ := tok_world HB.out HR.out HBQ.out t
            have kb : RBlk (wq.alloc (.cells #[.int .i64 t.kind, .int .i64 t.line, .int .i64 t.col, .string t.text, .int .u32 t.num, .int .i64 t.spare] 39)).drew R (.slice (some ⟨b, o, none⟩) ts.length c) j d vj := Blk.drew kb
            have kr := kr.drew
            have kt := Blk.drew kt
            have kB := HKW.out.trans (Keeps.of kB.drew)
            generalize (wq.alloc (.cells #[.int .i64 t.kind, .int .i64 t.line, .int .i64 t.col, .string t.text, .int .u32 t.num, .int .i64 t.spare] 39)).drew = wA at kb kr kB kt ⊢
            generalize wq.heap.size = gt at kt ⊢
            obtain ⟨s0, s1, s2, s3, s4, s5⟩ : wA.cell? ⟨gt, 0, none⟩ = some (.int .i64 t.kind) ∧ wA.cell? ⟨gt, 1, none⟩ = some (.int .i64 t.line) ∧ wA.cell? ⟨gt, 2, none⟩ = some (.int .i64 t.col) ∧ wA.cell? ⟨gt, 3, none⟩ = some (.string t.text) ∧ wA.cell? ⟨gt, 4, none⟩ = some (.int .u32 t.num) ∧ wA.cell? ⟨gt, 5, none⟩ = some (.int .i64 t.spare) := ⟨kt.cell 0, kt.cell 1, kt.cell 2, kt.cell 3, kt.cell 4, kt.cell 5⟩
            have KB := Lib.hid kb
            have KR := Lib.hid kr
            have KW := Lib.hid kB
            have KT := Lib.hid kt
            clear kb kr kB kt
            go_wp2_with fail
            refine (tight_is t _).mono ?_
            rintro e x2 ⟨rfl, hb2⟩
            replace KB := Lib.hid (KB.out.next hb2)
            replace KR := Lib.hid (KR.out.next hb2)
            replace KW := Lib.hid (KW.out.trans (.of hb2))
            replace KT := Lib.hid (KT.out.below hb2 KT.out.lt)
            clear hb2 s0 s1 s2 s3 s4 s5
            have q1 : x2.cell? ⟨R, 1, none⟩ = some (.int .i64 j) := KB.out.cell 1
            have y1 := Blk.frozen KB.out 1
            go_wp2_with fail
            refine (HBO.out _ vj (KB.out.set1 (j + 1) _ rfl) (KR.out.set 1 _)).mono ?_
            rintro e w4 ⟨⟨⟨b', rfl, hbs, hbk, hb4⟩, h4⟩, hk4⟩
            have H4 := Lib.hid (And.intro hbs (And.intro hbk (And.intro hb4 (And.intro h4 (KW.out.trans ((Keeps.set KB.out _).trans hk4))))))
            clear hbs hbk hb4 h4 hk4 q1 y1
            go_wp2_with fail
            go_ret
            exact ⟨⟨⟨b', rfl, H4.out.1, H4.out.2.1, H4.out.2.2.1⟩, H4.out.2.2.2.1⟩, H4.out.2.2.2.2⟩
      · have hli : (t.tight : Int) < l := by omega
        have hres : r = .inl (j, nsj) := by
          cases hru with
          | done _ _ _ _ h => rfl
          | moreFell _ _ _ _ t' e h hl2 hr =>
            rw [ht] at h
            injection h with h
            subst h
            exact absurd hl2 hl
          | more _ _ _ _ t' j' ns' _ h hl2 hr hm =>
            rw [ht] at h
            injection h with h
            subst h
            exact absurd hl2 hl
        subst hres
        clear hcs hru ht
        go_wp2_with fail
        go_quiet (fail)
        generalize hq : wr.drewN _ = wq
        have hbq : Below wr.heap.size wr wq := hq ▸ HDN.out _
        clear hq HDN c0 c1
        have HBQ := Lib.hid hbq
        obtain ⟨e0, e1, e2, e3, e4, e5⟩ := HC.out wq hbq
        have c0 : wq.cell? ⟨R, 0, none⟩ = some (.slice (some ⟨b, o, none⟩) ts.length c) := (HB.out.next hbq).cell 0
        have c1 : wq.cell? ⟨R, 1, none⟩ = some (.int .i64 j) := (HB.out.next hbq).cell 1
        have hup : ∀ o, Below wr.heap.size wr (wq.alloc o) := fun o => hbq.alloc hbq.size o
        have d0 : ∀ o', (wq.alloc o').cell? ⟨R, 0, none⟩ = some (.slice (some ⟨b, o, none⟩) ts.length c) := fun o' => (HB.out.next (hup o')).cell 0
        have d1 : ∀ o', (wq.alloc o').cell? ⟨R, 1, none⟩ = some (.int .i64 j) := fun o' => (HB.out.next (hup o')).cell 1
        have f0 := fun o' => (HC.out _ (hup o')).1
        have f1 := fun o' => (HC.out _ (hup o')).2.1
        have f2 := fun o' => (HC.out _ (hup o')).2.2.1
        have f3 := fun o' => (HC.out _ (hup o')).2.2.2.1
        have f4 := fun o' => (HC.out _ (hup o')).2.2.2.2.1
        have f5 := fun o' => (HC.out _ (hup o')).2.2.2.2.2
        clear hup hbq
        go_wp2_with fail
        go_region
        all_goals (try go_wp2_with fail)
        clear c0 c1 e0 e1 e2 e3 e4 e5 d0 d1 f0 f1 f2 f3 f4 f5
        obtain ⟨kb, kr, kB, kt, -⟩ := tok_world HB.out HR.out HBQ.out t
        have kb : RBlk (wq.alloc (.cells #[.int .i64 t.kind, .int .i64 t.line, .int .i64 t.col, .string t.text, .int .u32 t.num, .int .i64 t.spare] 39)).drew R (.slice (some ⟨b, o, none⟩) ts.length c) j d vj := Blk.drew kb
        have kr := kr.drew
        have kt := Blk.drew kt
        have kB := HKW.out.trans (Keeps.of kB.drew)
        generalize (wq.alloc (.cells #[.int .i64 t.kind, .int .i64 t.line, .int .i64 t.col, .string t.text, .int .u32 t.num, .int .i64 t.spare] 39)).drew = wA at kb kr kB kt ⊢
        generalize wq.heap.size = gt at kt ⊢
        obtain ⟨s0, s1, s2, s3, s4, s5⟩ : wA.cell? ⟨gt, 0, none⟩ = some (.int .i64 t.kind) ∧ wA.cell? ⟨gt, 1, none⟩ = some (.int .i64 t.line) ∧ wA.cell? ⟨gt, 2, none⟩ = some (.int .i64 t.col) ∧ wA.cell? ⟨gt, 3, none⟩ = some (.string t.text) ∧ wA.cell? ⟨gt, 4, none⟩ = some (.int .u32 t.num) ∧ wA.cell? ⟨gt, 5, none⟩ = some (.int .i64 t.spare) := ⟨kt.cell 0, kt.cell 1, kt.cell 2, kt.cell 3, kt.cell 4, kt.cell 5⟩
        have KB := Lib.hid kb
        have KR := Lib.hid kr
        have KW := Lib.hid kB
        have KT := Lib.hid kt
        clear kb kr kB kt
        go_wp2_with fail
        refine (tight_is t _).mono ?_
        rintro e x2 ⟨rfl, hb2⟩
        replace KB := Lib.hid (KB.out.next hb2)
        replace KR := Lib.hid (KR.out.next hb2)
        replace KW := Lib.hid (KW.out.trans (.of hb2))
        replace KT := Lib.hid (KT.out.below hb2 KT.out.lt)
        clear hb2 s0 s1 s2 s3 s4 s5
        have q1 : x2.cell? ⟨R, 1, none⟩ = some (.int .i64 j) := KB.out.cell 1
        have y1 := Blk.frozen KB.out 1
        go_wp2_with fail
        go_ret
        exact ⟨⟨rfl, vj, KB.out, KR.out⟩, KW.out⟩
    · obtain rfl : j = ts.length := by omega
      have hki2 : ¬ (ts.length : Int) < ts.length := by omega
      have hkd : decide ((ts.length : Int) < ts.length) = false := decide_eq_false hki2
      have hkn : decide (ts.length < ts.length) = false := decide_eq_false (by omega)
      have hnone : ts[ts.length]? = none := List.getElem?_eq_none (Nat.le_refl _)
      have hres : r = .inl (ts.length, nsj) := by
        cases hru with
        | done _ _ _ _ h => rfl
        | moreFell _ _ _ _ t' e h hl2 hr => rw [hnone] at h; cases h
        | more _ _ _ _ t' j' ns' _ h hl2 hr hm => rw [hnone] at h; cases h
      subst hres
      clear hru hnone
      go_wp2_with fail
      go_quiet (fail)
      generalize hq : wr.drewN _ = wq
      have hbq : Below wr.heap.size wr wq := hq ▸ HDN.out _
      have HBQ := Lib.hid hbq
      clear hq HDN c0 c1 hbq
      go_wp2_with fail
      go_ret
      exact ⟨⟨rfl, vj, HB.out.next HBQ.out, HR.out.next HBQ.out⟩, HKW.out.trans (.of HBQ.out)⟩
end Go.Proofs.YtbhfblogjlpnlaaDoor
