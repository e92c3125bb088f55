/-
  The contracts of slices.Clone at tokens, and of the program's Parts. Conditions: the tokens' cells lie in the memory; there are at most 100000 of them.
-/
import Derived.Test.YtbhfblogjlpnlabDoorMacTok
import Derived.Test.YtbhfblogjlpnlabDoorRxLines
import Derived.Lib.SliceRun
namespace Go.Proofs.YtbhfblogjlpnlabDoor
open Go.RowKit

set_option maxRecDepth 100000 in
set_option maxHeartbeats 1000000 in
theorem clone_nil (c : Nat) (w : World) : Calls Tryd.prog 50 #[.slice none 0 c] w fun e w' => e = .returned (.slice none 0 0) ∧ w' = w := by
  have q22 : ∀ (w : World) (a : Option Addr) (n c n' c' : Nat), (binOp .eql 30 (.slice a n c) (.slice none n' c')).run Tryd.prog w = .ok (.bool a.isNone) w := fun w a n c n' c' => Lib.run_eql_slice_nil w _ _ a n c n' c' Tryd.underlying30
  go_enter Tryd.func50, Tryd.ntmps50
  go_wp2_with fail
  go_ret
  exact ⟨rfl, rfl⟩

set_option maxRecDepth 100000 in
set_option maxHeartbeats 1000000 in
theorem clone_some (a : Addr) (n c : Nat) (news : List Value) (w : World) (hn : n ≤ 100000) (hl : news.length = n * 6) (hnews : ∀ j u, news[j]? = some u → w.cell? (a.add j) = some u) (h1 : ∀ u ∈ news, u.oneCell' = true) :
    Calls Tryd.prog 50 #[.slice (some a) n c] w fun e w' => (∃ v, e = .returned v ∧ w'.ownsRow w.heap.size 56 6 v n news) ∧ Below w.heap.size w w' := by
  obtain ⟨i0, hi, hz0, hz1, hz2⟩ := info_parts Tryd.infoTok
  have hup : ∀ o j u, news[j]? = some u → (w.alloc o).cell? (a.add j) = some u := fun o j u hj => (((Below.refl _ w).alloc (Nat.le_refl _) o).cell (p := a.add j) (World.block_lt_of_cell? w _ (hnews j u hj))).trans (hnews j u hj)
  have HL := Lib.hid hl
  have HUP := Lib.hid hup
  have H1 := Lib.hid h1
  clear hl hup h1 hnews
  have q22 : ∀ (w : World) (a : Option Addr) (n c n' c' : Nat), (binOp .eql 30 (.slice a n c) (.slice none n' c')).run Tryd.prog w = .ok (.bool a.isNone) w := fun w a n c n' c' => Lib.run_eql_slice_nil w _ _ a n c n' c' Tryd.underlying30
  go_enter Tryd.func50, Tryd.ntmps50
  go_wp2_with (first | (at_builtin; refine wpList_append_own _ rfl _ _ 30 rfl w.heap.size 56 i0 (.agg #[.int .i64 0, .int .i64 0, .int .i64 0, .string ByteArray.empty, .int .u32 0, .int .i64 0]) 6 56 Tryd.underlying30 hi hz0 hz1 hz2 rfl (by decide) _ 0 [] rfl (World.ownsRow_lit w #[] 0 (Nat.le_refl _) (Nat.zero_le _) rfl) a n c news rfl HL.out (HUP.out _) H1.out (by unfold maxLen; omega) (by omega) (by simp) ?_; intro v' w2 hown' hgrow _))
  go_ret
  exact ⟨⟨v', rfl, by simpa using hown'⟩, Below.grown ((Below.refl _ _).alloc (Nat.le_refl _) _) hgrow (by simp) (fun g hg => by cases hg; exact Nat.le_refl _)⟩

/-- Rows of tokens of any fields. -/
def RowsAt (w : World) (base : Nat) (us : List Value) (pss : List (List Tk6)) : Prop := us.length = pss.length ∧ ∀ (i : Nat) (ps : List Tk6), pss[i]? = some ps → ∃ u, us[i]? = some u ∧ w.ownsRow base 56 6 u ps.length (cellsOf ps)
theorem RowsAt.below {w w' : World} {base : Nat} {us : List Value} {pss : List (List Tk6)} (h : RowsAt w base us pss) (hb : Below w.heap.size w w') : RowsAt w' base us pss :=
  ⟨h.1, fun i ps hi => by
    obtain ⟨u, hu, ho⟩ := h.2 i ps hi
    exact ⟨u, hu, own_below ho hb⟩⟩
theorem RowsAt.grown {w w' : World} {base b2 n2 : Nat} {us x2 : List Value} {pss : List (List Tk6)} {v : Value} (h : RowsAt w base us pss) (ho : w.ownsRow b2 30 1 v n2 x2) (hg : w.grownBy w' v.ownBlock) : RowsAt w' base us pss :=
  ⟨h.1, fun i ps hi => by
    obtain ⟨u, hu, hu2⟩ := h.2 i ps hi
    exact ⟨u, hu, hu2.kept hg (own_ne hu2 ho (by decide))⟩⟩
theorem RowsAt.snoc {w : World} {base : Nat} {us : List Value} {pss : List (List Tk6)} {u : Value} {ps : List Tk6} (h : RowsAt w base us pss) (hu : w.ownsRow base 56 6 u ps.length (cellsOf ps)) : RowsAt w base (us ++ [u]) (pss ++ [ps]) := by
  refine ⟨by simp [h.1], fun i qs hi => ?_⟩
  rcases Nat.lt_trichotomy i pss.length with hlt | rfl | hgt
  · rw [List.getElem?_append_left hlt] at hi
    obtain ⟨x, hx, ho⟩ := h.2 i qs hi
    exact ⟨x, by rw [List.getElem?_append_left (by rw [h.1]; exact hlt)]; exact hx, ho⟩
  · simp at hi
    subst hi
    exact ⟨u, by rw [← h.1]; simp, hu⟩
  · rw [List.getElem?_eq_none (by simp; omega)] at hi
    cases hi

theorem parts_next {r : List Tk6} {rest : List (List Tk6)} (h : PartsR Tk6.mk3 r rest) : ∃ rest', rest = r.take (partEnd Tk6.mk3 0 r) :: rest' ∧ ((partEnd Tk6.mk3 0 r = r.length ∧ rest' = []) ∨ (partEnd Tk6.mk3 0 r < r.length ∧ PartsR Tk6.mk3 (r.drop (partEnd Tk6.mk3 0 r + 1)) rest')) := by
  cases h with
  | last _ h => exact ⟨[], by rw [h, List.take_length], .inl ⟨h, rfl⟩⟩
  | more _ ps h hp => exact ⟨ps, rfl, .inr ⟨h, hp⟩⟩

/-- What holds while a line is parted. -/
structure QInv (w0 : World) (pss : List (List Tk6)) (ts : List Tk6) (k : Nat) (v : Value) (wr : World) (done rest : List (List Tk6)) (us : List Value) : Prop where
  eq : done ++ rest = pss
  src : (k = ts.length + 1 ∧ rest = []) ∨ (k ≤ ts.length ∧ PartsR Tk6.mk3 (ts.drop k) rest)
  few : done.length ≤ k
  own : wr.ownsRow w0.heap.size 30 1 v done.length us
  rows : RowsAt wr w0.heap.size us done
  below : Below w0.heap.size w0 wr

theorem q_step {w0 wr w1 w3 : World} {pss done rest : List (List Tk6)} {ts ps : List Tk6} {k E : Nat} {v v' u : Value} {us : List Value} {o1 : Obj} (h : QInv w0 pss ts k v wr done (ps :: rest) us)
    (hb1 : Below wr.heap.size wr w1) (hu : w1.ownsRow wr.heap.size 56 6 u ps.length (cellsOf ps)) (hkE : k ≤ E)
    (hown' : w3.ownsRow w0.heap.size 30 1 v' (done.length + 1) (us ++ [u])) (hgrow : (w1.alloc o1).grownBy w3 v.ownBlock)
    (hs : (E + 1 = ts.length + 1 ∧ rest = []) ∨ (E + 1 ≤ ts.length ∧ PartsR Tk6.mk3 (ts.drop (E + 1)) rest)) : QInv w0 pss ts (E + 1) v' w3 (done ++ [ps]) rest (us ++ [u]) := by
  have hsz := h.below.size
  have hs1 := hb1.size
  have hown2 : (w1.alloc o1).ownsRow w0.heap.size 30 1 v done.length us := (own_below h.own hb1).alloc _
  have hl1 : RowsAt (w1.alloc o1) w0.heap.size (us ++ [u]) (done ++ [ps]) :=
    ((h.rows.below hb1).snoc (own_base hu hsz)).below (w' := w1.alloc o1) ((Below.refl _ _).alloc (Nat.le_refl _) _)
  refine ⟨by simpa using h.eq, hs, by rw [List.length_append, List.length_singleton]; have := h.few; omega, by simpa using hown', hl1.grown hown2 hgrow, ?_⟩
  refine Below.grown ((h.below.trans (hb1.mono hsz)).alloc (by omega) o1) hgrow (by simp; omega) ?_
  intro g hg
  exact (h.own.lt g hg).1

set_option maxRecDepth 100000 in
set_option maxHeartbeats 4000000 in
theorem parts_some (ts : List Tk6) (b o c : Nat) (pss : List (List Tk6)) (w : World) (h0 : 0 < ts.length) (hn : ts.length ≤ 100000) (hc : ts.length ≤ c) (hcm : c ≤ maxLen) (hv : Toks w (.slice (some ⟨b, o, none⟩) ts.length c) ts) (hcell : ∀ q u, (cellsOf ts)[q]? = some u → w.cell? ⟨b, o + q, none⟩ = some u) (hp : PartsR Tk6.mk3 ts pss) :
    Calls Tryd.prog 22 #[.slice (some ⟨b, o, none⟩) ts.length c] w fun e w' => (∃ v us, e = .returned v ∧ w'.ownsRow w.heap.size 30 1 v pss.length us ∧ RowsAt w' w.heap.size us pss) ∧ Below w.heap.size w w' := by
  obtain ⟨i1, hi, hz0, hz1, hz2⟩ := info_parts Tryd.infoLine
  have h0i : (0 : Int) < ts.length := by omega
  have HT := Lib.hid hv
  have HC := Lib.hid hcell
  have HP := Lib.hid hp
  clear hv hcell hp
  go_enter Tryd.func22, Tryd.ntmps22
  go_wp2_with fail
  go_loopw [3, 4] (fun v i wr => ∃ (k : Nat) (done rest : List (List Tk6)) (us : List Value), i = .int .i64 k ∧ k ≤ ts.length + 1 ∧ Hid (QInv w pss ts k v wr done rest us)) (fun _ i _ => ts.length + 1 - (intOf i).toNat)
  case atStart => exact ⟨0, [], pss, [], rfl, by omega, Lib.hid ⟨rfl, .inr ⟨Nat.zero_le _, by rw [List.drop_zero]; exact HP.out⟩, Nat.le_refl _, World.ownsRow_nil _ _ _ _, ⟨rfl, fun i ps h => by simp at h⟩, Below.refl _ _⟩⟩
  case round =>
    obtain ⟨k, done, rest, us, rfl, hk, HI⟩ := hrel
    by_cases hkl : k ≤ ts.length
    · have hki : (k : Int) ≤ ts.length := by omega
      have hsrc := HI.out.src.resolve_left (fun h => by omega)
      obtain ⟨rest', rfl, hnext⟩ := parts_next hsrc.2
      have hle := partEnd_le Tk6.mk3 0 (ts.drop k)
      have HPE := Lib.hid (fun W (hW : Below w.heap.size w W) => partEnd_is ts (.slice (some ⟨b, o, none⟩) ts.length c) k W (HT.out.below hW) hkl hn)
      generalize partEnd Tk6.mk3 0 (ts.drop k) = e at *
      rw [List.length_drop] at hle hnext
      obtain ⟨E, hE⟩ : ∃ E, k + e = E := ⟨_, rfl⟩
      have hseg := fun q u h => HC.out (k * 6 + q) u (cellsOf_seg ts k e (by omega) q u h)
      have HSEG := Lib.hid hseg
      have hpl : ((ts.drop k).take e).length = e := by rw [List.length_take, List.length_drop]; omega
      have hs : (E + 1 = ts.length + 1 ∧ rest' = []) ∨ (E + 1 ≤ ts.length ∧ PartsR Tk6.mk3 (ts.drop (E + 1)) rest') := by
        rcases hnext with ⟨h1, h2⟩ | ⟨h1, h2⟩
        · exact .inl ⟨by omega, h2⟩
        · rw [List.drop_drop, show k + (e + 1) = E + 1 by omega] at h2
          exact .inr ⟨by omega, h2⟩
      have HS := Lib.hid hs
      have HPL := Lib.hid hpl
      rw [hE] at HPE
      have hkE : (k : Int) ≤ E := by omega
      have hEc : (E : Int) ≤ c := by omega
      have hEl : (E : Int) ≤ ts.length := by omega
      have HkE : Hid (k ≤ E) := Lib.hid (by omega)
      have HEe : Hid (E - k = e) := Lib.hid (by omega)
      have hdl : done.length ≤ 100001 := by have := HI.out.few; omega
      clear hnext hsrc hseg hs hpl hle hE
      go_wp2_with fail
      refine (HPE.out _ HI.out.below).mono ?_
      rintro e1 w1 ⟨rfl, hb1⟩
      have HB1 := Lib.hid hb1
      clear hb1
      by_cases hck : c = k
      · have hEk : Hid (E = k) := Lib.hid (by have := HkE.out; omega)
        have HNIL : Hid ((ts.drop k).take e = []) := Lib.hid (List.eq_nil_of_length_eq_zero (by rw [HPL.out, ← HEe.out, hEk.out]; omega))
        subst hck
        obtain rfl : E = c := hEk.out
        have HCL := Lib.hid (clone_some ⟨b, o, none⟩ 0 0 [] w1 (by omega) rfl (fun q u hq => by simp at hq) (fun u hu => by cases hu))
        go_wp2_with fail
        refine HCL.out.mono ?_
        rintro e2 w2 ⟨⟨u, rfl, hu⟩, hb2⟩
        obtain ⟨Au, cu, rfl⟩ := own_shape hu
        have HB2 := Lib.hid (HB1.out.trans (hb2.mono HB1.out.size))
        have HU := Lib.hid hu
        clear hu hb2
        have c2 := fun (w1 : World) => cells_new w1 #[.slice Au 0 cu] 30 w1.heap.size rfl
        have HC2 := Lib.hid c2
        clear c2
        have HUU := Lib.hid (show w2.ownsRow wr.heap.size 56 6 (.slice Au 0 cu) ((ts.drop E).take e).length (cellsOf ((ts.drop E).take e)) from by rw [HNIL.out]; exact own_base HU.out HB1.out.size)
        go_wp2_with (first | (at_builtin; refine wpList_append_own _ rfl _ _ 23 rfl w.heap.size 30 i1 (.slice none 0 0) 1 24 Tryd.underlying23 hi hz0 hz1 hz2 rfl (by decide) _ _ _ rfl ((own_below HI.out.own HB2.out).alloc _) ⟨w2.heap.size, 0, none⟩ 1 1 [.slice Au 0 cu] rfl rfl (HC2.out w2) (by intro x hx; simp at hx; subst hx; rfl) (by unfold maxLen; omega) (by omega) (by have := HI.out.below.size; have := HB2.out.size; simp; omega) ?_; intro v' w9 hown' hgrow _; have RR := q_step HI.out HB2.out HUU.out (Nat.le_refl _) hown' hgrow HS.out; clear hown' hgrow))
        have HRR := Lib.hid RR
        clear RR
        go_roundw
        case rel => exact ⟨E + 1, _, _, _, by go_num, by omega, HRR⟩
        case measure => simp [intOf]; omega
      · have HCL := Lib.hid (clone_some ⟨b, o + k * 6, none⟩ (E - k) (c - k) (cellsOf ((ts.drop k).take e)) w1 (by omega) (by rw [cellsOf_len, HPL.out, HEe.out]) (fun q u hq => by
          have hadd : (⟨b, o + k * 6, none⟩ : Addr).add q = ⟨b, o + (k * 6 + q), none⟩ := by unfold Addr.add; split <;> simp_all [Nat.add_assoc]
          have hw := HSEG.out q u hq
          rw [hadd]
          exact ((HI.out.below.trans (HB1.out.mono HI.out.below.size)).cell (p := ⟨b, o + (k * 6 + q), none⟩) (World.block_lt_of_cell? w _ hw)).trans hw) (cellsOf_one _))
        go_wp2_with fail
        refine HCL.out.mono ?_
        rintro e2 w2 ⟨⟨u, rfl, hu⟩, hb2⟩
        obtain ⟨Au, cu, rfl⟩ := own_shape hu
        have HB2 := Lib.hid (HB1.out.trans (hb2.mono HB1.out.size))
        have HU := Lib.hid hu
        clear hu hb2
        have c2 := fun (w1 : World) => cells_new w1 #[.slice Au (E - k) cu] 30 w1.heap.size rfl
        have HC2 := Lib.hid c2
        clear c2
        have HUU := Lib.hid (show w2.ownsRow wr.heap.size 56 6 (.slice Au (E - k) cu) ((ts.drop k).take e).length (cellsOf ((ts.drop k).take e)) from by rw [show ((ts.drop k).take e).length = E - k from HPL.out.trans HEe.out.symm]; exact own_base HU.out HB1.out.size)
        go_wp2_with (first | (at_builtin; refine wpList_append_own _ rfl _ _ 23 rfl w.heap.size 30 i1 (.slice none 0 0) 1 24 Tryd.underlying23 hi hz0 hz1 hz2 rfl (by decide) _ _ _ rfl ((own_below HI.out.own HB2.out).alloc _) ⟨w2.heap.size, 0, none⟩ 1 1 [.slice Au (E - k) cu] rfl rfl (HC2.out w2) (by intro x hx; simp at hx; subst hx; rfl) (by unfold maxLen; omega) (by omega) (by have := HI.out.below.size; have := HB2.out.size; simp; omega) ?_; intro v' w9 hown' hgrow _; have RR := q_step HI.out HB2.out HUU.out HkE.out hown' hgrow HS.out; clear hown' hgrow))
        have HRR := Lib.hid RR
        clear RR
        go_roundw
        case rel => exact ⟨E + 1, _, _, _, by go_num, by omega, HRR⟩
        case measure => simp [intOf]; omega
    · obtain rfl : k = ts.length + 1 := by omega
      have hr : rest = [] := by
        rcases HI.out.src with ⟨_, h⟩ | ⟨h, _⟩
        · exact h
        · omega
      subst hr
      have hd : done = pss := by have := HI.out.eq; rwa [List.append_nil] at this
      subst hd
      go_wp2_with fail
      go_ret
      exact ⟨⟨_, us, rfl, HI.out.own, HI.out.rows⟩, HI.out.below⟩

set_option maxRecDepth 100000 in
set_option maxHeartbeats 1000000 in
theorem parts_zero (A : Option Addr) (c : Nat) (w : World) : Calls Tryd.prog 22 #[.slice A 0 c] w fun e w' => e = .returned (.slice none 0 0) ∧ w' = w := by
  go_enter Tryd.func22, Tryd.ntmps22
  go_wp2_with fail
  refine wp_loop_rounds 1 ?_
  rw [rounds_succ]
  go_wp2_with fail
  go_ret
  exact ⟨rfl, rfl⟩

/-- The parts of tokens; of none there is none. -/
def PartsOf (ts : List Tk6) (pss : List (List Tk6)) : Prop := (ts = [] ∧ pss = []) ∨ (0 < ts.length ∧ PartsR Tk6.mk3 ts pss)
theorem partsOf_all (ts : List Tk6) : ∃ pss, PartsOf ts pss := by
  rcases Nat.eq_zero_or_pos ts.length with h | h
  · exact ⟨[], .inl ⟨List.eq_nil_of_length_eq_zero h, rfl⟩⟩
  · obtain ⟨ps, hp⟩ := parts_all Tk6.mk3 _ ts rfl
    exact ⟨ps, .inr ⟨h, hp⟩⟩
theorem parts_is (ts : List Tk6) (v : Value) (pss : List (List Tk6)) (w : World) (hn : ts.length ≤ 100000) (hv : Toks w v ts) (hp : PartsOf ts pss) :
    Calls Tryd.prog 22 #[v] w fun e w' => (∃ v us, e = .returned v ∧ w'.ownsRow w.heap.size 30 1 v pss.length us ∧ RowsAt w' w.heap.size us pss) ∧ Below w.heap.size w w' := by
  rcases hp with ⟨rfl, rfl⟩ | ⟨h0, hp⟩
  · obtain ⟨A, c, rfl, _⟩ := hv.form
    refine (parts_zero A c w).mono ?_
    rintro e w' ⟨rfl, rfl⟩
    exact ⟨⟨_, [], rfl, World.ownsRow_nil _ _ _ _, ⟨rfl, fun i ps h => by simp at h⟩⟩, Below.refl _ _⟩
  · have hv' := hv
    rcases hv with ⟨_, _, _, _, rfl⟩ | ⟨b, o, c, rfl, h2, h3, _, h5⟩
    · simp at h0
    · exact parts_some ts b o c pss w h0 hn h2 h3 hv' (cellsOf_at ts w b o h5) hp
end Go.Proofs.YtbhfblogjlpnlabDoor
