/-
  The contracts of the reader, whole: what ERun says. Conditions: the handle of the type error; the tokens lie in the memory, and are tame: at most 100000 of them, no scope, no text longer than 100000 bytes.
-/
import Derived.Test.YtbhfblogjlpnlaaDoorExBound
namespace Go.Proofs.YtbhfblogjlpnlaaDoor
open Go.RowKit

set_option maxRecDepth 100000 in
set_option maxHeartbeats 1000000 in
theorem expression_is (w0 : World) (ts : List Tk6) (vt : Value) (R d : Nat) (r : (Nat × List Nd) ⊕ (Nat × Int)) (w : World)
    (HB : Hid (Calls Tryd.prog 45 #[.pointer (some ⟨R, 0, none⟩), .int .i64 1] w (EPost w0 ts vt R d r w))) :
    Calls Tryd.prog 28 #[.pointer (some ⟨R, 0, none⟩)] w (EPost w0 ts vt R d r w) := by
  go_enter Tryd.func28, Tryd.ntmps28
  go_wp2_with fail
  refine HB.out.mono ?_
  intro e w4 h4
  obtain ⟨v, rfl, h5⟩ := epost_ret h4
  have H5 := Lib.hid h5
  clear h4 h5
  go_wp2_with fail
  go_ret
  exact H5.out

set_option maxRecDepth 100000 in
set_option maxHeartbeats 1000000 in
theorem closed_fell (w0 : World) (ts : List Tk6) (vt : Value) (R d : Nat) (x : Nat × Int) (w : World)
    (HP : Hid (Calls Tryd.prog 28 #[.pointer (some ⟨R, 0, none⟩)] w (EPost w0 ts vt R d (.inr x) w))) :
    Calls Tryd.prog 90 #[.pointer (some ⟨R, 0, none⟩)] w (EPost w0 ts vt R d (.inr x) w) := by
  go_enter Tryd.func90, Tryd.ntmps90
  go_wp2_with fail
  refine HP.out.mono ?_
  rintro e w3 ⟨⟨⟨b, rfl, hbs, hbk, hb3⟩, h3⟩, hk3⟩
  have H3 := Lib.hid (And.intro hbs (And.intro hbk (And.intro hb3 (And.intro h3 hk3))))
  clear h3 hk3 hbs hbk hb3
  go_wp2_with fail
  go_ret
  exact ⟨⟨⟨b, rfl, H3.out.1, H3.out.2.1, H3.out.2.2.1⟩, H3.out.2.2.2.1⟩, H3.out.2.2.2.2⟩

set_option maxRecDepth 100000 in
set_option maxHeartbeats 1000000 in
theorem closed_go (w0 : World) (ts : List Tk6) (vt : Value) (R d j : Nat) (ns' : List Nd) (w : World) (hg : Handle w0) (hn : ts.length ≤ 100000) (hj : j ≤ ts.length) (hv : Toks w0 vt ts) (r2 : (Nat × List Nd) ⊕ (Nat × Int)) (hr2 : (if markAt ts j ⟨#[41]⟩ = true then .inl (j + 1, ns') else .inr (j, 6)) = r2)
    (HP : Hid (Calls Tryd.prog 28 #[.pointer (some ⟨R, 0, none⟩)] w (EPost w0 ts vt R d (.inl (j, ns')) w))) :
    Calls Tryd.prog 90 #[.pointer (some ⟨R, 0, none⟩)] w (EPost w0 ts vt R d r2 w) := by
  go_enter Tryd.func90, Tryd.ntmps90
  go_wp2_with fail
  refine HP.out.mono ?_
  rintro e w3 ⟨⟨rfl, vn', kb, kr⟩, hk3⟩
  have hm := rmark_is w0 ts vt vn' ns' R j d ⟨#[41]⟩ w3 hg hn hj kb hv kr
  rw [hr2] at hm
  have HM := Lib.hid hm
  have HK := Lib.hid hk3
  clear kb kr hk3 hv hg hm hr2
  go_wp2_with fail
  refine HM.out.mono ?_
  intro e w4 h4
  obtain ⟨v, rfl, h5⟩ := epost_ret h4
  have H5 := Lib.hid (h5.from_ HK.out)
  clear h4 h5
  go_wp2_with fail
  go_ret
  exact H5.out

set_option maxRecDepth 100000 in
set_option maxHeartbeats 1000000 in
theorem argument_fell (w0 : World) (ts : List Tk6) (vt : Value) (R d _i : Nat) (x : Nat × Int) (w : World)
    (HP : Hid (Calls Tryd.prog 102 #[.pointer (some ⟨R, 0, none⟩), .string ⟨#[40]⟩] w (EPost w0 ts vt R d (.inr x) w))) :
    Calls Tryd.prog 88 #[.pointer (some ⟨R, 0, none⟩)] w (EPost w0 ts vt R d (.inr x) w) := by
  go_enter Tryd.func88, Tryd.ntmps88
  go_wp2_with fail
  refine HP.out.mono ?_
  rintro e w3 ⟨⟨⟨b, rfl, hbs, hbk, hb3⟩, h3⟩, hk3⟩
  have H3 := Lib.hid (And.intro hbs (And.intro hbk (And.intro hb3 (And.intro h3 hk3))))
  clear h3 hk3 hbs hbk hb3
  go_wp2_with fail
  go_ret
  exact ⟨⟨⟨b, rfl, H3.out.1, H3.out.2.1, H3.out.2.2.1⟩, H3.out.2.2.2.1⟩, H3.out.2.2.2.2⟩

set_option maxRecDepth 100000 in
set_option maxHeartbeats 1000000 in
theorem argument_go (w0 : World) (ts : List Tk6) (vt : Value) (R d i : Nat) (ns : List Nd) (r : (Nat × List Nd) ⊕ (Nat × Int)) (w : World)
    (HP : Hid (Calls Tryd.prog 102 #[.pointer (some ⟨R, 0, none⟩), .string ⟨#[40]⟩] w (EPost w0 ts vt R d (.inl (i + 1, ns)) w)))
    (HC : Hid (∀ W vn, RBlk W R vt (i + 1) d vn → ERest w0 R ns vn W → Calls Tryd.prog 90 #[.pointer (some ⟨R, 0, none⟩)] W (EPost w0 ts vt R d r W))) :
    Calls Tryd.prog 88 #[.pointer (some ⟨R, 0, none⟩)] w (EPost w0 ts vt R d r w) := by
  go_enter Tryd.func88, Tryd.ntmps88
  go_wp2_with fail
  refine HP.out.mono ?_
  rintro e w3 ⟨⟨rfl, vn', kb, kr⟩, hk3⟩
  have HM := Lib.hid (HC.out w3 vn' kb kr)
  have HK := Lib.hid hk3
  clear kb kr hk3
  go_wp2_with fail
  refine HM.out.mono ?_
  intro e w4 h4
  obtain ⟨v, rfl, h5⟩ := epost_ret h4
  have H5 := Lib.hid (h5.from_ HK.out)
  clear h4 h5
  go_wp2_with fail
  go_ret
  exact H5.out

/-- Behind what is handed on. -/
def eafter (t : Tk6) (k : Option Int) : (Nat × List Nd) ⊕ (Nat × Int) → (Nat × List Nd) ⊕ (Nat × Int)
  | .inl (j, ns') => .inl (j, ns' ++ t.nodes k)
  | .inr e => .inr e
theorem part_inv {ts : List Tk6} {d i : Nat} {ns : List Nd} {r : (Nat × List Nd) ⊕ (Nat × Int)} {t : Tk6} {k : Option Int} {q : EKind} (h : ERun ts .part d i ns r) (ht : ts[i]? = some t) (hf : t.first = some (k, q)) :
    ∃ r', ((32 ≤ d ∧ r' = .inr (i, 14)) ∨ (d < 32 ∧ ERun ts q (d + 1) (i + 1) ns r')) ∧ r = eafter t k r' := by
  cases h with
  | none _ _ _ h => rw [ht] at h; cases h
  | leaf _ _ _ t' n h hf' hl =>
    rw [ht] at h
    injection h with h
    subst h
    rw [hf] at hf'
    cases hf'
  | bad _ _ _ t' h hf' hl =>
    rw [ht] at h
    injection h with h
    subst h
    rw [hf] at hf'
    cases hf'
  | deep _ _ _ t' k' q' h hf' hd => exact ⟨_, .inl ⟨hd, rfl⟩, rfl⟩
  | fell _ _ _ t' k' q' e h hf' hd hr =>
    rw [ht] at h
    injection h with h
    subst h
    rw [hf] at hf'
    injection hf' with hf'
    injection hf' with h1 h2
    subst h1 h2
    exact ⟨_, .inr ⟨hd, hr⟩, rfl⟩
  | ahead _ _ _ t' k' q' j ns' h hf' hd hr =>
    rw [ht] at h
    injection h with h
    subst h
    rw [hf] at hf'
    injection hf' with hf'
    injection hf' with h1 h2
    subst h1 h2
    exact ⟨_, .inr ⟨hd, hr⟩, rfl⟩
theorem part_inv0 {ts : List Tk6} {d i : Nat} {ns : List Nd} {r : (Nat × List Nd) ⊕ (Nat × Int)} {t : Tk6} (h : ERun ts .part d i ns r) (ht : ts[i]? = some t) (hf : t.first = none) : r = (match t.leaf with | some n => .inl (i + 1, ns ++ [n]) | none => .inr (i, 6)) := by
  cases h with
  | none _ _ _ h => rw [ht] at h; cases h
  | leaf _ _ _ t' n h hf' hl =>
    rw [ht] at h
    injection h with h
    subst h
    rw [hl]
  | bad _ _ _ t' h hf' hl =>
    rw [ht] at h
    injection h with h
    subst h
    rw [hl]
  | deep _ _ _ t' k' q' h hf' hd =>
    rw [ht] at h
    injection h with h
    subst h
    rw [hf] at hf'
    cases hf'
  | fell _ _ _ t' k' q' e h hf' hd hr =>
    rw [ht] at h
    injection h with h
    subst h
    rw [hf] at hf'
    cases hf'
  | ahead _ _ _ t' k' q' j ns' h hf' hd hr =>
    rw [ht] at h
    injection h with h
    subst h
    rw [hf] at hf'
    cases hf'

/-- The calls. -/
def ecall (q : EKind) (R : Nat) (w : World) (P : Ending → World → Prop) : Prop :=
  match q with
  | .part => Calls Tryd.prog 63 #[.pointer (some ⟨R, 0, none⟩)] w P
  | .bound l => Calls Tryd.prog 45 #[.pointer (some ⟨R, 0, none⟩), .int .i64 (l : Int)] w P
  | .more _ => True
  | .argument => Calls Tryd.prog 88 #[.pointer (some ⟨R, 0, none⟩)] w P
  | .closed => Calls Tryd.prog 90 #[.pointer (some ⟨R, 0, none⟩)] w P

theorem eall (w0 : World) (ts : List Tk6) (vt : Value) (R : Nat) (hg : Handle w0) (htm : Tame ts) (hv : Toks w0 vt ts) : ∀ (n : Nat) (q : EKind) (d i : Nat) (ns : List Nd) (r : (Nat × List Nd) ⊕ (Nat × Int)), eleft ts.length q i ≤ n → i ≤ ts.length → ns.length ≤ i → d ≤ 32 → ERun ts q d i ns r →
    ∀ w vn, RBlk w R vt i d vn → ERest w0 R ns vn w → ecall q R w (EPost w0 ts vt R d r w) := by
  have hn := htm.few
  intro n
  induction n with
  | zero =>
    intro q d i ns r h hi
    cases q <;> simp only [eleft] at h <;> omega
  | succ n ih =>
    intro q d i ns r h hi hns hd hr w vn hb hR
    cases q with
    | part =>
      cases ht : ts[i]? with
      | none =>
        have : r = .inr (i, 6) := by
          cases hr with
          | none _ _ _ h => rfl
          | leaf _ _ _ t' n h hf' hl => rw [ht] at h; cases h
          | bad _ _ _ t' h hf' hl => rfl
          | deep _ _ _ t' k' q' h hf' hd => rw [ht] at h; cases h
          | fell _ _ _ t' k' q' e h hf' hd hr => rw [ht] at h; cases h
          | ahead _ _ _ t' k' q' j ns' h hf' hd hr => rw [ht] at h; cases h
        subst this
        exact part_none w0 ts vt vn ns R i d w hg hn hi ht hb hv hR
      | some t =>
        have hil := (List.getElem?_eq_some_iff.1 ht).1
        have hmem : t ∈ ts := List.mem_of_getElem? ht
        -- what deeper answers, at each of what is handed on
        have hdeep : ∀ (q : EKind) (r' : (Nat × List Nd) ⊕ (Nat × Int)), (q = .part ∨ q = .argument ∨ q = .closed) → ((32 ≤ d ∧ r' = .inr (i, 14)) ∨ (d < 32 ∧ ERun ts q (d + 1) (i + 1) ns r')) →
            ∀ W vn, RBlk W R vt i d vn → ERest w0 R ns vn W → Calls Tryd.prog 89 #[.pointer (some ⟨R, 0, none⟩), t.val, .func (.func (ehand q)) #[.pointer (some ⟨R, 0, none⟩)] #[]] W (EPost w0 ts vt R d r' W) := by
          intro q r' hq hor W vn hbW hRW
          rcases hor with ⟨h32, rfl⟩ | ⟨hlt, hrun⟩
          · exact deeper_bad w0 ts vt vn ns R i d t _ W hg ht h32 hd hbW hRW
          · have hleft : eleft ts.length q (i + 1) ≤ n := by
              rcases hq with rfl | rfl | rfl <;> simp only [eleft] at h ⊢ <;> omega
            have hih := ih q (d + 1) (i + 1) ns r' hleft (by omega) (by omega) (by omega) hrun
            rcases hq with rfl | rfl | rfl
            · exact deeper_part w0 ts vt vn ns R i d t r' W hn hi hlt hbW hRW (Lib.hid hih)
            · exact deeper_argument w0 ts vt vn ns R i d t r' W hn hi hlt hbW hRW (Lib.hid hih)
            · exact deeper_closed w0 ts vt vn ns R i d t r' W hn hi hlt hbW hRW (Lib.hid hih)
        -- what ahead answers
        have hahead : ∀ (q : EKind) (k : Int) (r' : (Nat × List Nd) ⊕ (Nat × Int)), (q = .part ∨ q = .argument ∨ q = .closed) → ((32 ≤ d ∧ r' = .inr (i, 14)) ∨ (d < 32 ∧ ERun ts q (d + 1) (i + 1) ns r')) →
            ∀ W vn, RBlk W R vt i d vn → ERest w0 R ns vn W → Calls Tryd.prog 86 #[.pointer (some ⟨R, 0, none⟩), t.val, .int .i64 k, .func (.func (ehand q)) #[.pointer (some ⟨R, 0, none⟩)] #[]] W (EPost w0 ts vt R d (eafter t (some k) r') W) := by
          intro q k r' hq hor W vn hbW hRW
          have HD := Lib.hid (hdeep q r' hq hor)
          rcases r' with ⟨j, ns'⟩ | e
          · have hj : j ≤ ts.length ∧ ns'.length ≤ j := by
              rcases hor with ⟨_, h⟩ | ⟨_, hrun⟩
              · cases h
              · have h1 := erun_far hrun (by omega)
                have h2 := erun_few hrun _ _ rfl
                simp only [EFar] at h1
                exact ⟨h1.1, by omega⟩
            exact ahead_ok w0 ts vt vn ns R i d t k (ehand q) j ns' (by omega) W hbW hRW HD
          · exact ahead_fell w0 ts vt vn ns R i d t k (ehand q) e W hbW hRW HD
        cases hf : t.first with
        | none =>
          have hres := part_inv0 hr ht hf
          rw [hres]
          have hm1 : t.isM ⟨#[45]⟩ = false := by
            cases hm : t.isM ⟨#[45]⟩ with
            | false => rfl
            | true => unfold Tk6.first at hf; rw [if_pos hm] at hf; cases hf
          have hm2 : t.isM ⟨#[126]⟩ = false := by
            cases hm : t.isM ⟨#[126]⟩ with
            | false => rfl
            | true => unfold Tk6.first at hf; rw [if_neg (by rw [hm1]; decide), if_pos hm] at hf; cases hf
          have hk : t.kind ≠ 4 := fun hk => by
            unfold Tk6.first at hf
            rw [if_neg (by rw [hm1]; decide), if_neg (by rw [hm2]; decide), if_pos hk] at hf
            cases hf
          have hm3 : t.isM ⟨#[40]⟩ = false := by
            cases hm : t.isM ⟨#[40]⟩ with
            | false => rfl
            | true => unfold Tk6.first at hf; rw [if_neg (by rw [hm1]; decide), if_neg (by rw [hm2]; decide), if_neg hk, if_pos hm] at hf; cases hf
          exact part_leaf w0 ts vt vn ns R i d t _ w hn ht hm1 hm2 hm3 hk hb hv hR (Lib.hid (fun W vn' hbW hRW => leaf_is w0 ts vt vn' ns R i d t W hg (by omega) (by omega) (htm.spare t hmem) (htm.text t hmem) hbW hv hRW))
        | some p =>
          obtain ⟨k, q⟩ := p
          obtain ⟨r', hor, hres⟩ := part_inv hr ht hf
          rw [hres]
          have hq := first_kind hf
          unfold Tk6.first at hf
          cases hm1 : t.isM ⟨#[45]⟩ with
          | true =>
            rw [if_pos hm1] at hf
            injection hf with hf
            injection hf with h1 h2
            subst h1 h2
            exact part_minus w0 ts vt vn ns R i d t _ w hn ht hm1 hb hv hR (Lib.hid (hahead .part 4 r' hq hor))
          | false =>
            rw [if_neg (by rw [hm1]; decide)] at hf
            cases hm2 : t.isM ⟨#[126]⟩ with
            | true =>
              rw [if_pos hm2] at hf
              injection hf with hf
              injection hf with h1 h2
              subst h1 h2
              exact part_tilde w0 ts vt vn ns R i d t _ w hn ht hm1 hm2 hb hv hR (Lib.hid (hahead .part 5 r' hq hor))
            | false =>
              rw [if_neg (by rw [hm2]; decide)] at hf
              by_cases hk : t.kind = 4
              · rw [if_pos hk] at hf
                injection hf with hf
                injection hf with h1 h2
                subst h1 h2
                exact part_func w0 ts vt vn ns R i d t _ w hn ht hm1 hm2 hk hb hv hR (Lib.hid (hahead .argument (funcKind t.text) r' hq hor))
              · rw [if_neg hk] at hf
                cases hm3 : t.isM ⟨#[40]⟩ with
                | false =>
                  rw [if_neg (by rw [hm3]; decide)] at hf
                  cases hf
                | true =>
                  rw [if_pos hm3] at hf
                  injection hf with hf
                  injection hf with h1 h2
                  subst h1 h2
                  have hsame : eafter t none r' = r' := by
                    rcases r' with ⟨j, ns'⟩ | e
                    · show Sum.inl (j, ns' ++ []) = _
                      rw [List.append_nil]
                    · rfl
                  rw [hsame]
                  exact part_paren w0 ts vt vn ns R i d t _ w hn ht hm1 hm2 hm3 hk hb hv hR (Lib.hid (hdeep .closed r' hq hor))
    | bound l =>
      have hpart : ∀ r', ERun ts .part d i ns r' → Calls Tryd.prog 63 #[.pointer (some ⟨R, 0, none⟩)] w (EPost w0 ts vt R d r' w) := fun r' h' => ih .part d i ns r' (by simp only [eleft] at h ⊢; omega) hi hns hd h' w vn hb hR
      cases hr with
      | boundFell _ _ _ _ e h1 => exact bound_fell w0 ts vt R d l e w (Lib.hid (hpart _ h1))
      | bound _ _ _ _ j ns' _ h1 h2 =>
        have hf := erun_far h1 hi
        simp only [EFar] at hf
        have hfew := erun_few h1 _ _ rfl
        exact bound_go w0 ts vt vn ns R l i d j ns' r w hn hb hv hR (Lib.hid (hpart _ h1)) hf.2 hf.1 (by omega) h2 (Lib.hid (fun l' i' ns2 r2 ha hb2 hc2 hd2 W vW hbW hRW => ih (.bound l') d i' ns2 r2 (by simp only [eleft] at h ⊢; omega) hb2 hc2 hd hd2 W vW hbW hRW))
    | more l => trivial
    | argument =>
      cases hr with
      | argumentBad _ _ _ hm =>
        have := rmark_is w0 ts vt vn ns R i d ⟨#[40]⟩ w hg hn hi hb hv hR
        rw [if_neg (by rw [hm]; decide)] at this
        exact argument_fell w0 ts vt R d i _ w (Lib.hid this)
      | argument _ _ _ _ hm h1 =>
        have := rmark_is w0 ts vt vn ns R i d ⟨#[40]⟩ w hg hn hi hb hv hR
        rw [if_pos hm] at this
        have hlt := markAt_lt hm
        exact argument_go w0 ts vt R d i ns r w (Lib.hid this) (Lib.hid (ih .closed d (i + 1) ns r (by simp only [eleft] at h ⊢; omega) (by omega) (by omega) hd h1))
    | closed =>
      have hex : ∀ r', ERun ts (.bound 1) d i ns r' → Calls Tryd.prog 28 #[.pointer (some ⟨R, 0, none⟩)] w (EPost w0 ts vt R d r' w) := fun r' h' => expression_is w0 ts vt R d r' w (Lib.hid (ih (.bound 1) d i ns r' (by simp only [eleft] at h ⊢; omega) hi hns hd h' w vn hb hR))
      cases hr with
      | closedFell _ _ _ e h1 => exact closed_fell w0 ts vt R d e w (Lib.hid (hex _ h1))
      | closedBad _ _ _ j ns' h1 hm =>
        have hf := erun_far h1 hi
        simp only [EFar] at hf
        exact closed_go w0 ts vt R d j ns' w hg hn hf.1 hv _ (if_neg (by rw [hm]; decide)) (Lib.hid (hex _ h1))
      | closed _ _ _ j ns' h1 hm =>
        have hf := erun_far h1 hi
        simp only [EFar] at hf
        exact closed_go w0 ts vt R d j ns' w hg hn hf.1 hv _ (if_pos hm) (Lib.hid (hex _ h1))
end Go.Proofs.YtbhfblogjlpnlaaDoor
