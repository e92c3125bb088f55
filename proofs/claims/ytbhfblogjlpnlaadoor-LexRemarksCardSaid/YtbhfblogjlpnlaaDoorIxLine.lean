/-
  The contract of the lexer's line: the tokens that the document says, each with the line's number and its column, or an error that tells the place and the reason of what is none. Conditions: the slice's bytes lie in the memory; it is of at most 65536 bytes; the handle of the type error.
-/
import Derived.Test.YtbhfblogjlpnlaaDoorIxTok
import Derived.Test.YtbhfblogjlpnlaaDoorRxLine
import Derived.Test.YtbhfblogjlpnlaaDoorErr
namespace Go.Proofs.YtbhfblogjlpnlaaDoor
open Go.RowKit

/-- The answer of line. -/
def ILine (w0 : World) (ps : List Piece) (err : Option (Nat × Int)) (ln : Int) (e : Ending) (w' : World) : Prop :=
  (match err with
  | none => ∃ v, e = .returned (.tuple #[v, .nilIface]) ∧ w'.ownsRow w0.heap.size 39 6 v ps.length (allCells ps ln)
  | some (i, c) => ∃ g, e = .returned (.tuple #[.slice none 0 0, .iface 63 (.pointer (some ⟨g, 0, none⟩))]) ∧ w0.heap.size ≤ g ∧ Blk w' g 68 #[.int .i64 ln, .int .i64 ((i : Int) + 1), .iface 56 (.int .i64 c)]) ∧ Below w0.heap.size w0 w'

theorem blanks_any (s : ByteArray) (A : Option Addr) (c : Nat) (w : World) (hs : s.size ≤ 65536) (hh : Holds w A s) :
    Calls Tryd.prog 35 #[.slice A s.size c] w fun e w' => e = .returned (.int .i64 (pre isBlank s.data.toList)) ∧ w = w' := by
  have HR := Lib.hid (run_blank s A c w hs hh)
  clear hh
  go_enter Tryd.func35, Tryd.ntmps35
  go_wp2_with fail
  refine HR.out.mono ?_
  rintro e w' ⟨rfl, rfl⟩
  go_wp2_with fail
  go_ret
  exact ⟨rfl, rfl⟩

theorem blanks0 (A : Option Addr) (c : Nat) (w : World) : Calls Tryd.prog 35 #[.slice A 0 c] w fun e w' => e = .returned (.int .i64 0) ∧ w = w' := blanks_any ByteArray.empty A c w (by decide) (.inl rfl)

theorem pre_cons (p : UInt8 → Bool) (a : UInt8) (l : Bs) : pre p (a :: l) = if p a = true then 1 + pre p l else 0 := by
  unfold pre
  rw [List.takeWhile_cons]
  split
  · simp; omega
  · rfl
theorem pre_zero {p : UInt8 → Bool} {l : Bs} {k : Nat} (h : k < l.length) (hp : p (l.getD k 0) = false) : pre p (l.drop k) = 0 := by
  rw [List.drop_eq_getElem_cons h]
  rw [List.getD_eq_getElem?_getD, List.getElem?_eq_getElem h] at hp
  simp only [Option.getD_some] at hp
  rw [pre_cons, hp]
  rfl
theorem lex_skip {l : Bs} {k : Nat} {ps : List Piece} {e : Option (Nat × Int)} (h : LexFrom l k ps e) : LexFrom l (k + pre isBlank (l.drop k)) ps e := by
  induction h with
  | done => rw [List.drop_eq_nil_of_le (Nat.le_refl _)]; exact .done
  | remark i h hr => rw [pre_zero h (by rw [hr]; decide)]; exact .remark i h hr
  | blank i ps e h hb r ih =>
    have : pre isBlank (l.drop i) = 1 + pre isBlank (l.drop (i + 1)) := by
      rw [List.drop_eq_getElem_cons h]
      rw [List.getD_eq_getElem?_getD, List.getElem?_eq_getElem h] at hb
      simp only [Option.getD_some] at hb
      rw [pre_cons, if_pos hb]
    rw [this, ← Nat.add_assoc]
    exact ih
  | bad i code h hb hr ht => rw [pre_zero h hb]; exact .bad i code h hb hr ht
  | tok i n k text num ps e h hb hr ht r ih => rw [pre_zero h hb]; exact .tok i n k text num ps e h hb hr ht r
theorem pre_stop (p : UInt8 → Bool) : ∀ (l : Bs), pre p l < l.length → p (l.getD (pre p l) 0) = false
  | [], h => by simp at h
  | a :: l, h => by
    by_cases ha : p a = true
    · have h1 : pre p (a :: l) = pre p l + 1 := by simp [pre, ha]
      rw [h1] at h ⊢
      have := pre_stop p l (by simpa using h)
      simpa using this
    · have h1 : pre p (a :: l) = 0 := by simp [pre, ha]
      rw [h1]
      simpa using ha
theorem skip_stop {l : Bs} {k : Nat} (h : k + pre isBlank (l.drop k) < l.length) : isBlank (l.getD (k + pre isBlank (l.drop k)) 0) = false := by
  have := pre_stop isBlank (l.drop k) (by rw [List.length_drop]; omega)
  rw [List.getD_eq_getElem?_getD, List.getElem?_drop] at this
  rw [List.getD_eq_getElem?_getD]
  exact this

/-- What holds at the loop's head: the tokens that are read, and those to come. -/
structure ILInv (s : ByteArray) (w0 : World) (all : List Piece) (err : Option (Nat × Int)) (ln : Int) (k : Nat) (v : Value) (wr : World) (done rest : List Piece) : Prop where
  eq : err = none → done ++ rest = all
  lex : LexFrom s.data.toList k rest err
  own : wr.ownsRow w0.heap.size 39 6 v done.length (allCells done ln)
  few : done.length ≤ k
  below : Below w0.heap.size w0 wr
theorem ILInv.skip {s : ByteArray} {w0 : World} {all : List Piece} {err : Option (Nat × Int)} {ln : Int} {k : Nat} {v : Value} {wr : World} {done rest : List Piece} (h : ILInv s w0 all err ln k v wr done rest) : ILInv s w0 all err ln (k + pre isBlank (s.data.toList.drop k)) v wr done rest :=
  ⟨h.eq, lex_skip h.lex, h.own, by have := h.few; omega, h.below⟩

theorem iline_step {s : ByteArray} {w0 wr w1 w2 : World} {all done ps : List Piece} {err : Option (Nat × Int)} {ln : Int} {k n : Nat} {v v' : Value} {p : Piece} {o1 o2 : Obj}
    (heq : err = none → done ++ p :: ps = all) (hown : wr.ownsRow w0.heap.size 39 6 v done.length (allCells done ln)) (hf : done.length ≤ k) (hn : 1 ≤ n)
    (hbel : Below w0.heap.size w0 wr) (hb1 : Below wr.heap.size wr w1)
    (hown' : w2.ownsRow w0.heap.size 39 6 v' (done.length + 1) (allCells done ln ++ p.cells ln)) (hgrow : ((w1.alloc o1).alloc o2).grownBy w2 v.ownBlock)
    (hr : LexFrom s.data.toList (k + n) ps err) : ILInv s w0 all err ln (k + n) v' w2 (done ++ [p]) ps := by
  refine ⟨by simpa using heq, hr, ?_, by simp; omega, ?_⟩
  · rw [allCells_snoc, List.length_append]; exact hown'
  · have hs := hbel.size
    have hs1 := hb1.size
    refine Below.grown (((hbel.trans (hb1.mono hs)).alloc (by omega) o1).alloc (by simp; omega) o2) hgrow (by simp; omega) ?_
    intro g hg
    exact (hown.lt g hg).1

theorem iline_start {s : ByteArray} {w : World} {ps : List Piece} {err : Option (Nat × Int)} {ln : Int} (h : LexFrom s.data.toList 0 ps err) : ILInv s w ps err ln (pre isBlank s.data.toList) (.slice none 0 0) w [] ps := by
  have := ILInv.skip (s := s) (w0 := w) (all := ps) (err := err) (ln := ln) (k := 0) (v := .slice none 0 0) (wr := w) (done := []) (rest := ps) ⟨fun _ => rfl, h, World.ownsRow_nil _ _ _ _, Nat.zero_le _, Below.refl _ _⟩
  rwa [List.drop_zero, Nat.zero_add] at this

set_option maxRecDepth 100000 in
set_option maxHeartbeats 2000000 in
theorem line_is (s : ByteArray) (b o c : Nat) (ln : Int) (ps : List Piece) (err : Option (Nat × Int)) (w : World) (hg : Handle w) (hs : s.size ≤ 65536) (hc : s.size ≤ c) (hB : Bytes w b o s) (h : LexFrom s.data.toList 0 ps err) :
    Calls Tryd.prog 24 #[.slice (some ⟨b, o, none⟩) s.size c, .int .i64 ln] w (ILine w ps err ln) := by
  obtain ⟨i0, hi, hz0, hz1, hz2⟩ := info_parts Tryd.infoTok
  have HBL := Lib.hid (fun W => blanks_any s (some ⟨b, o, none⟩) c W hs)
  have HST := Lib.hid (iline_start (w := w) (ln := ln) h)
  have HSP := Lib.hid (fun hk => skip_stop (l := s.data.toList) (k := 0) hk)
  rw [List.drop_zero, Nat.zero_add] at HSP
  have HB := Lib.hid hB
  have HG := Lib.hid hg
  have hpl := pre_le isBlank s.data.toList
  rw [len_size] at hpl HSP
  clear h hB hg
  go_enter Tryd.func24, Tryd.ntmps24
  go_wp2_with fail
  refine (HBL.out _ (.inr ⟨b, o, rfl, HB.out⟩)).mono ?_
  rintro e w' ⟨rfl, rfl⟩
  go_wp2_with fail
  go_loopw [6, 7] (fun v i wr => ∃ (k : Nat) (done rest : List Piece), i = .int .i64 k ∧ Hid (ILInv s w ps err ln k v wr done rest) ∧ Hid (k < s.size → isBlank (s.data.toList.getD k 0) = false)) (fun _ i _ => s.size - (intOf i).toNat)
  case atStart => exact ⟨_, [], ps, rfl, HST, HSP⟩
  case round =>
    obtain ⟨k, done, rest, rfl, HI, HNB⟩ := hrel
    have hlex := HI.out.lex
    have hle := hlex.le
    rw [len_size] at hle
    have hle1 := hle.1
    have hle2 := hle.2
    clear hle
    have hbs := HI.out.below.size
    have hfew := HI.out.few
    have HAT := Lib.hid (fun (hk : k < s.size) => at_getD s k hk)
    have hown := HI.out.own
    generalize hlen : s.data.toList.length = z at hlex
    cases hlex with
    | done =>
      rw [len_size] at hlen
      subst hlen
      have HD : Hid (done = ps) := Lib.hid (by have := HI.out.eq rfl; simpa using this)
      have HO := Lib.hid hown
      clear hown
      go_wp2_with fail
      go_ret2
      exact ⟨⟨_, rfl, by rw [← HD.out]; exact HO.out⟩, HI.out.below⟩
    | remark _ hk hr =>
      subst hlen
      rw [len_size] at hk
      have HD : Hid (done = ps) := Lib.hid (by have := HI.out.eq rfl; simpa using this)
      have HO := Lib.hid hown
      rw [HAT.out hk] at hr
      have hki : (k : Int) < s.size := by omega
      have hck := (HB.out.below HI.out.below).cell k hk
      rw [hr] at hck
      change wr.cell? ⟨b, o + k, none⟩ = some (.int .u8 35) at hck
      clear hown hr
      go_wp2_with fail
      go_ret2
      exact ⟨⟨_, rfl, by rw [← HD.out]; exact HO.out⟩, HI.out.below⟩
    | blank _ _ _ hk hb r =>
      subst hlen
      rw [len_size] at hk
      rw [HNB.out hk] at hb
      cases hb
    | bad _ code hk hb hr ht =>
      subst hlen
      rw [len_size] at hk
      rw [HAT.out hk] at hr
      have hr1 : ((s[k].toNat : Int) == 35) = false := beq_nat_f (k := 35) (by decide) hr
      have hr2 : ((s[k].toNat : Int) != 35) = true := by rw [bne, hr1]; rfl
      have hki : (k : Int) < s.size := by omega
      have hkc : ¬ c = k := by omega
      have hkci : (k : Int) ≤ c := by omega
      have hck := (HB.out.below HI.out.below).cell k hk
      have htk := token_is (s.extract k s.size) b (o + k) (c - k) wr (by simp; omega) (by simp; omega) (by simp; omega) ((HB.out.below HI.out.below).part k s.size (Nat.le_refl _))
      rw [ext_drop, ht, show (s.extract k s.size).size = s.size - k by simp] at htk
      have HT := Lib.hid htk
      clear hown hr ht htk hb
      go_wp2_with fail
      refine HT.out.mono ?_
      rintro e w1 ⟨rfl, hb1⟩
      have HB1 := Lib.hid (HI.out.below.trans (hb1.mono hbs))
      have hs1 := HB1.out.size
      clear hb1
      go_wp2_with fail
      have hg1 := (HG.out.below HB1.out HG.out.pos).alloc zerosI
      have HA := Lib.hid (at_any ln ((k : Int) + 1) code _ hg1)
      clear hg1
      refine HA.out.mono ?_
      rintro e w2 ⟨g, rfl, hgb, hblk, hb2⟩
      have HB2 := Lib.hid ((HB1.out.alloc hs1 zerosI).trans (hb2.mono (by simp; omega)))
      have hgs : w.heap.size ≤ g := by simp at hgb; omega
      have HK := Lib.hid hblk
      clear hb2 hblk hgb
      go_wp2_with fail
      go_ret2
      exact ⟨⟨g, rfl, hgs, HK.out⟩, HB2.out⟩
    | tok _ n kd text num ps' _ hk hb hr ht r =>
      subst hlen
      rw [len_size] at hk
      rw [HAT.out hk] at hr
      have hr1 : ((s[k].toNat : Int) == 35) = false := beq_nat_f (k := 35) (by decide) hr
      have hr2 : ((s[k].toNat : Int) != 35) = true := by rw [bne, hr1]; rfl
      have hki : (k : Int) < s.size := by omega
      have hkc : ¬ c = k := by omega
      have hkci : (k : Int) ≤ c := by omega
      have hck := (HB.out.below HI.out.below).cell k hk
      have htn := (tok_len ht).1
      have htk := token_is (s.extract k s.size) b (o + k) (c - k) wr (by simp; omega) (by simp; omega) (by simp; omega) ((HB.out.below HI.out.below).part k s.size (Nat.le_refl _))
      rw [ext_drop, ht, show (s.extract k s.size).size = s.size - k by simp] at htk
      have HT := Lib.hid htk
      have hkn := r.le.1
      rw [len_size] at hkn
      have HR := Lib.hid r
      have hdl : done.length ≤ 65536 := by omega
      have c1 := fun (w1 : World) => cells_new (w1.alloc (.cells #[.int .i64 kd, .int .i64 ln, .int .i64 (k + 1), .string (ba text), .int .u32 num, .int .i64 0] 39)) #[.int .i64 kd, .int .i64 ln, .int .i64 (k + 1), .string (ba text), .int .u32 num, .int .i64 0] 39 (w1.heap.size + 1) (by simp)
      have HC := Lib.hid c1
      clear hr ht htk hb r c1
      have hkni : ((k : Int) + n) ≤ s.size := by omega
      have hknc : ((k : Int) + n) ≤ c := by omega
      have hn0 : (0 : Int) ≤ n := by omega
      by_cases hcn : c = k + n
      · subst hcn
        have hsk : s.size ≤ k + n := hc
        rw [Nat.add_sub_cancel_left] at HT
        go_wp2_with (first | (at_builtin; refine wpList_append_own _ rfl _ _ 36 rfl w.heap.size 39 i0 (.agg #[.int .i64 0, .int .i64 0, .int .i64 0, .string ByteArray.empty, .int .u32 0, .int .i64 0]) 6 56 Tryd.underlying36 hi hz0 hz1 hz2 rfl (by decide) _ _ _ rfl (((own_below hown hb1).alloc _).alloc _) ⟨w1.heap.size + 1, 0, none⟩ 1 1 (Piece.cells ⟨k, kd, text, num⟩ ln) rfl rfl (HC.out w1) (by intro u hu; simp [Piece.cells] at hu; rcases hu with rfl | rfl | rfl | rfl | rfl | rfl <;> rfl) (by unfold maxLen; omega) (by omega) (by have := hb1.size; simp; omega) ?_; intro v' w2 hown' hgrow _; have RR := iline_step (k := k) (n := n) HI.out.eq hown hfew htn HI.out.below hb1 hown' hgrow HR.out; clear hown' hgrow) | (go_at_call 36; refine HT.out.mono ?_; rintro e w1 ⟨rfl, hb1⟩))
        have HRR := Lib.hid RR
        clear RR
        refine (blanks0 _ _ _).mono ?_
        rintro e w' ⟨rfl, rfl⟩
        go_wp2_with fail
        go_roundw
        case rel =>
          refine ⟨k + n, _, _, by go_num, HRR, Lib.hid fun h => ?_⟩
          omega
        case measure => simp [intOf]; omega
      · go_wp2_with (first | (at_builtin; refine wpList_append_own _ rfl _ _ 36 rfl w.heap.size 39 i0 (.agg #[.int .i64 0, .int .i64 0, .int .i64 0, .string ByteArray.empty, .int .u32 0, .int .i64 0]) 6 56 Tryd.underlying36 hi hz0 hz1 hz2 rfl (by decide) _ _ _ rfl (((own_below hown hb1).alloc _).alloc _) ⟨w1.heap.size + 1, 0, none⟩ 1 1 (Piece.cells ⟨k, kd, text, num⟩ ln) rfl rfl (HC.out w1) (by intro u hu; simp [Piece.cells] at hu; rcases hu with rfl | rfl | rfl | rfl | rfl | rfl <;> rfl) (by unfold maxLen; omega) (by omega) (by have := hb1.size; simp; omega) ?_; intro v' w2 hown' hgrow _; have RR := iline_step (k := k) (n := n) HI.out.eq hown hfew htn HI.out.below hb1 hown' hgrow HR.out; clear hown' hgrow) | (go_at_call 36; refine HT.out.mono ?_; rintro e w1 ⟨rfl, hb1⟩))
        have HRR := Lib.hid RR
        have HBB := Lib.hid (blanks_any (s.extract (k + n) s.size) (some ⟨b, o + (k + n), none⟩) (c - (k + n)) w2 (by simp; omega) (.inr ⟨b, o + (k + n), rfl, (HB.out.below RR.below).part (k + n) s.size (Nat.le_refl _)⟩))
        rw [ext_drop, show (s.extract (k + n) s.size).size = s.size - (k + n) by simp] at HBB
        have hpl2 := pre_le isBlank (s.data.toList.drop (k + n))
        rw [List.length_drop, len_size] at hpl2
        have HSK := Lib.hid (RR.skip)
        have HST2 := Lib.hid (fun h => skip_stop (l := s.data.toList) (k := k + n) h)
        rw [len_size] at HST2
        clear RR
        generalize pre isBlank (s.data.toList.drop (k + n)) = P at *
        refine HBB.out.mono ?_
        rintro e w' ⟨rfl, rfl⟩
        go_wp2_with fail
        go_roundw
        case rel => exact ⟨k + n + P, _, _, by go_num, HSK, HST2⟩
        case measure => simp [intOf]; omega
end Go.Proofs.YtbhfblogjlpnlaaDoor
