/-
  The contract of the lexer's Lines: the lines of tokens that the document says, or an error that tells which of them has, where, and why, what is no token; or that the source is too long. Conditions: the source's bytes lie in the memory; its room is within the model's bound; the handle of the type error; the variable internal/bytealg.MaxLen holds a number.
-/
import Derived.Test.YtbhfblogjlpnlaaDoorIxSplit
namespace Go.Proofs.YtbhfblogjlpnlaaDoor
open Go.RowKit

/-- The answer of Lines. -/
def ILines (w0 : World) (all : List (List Piece)) (err : Option (Nat × Nat × Int)) (e : Ending) (w' : World) : Prop :=
  (match err with
  | none => ∃ v us, e = .returned (.tuple #[v, .nilIface]) ∧ w'.ownsRow w0.heap.size 36 1 v all.length us ∧ LinesAt w' w0.heap.size us all
  | some (l, i, c) => ∃ g, e = .returned (.tuple #[.slice none 0 0, .iface 63 (.pointer (some ⟨g, 0, none⟩))]) ∧ w0.heap.size ≤ g ∧ Blk w' g 68 #[.int .i64 ((l : Int) + 1), .int .i64 ((i : Int) + 1), .iface 56 (.int .i64 c)]) ∧ Below w0.heap.size w0 w'

theorem cut_mem : ∀ (l p : Bs), p ∈ cut l → p.length ≤ l.length
  | [], p, h => by simp [cut] at h; simp [h]
  | c :: l, p, h => by
    rw [cut] at h
    split at h
    · rcases List.mem_cons.1 h with rfl | h
      · simp
      · have := cut_mem l p h
        simp
        omega
    · split at h
      · rw [List.mem_singleton.1 h]
        simp
      · rename_i q qs hq
        rcases List.mem_cons.1 h with rfl | h
        · have := cut_mem l q (by rw [hq]; simp)
          simp
          omega
        · have := cut_mem l p (by rw [hq]; simp [h])
          simp
          omega

theorem HoldsL.bytes {w : World} {b o : Nat} {p : Bs} (h : HoldsL w b o p) (hb : b < w.heap.size) : Bytes w b o (ba p) :=
  ⟨hb, fun j hj => h j (by rw [ba_size] at hj; exact hj)⟩

/-- What holds at the loop's head. -/
structure SLInv (w2 : World) (ls : List Bs) (all : List (List Piece)) (err : Option (Nat × Nat × Int)) (i : Nat) (v : Value) (wr : World) (done rest : List (List Piece)) (us : List Value) : Prop where
  eq : err = none → done ++ rest = all
  src : LinesR done.length (ls.drop i) rest err
  idx : done.length = i
  own : wr.ownsRow w2.heap.size 36 1 v done.length us
  lines : LinesAt wr w2.heap.size us done
  below : Below w2.heap.size w2 wr

theorem sl_step {w2 wr w1 w3 : World} {ls : List Bs} {all done rest : List (List Piece)} {err : Option (Nat × Nat × Int)} {ps : List Piece} {i : Nat} {v v' u : Value} {us : List Value} {o1 : Obj}
    (heq : err = none → done ++ ps :: rest = all) (hidx : done.length = i) (hown : wr.ownsRow w2.heap.size 36 1 v done.length us) (hlines : LinesAt wr w2.heap.size us done)
    (hbel : Below w2.heap.size w2 wr) (hb1 : Below wr.heap.size wr w1) (hu : w1.ownsRow wr.heap.size 39 6 u ps.length (allCells ps ((i : Int) + 1)))
    (hown' : w3.ownsRow w2.heap.size 36 1 v' (done.length + 1) (us ++ [u])) (hgrow : (w1.alloc o1).grownBy w3 v.ownBlock)
    (hs : LinesR (done.length + 1) (ls.drop (i + 1)) rest err) : SLInv w2 ls all err (i + 1) v' w3 (done ++ [ps]) rest (us ++ [u]) := by
  have hsz := hbel.size
  have hs1 := hb1.size
  have hown2 : (w1.alloc o1).ownsRow w2.heap.size 36 1 v done.length us := (own_below hown hb1).alloc _
  rw [← hidx] at hu
  have hl1 : LinesAt (w1.alloc o1) w2.heap.size (us ++ [u]) (done ++ [ps]) :=
    ((hlines.below hb1).snoc (own_base hu hsz)).below (w' := w1.alloc o1) ((Below.refl _ _).alloc (Nat.le_refl _) _)
  refine ⟨by simpa using heq, by rw [List.length_append]; exact hs, by simp [hidx], by simpa using hown', hl1.grown hown2 hgrow, ?_⟩
  refine Below.grown ((hbel.trans (hb1.mono hsz)).alloc (by omega) o1) hgrow (by simp; omega) ?_
  intro g hg
  exact (hown.lt g hg).1

set_option maxRecDepth 100000 in
set_option maxHeartbeats 4000000 in
theorem ilines_is (s : ByteArray) (b o c : Nat) (m : Int) (all : List (List Piece)) (err : Option (Nat × Nat × Int)) (w : World) (hg : Handle w) (hm : w.cell? ⟨1, 0, none⟩ = some (.int .i64 m))
    (hs : s.size ≤ 65536) (hc : s.size ≤ c) (hcm : c ≤ maxLen) (hB : Bytes w b o s) (h : LinesR 0 (cut s.data.toList) all err) :
    Calls Tryd.prog 12 #[.slice (some ⟨b, o, none⟩) s.size c] w (ILines w all err) := by
  obtain ⟨i0, hi, hz0, hz1, hz2⟩ := info_parts Tryd.infoLine
  have hsi : ¬ (65536 : Int) < s.size := by omega
  have hml : 1 < w.heap.size := World.block_lt_of_cell? w ⟨1, 0, none⟩ hm
  have hbw := hB.lt
  have hb1 : Below w.heap.size w (w.alloc (.cells #[.int .u8 10] 5)) := (Below.refl _ _).alloc (Nat.le_refl _) _
  have HSP := Lib.hid (split_is s b o c w.heap.size m (w.alloc (.cells #[.int .u8 10] 5)) hs hc hcm (hB.below hb1) (by simp) ((hb1.cell (p := ⟨1, 0, none⟩) hml).trans hm))
  have HG := Lib.hid hg
  have HH := Lib.hid h
  have HCL := Lib.hid (cut_len s.data.toList)
  have HCM := Lib.hid (fun p hp => Nat.le_trans (cut_mem s.data.toList p hp) (Nat.le_of_eq (len_size s)))
  have HB1 := Lib.hid hb1
  rw [len_size] at HCL
  generalize cut s.data.toList = ls at *
  clear hB hg hm h hb1 hcm
  go_enter Tryd.func12, Tryd.ntmps12
  go_wp2_with fail
  refine HSP.out.mono ?_
  rintro e w2 ⟨vs, rfl, hP, hb2, hcells, hsz⟩
  have HBP := Lib.hid hb2
  rw [World.size_alloc] at hb2 hcells hsz
  have hvl := hP.len
  have hvs : vs.length ≤ 65537 := by have := HCL.out; omega
  have HP := Lib.hid hP
  have HC := Lib.hid hcells
  have HB2 := Lib.hid (HB1.out.trans (hb2.mono (by omega)))
  clear hP hb2 hcells
  go_wp2_with fail
  go_loopw [4, 18] (fun v i wr => ∃ (k : Nat) (done rest : List (List Piece)) (us : List Value), i = .int .i64 k ∧ k ≤ vs.length ∧ Hid (SLInv w2 ls all err k v wr done rest us)) (fun _ i _ => vs.length - (intOf i).toNat)
  case atStart => exact ⟨0, [], all, [], rfl, Nat.zero_le _, Lib.hid ⟨fun _ => rfl, HH.out, rfl, World.ownsRow_nil _ _ _ _, ⟨rfl, fun i ps h => by simp at h⟩, Below.refl _ _⟩⟩
  case round =>
    obtain ⟨k, done, rest, us, rfl, hk, HI⟩ := hrel
    have hown := HI.out.own
    have hidx := HI.out.idx
    have hbs := HI.out.below.size
    have hwb : Hid (Below w.heap.size w wr) := Lib.hid (HB2.out.trans (HI.out.below.mono (by omega)))
    by_cases hlt : k < vs.length
    · have hki : (k : Int) < vs.length := by omega
      obtain ⟨p, hp⟩ : ∃ p, ls[k]? = some p := ⟨_, List.getElem?_eq_getElem (by omega)⟩
      obtain ⟨o', cp, hv, hpc, hh⟩ := HP.out.get k p hp
      have hck : wr.cell? ⟨w.heap.size + 1, k, none⟩ = some (.slice (some ⟨b, o', none⟩) p.length cp) := (HI.out.below.cell (p := ⟨w.heap.size + 1, k, none⟩) (by simp; omega)).trans (HC.out k _ hv)
      have hpl := HCM.out p (List.mem_of_getElem? hp)
      have hby : Bytes wr b o' (ba p) := ((hh.bytes (by simp; omega)).below HBP.out |>.below (HI.out.below.mono (Nat.le_refl _)))
      have hla := fun ps e h => line_is (ba p) b o' cp ((k : Int) + 1) ps e wr (HG.out.below hwb.out HG.out.pos) (by rw [ba_size]; omega) (by rw [ba_size]; exact hpc) hby h
      rw [ba_size, ba_list] at hla
      have hdr : ls.drop k = p :: ls.drop (k + 1) := by
        have hkl : k < ls.length := by omega
        rw [List.drop_eq_getElem_cons hkl]
        rw [List.getElem?_eq_getElem hkl] at hp
        injection hp with hp
        rw [hp]
      have hsrc := HI.out.src
      rw [hdr] at hsrc
      clear hdr hh hv hp hby
      generalize hdn : done.length = dn at hsrc
      cases hsrc with
      | good _ _ _ ps pss' _ hlex hmore =>
        subst hdn
        have HLA := Lib.hid (hla ps none hlex)
        have HM := Lib.hid hmore
        have c1 := fun (w1 : World) (u : Value) => cells_new w1 #[u] 36 w1.heap.size rfl
        have HCN := Lib.hid c1
        clear c1 hlex hmore hla
        go_wp2_with fail
        refine HLA.out.mono ?_
        rintro e w1 ⟨⟨u, rfl, hu⟩, hb1⟩
        obtain ⟨Au, cu, rfl⟩ := own_shape hu
        have hs1 := hb1.size
        go_wp2_with (first | (at_builtin; refine wpList_append_own _ rfl _ _ 24 rfl w2.heap.size 36 i0 (.slice none 0 0) 1 24 Tryd.underlying24 hi hz0 hz1 hz2 rfl (by decide) _ _ _ rfl ((own_below hown hb1).alloc _) ⟨w1.heap.size, 0, none⟩ 1 1 [.slice Au ps.length cu] rfl rfl (HCN.out w1 _) (by intro x hx; simp at hx; subst hx; rfl) (by unfold maxLen; omega) (by omega) (by simp; omega) ?_; intro v' w3 hown' hgrow _; have RR := sl_step HI.out.eq hidx hown HI.out.lines HI.out.below hb1 hu hown' hgrow HM.out; clear hown' hgrow))
        go_roundw
        case rel => exact ⟨k + 1, _, _, _, by go_num, by omega, Lib.hid RR⟩
        case measure => simp [intOf]; omega
      | bad _ _ _ ps i cd hlex =>
        subst hdn
        have HLA := Lib.hid (hla ps _ hlex)
        clear hlex hla hown
        go_wp2_with fail
        refine HLA.out.mono ?_
        rintro e w1 ⟨⟨g, rfl, hgs, hblk⟩, hb1⟩
        have HK := Lib.hid hblk
        have HE := Lib.hid (hwb.out.trans (hb1.mono hwb.out.size))
        have hws := hwb.out.size
        clear hblk hb1
        go_wp2_with fail
        go_ret2
        exact ⟨⟨g, rfl, by omega, by rw [hidx]; exact HK.out⟩, HE.out⟩
    · obtain rfl : k = vs.length := by omega
      have hsrc := HI.out.src
      rw [List.drop_eq_nil_of_le (by omega)] at hsrc
      have HO := Lib.hid hown
      have HL := Lib.hid HI.out.lines
      have HE := HI.out.eq
      cases hsrc
      have hd := HE rfl
      rw [List.append_nil] at hd
      rw [hd] at HO HL
      clear hown HE hd
      go_wp2_with fail
      go_ret2
      exact ⟨⟨_, _, rfl, own_base HO.out (by omega), HL.out.base (by omega)⟩, hwb.out⟩
end Go.Proofs.YtbhfblogjlpnlaaDoor
