/-
  What both lexers answer, in one form: a reading of the lines, and a place and a code. Conditions: the handle of the type error; the code of what is no token is one of 1 to 16.
-/
import Derived.Test.YtbhfblogjlpnlaaDoorLxSame
import Derived.Test.YtbhfblogjlpnlaaDoorLxAwake
namespace Go.Proofs.YtbhfblogjlpnlaaDoor
open Go.RowKit

def shown (all : List (List Piece)) (err : Option (Nat × Nat × Int)) : List (List Piece) := match err with
  | none => all
  | some _ => []
def fL (err : Option (Nat × Nat × Int)) : Int := match err with
  | none => 0
  | some x => (x.1 : Int) + 1
def fC (err : Option (Nat × Nat × Int)) : Int := match err with
  | none => 0
  | some x => (x.2.1 : Int) + 1
def fc (err : Option (Nat × Nat × Int)) : Int := match err with
  | none => 0
  | some x => x.2.2

theorem reading_nil (w : World) (base : Nat) : Reading w base (.slice none 0 0) [] := ⟨[], World.ownsRow_nil _ _ _ _, rfl, fun i ps h => by simp at h⟩

/-- The law's Fault at the lexer's error, in every world behind it. -/
def FaultIs (w : World) (x : Value) (L C c : Int) : Prop := ∀ W', Below w.heap.size w W' → Calls Tryd.prog 15 #[x] W' fun e w'' => e = .returned (.agg #[.int .i64 L, .int .i64 C, .int .i64 c]) ∧ Below W'.heap.size W' w''
theorem FaultIs.below {w w' : World} {x : Value} {L C c : Int} (h : FaultIs w x L C c) (hb : Below w.heap.size w w') : FaultIs w' x L C c := fun W' h' => h W' (hb.trans (h'.mono hb.size))

theorem ilines_gen {w0 w' : World} {all : List (List Piece)} {err : Option (Nat × Nat × Int)} {e : Ending} (hv : Vars w0) (hc : ∀ a b c, err = some (a, b, c) → 1 ≤ c ∧ c ≤ 16) (h : ILines w0 all err e w') :
    ∃ v x, e = .returned (.tuple #[v, x]) ∧ Reading w' w0.heap.size v (shown all err) ∧ FaultIs w' x (fL err) (fC err) (fc err) ∧ (err = none → x = .nilIface) ∧ (err ≠ none → ∃ g, x = .iface 63 (.pointer (some ⟨g, 0, none⟩)) ∧ v = .slice none 0 0) ∧ Below w0.heap.size w0 w' := by
  cases err with
  | none =>
    obtain ⟨⟨v, us, rfl, h1, h2⟩, hb⟩ := h
    exact ⟨v, _, rfl, ⟨us, h1, h2⟩, fun W' _ => fault_nil W', fun _ => rfl, fun h => absurd rfl h, hb⟩
  | some y =>
    obtain ⟨l, i, c⟩ := y
    obtain ⟨⟨g, rfl, h1, h2⟩, hb⟩ := h
    have hcc := hc l i c rfl
    refine ⟨_, _, rfl, reading_nil _ _, fun W' hW => ?_, fun h => (by cases h), fun _ => ⟨g, rfl, rfl⟩, hb⟩
    exact fault_err g _ _ _ W' ((hv.below hb).below hW).handle hcc.1 hcc.2 (h2.below hW h2.lt)
theorem rlines_gen {w0 w' : World} {all : List (List Piece)} {err : Option (Nat × Nat × Int)} {e : Ending} (h : LinesOut w0 all err e w') :
    ∃ v, e = .returned (.tuple #[v, .agg #[.int .i64 (fL err), .int .i64 (fC err), .int .i64 (fc err)]]) ∧ Reading w' w0.heap.size v (shown all err) ∧ Below w0.heap.size w0 w' := by
  cases err with
  | none =>
    obtain ⟨⟨v, us, rfl, h1, h2⟩, hb⟩ := h
    exact ⟨v, rfl, ⟨us, h1, h2⟩, hb⟩
  | some y =>
    obtain ⟨l, i, c⟩ := y
    obtain ⟨rfl, hb⟩ := h
    exact ⟨_, rfl, reading_nil _ _, hb⟩

theorem pieces_le {n m : Nat} {ls : List Bs} {pss : List (List Piece)} {e : Option (Nat × Nat × Int)} (h : LinesR n ls pss e) (hl : ∀ l ∈ ls, l.length ≤ m) : ∀ ps ∈ pss, ps.length ≤ m := by
  induction h with
  | nil n => intro ps h; cases h
  | good n l ls ps pss e h r ih =>
    intro qs hq
    rcases List.mem_cons.1 hq with rfl | hq
    · have := h.le.2
      have := hl l (by simp)
      omega
    · exact ih (fun x hx => hl x (by simp [hx])) qs hq
  | bad n l ls ps i c h => intro ps h; cases h

/-- The reference's Lines of a source. -/
theorem rlines_src (s : ByteArray) (v : Value) (all : List (List Piece)) (err : Option (Nat × Nat × Int)) (w : World) (hs : s.size ≤ 65536) (h : SrcV w v s) (hr : LinesR 0 (cut s.data.toList) all err) :
    Calls Tryd.prog 13 #[v] w (LinesOut w all err) := by
  rcases h with ⟨rfl, rfl⟩ | ⟨b, o, c, rfl, h2, h3, h4⟩
  · obtain ⟨rfl, rfl⟩ := src_nil hr
    exact lines_none w
  · exact lines_any s b o c all err w hs h2 h3 hr h4.lt h4.cell

theorem conv_src {w : World} {v : Value} {s : ByteArray} (h : SrcV w v s) : (convert 22 9 v).run Tryd.prog w = .ok (.string s) w := by
  rcases h with ⟨rfl, rfl⟩ | ⟨b, o, c, rfl, h2, h3, h4⟩
  · exact conv_none w
  · have := conv_bytes h4 0 s.size c (by omega)
    rw [Nat.add_zero, Nat.zero_add] at this
    rw [this, show s.extract 0 s.size = s from ba_eq (by rw [ext_take, List.take_of_length_le (by rw [len_size]; exact Nat.le_refl _)])]
theorem src_of_own {w : World} {base n : Nat} {v : Value} {s : ByteArray} (h : w.ownsRow base 5 1 v n (s.data.toList.map u8V)) (hn : n = s.size) : SrcV w v s := by
  subst hn
  rcases h.2 with ⟨rfl, h0⟩ | ⟨g, cap, cur, rfl, hg, hh, hc, hm, _, _⟩
  · refine .inl ⟨rfl, ba_eq ?_⟩
    exact List.eq_nil_of_length_eq_zero (by rw [len_size]; exact h0)
  · refine .inr ⟨g, 0, cap, rfl, hc, hm, ?_, fun j hj => ?_⟩
    · exact (Array.getElem?_eq_some_iff.1 hh).1
    · have hadd : (⟨g, 0, none⟩ : Addr).add j = ⟨g, 0 + j, none⟩ := by unfold Addr.add; split <;> simp_all
      have hj2 : j < s.data.toList.length := by simpa using hj
      have := h.cells (g := g) rfl j (u8V (s[j]'hj)) (by rw [List.getElem?_map, List.getElem?_eq_getElem hj2]; rfl)
      rwa [hadd] at this
end Go.Proofs.YtbhfblogjlpnlaaDoor
