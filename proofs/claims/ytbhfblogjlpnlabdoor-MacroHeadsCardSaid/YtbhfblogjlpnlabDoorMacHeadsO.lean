/-
  The answers of Head and of the reference's Head in one form.
-/
import Derived.Test.YtbhfblogjlpnlabDoorMacHeadsS
import Derived.Test.YtbhfblogjlpnlabDoorMacHead
import Derived.Test.YtbhfblogjlpnlabDoorMacRHeadS
import Derived.Test.YtbhfblogjlpnlabDoorMacBindsLaw
namespace Go.Proofs.YtbhfblogjlpnlabDoor
open Go.RowKit

def hName : HState ⊕ (Nat × Int) → ByteArray
  | .inl s => s.name
  | .inr _ => ⟨#[]⟩
def hPars : HState ⊕ (Nat × Int) → List HPar
  | .inl s => s.ps
  | .inr _ => []
def hL (ts : List Tk6) : HState ⊕ (Nat × Int) → Int
  | .inl _ => 0
  | .inr (i, _) => (placeAt ts i).1
def hC (ts : List Tk6) : HState ⊕ (Nat × Int) → Int
  | .inl _ => 0
  | .inr (i, _) => (placeAt ts i).2
def hCode : HState ⊕ (Nat × Int) → Int
  | .inl _ => 0
  | .inr (_, c) => c

theorem head_out {ts : List Tk6} {r : HState ⊕ (Nat × Int)} {w w' : World} {e : Ending} (hg : Handle w) (hc : ∀ i c, r = .inr (i, c) → 1 ≤ c ∧ c ≤ 16) (h : HeadOut w ts r e w') :
    (∃ Ap cp ev, e = .returned (.tuple #[.agg #[.string (hName r), .slice Ap (hPars r).length cp, .slice none 0 0], ev]) ∧ Pars w' (.slice Ap (hPars r).length cp) (hPars r) ∧ ∀ W, Below w'.heap.size w' W → Calls Tryd.prog 20 #[ev] W fun e w'' => e = .returned (.agg #[.int .i64 (hL ts r), .int .i64 (hC ts r), .int .i64 (hCode r)]) ∧ Below W.heap.size W w'') ∧ Below w.heap.size w w' := by
  match r, hc, h with
  | .inl s, _, h =>
    obtain ⟨vp, rfl, hp, hb⟩ := h
    obtain ⟨A, c, rfl, -⟩ := hp.form
    exact ⟨⟨A, c, _, rfl, hp, fun W _ => fault_nil W⟩, hb⟩
  | .inr (i, c), hc, h =>
    obtain ⟨b, rfl, _, hk, hb⟩ := h
    obtain ⟨h1, h2⟩ := hc i c rfl
    exact ⟨⟨none, 0, _, rfl, .inl ⟨none, 0, rfl, Nat.zero_le _, rfl⟩, fun W hW => fault_err b _ _ _ W ((hg.below hb hg.pos).below hW (Nat.lt_of_lt_of_le hg.pos hb.size)) h1 h2 (hk.below hW hk.lt)⟩, hb⟩

theorem rhead_out {ts : List Tk6} {r : HState ⊕ (Nat × Int)} {w w' : World} {e : Ending} (h : RHeadOut w ts r e w') :
    (∃ Ap cp, e = .returned (.tuple #[.agg #[.string (hName r), .slice Ap (hPars r).length cp, .slice none 0 0], .agg #[.int .i64 (hL ts r), .int .i64 (hC ts r), .int .i64 (hCode r)]]) ∧ Pars w' (.slice Ap (hPars r).length cp) (hPars r)) ∧ Below w.heap.size w w' := by
  match r, h with
  | .inl s, h =>
    obtain ⟨vp, rfl, hp, hb⟩ := h
    obtain ⟨A, c, rfl, -⟩ := hp.form
    exact ⟨⟨A, c, rfl, hp⟩, hb⟩
  | .inr (i, c), h =>
    obtain ⟨rfl, hb⟩ := h
    exact ⟨⟨none, 0, rfl, .inl ⟨none, 0, rfl, Nat.zero_le _, rfl⟩⟩, hb⟩
end Go.Proofs.YtbhfblogjlpnlabDoor
