/-
  MemBytes returns true for every input, and its arguments read as they did: the row. No condition.
-/
import Derived.Test.YticfffndciddgaaMeBytesLaw
import Derived.Test.YticfffndciddgaaMeOpen
import Derived.Test.YticfffndciddgaaRows
import Derived.ProofKit
import Derived.SizedLaws
namespace Go.Proofs.Yticfffndciddgaa
open Go.ChangeShapes Go.WideShapes Go.ChangeAt Go.RowKit Go.WideElems Go.Maps

theorem Try.own : ownKnob Try.prog.godebug = none := by kernel_rfl
theorem Try.laidOut : laidOutB Try.prog = true := by kernel_rfl

set_option maxHeartbeats 800000 in
set_option maxRecDepth 100000 in
theorem memBytes_lifted (os : Os) (started : os.Started) (H : Type) (enc : TypeId × Value → H) :
    ReturnsInHanded {} Try.checked os 4 .any (Rows.memBytesSpec.pre6 enc Try.prog Try.f4 Rows.memBytesRow.domain false) (Rows.memBytesSpec.post enc Try.prog Try.f4 false true false false) := by
  refine returnsInHanded_of_change_sized (C := Try.checked) Try.own started (by kernel_rfl) Try.func4
    (ChangeSpec.witness6 (enc := enc) (C := Try.checked) false ⟨#[], #[.slice none 0 0, .int .u32 0, .int .i64 0, .int .u32 0], []⟩ 8 (by kernel_rfl) (by kernel_rfl) (by kernel_rfl) (by kernel_rfl)) ?_
  intro W base args ds gs before hval0 hW _ hsz0 _
  clear hsz0
  have hval : ∀ (j : Nat) t v, Try.f4.params[j]? = some t → args[j]? = some v → Value.okWide Try.prog W .any base t v := hval0
  have hW' := hW
  obtain ⟨p, q, hA0, hV, rfl, _, _⟩ := hW
  have hA : DataW.TrodAll enc Try.prog W 0 (fun _ => true) true Try.f4.params.toList args.toList ds p := hA0
  rw [Try.params4] at hA hval
  obtain ⟨v0, v1, v2, v3, d0, d1, d2, d3, p0, p1, p2, p3, rfl, rfl, rfl, h0, h1, h2, h3⟩ := trodAll_four hA
  obtain ⟨rfl, rfl⟩ := trodVars_none hV
  clear hA0 hval0
  simp only [List.append_nil] at hW'
  have hltw : ∀ x ∈ p0 ++ (p1 ++ (p2 ++ p3)), x.block < W.heap.size := fun x hx => by simpa using hW'.lt x (by simpa using hx)
  have h0k := h0
  have hlt0 : ∀ x ∈ p0, x.block < W.heap.size := fun x hx => hltw x (by simp [hx])
  obtain ⟨fuel0, hf0⟩ := h0
  have hok0 := hval 0 22 v0 rfl rfl
  obtain ⟨a0, len0, cap0, rfl⟩ := okWide_slice Try.underlying22 hok0
  obtain ⟨A0, n0, c0, l0, e0, hl0, hc0, hm0, hC0⟩ := open_cells hok0 hf0
  injection e0 with e0a e0b e0c
  subst e0a e0b e0c
  obtain ⟨x1, rfl, rfl, rfl, wx1⟩ := open_int Try.underlying24 (hval 1 24 v1 rfl rfl) h1
  obtain ⟨b10, b11⟩ := u32_wf wx1
  obtain ⟨x2, rfl, rfl, rfl, wx2⟩ := open_int Try.underlying3 (hval 2 3 v2 rfl rfl) h2
  obtain ⟨x3, rfl, rfl, rfl, wx3⟩ := open_int Try.underlying24 (hval 3 24 v3 rfl rfl) h3
  obtain ⟨b30, b31⟩ := u32_wf wx3
  refine (bytes_walk hl0 hC0 hc0 hm0 x1 x2 x3 b10 b11 b30 b31).mono fun e W' ⟨he, hb⟩ => ?_
  subst he
  have e1 : Rows.memBytesSpec.fn H ([d0, .lit (.int .u32 x1), .lit (.int .i64 x2), .lit (.int .u32 x3)] ++ []) = { results := [.lit (.bool true)], args := [d0, .lit (.int .u32 x1), .lit (.int .i64 x2), .lit (.int .u32 x3)] } := by simp [Rows.memBytesSpec]
  refine ⟨_, rfl, _, _, _, [], (p0 ++ ([] ++ ([] ++ []))), [], hW', ?_, ?_, ?_, hb.frame _, fun h => by cases h⟩
  · rw [e1]; exact trodAll_mk1 (shut_bool Try.underlying4 true)
  · rw [e1]; exact trodAll_mk4 (Below.trod Try.laidOut (by kernel_rfl) (of_decide_eq_true (by kernel_rfl)) h0k hb hlt0) (shut_int Try.underlying24 wx1) (shut_int Try.underlying3 wx2) (shut_int Try.underlying24 wx3)
  · rw [e1]; rfl

theorem memBytes_row : Rows.MemBytesSaid :=
  OpenClaim.holds_of_wide 4 Try.f4 rfl rfl rfl rfl rfl rfl rfl ⟨rfl, rfl, rfl, rfl, rfl⟩ rfl rfl rfl rfl rfl (by kernel_rfl) Try.func4 (by kernel_rfl)
    (of_decide_eq_true (by kernel_rfl)) (by unfold Func.isWrapper; first | (rw [if_pos (by decide +kernel)]; kernel_rfl) | (rw [if_neg (by decide +kernel)]; exact ⟨rfl, rfl⟩))
    (fun os started H enc _ => memBytes_lifted os started H enc)
end Go.Proofs.Yticfffndciddgaa
