/-
  Arguments opened: a slice of items, of numbers; the listed variable's cell; a world that meets the condition.
-/
import Derived.Test.YtbhfblogjlpnlabDoorRows
import Derived.Test.YtbhfblogjlpnlabDoorPlAwake
import Derived.Deep.Slices
import Derived.Deep.Fields
import Derived.ChangeSame
import Derived.ChangeVars
import Derived.JoinedOf
import Derived.RowKit
import Derived.RowKitTokens
import Derived.LaidLaws
import Derived.LaidHandle
import Derived.Stop.Joined
import Derived.Carry
import Derived.SizedLaws
import Derived.Handed
namespace Go.Proofs.YtbhfblogjlpnlabDoor
open Go.ChangeShapes Go.WideShapes Go.RowKit Go.Deep

theorem Tryd.cellsItem : Tryd.prog.cellsOf 89 = 15 := by kernel_rfl
theorem Tryd.cellsIns : Tryd.prog.cellsOf 87 = 5 := by kernel_rfl
theorem Tryd.cellsInt : Tryd.prog.cellsOf 3 = 1 := by kernel_rfl
theorem Tryd.cellsI32 : Tryd.prog.cellsOf 21 = 1 := by kernel_rfl
theorem Tryd.cellsU32 : Tryd.prog.cellsOf 35 = 1 := by kernel_rfl
theorem Tryd.cellsStr : Tryd.prog.cellsOf 9 = 1 := by kernel_rfl
theorem Tryd.cellsBool : Tryd.prog.cellsOf 4 = 1 := by kernel_rfl
theorem Tryd.cellsNodes : Tryd.prog.cellsOf 29 = 1 := by kernel_rfl
theorem Tryd.bytesItem : 0 < Tryd.prog.bytesOf 89 := of_decide_eq_true (by kernel_rfl)
theorem Tryd.bytesNode : 0 < Tryd.prog.bytesOf 37 := of_decide_eq_true (by kernel_rfl)
theorem Tryd.itemStruct : ∃ fs, Tryd.prog.underlying 89 = some (.struct fs) ∧ (fs.map fun f => (f.type, f.offset)) = #[(3, 0), (3, 1), (3, 2), (9, 3), (87, 4), (9, 9), (3, 10), (29, 11), (35, 12), (4, 13), (4, 14)] ∧ fs.toList.map (·.type) = [3, 3, 3, 9, 87, 9, 3, 29, 35, 4, 4] :=
  ⟨_, Tryd.underlying89, by kernel_rfl, by kernel_rfl⟩
theorem Tryd.insStruct : ∃ fs, Tryd.prog.underlying 87 = some (.struct fs) ∧ (fs.map fun f => (f.type, f.offset)) = #[(3, 0), (3, 1), (3, 2), (3, 3), (21, 4)] :=
  ⟨_, Tryd.underlying87, by kernel_rfl⟩

theorem addr_plain {a : Addr} {j : Nat} (h : a.spot = none) : a.add j = ⟨a.block, a.off + j, none⟩ := by
  unfold Addr.add
  split
  · rename_i h0
    subst h0
    cases a
    simp_all
  · rfl

theorem weightsAll_mem {H : Type} {P : Program} {e : TypeId} : ∀ {l : List (DataW H)} {d : DataW H}, d ∈ l → ∀ n ∈ d.weights P e, n ∈ DataW.weightsAll P e l
  | d0 :: r, d, hd, n, hn => by
    unfold DataW.weightsAll
    rcases List.mem_cons.1 hd with rfl | h
    · exact List.mem_append.2 (.inl hn)
    · exact List.mem_append.2 (.inr (weightsAll_mem h n hn))

section
variable {H : Type} {enc : TypeId × Value → H} {w : World} {base : Nat} {spare : Nat → Bool} {held : Bool} {n : Nat}
theorem field_at {fs : Array Field} {ts : Array (TypeId × Nat)} (h : (fs.map fun f => (f.type, f.offset)) = ts) {j t o : Nat} (hj : ts[j]? = some (t, o)) : ∃ f : Field, fs[j]? = some f ∧ f.type = t ∧ f.offset = o := by
  rw [← h] at hj
  simpa using hj

theorem open_ins {cs : List Value} {x : DataW H × List MemPlace} (h : DataW.trod enc Tryd.prog w base spare held n 87 cs = some x) :
    ∃ a b c d e : Int, cs = [.int .i64 a, .int .i64 b, .int .i64 c, .int .i64 d, .int .i32 e] := by
  obtain ⟨fs, hu, hty⟩ := Tryd.insStruct
  obtain ⟨ys, n', _, _, hlen, hyl, hf⟩ := DataW.trod_struct hu h
  rw [Tryd.cellsIns] at hlen
  have hsz : fs.size = 5 := by have := congrArg Array.size hty; simpa using this
  rw [hsz] at hyl
  obtain _ | ⟨v0, _ | ⟨v1, _ | ⟨v2, _ | ⟨v3, _ | ⟨v4, _ | ⟨_, _⟩⟩⟩⟩⟩⟩ := cs
  all_goals simp at hlen
  obtain _ | ⟨y0, _ | ⟨y1, _ | ⟨y2, _ | ⟨y3, _ | ⟨y4, _ | ⟨_, _⟩⟩⟩⟩⟩⟩ := ys
  all_goals simp at hyl
  obtain ⟨f0, e0, t0, o0⟩ := field_at hty (j := 0) (t := 3) (o := 0) rfl
  obtain ⟨f1, e1, t1, o1⟩ := field_at hty (j := 1) (t := 3) (o := 1) rfl
  obtain ⟨f2, e2, t2, o2⟩ := field_at hty (j := 2) (t := 3) (o := 2) rfl
  obtain ⟨f3, e3, t3, o3⟩ := field_at hty (j := 3) (t := 3) (o := 3) rfl
  obtain ⟨f4, e4, t4, o4⟩ := field_at hty (j := 4) (t := 21) (o := 4) rfl
  have h0 := hf 0 f0 e0
  have h1 := hf 1 f1 e1
  have h2 := hf 2 f2 e2
  have h3 := hf 3 f3 e3
  have h4 := hf 4 f4 e4
  rw [t0, o0, Tryd.cellsInt] at h0
  rw [t1, o1, Tryd.cellsInt] at h1
  rw [t2, o2, Tryd.cellsInt] at h2
  rw [t3, o3, Tryd.cellsInt] at h3
  rw [t4, o4, Tryd.cellsI32] at h4
  simp at h0 h1 h2 h3 h4
  obtain ⟨a, g0, _⟩ := DataW.trod_int Tryd.underlying3 h0
  obtain ⟨b, g1, _⟩ := DataW.trod_int Tryd.underlying3 h1
  obtain ⟨c, g2, _⟩ := DataW.trod_int Tryd.underlying3 h2
  obtain ⟨d, g3, _⟩ := DataW.trod_int Tryd.underlying3 h3
  obtain ⟨e, g4, _⟩ := DataW.trod_int Tryd.underlying21 h4
  simp at g0 g1 g2 g3 g4
  exact ⟨a, b, c, d, e, by rw [g0, g1, g2, g3, g4]⟩

theorem u32_bounds {k : Int} (h : (Lit.int .u32 k).wf = true) : 0 ≤ k ∧ k < 4294967296 := by
  simp [Lit.wf, IntKind.min, IntKind.max, IntKind.bits, IntKind.signed] at h
  omega

theorem open_item {cs : List Value} {x : DataW H × List MemPlace} (h : DataW.trod enc Tryd.prog w base spare held n 89 cs = some x) :
    ∃ t : Itm, cs = t.cs.toList ∧ 0 ≤ t.num ∧ t.num < 4294967296 ∧ ((∀ m ∈ x.1.weights Tryd.prog 89, m ≤ reachBytes) → t.nm.size ≤ 140737488351232 ∧ t.nl ≤ 140737488351232) := by
  obtain ⟨fs, hu, hty, htl⟩ := Tryd.itemStruct
  obtain ⟨ys, n', _, hx, hlen, hyl, hf⟩ := DataW.trod_struct hu h
  rw [Tryd.cellsItem] at hlen
  have hsz : fs.size = 11 := by have := congrArg Array.size hty; simpa using this
  rw [hsz] at hyl
  obtain _ | ⟨v0, _ | ⟨v1, _ | ⟨v2, _ | ⟨v3, _ | ⟨v4, _ | ⟨v5, _ | ⟨v6, _ | ⟨v7, _ | ⟨v8, _ | ⟨v9, _ | ⟨v10, _ | ⟨v11, _ | ⟨v12, _ | ⟨v13, _ | ⟨v14, _ | ⟨_, _⟩⟩⟩⟩⟩⟩⟩⟩⟩⟩⟩⟩⟩⟩⟩⟩ := cs
  all_goals simp at hlen
  obtain _ | ⟨y0, _ | ⟨y1, _ | ⟨y2, _ | ⟨y3, _ | ⟨y4, _ | ⟨y5, _ | ⟨y6, _ | ⟨y7, _ | ⟨y8, _ | ⟨y9, _ | ⟨y10, _ | ⟨_, _⟩⟩⟩⟩⟩⟩⟩⟩⟩⟩⟩⟩ := ys
  all_goals simp at hyl
  obtain ⟨f0, e0, t0, o0⟩ := field_at hty (j := 0) (t := 3) (o := 0) rfl
  have h0 := hf 0 f0 e0
  rw [t0, o0, Tryd.cellsInt] at h0
  obtain ⟨f1, e1, t1, o1⟩ := field_at hty (j := 1) (t := 3) (o := 1) rfl
  have h1 := hf 1 f1 e1
  rw [t1, o1, Tryd.cellsInt] at h1
  obtain ⟨f2, e2, t2, o2⟩ := field_at hty (j := 2) (t := 3) (o := 2) rfl
  have h2 := hf 2 f2 e2
  rw [t2, o2, Tryd.cellsInt] at h2
  obtain ⟨f3, e3, t3, o3⟩ := field_at hty (j := 3) (t := 9) (o := 3) rfl
  have h3 := hf 3 f3 e3
  rw [t3, o3, Tryd.cellsStr] at h3
  obtain ⟨f4, e4, t4, o4⟩ := field_at hty (j := 4) (t := 87) (o := 4) rfl
  have h4 := hf 4 f4 e4
  rw [t4, o4, Tryd.cellsIns] at h4
  obtain ⟨f5, e5, t5, o5⟩ := field_at hty (j := 5) (t := 9) (o := 9) rfl
  have h5 := hf 5 f5 e5
  rw [t5, o5, Tryd.cellsStr] at h5
  obtain ⟨f6, e6, t6, o6⟩ := field_at hty (j := 6) (t := 3) (o := 10) rfl
  have h6 := hf 6 f6 e6
  rw [t6, o6, Tryd.cellsInt] at h6
  obtain ⟨f7, e7, t7, o7⟩ := field_at hty (j := 7) (t := 29) (o := 11) rfl
  have h7 := hf 7 f7 e7
  rw [t7, o7, Tryd.cellsNodes] at h7
  obtain ⟨f8, e8, t8, o8⟩ := field_at hty (j := 8) (t := 35) (o := 12) rfl
  have h8 := hf 8 f8 e8
  rw [t8, o8, Tryd.cellsU32] at h8
  obtain ⟨f9, e9, t9, o9⟩ := field_at hty (j := 9) (t := 4) (o := 13) rfl
  have h9 := hf 9 f9 e9
  rw [t9, o9, Tryd.cellsBool] at h9
  obtain ⟨f10, e10, t10, o10⟩ := field_at hty (j := 10) (t := 4) (o := 14) rfl
  have h10 := hf 10 f10 e10
  rw [t10, o10, Tryd.cellsBool] at h10
  simp at h0 h1 h2 h3 h4 h5 h6 h7 h8 h9 h10
  obtain ⟨k0, g0, _⟩ := DataW.trod_int Tryd.underlying3 h0
  obtain ⟨k1, g1, _⟩ := DataW.trod_int Tryd.underlying3 h1
  obtain ⟨k2, g2, _⟩ := DataW.trod_int Tryd.underlying3 h2
  obtain ⟨s, g3, gy3, _⟩ := DataW.trod_string Tryd.underlying9 h3
  obtain ⟨a, b, c, d, e, g4⟩ := open_ins h4
  obtain ⟨sh, g5, _⟩ := DataW.trod_string Tryd.underlying9 h5
  obtain ⟨k6, g6, _⟩ := DataW.trod_int Tryd.underlying3 h6
  obtain ⟨k8, g8, _, wf8⟩ := DataW.trod_int Tryd.underlying35 h8
  obtain ⟨b9, g9, _⟩ := DataW.trod_bool Tryd.underlying4 h9
  obtain ⟨b10, g10, _⟩ := DataW.trod_bool Tryd.underlying4 h10
  obtain ⟨u0, u1⟩ := u32_bounds wf8
  simp at g0 g1 g2 g3 g4 g5 g6 g8 g9 g10
  obtain ⟨q4, q5, q6, q7, q8⟩ := g4
  have hstr : (∀ m ∈ x.1.weights Tryd.prog 89, m ≤ reachBytes) → s.size ≤ 140737488351232 := by
    intro hw
    have := hw s.size (by
      rw [hx]
      unfold DataW.weights
      rw [hu]
      dsimp only
      rw [htl]
      refine DataW.weights_mem_each (j := 3) (t := 9) rfl rfl _ ?_
      rw [gy3]
      simp [DataW.weights])
    unfold reachBytes at this
    omega
  rcases open_slice Tryd.underlying29 h7 with ⟨g7, gy7⟩ | ⟨ad, len, cap, m, n2, D, Pl, g7, _, _, _, _, gy7, _⟩
  · simp at g7
    exact ⟨⟨k0, k1, k2, s, a, b, c, d, e, sh, k6, none, 0, 0, k8, b9, b10⟩, by rw [g0, g1, g2, g3, q4, q5, q6, q7, q8, g5, g6, g7, g8, g9, g10], u0, u1, fun hw => ⟨hstr hw, Nat.zero_le _⟩⟩
  · simp at g7
    refine ⟨⟨k0, k1, k2, s, a, b, c, d, e, sh, k6, some ad, len, cap, k8, b9, b10⟩, by rw [g0, g1, g2, g3, q4, q5, q6, q7, q8, g5, g6, g7, g8, g9, g10], u0, u1, fun hw => ⟨hstr hw, ?_⟩⟩
    have := hw _ (by
      rw [hx]
      unfold DataW.weights
      rw [hu]
      dsimp only
      rw [htl]
      refine DataW.weights_mem_each (j := 7) (t := 29) rfl rfl ((((List.range len).map D).length + ((List.range (m - len)).map fun j => D (len + j)).length) * Tryd.prog.bytesOf 37) ?_
      rw [gy7]
      unfold DataW.weights
      rw [Tryd.underlying29]
      simp)
    simp only [List.length_map, List.length_range] at this
    have hb := Tryd.bytesNode
    have h1 : len ≤ (len + (m - len)) * Tryd.prog.bytesOf 37 := Nat.le_trans (by omega) (Nat.le_mul_of_pos_right _ hb)
    unfold reachBytes at this
    show len ≤ _
    omega

/-- A slice of items, opened. -/
theorem open_items {fuel : Nat} {v : Value} {x : DataW H × List MemPlace} (h : DataW.trod enc Tryd.prog w base spare held fuel 67 [v] = some x) :
    ∃ A n cap F, v = .slice A n cap ∧ ItsIn w.heap.size F w A n ∧ (∀ k, k < n → 0 ≤ (F k).num ∧ (F k).num < 4294967296) ∧
      ((∀ m ∈ x.1.weights Tryd.prog 67, m ≤ reachBytes) → n ≤ 140737488351232 ∧ ∀ k, k < n → (F k).nm.size ≤ 140737488351232 ∧ (F k).nl ≤ 140737488351232) := by
  rcases open_slice Tryd.underlying67 h with ⟨hcs, _⟩ | ⟨a, len, cap, m, n2, D, Pl, hcs, _, hl, _, hm, hx, hi⟩
  · exact ⟨none, 0, 0, fun _ => default, by simpa using hcs, fun k hk => absurd hk (by omega), fun k hk => absurd hk (by omega), fun _ => ⟨by omega, fun k hk => absurd hk (by omega)⟩⟩
  · have hlm : len ≤ m := by rw [hm]; split <;> omega
    have hone : ∀ i, i < len → ∃ t : Itm, (∀ j u, t.cs[j]? = some u → w.cell? (a.add (i * 15 + j)) = some u) ∧ 0 ≤ t.num ∧ t.num < 4294967296 ∧ ((∀ m ∈ (D i).weights Tryd.prog 89, m ≤ reachBytes) → t.nm.size ≤ 140737488351232 ∧ t.nl ≤ 140737488351232) := by
      intro i hil
      obtain ⟨cs', hc, ht⟩ := hi i (by omega)
      rw [Tryd.cellsItem] at hc
      obtain ⟨t, rfl, n0, n1, hw⟩ := open_item ht
      obtain ⟨_, hcl, hat⟩ := World.cells?_some hc
      refine ⟨t, fun j u hu => ?_, n0, n1, hw⟩
      have hj : j < 15 := by
        have := (Array.getElem?_eq_some_iff.1 hu).1
        simpa using this
      rw [← Go.Deep.add_add, hat j hj]
      simpa using hu
    obtain ⟨f, hf⟩ := choose_lt hone
    refine ⟨some a, len, cap, f, by simpa using hcs, fun k hk => ?_, fun k hk => ⟨(hf k hk).2.1, (hf k hk).2.2.1⟩, fun hw => ?_⟩
    · have hc := (hf k hk).1
      have hspot : a.spot = none := by
        have := World.cell?_spot ((hf 0 (by omega)).1 0 _ rfl)
        simpa [Addr.add] using this
      have hcell : ∀ j u, (f k).cs[j]? = some u → w.cell? ⟨a.block, a.off + k * 15 + j, none⟩ = some u := by
        intro j u hu
        have := hc j u hu
        rwa [addr_plain hspot, ← Nat.add_assoc] at this
      have h0 := hcell 0 _ rfl
      refine ⟨a.block, a.off, by cases a; simp_all, (World.block_lt_of_cell? w ⟨a.block, a.off + k * 15 + 0, none⟩ h0 :), ?_⟩
      exact ⟨h0, hcell 1 _ rfl, hcell 2 _ rfl, hcell 3 _ rfl, hcell 4 _ rfl, hcell 5 _ rfl, hcell 6 _ rfl, hcell 7 _ rfl, hcell 8 _ rfl, hcell 9 _ rfl, hcell 10 _ rfl, hcell 11 _ rfl, hcell 12 _ rfl, hcell 13 _ rfl, hcell 14 _ rfl⟩
    · have hall : ∀ d ∈ (List.range len).map D, ∀ q ∈ d.weights Tryd.prog 89, q ∈ x.1.weights Tryd.prog 67 := by
        intro d hd q hq
        rw [hx]
        unfold DataW.weights
        rw [Tryd.underlying67]
        exact List.mem_cons_of_mem _ (List.mem_append.2 (.inl (weightsAll_mem hd q hq)))
      have hn := hw ((((List.range len).map D).length + ((List.range (m - len)).map fun j => D (len + j)).length) * Tryd.prog.bytesOf 89) (by
        rw [hx]
        unfold DataW.weights
        rw [Tryd.underlying67]
        simp)
      simp only [List.length_map, List.length_range] at hn
      have h1 : len ≤ (len + (m - len)) * Tryd.prog.bytesOf 89 := Nat.le_trans (by omega) (Nat.le_mul_of_pos_right _ Tryd.bytesItem)
      unfold reachBytes at hn
      exact ⟨by omega, fun k hk => (hf k hk).2.2.2 (fun q hq => hw q (hall (D k) (List.mem_map.2 ⟨k, List.mem_range.2 hk, rfl⟩) q hq))⟩

/-- A slice of numbers, opened. -/
theorem open_ints {fuel : Nat} {v : Value} {x : DataW H × List MemPlace} (h : DataW.trod enc Tryd.prog w base spare held fuel 68 [v] = some x) :
    ∃ A n cap S, v = .slice A n cap ∧ SzsB w.heap.size S w A n ∧ (∀ k, k < n → -9223372036854775808 ≤ S k ∧ S k ≤ 9223372036854775807) := by
  rcases open_slice1 Tryd.underlying68 Tryd.cellsInt h with ⟨hcs, _⟩ | ⟨a, len, cap, m, n2, V, D, Pl, hcs, _, hl, _, hm, _, hi⟩
  · exact ⟨none, 0, 0, fun _ => 0, by simpa using hcs, fun k hk => absurd hk (by omega), fun k hk => absurd hk (by omega)⟩
  · have hlm : len ≤ m := by rw [hm]; split <;> omega
    have hone : ∀ i, i < len → ∃ k : Int, w.cell? (a.add i) = some (.int .i64 k) ∧ -9223372036854775808 ≤ k ∧ k ≤ 9223372036854775807 := by
      intro i hil
      obtain ⟨hc, ht⟩ := hi i (by omega)
      obtain ⟨k, hk, _, hwf⟩ := DataW.trod_int Tryd.underlying3 ht
      simp at hk
      refine ⟨k, by rw [hc, hk], ?_⟩
      simp [Lit.wf, IntKind.min, IntKind.max, IntKind.bits, IntKind.signed] at hwf
      omega
    obtain ⟨f, hf⟩ := choose_lt hone
    refine ⟨some a, len, cap, f, by simpa using hcs, fun j hj => ?_, fun k hk => (hf k hk).2⟩
    have hc := (hf j hj).1
    have hspot : a.spot = none := by
      have := World.cell?_spot (hf 0 (by omega)).1
      simpa [Addr.add] using this
    rw [addr_plain hspot] at hc
    exact ⟨a.block, a.off, by cases a; simp_all, (World.block_lt_of_cell? w ⟨a.block, a.off + j, none⟩ hc :), hc⟩
end
/-! The listed variable. -/
theorem Tryd.own : ownKnob Tryd.prog.godebug = none := by kernel_rfl
theorem Tryd.et : Tryd.prog.globalNamed "errors.errorType" = some 0 := by kernel_rfl
theorem Tryd.rt : (Tryd.prog.cutTypes.find? (·.1 == "internal/reflectlite.rtype")).map (·.2) = some 168 := by kernel_rfl
theorem Tryd.oneRow : ((List.range 242).filter fun t => Tryd.prog.rowNamed t [101, 114, 114, 111, 114]) = [32] := by kernel_rfl
theorem Tryd.size : Tryd.prog.types.size = 242 := by kernel_rfl
theorem Tryd.laidOut : laidOutB Tryd.prog = true := by kernel_rfl

/-- What the rows list. -/
def laidList : List (String × DataW Unit) := [("errors.errorType", Rows.laid_errors_errorType)]

theorem handle_of_laid {W : World} (h : laidMetH Tryd.prog laidList W) : Handle W := by
  have h' : laidMet Tryd.prog [] W ∧ handlesMet Tryd.prog laidList W := h
  obtain ⟨name, u, ty, e1, e2, e3, e4, e5⟩ := h'.2 _ (List.mem_singleton.2 rfl)
  have en : name = [101, 114, 114, 111, 114] := (Option.some.inj e1).symm
  subst en
  obtain rfl := Option.some.inj (Tryd.rt.symm.trans e2)
  have hm : ty ∈ (List.range 242).filter fun t => Tryd.prog.rowNamed t [101, 114, 114, 111, 114] := List.mem_filter.2 ⟨List.mem_range.2 (by rw [← Tryd.size]; exact e3), e4⟩
  rw [Tryd.oneRow] at hm
  obtain rfl := List.mem_singleton.1 hm
  have hh : typeHandle Tryd.prog 32 = .pointer (some ⟨4, 32, none⟩) := by kernel_rfl
  rw [hh] at e5
  show W.cell? ⟨0, 0, none⟩ = _
  simpa using World.var?_cell Tryd.et e5 0

/-- A world that meets the condition: the settled one, the variable's cell laid. -/
noncomputable def laidWorld (os : Os) : World :=
  let w0 := World.holding Tryd.prog os ⟨#[], #[], []⟩
  { w0 with heap := w0.heap.modify 0 fun
      | .cells _ t frozen => .cells #[.iface 168 (.agg #[.pointer (some ⟨4, 32, none⟩)])] t frozen
      | o => o }
theorem laidWorld_met (os : Os) (args : Array Value) : laidMetH Tryd.prog laidList ((laidWorld os).forCall (fun _ _ => 0) ⟨#[], args, []⟩).memory :=
  laidMetH_of_parts (laidMet_nil _ _) (by kernel_rfl)
end Go.Proofs.YtbhfblogjlpnlabDoor
