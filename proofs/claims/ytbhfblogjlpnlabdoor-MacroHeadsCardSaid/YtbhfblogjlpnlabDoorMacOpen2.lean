/-
  Arguments of the macro layer opened out of their reading as data: tokens, rows of tokens, parameters, a macro; with the bounds that the weights give.
-/
import Derived.Test.YtbhfblogjlpnlabDoorMacOpen
import Derived.Test.YtbhfblogjlpnlabDoorMacShape
import Derived.SizedLaws
import Derived.Handed
namespace Go.Proofs.YtbhfblogjlpnlabDoor
open Go.ChangeShapes Go.WideShapes Go.RowKit Go.Deep

theorem addr_plain {a : Addr} {j : Nat} (h : a.spot = none) : a.add j = ⟨a.block, a.off + j, none⟩ := by
  unfold Addr.add
  split
  · rename_i h0
    subst h0
    cases a
    simp_all
  · rfl
theorem weightsAll_mem {H : Type} {P : Program} {e : TypeId} : ∀ {l : List (DataW H)} {d : DataW H}, d ∈ l → ∀ n ∈ d.weights P e, n ∈ DataW.weightsAll P e l
  | d0 :: r, d, hd, n, hn => by
    unfold DataW.weightsAll
    rcases List.mem_cons.1 hd with rfl | h
    · exact List.mem_append.2 (.inl hn)
    · exact List.mem_append.2 (.inr (weightsAll_mem h n hn))
theorem field_at {fs : Array Field} {ts : Array (TypeId × Nat)} (h : (fs.map fun f => (f.type, f.offset)) = ts) {j t o : Nat} (hj : ts[j]? = some (t, o)) : ∃ f : Field, fs[j]? = some f ∧ f.type = t ∧ f.offset = o := by
  rw [← h] at hj
  simpa using hj

theorem Tryd.cellsInt : Tryd.prog.cellsOf 3 = 1 := by kernel_rfl
theorem Tryd.cellsU32 : Tryd.prog.cellsOf 35 = 1 := by kernel_rfl
theorem Tryd.cellsStr : Tryd.prog.cellsOf 9 = 1 := by kernel_rfl
theorem Tryd.cellsBool : Tryd.prog.cellsOf 4 = 1 := by kernel_rfl
theorem Tryd.cellsLine : Tryd.prog.cellsOf 30 = 1 := by kernel_rfl
theorem Tryd.cellsLines : Tryd.prog.cellsOf 23 = 1 := by kernel_rfl
theorem Tryd.cellsRPars : Tryd.prog.cellsOf 44 = 1 := by kernel_rfl
theorem Tryd.cellsRPar : Tryd.prog.cellsOf 104 = 3 := by kernel_rfl
theorem Tryd.cellsRMac : Tryd.prog.cellsOf 46 = 3 := by kernel_rfl
theorem Tryd.bytesTok : 0 < Tryd.prog.bytesOf 56 := of_decide_eq_true (by kernel_rfl)
theorem Tryd.bytesLine : 0 < Tryd.prog.bytesOf 30 := of_decide_eq_true (by kernel_rfl)
theorem Tryd.bytesRPar : 0 < Tryd.prog.bytesOf 104 := of_decide_eq_true (by kernel_rfl)
theorem Tryd.rparStruct : ∃ fs, Tryd.prog.underlying 104 = some (.struct fs) ∧ (fs.map fun f => (f.type, f.offset)) = #[(9, 0), (4, 1), (30, 2)] ∧ fs.toList.map (·.type) = [9, 4, 30] :=
  ⟨_, Tryd.underlying104, by kernel_rfl, by kernel_rfl⟩
theorem Tryd.rmacStruct : ∃ fs, Tryd.prog.underlying 46 = some (.struct fs) ∧ (fs.map fun f => (f.type, f.offset)) = #[(9, 0), (44, 1), (23, 2)] ∧ fs.toList.map (·.type) = [9, 44, 23] :=
  ⟨_, Tryd.underlying46, by kernel_rfl, by kernel_rfl⟩
theorem Tryd.tokStruct2 : ∃ fs, Tryd.prog.underlying 56 = some (.struct fs) ∧ (fs.map fun f => (f.type, f.offset)) = #[(3, 0), (3, 1), (3, 2), (9, 3), (35, 4), (3, 5)] :=
  ⟨_, Tryd.underlying56, by kernel_rfl⟩

section
variable {H : Type} {enc : TypeId × Value → H} {w : World} {base : Nat} {spare : Nat → Bool} {held : Bool} {n : Nat}

theorem open_tok {cs : List Value} {x : DataW H × List MemPlace} (h : DataW.trod enc Tryd.prog w base spare held n 56 cs = some x) : ∃ t : Tk6, cs = t.cells := by
  obtain ⟨fs, hu, hty⟩ := Tryd.tokStruct2
  obtain ⟨ys, n', _, _, hlen, hyl, hf⟩ := DataW.trod_struct hu h
  rw [Tryd.cellsTok] at hlen
  have hsz : fs.size = 6 := by have := congrArg Array.size hty; simpa using this
  rw [hsz] at hyl
  obtain _ | ⟨v0, _ | ⟨v1, _ | ⟨v2, _ | ⟨v3, _ | ⟨v4, _ | ⟨v5, _ | ⟨_, _⟩⟩⟩⟩⟩⟩⟩ := cs
  all_goals simp at hlen
  obtain _ | ⟨y0, _ | ⟨y1, _ | ⟨y2, _ | ⟨y3, _ | ⟨y4, _ | ⟨y5, _ | ⟨_, _⟩⟩⟩⟩⟩⟩⟩ := ys
  all_goals simp at hyl
  obtain ⟨f0, e0, t0, o0⟩ := field_at hty (j := 0) (t := 3) (o := 0) rfl
  obtain ⟨f1, e1, t1, o1⟩ := field_at hty (j := 1) (t := 3) (o := 1) rfl
  obtain ⟨f2, e2, t2, o2⟩ := field_at hty (j := 2) (t := 3) (o := 2) rfl
  obtain ⟨f3, e3, t3, o3⟩ := field_at hty (j := 3) (t := 9) (o := 3) rfl
  obtain ⟨f4, e4, t4, o4⟩ := field_at hty (j := 4) (t := 35) (o := 4) rfl
  obtain ⟨f5, e5, t5, o5⟩ := field_at hty (j := 5) (t := 3) (o := 5) rfl
  have h0 := hf 0 f0 e0
  have h1 := hf 1 f1 e1
  have h2 := hf 2 f2 e2
  have h3 := hf 3 f3 e3
  have h4 := hf 4 f4 e4
  have h5 := hf 5 f5 e5
  rw [t0, o0, Tryd.cellsInt] at h0
  rw [t1, o1, Tryd.cellsInt] at h1
  rw [t2, o2, Tryd.cellsInt] at h2
  rw [t3, o3, Tryd.cellsStr] at h3
  rw [t4, o4, Tryd.cellsU32] at h4
  rw [t5, o5, Tryd.cellsInt] at h5
  simp at h0 h1 h2 h3 h4 h5
  obtain ⟨a, g0, _⟩ := DataW.trod_int Tryd.underlying3 h0
  obtain ⟨b, g1, _⟩ := DataW.trod_int Tryd.underlying3 h1
  obtain ⟨c, g2, _⟩ := DataW.trod_int Tryd.underlying3 h2
  obtain ⟨s, g3, _⟩ := DataW.trod_string Tryd.underlying9 h3
  obtain ⟨d, g4, _⟩ := DataW.trod_int Tryd.underlying35 h4
  obtain ⟨e, g5, _⟩ := DataW.trod_int Tryd.underlying3 h5
  simp at g0 g1 g2 g3 g4 g5
  exact ⟨⟨a, b, c, s, d, e⟩, by rw [g0, g1, g2, g3, g4, g5]; rfl⟩

/-- Tokens. -/
theorem open_tks {v : Value} {x : DataW H × List MemPlace} (h : DataW.trod enc Tryd.prog w base spare held n 30 [v] = some x) :
    ∃ ts, Toks w v ts ∧ ((∀ m ∈ x.1.weights Tryd.prog 30, m ≤ reachBytes) → ts.length ≤ 140737488351232) := by
  rcases open_slice Tryd.underlying30 h with ⟨hcs, _⟩ | ⟨a, len, cap, m, n2, D, Pl, hcs, _, hl, hcm, hm, hx, hi⟩
  · exact ⟨[], .inl ⟨none, 0, by simpa using hcs, Nat.zero_le _, rfl⟩, fun _ => Nat.zero_le _⟩
  · have hv : v = .slice (some a) len cap := by simpa using hcs
    subst hv
    have hlm : len ≤ m := by rw [hm]; split <;> omega
    have hone : ∀ i, i < len → ∃ t : Tk6, ∀ (j : Nat) (u : Value), t.cells[j]? = some u → w.cell? (a.add (i * 6 + j)) = some u := by
      intro i hil
      obtain ⟨cs', hc, ht⟩ := hi i (by omega)
      rw [Tryd.cellsTok] at hc
      obtain ⟨t, rfl⟩ := open_tok ht
      obtain ⟨_, hcl, hat⟩ := World.cells?_some hc
      refine ⟨t, fun j u hu => ?_⟩
      have hj : j < 6 := (List.getElem?_eq_some_iff.1 hu).1
      rw [← Go.Deep.add_add, hat j hj]
      exact hu
    obtain ⟨ts, hlen, hq⟩ := list_of_lt hone
    have hbound : (∀ m ∈ x.1.weights Tryd.prog 30, m ≤ reachBytes) → ts.length ≤ 140737488351232 := by
      intro hw
      have hn := hw ((((List.range len).map D).length + ((List.range (m - len)).map fun j => D (len + j)).length) * Tryd.prog.bytesOf 56) (by
        rw [hx]
        unfold DataW.weights
        rw [Tryd.underlying30]
        simp)
      simp only [List.length_map, List.length_range] at hn
      have h1 : len ≤ (len + (m - len)) * Tryd.prog.bytesOf 56 := Nat.le_trans (by omega) (Nat.le_mul_of_pos_right _ Tryd.bytesTok)
      unfold reachBytes at hn
      omega
    refine ⟨ts, ?_, hbound⟩
    subst hlen
    rcases Nat.eq_zero_or_pos ts.length with h0 | h0
    · exact .inl ⟨some a, cap, by rw [h0], hcm, List.eq_nil_of_length_eq_zero h0⟩
    · have hc0 := hq 0 ts[0] (List.getElem?_eq_getElem h0) 0 _ rfl
      have hspot : a.spot = none := by
        have := World.cell?_spot hc0
        simpa [Addr.add] using this
      obtain ⟨b, o, spot⟩ := a
      simp only at hspot
      subst hspot
      have hcell : ∀ i j, (⟨b, o, none⟩ : Addr).add (i * 6 + j) = ⟨b, o + i * 6 + j, none⟩ := fun i j => by
        rw [addr_plain rfl, ← Nat.add_assoc]
      rw [hcell] at hc0
      exact .inr ⟨b, o, cap, rfl, hl, hcm, World.block_lt_of_cell? w _ hc0, fun i t hi j u hu => by
        rw [← hcell]
        exact hq i t hi j u hu⟩

/-- Rows of tokens. -/
theorem open_rows2 {v : Value} {x : DataW H × List MemPlace} (h : DataW.trod enc Tryd.prog w base spare held n 23 [v] = some x) :
    ∃ pss, TokRows w v pss ∧ ((∀ m ∈ x.1.weights Tryd.prog 23, m ≤ reachBytes) → pss.length ≤ 140737488351232 ∧ ∀ p ∈ pss, p.length ≤ 140737488351232) := by
  rcases open_slice1 Tryd.underlying23 Tryd.cellsLine h with ⟨hcs, _⟩ | ⟨a, len, cap, m, n2, V, D, Pl, hcs, _, hl, hcm, hm, hx, hi⟩
  · exact ⟨[], .inl ⟨none, 0, by simpa using hcs, Nat.zero_le _, rfl⟩, fun _ => ⟨Nat.zero_le _, fun p hp => by cases hp⟩⟩
  · have hv : v = .slice (some a) len cap := by simpa using hcs
    subst hv
    have hlm : len ≤ m := by rw [hm]; split <;> omega
    have hone : ∀ i, i < len → ∃ ps : List Tk6, ∃ d, w.cell? (a.add i) = some d ∧ Toks w d ps ∧ ((∀ m ∈ (D i).weights Tryd.prog 30, m ≤ reachBytes) → ps.length ≤ 140737488351232) := by
      intro i hil
      obtain ⟨hc, ht⟩ := hi i (by omega)
      obtain ⟨ps, hp, hw⟩ := open_tks ht
      exact ⟨ps, V i, hc, hp, hw⟩
    obtain ⟨pss, hlen, hq⟩ := list_of_lt hone
    subst hlen
    refine ⟨pss, ?_, fun hw => ⟨?_, fun p hp => ?_⟩⟩
    · rcases Nat.eq_zero_or_pos pss.length with h0 | h0
      · exact .inl ⟨some a, cap, by rw [h0], hcm, List.eq_nil_of_length_eq_zero h0⟩
      · obtain ⟨d0, hc0, _⟩ := hq 0 pss[0] (List.getElem?_eq_getElem h0)
        have hspot : a.spot = none := by
          have := World.cell?_spot hc0
          simpa [Addr.add] using this
        obtain ⟨b, o, spot⟩ := a
        simp only at hspot
        subst hspot
        rw [addr_plain rfl] at hc0
        exact .inr ⟨b, o, cap, rfl, hl, hcm, World.block_lt_of_cell? w _ hc0, fun i ps hi => by
          obtain ⟨d, hc, hp, _⟩ := hq i ps hi
          rw [addr_plain rfl] at hc
          exact ⟨d, hc, hp⟩⟩
    · have hn := hw ((((List.range pss.length).map D).length + ((List.range (m - pss.length)).map fun j => D (pss.length + j)).length) * Tryd.prog.bytesOf 30) (by
        rw [hx]
        unfold DataW.weights
        rw [Tryd.underlying23]
        simp)
      simp only [List.length_map, List.length_range] at hn
      have h1 : pss.length ≤ (pss.length + (m - pss.length)) * Tryd.prog.bytesOf 30 := Nat.le_trans (by omega) (Nat.le_mul_of_pos_right _ Tryd.bytesLine)
      unfold reachBytes at hn
      omega
    · obtain ⟨i, hil, rfl⟩ := List.getElem_of_mem hp
      obtain ⟨d, _, _, hb⟩ := hq i _ (List.getElem?_eq_getElem hil)
      refine hb fun q hqq => hw q ?_
      rw [hx]
      unfold DataW.weights
      rw [Tryd.underlying23]
      exact List.mem_cons_of_mem _ (List.mem_append.2 (.inl (weightsAll_mem (List.mem_map.2 ⟨i, List.mem_range.2 hil, rfl⟩) q hqq)))

/-- A parameter. -/
theorem open_par {cs : List Value} {x : DataW H × List MemPlace} (h : DataW.trod enc Tryd.prog w base spare held n 104 cs = some x) :
    ∃ (p : HPar) (d : Value), cs = [.string p.name, .bool p.has, d] ∧ Toks w d p.dflt ∧ ((∀ m ∈ x.1.weights Tryd.prog 104, m ≤ reachBytes) → p.dflt.length ≤ 140737488351232) := by
  obtain ⟨fs, hu, hty, htl⟩ := Tryd.rparStruct
  obtain ⟨ys, n', _, hx, hlen, hyl, hf⟩ := DataW.trod_struct hu h
  rw [Tryd.cellsRPar] at hlen
  have hsz : fs.size = 3 := by have := congrArg Array.size hty; simpa using this
  rw [hsz] at hyl
  obtain _ | ⟨v0, _ | ⟨v1, _ | ⟨v2, _ | ⟨_, _⟩⟩⟩⟩ := cs
  all_goals simp at hlen
  obtain _ | ⟨y0, _ | ⟨y1, _ | ⟨y2, _ | ⟨_, _⟩⟩⟩⟩ := ys
  all_goals simp at hyl
  obtain ⟨f0, e0, t0, o0⟩ := field_at hty (j := 0) (t := 9) (o := 0) rfl
  obtain ⟨f1, e1, t1, o1⟩ := field_at hty (j := 1) (t := 4) (o := 1) rfl
  obtain ⟨f2, e2, t2, o2⟩ := field_at hty (j := 2) (t := 30) (o := 2) rfl
  have h0 := hf 0 f0 e0
  have h1 := hf 1 f1 e1
  have h2 := hf 2 f2 e2
  rw [t0, o0, Tryd.cellsStr] at h0
  rw [t1, o1, Tryd.cellsBool] at h1
  rw [t2, o2, Tryd.cellsLine] at h2
  simp at h0 h1 h2
  obtain ⟨s, g0, _⟩ := DataW.trod_string Tryd.underlying9 h0
  obtain ⟨b, g1, _⟩ := DataW.trod_bool Tryd.underlying4 h1
  obtain ⟨ps, hp, hw⟩ := open_tks h2
  simp at g0 g1
  refine ⟨⟨s, b, ps⟩, v2, by rw [g0, g1], hp, fun hww => hw fun q hq => hww q ?_⟩
  rw [hx]
  unfold DataW.weights
  rw [hu]
  dsimp only
  rw [htl]
  exact DataW.weights_mem_each (j := 2) (t := 30) rfl rfl q hq

/-- Parameters. -/
theorem open_pars {v : Value} {x : DataW H × List MemPlace} (h : DataW.trod enc Tryd.prog w base spare held n 44 [v] = some x) :
    ∃ ps, Pars w v ps ∧ ((∀ m ∈ x.1.weights Tryd.prog 44, m ≤ reachBytes) → ps.length ≤ 140737488351232 ∧ ∀ p ∈ ps, p.dflt.length ≤ 140737488351232) := by
  rcases open_slice Tryd.underlying44 h with ⟨hcs, _⟩ | ⟨a, len, cap, m, n2, D, Pl, hcs, _, hl, hcm, hm, hx, hi⟩
  · exact ⟨[], .inl ⟨none, 0, by simpa using hcs, Nat.zero_le _, rfl⟩, fun _ => ⟨Nat.zero_le _, fun p hp => by cases hp⟩⟩
  · have hv : v = .slice (some a) len cap := by simpa using hcs
    subst hv
    have hlm : len ≤ m := by rw [hm]; split <;> omega
    have hone : ∀ i, i < len → ∃ p : HPar, ∃ d, (∀ (j : Nat) (u : Value), [Value.string p.name, .bool p.has, d][j]? = some u → w.cell? (a.add (i * 3 + j)) = some u) ∧ Toks w d p.dflt ∧ ((∀ m ∈ (D i).weights Tryd.prog 104, m ≤ reachBytes) → p.dflt.length ≤ 140737488351232) := by
      intro i hil
      obtain ⟨cs', hc, ht⟩ := hi i (by omega)
      rw [Tryd.cellsRPar] at hc
      obtain ⟨p, d, rfl, hp, hw⟩ := open_par ht
      obtain ⟨_, hcl, hat⟩ := World.cells?_some hc
      refine ⟨p, d, fun j u hu => ?_, hp, hw⟩
      have hj : j < 3 := (List.getElem?_eq_some_iff.1 hu).1
      rw [← Go.Deep.add_add, hat j hj]
      exact hu
    obtain ⟨ps, hlen, hq⟩ := list_of_lt hone
    subst hlen
    refine ⟨ps, ?_, fun hw => ⟨?_, fun p hp => ?_⟩⟩
    · rcases Nat.eq_zero_or_pos ps.length with h0 | h0
      · exact .inl ⟨some a, cap, by rw [h0], hcm, List.eq_nil_of_length_eq_zero h0⟩
      · obtain ⟨d0, hc0, _⟩ := hq 0 ps[0] (List.getElem?_eq_getElem h0)
        have hc0 := hc0 0 _ rfl
        have hspot : a.spot = none := by
          have := World.cell?_spot hc0
          simpa [Addr.add] using this
        obtain ⟨b, o, spot⟩ := a
        simp only at hspot
        subst hspot
        have hcell : ∀ i j, (⟨b, o, none⟩ : Addr).add (i * 3 + j) = ⟨b, o + i * 3 + j, none⟩ := fun i j => by
          rw [addr_plain rfl, ← Nat.add_assoc]
        rw [hcell] at hc0
        exact .inr ⟨b, o, cap, rfl, hl, hcm, World.block_lt_of_cell? w _ hc0, fun i p hi => by
          obtain ⟨d, hc, hp, _⟩ := hq i p hi
          exact ⟨d, by have := hc 0 _ rfl; rwa [hcell] at this, by have := hc 1 _ rfl; rwa [hcell] at this, by have := hc 2 _ rfl; rwa [hcell] at this, hp⟩⟩
    · have hn := hw ((((List.range ps.length).map D).length + ((List.range (m - ps.length)).map fun j => D (ps.length + j)).length) * Tryd.prog.bytesOf 104) (by
        rw [hx]
        unfold DataW.weights
        rw [Tryd.underlying44]
        simp)
      simp only [List.length_map, List.length_range] at hn
      have h1 : ps.length ≤ (ps.length + (m - ps.length)) * Tryd.prog.bytesOf 104 := Nat.le_trans (by omega) (Nat.le_mul_of_pos_right _ Tryd.bytesRPar)
      unfold reachBytes at hn
      omega
    · obtain ⟨i, hil, rfl⟩ := List.getElem_of_mem hp
      obtain ⟨d, _, _, hb⟩ := hq i _ (List.getElem?_eq_getElem hil)
      refine hb fun q hqq => hw q ?_
      rw [hx]
      unfold DataW.weights
      rw [Tryd.underlying44]
      exact List.mem_cons_of_mem _ (List.mem_append.2 (.inl (weightsAll_mem (List.mem_map.2 ⟨i, List.mem_range.2 hil, rfl⟩) q hqq)))
end

/-- A macro, its parameters, its lines. -/
structure Mac where
  name : ByteArray
  ps : List HPar
  lines : List (List Tk6)
/-- A macro in the memory, with what bounds it. -/
structure MacV (w : World) (v : Value) (m : Mac) (vp vl : Value) : Prop where
  eq : v = .agg #[.string m.name, vp, vl]
  ps : Pars w vp m.ps
  lines : TokRows w vl m.lines

section
variable {H : Type} {enc : TypeId × Value → H} {w : World} {base : Nat} {spare : Nat → Bool} {held : Bool} {n : Nat}
set_option maxRecDepth 100000 in
theorem open_macro {b0 : Nat} {v : Value} {x : DataW H × List MemPlace} (hok : Value.okWide Tryd.prog w .any b0 46 v) (h : DataW.trod enc Tryd.prog w base spare held n 46 v.cells.toList = some x) :
    ∃ m vp vl, MacV w v m vp vl ∧ ((∀ q ∈ x.1.weights Tryd.prog 46, q ≤ reachBytes) → m.ps.length ≤ 140737488351232 ∧ (∀ p ∈ m.ps, p.dflt.length ≤ 140737488351232) ∧ m.lines.length ≤ 140737488351232 ∧ ∀ p ∈ m.lines, p.length ≤ 140737488351232) := by
  obtain ⟨fs, hu, hty, htl⟩ := Tryd.rmacStruct
  obtain ⟨cs, rfl, hcsz⟩ := okWide_struct hu hok
  have hcl : (Value.agg cs).cells.toList = cs.toList := rfl
  rw [hcl] at h
  obtain ⟨ys, n', _, hx, hlen, hyl, hf⟩ := DataW.trod_struct hu h
  rw [Tryd.cellsRMac] at hlen
  have hsz : fs.size = 3 := by have := congrArg Array.size hty; simpa using this
  rw [hsz] at hyl
  obtain ⟨cs⟩ := cs
  simp only at hlen hf hcl
  obtain _ | ⟨v0, _ | ⟨v1, _ | ⟨v2, _ | ⟨_, _⟩⟩⟩⟩ := cs
  all_goals simp at hlen
  obtain _ | ⟨y0, _ | ⟨y1, _ | ⟨y2, _ | ⟨_, _⟩⟩⟩⟩ := ys
  all_goals simp at hyl
  obtain ⟨f0, e0, t0, o0⟩ := field_at hty (j := 0) (t := 9) (o := 0) rfl
  obtain ⟨f1, e1, t1, o1⟩ := field_at hty (j := 1) (t := 44) (o := 1) rfl
  obtain ⟨f2, e2, t2, o2⟩ := field_at hty (j := 2) (t := 23) (o := 2) rfl
  have h0 := hf 0 f0 e0
  have h1 := hf 1 f1 e1
  have h2 := hf 2 f2 e2
  rw [t0, o0, Tryd.cellsStr] at h0
  rw [t1, o1, Tryd.cellsRPars] at h1
  rw [t2, o2, Tryd.cellsLines] at h2
  simp at h0 h1 h2
  obtain ⟨s, g0, _⟩ := DataW.trod_string Tryd.underlying9 h0
  obtain ⟨ps, hp, hw1⟩ := open_pars h1
  obtain ⟨pss, hl, hw2⟩ := open_rows2 h2
  simp at g0
  subst g0
  refine ⟨⟨s, ps, pss⟩, v1, v2, ⟨rfl, hp, hl⟩, fun hw => ?_⟩
  have hin : ∀ (j : Nat) (t : TypeId) (d : DataW H), [9, 44, 23][j]? = some t → (([y0, y1, y2] : List (DataW H × List MemPlace)).map (·.1))[j]? = some d → ∀ q ∈ d.weights Tryd.prog t, q ≤ reachBytes := by
    intro j t d ht hd q hq
    refine hw q ?_
    rw [hx]
    unfold DataW.weights
    rw [hu]
    dsimp only
    rw [htl]
    exact DataW.weights_mem_each (j := j) ht hd q hq
  obtain ⟨b1, b2⟩ := hw1 (hin 1 _ _ rfl rfl)
  obtain ⟨b3, b4⟩ := hw2 (hin 2 _ _ rfl rfl)
  exact ⟨b1, b2, b3, b4⟩
set_option maxRecDepth 100000 in
theorem open_token {b0 : Nat} {v : Value} {x : DataW H × List MemPlace} (hok : Value.okWide Tryd.prog w .any b0 56 v) (h : DataW.trod enc Tryd.prog w base spare held n 56 v.cells.toList = some x) : ∃ t : Tk6, v = .agg #[.int .i64 t.kind, .int .i64 t.line, .int .i64 t.col, .string t.text, .int .u32 t.num, .int .i64 t.spare] := by
  obtain ⟨fs, hu, hty⟩ := Tryd.tokStruct2
  obtain ⟨cs, rfl, hcsz⟩ := okWide_struct hu hok
  have hcl : (Value.agg cs).cells.toList = cs.toList := rfl
  rw [hcl] at h
  obtain ⟨t, ht⟩ := open_tok h
  refine ⟨t, ?_⟩
  congr 1
  exact Array.toList_inj.1 (by rw [ht]; rfl)
end
end Go.Proofs.YtbhfblogjlpnlabDoor
