/-
  A slice of acts, opened out of its reading as data; with the bound on its bytes that the weights give.
-/
import Derived.Test.YticfffndciddgaaMeOpenB
import Derived.SizedLaws
import Derived.Handed
namespace Go.Proofs.Yticfffndciddgaa
open Go.ChangeShapes Go.WideShapes Go.RowKit Go.Deep

theorem addr_plain {a : Addr} {j : Nat} (h : a.spot = none) : a.add j = ⟨a.block, a.off + j, none⟩ := by
  unfold Addr.add
  split
  · rename_i h0
    subst h0
    cases a
    simp_all
  · rfl
theorem weightsAll_mem {H : Type} {P : Program} {e : TypeId} : ∀ {l : List (DataW H)} {d : DataW H}, d ∈ l → ∀ n ∈ d.weights P e, n ∈ DataW.weightsAll P e l
  | d0 :: r, d, hd, n, hn => by
    unfold DataW.weightsAll
    rcases List.mem_cons.1 hd with rfl | h
    · exact List.mem_append.2 (.inl hn)
    · exact List.mem_append.2 (.inr (weightsAll_mem h n hn))
theorem field_at {fs : Array Field} {ts : Array (TypeId × Nat)} (h : (fs.map fun f => (f.type, f.offset)) = ts) {j t o : Nat} (hj : ts[j]? = some (t, o)) : ∃ f : Field, fs[j]? = some f ∧ f.type = t ∧ f.offset = o := by
  rw [← h] at hj
  simpa using hj

theorem Try.cellsInt : Try.prog.cellsOf 3 = 1 := by kernel_rfl
theorem Try.cellsU32 : Try.prog.cellsOf 24 = 1 := by kernel_rfl
theorem Try.cellsRow8 : Try.prog.cellsOf 31 = 1 := by kernel_rfl
theorem Try.cellsAct : Try.prog.cellsOf 33 = 5 := by kernel_rfl
theorem Try.bytes8 : 0 < Try.prog.bytesOf 5 := of_decide_eq_true (by kernel_rfl)
theorem Try.actStruct : ∃ fs, Try.prog.underlying 33 = some (.struct fs) ∧ (fs.map fun f => (f.type, f.offset)) = #[(3, 0), (24, 1), (3, 2), (24, 3), (31, 4)] ∧ fs.toList.map (·.type) = [3, 24, 3, 24, 31] :=
  ⟨_, Try.underlying33, by kernel_rfl, by kernel_rfl⟩

section
variable {H : Type} {enc : TypeId × Value → H} {w : World} {base : Nat} {spare : Nat → Bool} {held : Bool} {n : Nat}

set_option maxRecDepth 100000 in
theorem open_bytesw {v : Value} {x : DataW H × List MemPlace} (h : DataW.trod enc Try.prog w base spare held n 31 [v] = some x) :
    ∃ A c bs, v = .slice A (List.length bs) c ∧ bs.length ≤ c ∧ c ≤ maxLen ∧ BytesAt w A bs ∧ ((∀ m ∈ x.1.weights Try.prog 31, m ≤ reachBytes) → bs.length ≤ 140737488351232) := by
  obtain ⟨A, c, bs, rfl, h1, h2, h3⟩ := open_bytes1 h
  refine ⟨A, c, bs, rfl, h1, h2, h3, fun hw => ?_⟩
  rcases open_slice1 Try.underlying31 Try.cellsByte h with ⟨hcs, _⟩ | ⟨a, len, cap, m, n2, V, D, Pl, hcs, _, hl, hcm, hm, hx, hi⟩
  · have e : Value.slice A bs.length c = .slice none 0 0 := by simpa using hcs
    injection e with _ e _
    omega
  · have e : Value.slice A bs.length c = .slice (some a) len cap := by simpa using hcs
    injection e with _ e _
    have hn := hw ((((List.range len).map D).length + ((List.range (m - len)).map fun j => D (len + j)).length) * Try.prog.bytesOf 5) (by
      rw [hx]
      unfold DataW.weights
      rw [Try.underlying31]
      simp)
    simp only [List.length_map, List.length_range] at hn
    have h1 : len ≤ (len + (m - len)) * Try.prog.bytesOf 5 := Nat.le_trans (by omega) (Nat.le_mul_of_pos_right _ Try.bytes8)
    unfold reachBytes at hn
    omega

/-- An act. -/
theorem open_act {cs : List Value} {x : DataW H × List MemPlace} (h : DataW.trod enc Try.prog w base spare held n 33 cs = some x) :
    ∃ t : Act5, cs = [.int .i64 t.k, .int .u32 t.a, .int .i64 t.n, .int .u32 t.v, .slice t.B t.bs.length t.c] ∧ (0 ≤ t.a ∧ t.a ≤ 4294967295 ∧ 0 ≤ t.v ∧ t.v ≤ 4294967295 ∧ t.bs.length ≤ t.c ∧ t.c ≤ maxLen) ∧ BytesAt w t.B t.bs ∧ ((∀ m ∈ x.1.weights Try.prog 33, m ≤ reachBytes) → t.bs.length ≤ 140737488351232) := by
  obtain ⟨fs, hu, hty, htl⟩ := Try.actStruct
  obtain ⟨ys, n', _, hx, hlen, hyl, hf⟩ := DataW.trod_struct hu h
  rw [Try.cellsAct] at hlen
  have hsz : fs.size = 5 := by have := congrArg Array.size hty; simpa using this
  rw [hsz] at hyl
  obtain _ | ⟨v0, _ | ⟨v1, _ | ⟨v2, _ | ⟨v3, _ | ⟨v4, _ | ⟨_, _⟩⟩⟩⟩⟩⟩ := cs
  all_goals simp at hlen
  obtain _ | ⟨y0, _ | ⟨y1, _ | ⟨y2, _ | ⟨y3, _ | ⟨y4, _ | ⟨_, _⟩⟩⟩⟩⟩⟩ := ys
  all_goals simp at hyl
  obtain ⟨f0, e0, t0, o0⟩ := field_at hty (j := 0) (t := 3) (o := 0) rfl
  obtain ⟨f1, e1, t1, o1⟩ := field_at hty (j := 1) (t := 24) (o := 1) rfl
  obtain ⟨f2, e2, t2, o2⟩ := field_at hty (j := 2) (t := 3) (o := 2) rfl
  obtain ⟨f3, e3, t3, o3⟩ := field_at hty (j := 3) (t := 24) (o := 3) rfl
  obtain ⟨f4, e4, t4, o4⟩ := field_at hty (j := 4) (t := 31) (o := 4) rfl
  have h0 := hf 0 f0 e0
  have h1 := hf 1 f1 e1
  have h2 := hf 2 f2 e2
  have h3 := hf 3 f3 e3
  have h4 := hf 4 f4 e4
  rw [t0, o0, Try.cellsInt] at h0
  rw [t1, o1, Try.cellsU32] at h1
  rw [t2, o2, Try.cellsInt] at h2
  rw [t3, o3, Try.cellsU32] at h3
  rw [t4, o4, Try.cellsRow8] at h4
  simp at h0 h1 h2 h3 h4
  obtain ⟨a, g0, _⟩ := DataW.trod_int Try.underlying3 h0
  obtain ⟨b, g1, _, w1⟩ := DataW.trod_int Try.underlying24 h1
  obtain ⟨c, g2, _⟩ := DataW.trod_int Try.underlying3 h2
  obtain ⟨d, g3, _, w3⟩ := DataW.trod_int Try.underlying24 h3
  obtain ⟨A, cp, bs, g4, q1, q2, q3, hw⟩ := open_bytesw h4
  simp at g0 g1 g2 g3
  obtain ⟨b0, b1⟩ := u32_wf w1
  obtain ⟨d0, d1⟩ := u32_wf w3
  refine ⟨⟨a, b, c, d, A, cp, bs⟩, by rw [g0, g1, g2, g3, g4], ⟨b0, b1, d0, d1, q1, q2⟩, q3, fun hww => hw fun q hq => hww q ?_⟩
  rw [hx]
  unfold DataW.weights
  rw [hu]
  dsimp only
  rw [htl]
  exact DataW.weights_mem_each (j := 4) (t := 31) rfl rfl q hq

/-- Acts. -/
theorem open_acts {v : Value} {x : DataW H × List MemPlace} (h : DataW.trod enc Try.prog w base spare held n 23 [v] = some x) :
    ∃ A n c l, v = .slice A n c ∧ List.length l = n ∧ n ≤ c ∧ c ≤ maxLen ∧ ((∀ m ∈ x.1.weights Try.prog 23, m ≤ reachBytes) → ActsAt w A l) := by
  rcases open_slice Try.underlying23 h with ⟨hcs, _⟩ | ⟨a, len, cap, m, n2, D, Pl, hcs, _, hl, hcm, hm, hx, hi⟩
  · exact ⟨none, 0, 0, [], by simpa using hcs, rfl, Nat.le_refl _, by simp [maxLen], fun _ => ⟨fun i x hx => by simp at hx, fun x hx => by simp at hx⟩⟩
  · have hv : v = .slice (some a) len cap := by simpa using hcs
    subst hv
    have hlm : len ≤ m := by rw [hm]; split <;> omega
    have hone : ∀ i, i < len → ∃ t : Act5, (∀ (j : Nat) (u : Value), [Value.int .i64 t.k, .int .u32 t.a, .int .i64 t.n, .int .u32 t.v, .slice t.B t.bs.length t.c][j]? = some u → w.cell? (a.add (i * 5 + j)) = some u) ∧ (0 ≤ t.a ∧ t.a ≤ 4294967295 ∧ 0 ≤ t.v ∧ t.v ≤ 4294967295 ∧ t.bs.length ≤ t.c ∧ t.c ≤ maxLen) ∧ BytesAt w t.B t.bs ∧ ((∀ m ∈ (D i).weights Try.prog 33, m ≤ reachBytes) → t.bs.length ≤ 140737488351232) := by
      intro i hil
      obtain ⟨cs', hc, ht⟩ := hi i (by omega)
      rw [Try.cellsAct] at hc
      obtain ⟨t, rfl, hp, hb, hw⟩ := open_act ht
      obtain ⟨_, hcl, hat⟩ := World.cells?_some hc
      refine ⟨t, fun j u hu => ?_, hp, hb, hw⟩
      have hj : j < 5 := (List.getElem?_eq_some_iff.1 hu).1
      rw [← Go.Deep.add_add, hat j hj]
      exact hu
    obtain ⟨ts, hlen, hq⟩ := list_of_lt2 hone
    subst hlen
    refine ⟨some a, ts.length, cap, ts, rfl, rfl, hl, hcm, fun hw => ⟨fun i t hit => ?_, fun t ht => ?_⟩⟩
    · obtain ⟨hc, _⟩ := hq i t hit
      have hc0 := hc 0 _ rfl
      have h0 : 0 < ts.length := by have := (List.getElem?_eq_some_iff.1 hit).1; omega
      have hspot : a.spot = none := by
        have := World.cell?_spot ((hq 0 ts[0] (List.getElem?_eq_getElem h0)).1 0 _ rfl)
        simpa [Addr.add] using this
      obtain ⟨b, o, spot⟩ := a
      simp only at hspot
      subst hspot
      have hcell : ∀ i j, (⟨b, o, none⟩ : Addr).add (i * 5 + j) = ⟨b, o + i * 5 + j, none⟩ := fun i j => by
        rw [addr_plain rfl, ← Nat.add_assoc]
      rw [hcell] at hc0
      exact ⟨b, o, rfl, World.block_lt_of_cell? w _ hc0, hc0, by have := hc 1 _ rfl; rwa [hcell] at this, by have := hc 2 _ rfl; rwa [hcell] at this, by have := hc 3 _ rfl; rwa [hcell] at this, by have := hc 4 _ rfl; rwa [hcell] at this⟩
    · obtain ⟨i, hil, rfl⟩ := List.getElem_of_mem ht
      obtain ⟨_, ⟨q1, q2, q3, q4, q5, q6⟩, hb, hbw⟩ := hq i _ (List.getElem?_eq_getElem hil)
      refine ⟨q1, q2, q3, q4, q5, q6, Nat.le_trans (hbw fun q hqq => hw q ?_) (by omega), hb⟩
      rw [hx]
      unfold DataW.weights
      rw [Try.underlying23]
      exact List.mem_cons_of_mem _ (List.mem_append.2 (.inl (weightsAll_mem (List.mem_map.2 ⟨i, List.mem_range.2 hil, rfl⟩) q hqq)))
end
end Go.Proofs.Yticfffndciddgaa
