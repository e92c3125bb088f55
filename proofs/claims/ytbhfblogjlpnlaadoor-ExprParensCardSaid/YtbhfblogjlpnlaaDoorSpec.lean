/-
  What tokens bytes are: the document's lexer as plain functions on lists of bytes. No program.
-/
namespace Go.Proofs.YtbhfblogjlpnlaaDoor

abbrev Bs := List UInt8
def isLet (c : UInt8) : Bool := (97 ≤ c && c ≤ 122) || (65 ≤ c && c ≤ 90)
def isDig (c : UInt8) : Bool := 48 ≤ c && c ≤ 57
def goOn (c : UInt8) : Bool := isLet c || isDig c || c == 95
def goOnName (c : UInt8) : Bool := goOn c || c == 46 || c == 36
def isBlank (c : UInt8) : Bool := c == 32 || c == 9 || c == 13
def isHead (c : UInt8) : Bool := isLet c || c == 95 || c == 46
def isMark (c : UInt8) : Bool := c == 44 || c == 58 || c == 40 || c == 41 || c == 43 || c == 45 || c == 42 || c == 47 || c == 38 || c == 124 || c == 94 || c == 126 || c == 61
/-- The number that a digit of base sixteen stands for; 99 of another byte. -/
def digV (c : UInt8) : Nat := if isDig c then c.toNat - 48 else if 97 ≤ c && c ≤ 102 then c.toNat - 87 else if 65 ≤ c && c ≤ 70 then c.toNat - 55 else 99
def pre (p : UInt8 → Bool) (l : Bs) : Nat := (l.takeWhile p).length
def valF (base : Nat) (ds : Bs) (v : Nat) : Nat := ds.foldl (fun v c => v * base + digV c) v
/-- A number's base, and how many bytes tell it. -/
def baseOf (l : Bs) : Nat × Nat := if l.take 2 = [48, 120] then (16, 2) else if l.take 2 = [48, 98] then (2, 2) else (10, 0)
/-- A number at the beginning: its value, and how long it is. -/
def numeral (l : Bs) : Option (Nat × Nat) :=
  let b := (baseOf l).1
  let a := (baseOf l).2
  let n := a + pre (fun c => digV c < b) (l.drop a)
  if n = a then none
  else if goOnName (l.getD n 0) && decide (n < l.length) then none
  else if valF b ((l.take n).drop a) 0 < 4294967296 then some (valF b ((l.take n).drop a) 0, n) else none
/-- The byte that an escape's name stands for. -/
def escName (c : UInt8) : Option UInt8 :=
  if c = 110 then some 10 else if c = 116 then some 9 else if c = 114 then some 13 else if c = 48 then some 0 else if c = 92 then some 92 else if c = 39 then some 39 else if c = 34 then some 34 else none
/-- An escape at the beginning (its first byte is the backslash): its byte, and how long it is. -/
def escR (l : Bs) : Option (UInt8 × Nat) :=
  if l.length < 2 then none
  else match escName (l.getD 1 0) with
    | some b => some (b, 2)
    | none => if l.getD 1 0 = 120 ∧ 3 < l.length ∧ digV (l.getD 2 0) < 16 ∧ digV (l.getD 3 0) < 16 then some (UInt8.ofNat (digV (l.getD 2 0) * 16 + digV (l.getD 3 0)), 4) else none
/-- A byte within quotes, and how long it is. -/
def unit (q : UInt8) : Bs → Option (UInt8 × Nat)
  | [] => none
  | c :: r => if c = q then none else if c = 92 then escR (c :: r) else if 32 ≤ c || (c == 9 && q == 34) then some (c, 1) else none
/-- The bytes up to the closing quote, and how many that are with it; the first k bytes are passed by. -/
def body (q : UInt8) : Nat → Bs → Option (Bs × Nat)
  | _, [] => none
  | k + 1, _ :: r => (body q k r).map fun x => (x.1, x.2 + 1)
  | 0, c :: r => if c = q then some ([], 1) else match unit q (c :: r) with
    | none => none
    | some (b, n) => (body q (n - 1) r).map fun x => (b :: x.1, x.2 + 1)

/-- A token at the beginning: its kind, its text, its number, and how long it is; or a code. -/
inductive Tk
  | ok (kind : Int) (text : Bs) (num : Int) (n : Nat)
  | bad (code : Int)

def tokC (c : UInt8) (r : Bs) : Tk :=
    if isHead c then .ok 1 ((c :: r).take (pre goOnName (c :: r))) 0 (pre goOnName (c :: r))
    else if isDig c then (match numeral (c :: r) with
      | some (v, n) => .ok 5 [] v n
      | none => .bad 3)
    else if c = 39 then (match unit 39 r with
      | some (b, n) => if r.getD n 0 = 39 ∧ n < r.length then .ok 5 [] b.toNat (n + 2) else .bad 3
      | none => .bad 3)
    else if c = 34 then (match body 34 0 r with
      | some (bs, n) => .ok 6 bs 0 (n + 1)
      | none => .bad 4)
    else if c = 37 then (if r.take (pre goOn r) = [104, 105] ∨ r.take (pre goOn r) = [108, 111] ∨ r.take (pre goOn r) = [112, 99, 114, 101, 108] then .ok 4 (r.take (pre goOn r)) 0 (pre goOn r + 1) else .bad 2)
    else if c = 64 then (if 0 < pre goOn r ∧ isDig (r.getD 0 0) = false then .ok 2 (r.take (pre goOn r)) 0 (pre goOn r + 1) else .bad 2)
    else if c = 92 then (if 0 < pre goOn r ∧ isDig (r.getD 0 0) = false then .ok 3 (r.take (pre goOn r)) 0 (pre goOn r + 1) else .bad 2)
    else if c = 60 ∨ c = 62 then (if r.getD 0 0 = c ∧ 0 < r.length then .ok 7 [c, c] 0 2 else .bad 2)
    else if isMark c then .ok 7 [c] 0 1
    else .bad 2
def tokR : Bs → Tk
  | [] => .bad 2
  | c :: r => tokC c r

/-! Facts. -/
theorem all_bytes {p : UInt8 → Prop} [DecidablePred p] (h : ∀ n : Fin 256, p (UInt8.ofNat n.1)) (c : UInt8) : p c := by
  have := h ⟨c.toNat, c.toNat_lt⟩
  rwa [UInt8.ofNat_toNat] at this

theorem unit_cons (q c : UInt8) (r : Bs) : unit q (c :: r) = if c = q then none else if c = 92 then escR (c :: r) else if 32 ≤ c || (c == 9 && q == 34) then some (c, 1) else none := rfl
theorem pre_le (p : UInt8 → Bool) (l : Bs) : pre p l ≤ l.length := (List.takeWhile_prefix _).length_le
theorem pre_take (p : UInt8 → Bool) (l : Bs) : l.take (pre p l) = l.takeWhile p := by
  unfold pre
  induction l with
  | nil => simp
  | cons a l ih =>
    by_cases h : p a = true
    · simp [h, ih]
    · simp [h]
theorem unit_len {q : UInt8} {l : Bs} {b : UInt8} {n : Nat} (h : unit q l = some (b, n)) : 1 ≤ n ∧ n ≤ l.length := by
  cases l with
  | nil => simp [unit] at h
  | cons c r =>
    rw [unit_cons] at h
    split at h
    · simp at h
    · split at h
      · unfold escR at h
        split at h
        · simp at h
        · split at h
          · simp only [Option.some.injEq, Prod.mk.injEq] at h
            omega
          · split at h
            · simp only [Option.some.injEq, Prod.mk.injEq] at h
              omega
            · simp at h
      · split at h
        · simp only [Option.some.injEq, Prod.mk.injEq] at h
          simp only [List.length_cons]
          omega
        · simp at h
theorem body_skip (q : UInt8) : ∀ (k : Nat) (l : Bs), body q k l = (body q 0 (l.drop k)).map fun x => (x.1, x.2 + k)
  | 0, l => by simp
  | k + 1, [] => by simp [body]
  | k + 1, c :: r => by
    rw [body, body_skip q k r, List.drop_succ_cons]
    cases body q 0 (r.drop k) with
    | none => rfl
    | some x => simp; omega
/-- One byte, or the end. -/
theorem body_step (q c : UInt8) (r : Bs) : body q 0 (c :: r) = if c = q then some ([], 1) else match unit q (c :: r) with
    | none => none
    | some (b, n) => (body q 0 ((c :: r).drop n)).map fun x => (b :: x.1, x.2 + n) := by
  rw [body]
  split
  · rfl
  · cases hu : unit q (c :: r) with
    | none => rfl
    | some x =>
      obtain ⟨b, n⟩ := x
      have hn := (unit_len hu).1
      simp only
      rw [body_skip]
      obtain ⟨k, rfl⟩ : ∃ k, n = k + 1 := ⟨n - 1, by omega⟩
      rw [List.drop_succ_cons, Nat.add_sub_cancel]
      cases body q 0 (r.drop k) with
      | none => rfl
      | some x => simp; omega
theorem body_len {q : UInt8} : ∀ (k : Nat) (l : Bs) {x : Bs × Nat}, body q k l = some x → 1 ≤ x.2 ∧ x.2 ≤ l.length ∧ x.1.length ≤ x.2
  | _, [], x, h => by simp [body] at h
  | k + 1, _ :: r, x, h => by
    rw [body] at h
    cases hb : body q k r with
    | none => simp [hb] at h
    | some y =>
      simp [hb] at h
      subst h
      have := body_len k r hb
      simp
      omega
  | 0, c :: r, x, h => by
    rw [body] at h
    split at h
    · simp at h
      subst h
      simp
    · split at h
      · simp at h
      · rename_i b n hu
        cases hb : body q (n - 1) r with
        | none => simp [hb] at h
        | some y =>
          simp [hb] at h
          subst h
          have := body_len (n - 1) r hb
          simp
          omega
theorem numeral_len {l : Bs} {v n : Nat} (h : numeral l = some (v, n)) : 1 ≤ n ∧ n ≤ l.length ∧ v < 4294967296 := by
  unfold numeral at h
  simp only at h
  split at h
  · simp at h
  · split at h
    · simp at h
    · split at h
      · simp at h
        obtain ⟨rfl, rfl⟩ := h
        have hp := pre_le (fun c => digV c < (baseOf l).1) (l.drop (baseOf l).2)
        simp only [List.length_drop] at hp
        refine ⟨by omega, by omega, by assumption⟩
      · simp at h
theorem tok_len {l : Bs} {k : Int} {t : Bs} {v : Int} {n : Nat} (h : tokR l = .ok k t v n) : 1 ≤ n ∧ n ≤ l.length := by
  cases l with
  | nil => simp [tokR] at h
  | cons c r =>
    change tokC c r = _ at h
    unfold tokC at h
    have hp := pre_le goOn r
    split at h
    · rename_i hh
      cases h
      have hp2 := pre_le goOnName (c :: r)
      refine ⟨?_, hp2⟩
      have : goOnName c = true := by
        revert hh
        exact all_bytes (p := fun c => isHead c = true → goOnName c = true) (by decide +kernel) c
      simp [pre, this]
    · split at h
      · split at h
        · rename_i hh
          cases h
          exact ⟨(numeral_len hh).1, (numeral_len hh).2.1⟩
        · cases h
      · split at h
        · split at h
          · split at h
            · cases h
              simp only [List.length_cons]
              omega
            · cases h
          · cases h
        · split at h
          · split at h
            · rename_i hh
              cases h
              have := body_len _ _ hh
              simp only [List.length_cons] at *
              omega
            · cases h
          · repeat' split at h
            all_goals first
              | (cases h; done)
              | (cases h; simp only [List.length_cons]; omega)
end Go.Proofs.YtbhfblogjlpnlaaDoor
