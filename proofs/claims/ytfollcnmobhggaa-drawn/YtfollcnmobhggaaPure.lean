/-
  Plain mathematics of draws, on lists of bytes: nothing of the program.
-/
import Derived.Lib.Strings
import Derived.Lib.Repeat
namespace Go.Proofs.Ytfollcnmobhggaa

/-- 'pick': which of n things a raw number speaks of. -/
def pk (c n : Int) : Int := if c < 0 then (-(c+1)) % n else c % n
theorem pk_lo (c n : Int) (h : 1 ≤ n) : 0 ≤ pk c n := by unfold pk; split <;> exact Int.emod_nonneg _ (by omega)
theorem pk_hi (c n : Int) (h : 1 ≤ n) : pk c n < n := by unfold pk; split <;> exact Int.emod_lt_of_pos _ (by omega)
theorem pk_pos {c n : Int} (h : 0 ≤ c) : pk c n = c % n := by unfold pk; rw [if_neg (by omega)]
theorem pk_neg {c n : Int} (h : c < 0) : pk c n = -((c+1).tmod n) := by
  unfold pk; rw [if_pos h, ← Int.neg_tmod, Int.tmod_eq_emod_of_nonneg (by omega)]
/-- A pick as a natural number. -/
theorem pk_nat (c : Int) (n : Nat) (h : 1 ≤ n) : ∃ a : Nat, pk c n = a ∧ a < n :=
  ⟨(pk c n).toNat, by have := pk_lo c n (by omega); omega, by have := pk_lo c n (by omega); have := pk_hi c n (by omega); omega⟩

/-- Does the q-th trial of k bits stop? -/
def hitL (k : Nat) (l : List UInt8) (q : Nat) : Bool := (l.drop (q * k)).take k == List.replicate k 49
/-- The first trial that stops is the p-th. -/
def Geo (k : Nat) (l : List UInt8) (p : Nat) : Prop := (p + 1) * k ≤ l.length ∧ hitL k l p = true ∧ ∀ q, q < p → hitL k l q = false
/-- The list ends ahead of a trial that stops. -/
def NoGeo (k : Nat) (l : List UInt8) : Prop := ∀ q, (q + 1) * k ≤ l.length → hitL k l q = false

theorem mul_le_succ (k p q : Nat) (h : p ≤ q) : (p + 1) * k ≤ (q + 1) * k := Nat.mul_le_mul_right k (by omega)

theorem Geo.uniq {k : Nat} {l : List UInt8} {p q : Nat} (h : Geo k l p) (g : Geo k l q) : p = q := by
  obtain ⟨_, h2, h3⟩ := h
  obtain ⟨_, g2, g3⟩ := g
  rcases Nat.lt_trichotomy p q with h | h | h
  · rw [g3 p h] at h2; cases h2
  · exact h
  · rw [h3 q h] at g2; cases g2

theorem Geo.not {k : Nat} {l : List UInt8} {p : Nat} (h : Geo k l p) (g : NoGeo k l) : False := by
  have := g p h.1
  rw [h.2.1] at this
  cases this

theorem hitL_zero (k : Nat) (b l : List UInt8) (hb : b.length = k) : hitL k (b ++ l) 0 = (b == List.replicate k 49) := by
  unfold hitL
  rw [Nat.zero_mul, List.drop_zero, ← hb, List.take_left]

theorem hitL_succ (k : Nat) (b l : List UInt8) (q : Nat) (hb : b.length = k) : hitL k (b ++ l) (q + 1) = hitL k l q := by
  unfold hitL
  rw [Nat.succ_mul, Nat.add_comm, ← List.drop_drop, ← hb, List.drop_left]

/-- One trial that does not stop, ahead. -/
theorem Geo.cons {k : Nat} {b l : List UInt8} {p : Nat} (hb : b.length = k) (hn : (b == List.replicate k 49) = false) (h : Geo k l p) : Geo k (b ++ l) (p + 1) := by
  obtain ⟨h1, h2, h3⟩ := h
  refine ⟨?_, by rw [hitL_succ k b l p hb]; exact h2, ?_⟩
  · rw [List.length_append, hb, Nat.succ_mul]; omega
  · intro q hq
    cases q with
    | zero => rw [hitL_zero k b l hb]; exact hn
    | succ q => rw [hitL_succ k b l q hb]; exact h3 q (by omega)

theorem NoGeo.cons {k : Nat} {b l : List UInt8} (hb : b.length = k) (hn : (b == List.replicate k 49) = false) (h : NoGeo k l) : NoGeo k (b ++ l) := by
  intro q hq
  cases q with
  | zero => rw [hitL_zero k b l hb]; exact hn
  | succ q =>
    rw [hitL_succ k b l q hb]
    refine h q ?_
    rw [List.length_append, hb, Nat.succ_mul] at hq
    omega

/-- n trials of k bits, none of which stops. -/
def Blocks (k n : Nat) (l : List UInt8) : Prop :=
  ∃ B : List (List UInt8), B.length = n ∧ (∀ b, b ∈ B → b.length = k ∧ (b == List.replicate k 49) = false ∧ ∀ c, c ∈ b → c = 48 ∨ c = 49) ∧ l = B.flatten

theorem Blocks.nil (k : Nat) : Blocks k 0 [] := ⟨[], rfl, by simp, rfl⟩
theorem Blocks.snoc {k n : Nat} {l b : List UInt8} (h : Blocks k n l) (hb : b.length = k) (hn : (b == List.replicate k 49) = false) (hc : ∀ c, c ∈ b → c = 48 ∨ c = 49) : Blocks k (n + 1) (l ++ b) := by
  obtain ⟨B, h1, h2, h3⟩ := h
  refine ⟨B ++ [b], by simp [h1], ?_, by simp [h3]⟩
  intro x hx
  rcases List.mem_append.1 hx with hx | hx
  · exact h2 x hx
  · rw [List.mem_singleton.1 hx]; exact ⟨hb, hn, hc⟩
theorem Blocks.bits {k n : Nat} {l : List UInt8} (h : Blocks k n l) : ∀ c, c ∈ l → c = 48 ∨ c = 49 := by
  obtain ⟨B, _, h2, rfl⟩ := h
  intro c hc
  obtain ⟨b, hb, hcb⟩ := List.mem_flatten.1 hc
  exact (h2 b hb).2.2 c hcb
theorem Blocks.length {k n : Nat} {l : List UInt8} (h : Blocks k n l) : l.length = n * k := by
  obtain ⟨B, h1, h2, rfl⟩ := h
  subst h1
  induction B with
  | nil => simp
  | cons b B ih =>
    rw [List.flatten_cons, List.length_append, ih (fun x hx => h2 x (List.mem_cons_of_mem _ hx)), (h2 b List.mem_cons_self).1, List.length_cons, Nat.succ_mul]
    omega

theorem geo_here (k : Nat) (r : List UInt8) : Geo k (List.replicate k 49 ++ r) 0 := by
  refine ⟨?_, ?_, fun q hq => absurd hq (by omega)⟩
  · rw [List.length_append, List.length_replicate]; omega
  · rw [hitL_zero k _ r (by simp)]; simp

theorem Blocks.geo {k n : Nat} {l : List UInt8} (h : Blocks k n l) (r : List UInt8) : Geo k (l ++ (List.replicate k 49 ++ r)) n := by
  obtain ⟨B, h1, h2, rfl⟩ := h
  subst h1
  induction B with
  | nil => simpa using geo_here k r
  | cons b B ih =>
    rw [List.flatten_cons, List.append_assoc, List.length_cons]
    exact Geo.cons (h2 b List.mem_cons_self).1 (h2 b List.mem_cons_self).2.1 (ih (fun x hx => h2 x (List.mem_cons_of_mem _ hx)))

theorem noGeo_short (k : Nat) (r : List UInt8) (hr : r.length < k) : NoGeo k r := by
  intro q hq
  rw [Nat.succ_mul] at hq
  omega

theorem Blocks.noGeo {k n : Nat} {l : List UInt8} (h : Blocks k n l) (r : List UInt8) (hr : r.length < k) : NoGeo k (l ++ r) := by
  obtain ⟨B, h1, h2, rfl⟩ := h
  subst h1
  induction B with
  | nil => simpa using noGeo_short k r hr
  | cons b B ih =>
    rw [List.flatten_cons, List.append_assoc]
    exact NoGeo.cons (h2 b List.mem_cons_self).1 (h2 b List.mem_cons_self).2.1 (ih (fun x hx => h2 x (List.mem_cons_of_mem _ hx)))

/-- Behind n trials that do not stop and one that does. -/
theorem Blocks.drop {k n : Nat} {l : List UInt8} (h : Blocks k n l) (r : List UInt8) : (l ++ (List.replicate k 49 ++ r)).drop ((n + 1) * k) = r := by
  have e : (n + 1) * k = (l ++ List.replicate k 49).length := by rw [List.length_append, h.length, List.length_replicate, Nat.succ_mul]
  rw [e, ← List.append_assoc, List.drop_left]

/-- The j-th bit of c, as it is written. -/
def bitC (c j : Nat) : UInt8 := UInt8.ofNat (48 + c / 2 ^ j % 2)
theorem bitC_bit (c j : Nat) : bitC c j = 48 ∨ bitC c j = 49 := by
  unfold bitC
  rcases Nat.mod_two_eq_zero_or_one (c / 2 ^ j) with h | h <;> rw [h]
  · exact Or.inl rfl
  · exact Or.inr rfl
/-- k bits of c, the highest first: the first m of them. -/
def bitsDown (k c m : Nat) : List UInt8 := (List.range m).map fun i => bitC c (k - 1 - i)
theorem bitsDown_succ (k c m : Nat) : bitsDown k c (m + 1) = bitsDown k c m ++ [bitC c (k - 1 - m)] := by
  unfold bitsDown; rw [List.range_succ, List.map_append]; rfl
theorem bitsDown_length (k c m : Nat) : (bitsDown k c m).length = m := by simp [bitsDown]
theorem bitsDown_bits (k c m : Nat) : ∀ x, x ∈ bitsDown k c m → x = 48 ∨ x = 49 := by
  intro x hx
  obtain ⟨i, _, rfl⟩ := List.mem_map.1 hx
  exact bitC_bit _ _
theorem bitsDown_not1 : ∀ c, c < 1 → (bitsDown 1 c 1 == List.replicate 1 49) = false := by decide
theorem bitsDown_not2 : ∀ c, c < 3 → (bitsDown 2 c 2 == List.replicate 2 49) = false := by decide
theorem bitsDown_not3 : ∀ c, c < 7 → (bitsDown 3 c 3 == List.replicate 3 49) = false := by decide
theorem bitsDown_not4 : ∀ c, c < 15 → (bitsDown 4 c 4 == List.replicate 4 49) = false := by decide

/-- n bits of c, the lowest first. -/
def bitsUp (c m : Nat) : List UInt8 := (List.range m).map fun j => bitC c j
theorem bitsUp_succ (c m : Nat) : bitsUp c (m + 1) = bitsUp c m ++ [bitC c m] := by
  unfold bitsUp; rw [List.range_succ, List.map_append]; rfl
theorem bitsUp_length (c m : Nat) : (bitsUp c m).length = m := by simp [bitsUp]
theorem bitsUp_bits (c m : Nat) : ∀ x, x ∈ bitsUp c m → x = 48 ∨ x = 49 := by
  intro x hx
  obtain ⟨i, _, rfl⟩ := List.mem_map.1 hx
  exact bitC_bit _ _

/-- The first trial that stops, by search. -/
def geoF (k : Nat) (l : List UInt8) : Nat → Nat → Option Nat
  | 0, _ => none
  | f + 1, q => if (q + 1) * k ≤ l.length then (if hitL k l q then some q else geoF k l f (q + 1)) else none
def geo (k : Nat) (l : List UInt8) : Option Nat := geoF k l (l.length + 1) 0

theorem geoF_spec (k : Nat) (hk : 1 ≤ k) (l : List UInt8) : ∀ f q, l.length < f + q → (∀ j, j < q → hitL k l j = false) →
    (∃ p, geoF k l f q = some p ∧ Geo k l p) ∨ (geoF k l f q = none ∧ NoGeo k l)
  | 0, q, hf, hq => by
    refine Or.inr ⟨rfl, fun j hj => hq j ?_⟩
    have : (j + 1) * 1 ≤ (j + 1) * k := Nat.mul_le_mul_left _ hk
    omega
  | f + 1, q, hf, hq => by
    unfold geoF
    by_cases h : (q + 1) * k ≤ l.length
    · rw [if_pos h]
      by_cases g : hitL k l q = true
      · rw [if_pos g]; exact Or.inl ⟨q, rfl, h, g, hq⟩
      · rw [if_neg g]
        refine geoF_spec k hk l f (q + 1) (by omega) fun j hj => ?_
        by_cases e : j = q
        · subst e; simpa using g
        · exact hq j (by omega)
    · rw [if_neg h]
      refine Or.inr ⟨rfl, fun j hj => hq j ?_⟩
      by_cases e : j < q
      · exact e
      · have := mul_le_succ k q j (by omega); omega

theorem geo_spec (k : Nat) (hk : 1 ≤ k) (l : List UInt8) : (∃ p, geo k l = some p ∧ Geo k l p) ∨ (geo k l = none ∧ NoGeo k l) :=
  geoF_spec k hk l (l.length + 1) 0 (by omega) (fun j hj => absurd hj (by omega))

/-- A draw, by search: both geometrics. -/
def drw (k : Nat) (l : List UInt8) : Option (Nat × Nat) :=
  match geo k l with
  | none => none
  | some p => match geo k (l.drop ((p + 1) * k)) with
    | none => none
    | some q => some (p, q)
/-- There are two trials that stop: the first behind p, the second behind q others. -/
def Drw (k : Nat) (l : List UInt8) (p q : Nat) : Prop := Geo k l p ∧ Geo k (l.drop ((p + 1) * k)) q
def NoDrw (k : Nat) (l : List UInt8) : Prop := NoGeo k l ∨ ∃ p, Geo k l p ∧ NoGeo k (l.drop ((p + 1) * k))

theorem drw_spec (k : Nat) (hk : 1 ≤ k) (l : List UInt8) : (∃ p q, drw k l = some (p, q) ∧ Drw k l p q) ∨ (drw k l = none ∧ NoDrw k l) := by
  unfold drw
  rcases geo_spec k hk l with ⟨p, h, g⟩ | ⟨h, g⟩
  · rw [h]
    rcases geo_spec k hk (l.drop ((p + 1) * k)) with ⟨q, h', g'⟩ | ⟨h', g'⟩
    · exact Or.inl ⟨p, q, by simp [h'], g, g'⟩
    · exact Or.inr ⟨by simp [h'], Or.inr ⟨p, g, g'⟩⟩
  · rw [h]; exact Or.inr ⟨rfl, Or.inl g⟩

theorem Drw.bound {k : Nat} {l : List UInt8} {p q : Nat} (h : Drw k l p q) : (p + 1) * k + (q + 1) * k ≤ l.length := by
  have h1 := h.1.1
  have h2 := h.2.1
  rw [List.length_drop] at h2
  omega

end Go.Proofs.Ytfollcnmobhggaa
