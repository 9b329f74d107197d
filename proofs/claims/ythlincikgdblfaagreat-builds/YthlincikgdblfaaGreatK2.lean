import Derived.Test.YthlincikgdblfaaGreatK1
namespace Go.Proofs.YthlincikgdblfaaGreat
set_option linter.unusedVariables false
namespace Rot

theorem pow_byte (k : Nat) (hk : k < 8) : (UInt8.ofNat (2 ^ k)).toNat = 2 ^ k := by
  rw [UInt8.toNat_ofNat']
  match k, hk with
  | 0, _ => rfl
  | 1, _ => rfl
  | 2, _ => rfl
  | 3, _ => rfl
  | 4, _ => rfl
  | 5, _ => rfl
  | 6, _ => rfl
  | 7, _ => rfl

/-- The packed bytes hold the bits, and nothing behind them. -/
theorem packed_bit_aux : ∀ (n : Nat) (l : List Bool), l.length = n → ∀ k, (((rowOf l).packed[k / 8]?).getD 0).toNat.testBit (k % 8) = (l[k]?).getD false := by
  intro n
  induction n with
  | zero =>
    intro l hl k
    obtain rfl := List.eq_nil_of_length_eq_zero hl
    simp [rowOf, Row.none]
  | succ n ihn =>
    intro l0 hl0 k
    rcases List.eq_nil_or_concat l0 with rfl | ⟨l, b, rfl⟩
    · simp at hl0
    rw [List.concat_eq_append] at hl0 ⊢
    have ih := ihn l (by simpa using hl0)
    have f := row_fits l
    have c := row_count l
    have hpl := f.packed
    rw [c] at hpl
    rw [rowOf_snoc]
    simp only [Row.add, addBit]
    rw [c]
    generalize (rowOf l).packed = q at ih hpl
    have p1 : ∀ j : Nat, (((if l.length % 8 = 0 then q ++ [0] else q : List UInt8)[j]?).getD 0 : UInt8) = (q[j]?).getD 0 := by
      intro j
      by_cases h8 : l.length % 8 = 0
      · rw [if_pos h8]
        by_cases hj : j < q.length
        · rw [List.getElem?_append_left hj]
        · rw [List.getElem?_append_right (by omega), List.getElem?_eq_none (l := q) (by omega)]
          by_cases hj0 : j - q.length = 0
          · rw [hj0]; rfl
          · rw [List.getElem?_eq_none (by simp; omega)]
      · rw [if_neg h8]
    have p1l : l.length / 8 < (if l.length % 8 = 0 then q ++ [0] else q).length := by
      by_cases h8 : l.length % 8 = 0
      · rw [if_pos h8, List.length_append, hpl]; simp; omega
      · rw [if_neg h8, hpl]; omega
    generalize (if l.length % 8 = 0 then q ++ [0] else q) = p at p1 p1l
    cases b with
    | false =>
      simp only [Bool.false_eq_true, if_false]
      rw [p1, ih]
      by_cases hk : k < l.length
      · rw [List.getElem?_append_left hk]
      · rw [List.getElem?_append_right (by omega), List.getElem?_eq_none (l := l) (by omega)]
        by_cases hk0 : k - l.length = 0
        · rw [hk0]; rfl
        · rw [List.getElem?_eq_none (by simp; omega)]
    | true =>
      simp only [if_true]
      rw [p1, List.getElem?_set]
      by_cases hkn : l.length / 8 = k / 8
      · rw [if_pos hkn, if_pos p1l]
        simp only [Option.getD_some]
        rw [UInt8.toNat_or, Nat.testBit_or, pow_byte _ (Nat.mod_lt _ (by decide)), Nat.testBit_two_pow, hkn, ih]
        by_cases hk : k < l.length
        · have : ¬ l.length % 8 = k % 8 := by omega
          rw [List.getElem?_append_left hk]
          simp [this]
        · by_cases hk0 : k = l.length
          · subst hk0
            rw [List.getElem?_append_right (Nat.le_refl _)]
            simp
          · have : ¬ l.length % 8 = k % 8 := by omega
            rw [List.getElem?_append_right (by omega), List.getElem?_eq_none (l := l) (by omega), List.getElem?_eq_none (l := [true]) (by simp; omega)]
            simp [this]
      · rw [if_neg hkn, p1, ih]
        by_cases hk : k < l.length
        · rw [List.getElem?_append_left hk]
        · have hk0 : ¬ k = l.length := by intro e; subst e; exact hkn rfl
          rw [List.getElem?_append_right (by omega), List.getElem?_eq_none (l := l) (by omega), List.getElem?_eq_none (l := [true]) (by simp; omega)]

theorem packed_bit (l : List Bool) (k : Nat) : (((rowOf l).packed[k / 8]?).getD 0).toNat.testBit (k % 8) = (l[k]?).getD false := packed_bit_aux _ l rfl k

theorem bits_inj {a b : List Bool} (hl : a.length = b.length) (h : bitsOf a = bitsOf b) : a = b := by
  unfold bitsOf Row.bytes at h
  have e : (rowOf a).packed = (rowOf b).packed := (List.append_inj h (by rw [(row_fits a).packed, (row_fits b).packed, row_count, row_count, hl])).1
  apply List.ext_getElem?
  intro k
  by_cases hk : k < a.length
  · have hk2 : k < b.length := by omega
    have h1 := packed_bit a k
    have h2 := packed_bit b k
    rw [e, h2, List.getElem?_eq_getElem hk, List.getElem?_eq_getElem hk2] at h1
    rw [List.getElem?_eq_getElem hk, List.getElem?_eq_getElem hk2]
    simp only [Option.getD_some] at h1
    rw [h1]
  · rw [List.getElem?_eq_none (by omega), List.getElem?_eq_none (by omega)]

theorem level_inj (m : UInt8) {a b : List UInt8} (hl : a.length = b.length) (h : levelOf m a = levelOf m b) : (a.map fun c => !(c &&& m == 0)) = (b.map fun c => !(c &&& m == 0)) := by
  unfold levelOf at h
  exact bits_inj (by simp [hl]) (List.append_inj h rfl).2

/-- Parted by a bit, each side in its order. -/
def partOf {α : Type} (l : List (Bool × α)) : List α := (l.filter fun x => !x.1).map (·.2) ++ (l.filter fun x => x.1).map (·.2)
theorem part_inj2 {α : Type} : ∀ (l l' : List (Bool × α)), l.map (·.1) = l'.map (·.1) → (l.filter fun x => !x.1).map (·.2) = (l'.filter fun x => !x.1).map (·.2) → (l.filter fun x => x.1).map (·.2) = (l'.filter fun x => x.1).map (·.2) → l = l'
  | [], [], _, _, _ => rfl
  | [], _ :: _, h, _, _ => by simp at h
  | _ :: _, [], h, _, _ => by simp at h
  | (b, x) :: l, (b', x') :: l', h, h1, h2 => by
    have ih := part_inj2 l l'
    simp only [List.map_cons, List.cons.injEq] at h
    obtain ⟨rfl, h⟩ := h
    cases b with
    | true =>
      simp at h1 h2
      rw [h2.1, ih h (by simpa using h1) (by simpa using h2.2)]
    | false =>
      simp at h1 h2
      rw [h1.1, ih h (by simpa using h1.2) (by simpa using h2)]
theorem part_inj {α : Type} {l l' : List (Bool × α)} (h : l.map (·.1) = l'.map (·.1)) (hp : partOf l = partOf l') : l = l' := by
  unfold partOf at hp
  have hlen : ((l.filter fun x => !x.1).map (·.2)).length = ((l'.filter fun x => !x.1).map (·.2)).length := by
    have : ∀ q : List (Bool × α), ((q.filter fun x => !x.1).map (·.2)).length = ((q.map (·.1)).filter fun b => !b).length := by
      intro q
      induction q with
      | nil => rfl
      | cons a q ih => rcases a with ⟨b, x⟩; cases b <;> simpa using ih
    rw [this, this, h]
  obtain ⟨h1, h2⟩ := List.append_inj hp hlen
  exact part_inj2 l l' h h1 h2

theorem next_part {β : Type} (g : UInt8 → β) (m : UInt8) (a : List UInt8) : (nextOf m a).map g = partOf (a.map fun c => (!(c &&& m == 0), g c)) := by
  unfold nextOf zerosOf onesOf partOf
  rw [List.map_append]
  congr 1
  · induction a with
    | nil => rfl
    | cons c a ih => cases h : (c &&& m == 0) <;> simp [h] <;> simpa using ih
  · induction a with
    | nil => rfl
    | cons c a ih => cases h : (c &&& m == 0) <;> simp [h] <;> simpa using ih

/-- The low bits of a byte, by one bit more. -/
theorem low_step (k : Nat) (hk : k < 8) (c d : UInt8) (h1 : (!(c &&& UInt8.ofNat (2 ^ (7 - k)) == 0)) = !(d &&& UInt8.ofNat (2 ^ (7 - k)) == 0)) (h2 : c.toNat % 2 ^ (7 - k) = d.toNat % 2 ^ (7 - k)) : c.toNat % 2 ^ (8 - k) = d.toNat % 2 ^ (8 - k) := by
  have hb : ∀ c : UInt8, (!(c &&& UInt8.ofNat (2 ^ (7 - k)) == 0)) = c.toNat.testBit (7 - k) := by
    intro c
    have e : (c &&& UInt8.ofNat (2 ^ (7 - k)) == 0) = ((c &&& UInt8.ofNat (2 ^ (7 - k))).toNat == 0) := by
      rw [Bool.eq_iff_iff, beq_iff_eq, beq_iff_eq]
      constructor
      · intro h; rw [h]; rfl
      · intro h; exact UInt8.toNat_inj.1 h
    rw [e, UInt8.toNat_and, pow_byte _ (by omega)]
    generalize c.toNat = x
    generalize 7 - k = i
    cases hx : x.testBit i with
    | true =>
      have h1 : (x &&& 2 ^ i).testBit i = true := by rw [Nat.testBit_and, hx, Nat.testBit_two_pow]; simp
      have h0 : x &&& 2 ^ i ≠ 0 := by
        intro e0
        rw [e0] at h1
        simp at h1
      simp [h0]
    | false =>
      have h0 : x &&& 2 ^ i = 0 := by
        apply Nat.eq_of_testBit_eq
        intro j
        rw [Nat.testBit_and, Nat.testBit_two_pow]
        by_cases hj : i = j
        · subst hj; simp [hx]
        · simp [hj]
      simp [h0]
  rw [hb, hb] at h1
  have e8 : 8 - k = (7 - k) + 1 := by omega
  rw [e8]
  apply Nat.eq_of_testBit_eq
  intro i
  have hmod : ∀ x : Nat, ∀ i, (x % 2 ^ (7 - k)).testBit i = (decide (i < 7 - k) && x.testBit i) := fun x i => Nat.testBit_mod_two_pow x _ i
  rw [Nat.testBit_mod_two_pow, Nat.testBit_mod_two_pow]
  by_cases hi : i < 7 - k
  · have a1 := hmod c.toNat i
    have a2 := hmod d.toNat i
    rw [h2, a2] at a1
    simp only [hi, decide_true, Bool.true_and] at a1
    rw [a1]
  · by_cases hi2 : i = 7 - k
    · subst hi2; rw [h1]
    · have : ¬ i < 7 - k + 1 := by omega
      simp [this]

theorem tree_parts {a b : List UInt8} (hl : a.length = b.length) : ∀ k, (treeTo a k).1 = (treeTo b k).1 → ∀ j, j < k → levelOf (UInt8.ofNat (2 ^ (7 - j))) (treeTo a j).2 = levelOf (UInt8.ofNat (2 ^ (7 - j))) (treeTo b j).2 := by
  intro k
  induction k with
  | zero => intro _ j hj; omega
  | succ k ih =>
    intro h j hj
    simp only [treeTo] at h
    have hlen : (treeTo a k).1.length = (treeTo b k).1.length := by rw [(tree_len a k).2, (tree_len b k).2, hl]
    obtain ⟨h1, h2⟩ := List.append_inj h hlen
    by_cases hjk : j = k
    · subst hjk; exact h2
    · exact ih h1 j (by omega)

theorem mod_one (A B : List UInt8) (h : A.length = B.length) : (A.map fun c => c.toNat % 2 ^ 0) = (B.map fun c => c.toNat % 2 ^ 0) := by
  apply List.ext_getElem?
  intro j
  simp only [Nat.pow_zero, Nat.mod_one, List.getElem?_map]
  by_cases hj : j < A.length
  · rw [List.getElem?_eq_getElem hj, List.getElem?_eq_getElem (by omega)]
    rfl
  · rw [List.getElem?_eq_none (by omega), List.getElem?_eq_none (by omega)]

theorem tree_inj {a b : List UInt8} (hl : a.length = b.length) (h : treeOf a = treeOf b) : a = b := by
  have hp := tree_parts hl 8 h
  have key : ∀ i, i ≤ 8 → ((treeTo a (8 - i)).2.map fun c => c.toNat % 2 ^ i) = ((treeTo b (8 - i)).2.map fun c => c.toNat % 2 ^ i) := by
    intro i
    induction i with
    | zero =>
      intro _
      exact mod_one _ _ (by rw [(tree_len a _).1, (tree_len b _).1, hl])
    | succ i ih =>
      intro hi
      have ih' := ih (by omega)
      have e1 : 8 - i = (8 - (i + 1)) + 1 := by omega
      have hk : 8 - (i + 1) < 8 := by omega
      have hlev := hp (8 - (i + 1)) hk
      rw [e1] at ih'
      generalize hkk : 8 - (i + 1) = k at ih' hlev hk
      have hi7 : i = 7 - k := by omega
      subst hi7
      simp only [treeTo] at ih'
      rw [next_part, next_part] at ih'
      have hL : (treeTo a k).2.length = (treeTo b k).2.length := by rw [(tree_len a k).1, (tree_len b k).1, hl]
      have hbits := level_inj _ hL hlev
      have hpair := part_inj (by rw [List.map_map, List.map_map]; exact hbits) ih'
      apply List.ext_getElem?
      intro j
      rw [List.getElem?_map, List.getElem?_map]
      by_cases hj : j < (treeTo a k).2.length
      · have hj2 : j < (treeTo b k).2.length := by omega
        rw [List.getElem?_eq_getElem hj, List.getElem?_eq_getElem hj2]
        have hx : (((treeTo a k).2.map fun c => (!(c &&& UInt8.ofNat (2 ^ (7 - k)) == 0), c.toNat % 2 ^ (7 - k))))[j]? = (((treeTo b k).2.map fun c => (!(c &&& UInt8.ofNat (2 ^ (7 - k)) == 0), c.toNat % 2 ^ (7 - k))))[j]? := by rw [hpair]
        rw [List.getElem?_map, List.getElem?_map, List.getElem?_eq_getElem hj, List.getElem?_eq_getElem hj2] at hx
        simp only [Option.map_some, Option.some.injEq, Prod.mk.injEq] at hx
        simp only [Option.map_some, Option.some.injEq]
        have := low_step k hk _ _ hx.1 hx.2
        rw [show 7 - k + 1 = 8 - k by omega]
        exact this
      · rw [List.getElem?_eq_none (by omega), List.getElem?_eq_none (by omega)]
  have h8 := key 8 (Nat.le_refl _)
  simp only [Nat.sub_self, treeTo] at h8
  apply List.ext_getElem?
  intro j
  by_cases hj : j < a.length
  · have hj2 : j < b.length := by omega
    have hx : (a.map fun c => c.toNat % 2 ^ 8)[j]? = (b.map fun c => c.toNat % 2 ^ 8)[j]? := by rw [h8]
    rw [List.getElem?_map, List.getElem?_map, List.getElem?_eq_getElem hj, List.getElem?_eq_getElem hj2] at hx
    simp only [Option.map_some, Option.some.injEq] at hx
    rw [List.getElem?_eq_getElem hj, List.getElem?_eq_getElem hj2]
    have c1 := (a[j]).toNat_lt
    have c2 := (b[j]).toNat_lt
    congr 1
    apply UInt8.toNat_inj.1
    omega
  · rw [List.getElem?_eq_none (by omega), List.getElem?_eq_none (by omega)]
end Rot
end Go.Proofs.YthlincikgdblfaaGreat
