import Derived.Test.YthlincikgdblfaaGreatZ11
import Derived.Test.YthlincikgdblfaaGreatZ08
namespace Go.Proofs.YthlincikgdblfaaGreat
set_option linter.unusedVariables false
namespace Rot

/-! Counting below n -/
theorem count_lt (n : Nat) (p q : Nat → Bool) (h : ∀ k, k < n → p k = true → q k = true) (j : Nat) (hj : j < n) (hp : p j = false) (hq : q j = true) : (List.range n).countP p < (List.range n).countP q := by
  induction n with
  | zero => omega
  | succ n ih =>
    rw [List.range_succ, List.countP_append, List.countP_append]
    simp only [List.countP_cons, List.countP_nil]
    by_cases hjn : j = n
    · subst hjn
      have : (List.range j).countP p ≤ (List.range j).countP q := List.countP_mono_left fun k hk => h k (by have := List.mem_range.1 hk; omega)
      rw [hp, hq]
      simp
      omega
    · have := ih (fun k hk => h k (by omega)) (by omega)
      have h1 := h n (by omega)
      by_cases hpn : p n = true
      · rw [h1 hpn, hpn]; simp; omega
      · simp only [Bool.not_eq_true] at hpn
        rw [hpn]
        simp
        split <;> omega
theorem count_range (n m : Nat) (hm : m ≤ n) : (List.range n).countP (fun k => decide (k < m)) = m := by
  induction n with
  | zero => simp at hm; subst hm; rfl
  | succ n ih =>
    rw [List.range_succ, List.countP_append]
    simp only [List.countP_cons, List.countP_nil]
    by_cases h : m = n + 1
    · subst h
      have : (List.range n).countP (fun k => decide (k < n + 1)) = n := by
        rw [List.countP_eq_length.2]
        · simp
        · intro a ha
          have := List.mem_range.1 ha
          simp; omega
      rw [this]
      simp
    · rw [ih (by omega)]
      have : ¬ n < m := by omega
      simp [this]
theorem nodup_len : ∀ (n : Nat) (l : List Nat), l.Nodup → (∀ x ∈ l, x < n) → l.length ≤ n
  | 0, l, _, h => by
    cases l with
    | nil => simp
    | cons a l => exact absurd (h a (by simp)) (Nat.not_lt_zero _)
  | n + 1, l, hd, h => by
    by_cases hn : n ∈ l
    · have h1 := nodup_len n (l.erase n) (hd.erase n) (fun x hx => by
        have hx2 := (hd.mem_erase_iff).1 hx
        have := h x hx2.2
        omega)
      rw [List.length_erase_of_mem hn] at h1
      omega
    · have h1 := nodup_len n l hd (fun x hx => by
        have := h x hx
        have : x ≠ n := fun e => hn (e ▸ hx)
        omega)
      omega
theorem nodup_full (n : Nat) (l : List Nat) (hd : l.Nodup) (h : ∀ x ∈ l, x < n) (hl : l.length = n) : l.Perm (List.range n) := by
  rw [List.perm_ext_iff_of_nodup hd List.nodup_range]
  intro x
  constructor
  · intro hx; exact List.mem_range.2 (h x hx)
  · intro hx
    have hx := List.mem_range.1 hx
    by_cases hm : x ∈ l
    · exact hm
    · have := nodup_len n (x :: l) (List.nodup_cons.2 ⟨hm, hd⟩) (fun y hy => by
        rcases List.mem_cons.1 hy with rfl | hy
        · exact hx
        · exact h y hy)
      simp at this
      omega

/-! The order of a column's places: by byte, and by place -/
def at' (col : List UInt8) (k : Nat) : UInt8 := (col[k]?).getD 0
def ahead (col : List UInt8) (k j : Nat) : Bool := decide (at' col k < at' col j) || (at' col k == at' col j && decide (k < j))
theorem ahead_irrefl (col : List UInt8) (j : Nat) : ahead col j j = false := by
  unfold ahead
  simp
theorem ahead_trans {col : List UInt8} {i j k : Nat} (h1 : ahead col i j = true) (h2 : ahead col j k = true) : ahead col i k = true := by
  unfold ahead at *
  simp only [Bool.or_eq_true, decide_eq_true_eq, Bool.and_eq_true, beq_iff_eq] at *
  rcases h1 with h1 | ⟨h1, h1'⟩ <;> rcases h2 with h2 | ⟨h2, h2'⟩
  · left; rw [UInt8.lt_iff_toNat_lt] at *; omega
  · left; rw [← h2]; exact h1
  · left; rw [h1]; exact h2
  · right; exact ⟨h1.trans h2, by omega⟩
theorem ahead_total (col : List UInt8) {i j : Nat} (h : i ≠ j) : ahead col i j = true ∨ ahead col j i = true := by
  unfold ahead
  simp only [Bool.or_eq_true, decide_eq_true_eq, Bool.and_eq_true, beq_iff_eq]
  by_cases h1 : at' col i < at' col j
  · left; left; exact h1
  by_cases h2 : at' col j < at' col i
  · right; left; exact h2
  have e : at' col i = at' col j := by
    apply UInt8.toNat_inj.1
    rw [UInt8.lt_iff_toNat_lt] at h1 h2
    omega
  by_cases h3 : i < j
  · left; right; exact ⟨e, h3⟩
  · right; right; exact ⟨e.symm, by omega⟩
/-- How many places come ahead of place j. -/
def lower (col : List UInt8) (j : Nat) : Nat := (List.range col.length).countP fun k => ahead col k j
theorem lower_lt {col : List UInt8} {i j : Nat} (hi : i < col.length) (h : ahead col i j = true) : lower col i < lower col j :=
  count_lt _ _ _ (fun k _ hk => ahead_trans hk h) i hi (ahead_irrefl col i) h
theorem lower_bound {col : List UInt8} {j : Nat} (hj : j < col.length) : lower col j < col.length := by
  have := count_lt col.length (fun k => ahead col k j) (fun _ => true) (fun _ _ _ => rfl) j hj (ahead_irrefl col j) rfl
  have e : (List.range col.length).countP (fun _ => true) = col.length := by rw [List.countP_eq_length.2 (fun _ _ => rfl)]; simp
  rw [e] at this
  exact this
theorem lower_inj {col : List UInt8} {i j : Nat} (hi : i < col.length) (hj : j < col.length) (h : lower col i = lower col j) : i = j := by
  by_cases e : i = j
  · exact e
  · rcases ahead_total col e with h1 | h1
    · have := lower_lt hi h1; omega
    · have := lower_lt hj h1; omega
theorem ahead_of_lower {col : List UInt8} {i j : Nat} (hi : i < col.length) (hj : j < col.length) (h : lower col i < lower col j) : ahead col i j = true := by
  have e : i ≠ j := by intro e; subst e; omega
  rcases ahead_total col e with h1 | h1
  · exact h1
  · have := lower_lt hj h1; omega

/-- The place of a row (that is not the last row) in the column. -/
def placeOf (last i : Nat) : Nat := if last < i then i - 1 else i
/-- The row whose end is a byte longer. -/
def back (col : List UInt8) (last i : Nat) : Nat := 1 + lower col (placeOf last i)
/-- Behind k steps back. -/
def walk (col : List UInt8) (last : Nat) : Nat → Nat
  | 0 => 0
  | k + 1 => back col last (walk col last k)
theorem placeOf_lt {n last i : Nat} (hl : last ≤ n) (hi : i ≤ n) (h : i ≠ last) : placeOf last i < n := by
  unfold placeOf; split <;> omega
theorem placeOf_inj {last i j : Nat} (hi : i ≠ last) (hj : j ≠ last) (h : placeOf last i = placeOf last j) : i = j := by
  unfold placeOf at h; split at h <;> split at h <;> omega
theorem placeOf_lt_iff {last i j : Nat} (hi : i ≠ last) (hj : j ≠ last) : placeOf last i < placeOf last j ↔ i < j := by
  unfold placeOf; split <;> split <;> omega
end Rot
end Go.Proofs.YthlincikgdblfaaGreat

namespace Go.Proofs.YthlincikgdblfaaGreat
set_option linter.unusedVariables false
namespace Rot

/-- The steps back from the empty end go through every row, and end at the last row. -/
structure Whole (col : List UInt8) (last : Nat) : Prop where
  le : last ≤ col.length
  on : ∀ k, k < col.length → walk col last k ≠ last
  fin : walk col last col.length = last

/-- What the first k steps spell. -/
def spell (col : List UInt8) (last : Nat) : Nat → List UInt8
  | 0 => []
  | k + 1 => at' col (placeOf last (walk col last k)) :: spell col last k
theorem spell_len (col : List UInt8) (last k : Nat) : (spell col last k).length = k := by
  induction k with
  | zero => rfl
  | succ k ih => simp [spell, ih]
theorem spell_drop (col : List UInt8) (last m k : Nat) (h : k ≤ m) : (spell col last m).drop (m - k) = spell col last k := by
  induction m with
  | zero => have : k = 0 := by omega
            subst this; rfl
  | succ m ih =>
    by_cases e : k = m + 1
    · subst e; simp
    · have : m + 1 - k = (m - k) + 1 := by omega
      rw [this]
      simp only [spell, List.drop_succ_cons]
      exact ih (by omega)


theorem walk_le {col : List UInt8} {last : Nat} (H : Whole col last) : ∀ k, k ≤ col.length → walk col last k ≤ col.length
  | 0, _ => Nat.zero_le _
  | k + 1, h => by
    have h1 := walk_le H k (by omega)
    have h2 := lower_bound (placeOf_lt H.le h1 (H.on k (by omega)))
    show 1 + lower col (placeOf last (walk col last k)) ≤ col.length
    omega
theorem walk_place {col : List UInt8} {last : Nat} (H : Whole col last) {k : Nat} (hk : k < col.length) : placeOf last (walk col last k) < col.length := placeOf_lt H.le (walk_le H k (by omega)) (H.on k hk)
theorem walk_inj {col : List UInt8} {last : Nat} (H : Whole col last) : ∀ a b, a ≤ col.length → b ≤ col.length → walk col last a = walk col last b → a = b
  | 0, 0, _, _, _ => rfl
  | 0, b + 1, _, _, h => by simp only [walk, back] at h; omega
  | a + 1, 0, _, _, h => by simp only [walk, back] at h; omega
  | a + 1, b + 1, ha, hb, h => by
    have h1 : lower col (placeOf last (walk col last a)) = lower col (placeOf last (walk col last b)) := by simp only [walk, back] at h; omega
    have h2 := lower_inj (walk_place H (by omega)) (walk_place H (by omega)) h1
    have h3 := placeOf_inj (H.on a (by omega)) (H.on b (by omega)) h2
    rw [walk_inj H a b (by omega) (by omega) h3]
theorem spell_less {col : List UInt8} {last : Nat} (H : Whole col last) : ∀ a b, a ≤ col.length → b ≤ col.length → walk col last a < walk col last b → less (spell col last a) (spell col last b) = true
  | _, 0, _, _, h => by simp only [walk] at h; omega
  | 0, b + 1, _, _, _ => rfl
  | a + 1, b + 1, ha, hb, h => by
    have h1 : lower col (placeOf last (walk col last a)) < lower col (placeOf last (walk col last b)) := by simp only [walk, back] at h; omega
    have h2 := ahead_of_lower (walk_place H (by omega)) (walk_place H (by omega)) h1
    unfold ahead at h2
    simp only [Bool.or_eq_true, decide_eq_true_eq, Bool.and_eq_true, beq_iff_eq] at h2
    simp only [spell, less]
    rcases h2 with h2 | ⟨h2, h3⟩
    · rw [if_pos h2]
    · have h4 := (placeOf_lt_iff (H.on a (by omega)) (H.on b (by omega))).1 h3
      have ih := spell_less H a b (by omega) (by omega) h4
      rw [h2]
      have : ¬ at' col (placeOf last (walk col last b)) < at' col (placeOf last (walk col last b)) := by rw [UInt8.lt_iff_toNat_lt]; omega
      rw [if_neg this, if_neg this]
      exact ih

/-- The rows, as they are met. -/
theorem met_perm {col : List UInt8} {last : Nat} (H : Whole col last) : ((List.range (col.length + 1)).map (walk col last)).Perm (List.range (col.length + 1)) := by
  refine nodup_full _ _ ?_ ?_ (by simp)
  · rw [List.nodup_iff_pairwise_ne, List.pairwise_map]
    refine List.Pairwise.imp_of_mem ?_ List.nodup_range
    intro a b ha hb hab h
    exact hab (walk_inj H a b (by have := List.mem_range.1 ha; omega) (by have := List.mem_range.1 hb; omega) h)
  · intro x hx
    obtain ⟨k, hk, rfl⟩ := List.mem_map.1 hx
    have := walk_le H k (by have := List.mem_range.1 hk; omega)
    omega
/-- In how many steps a row is met. -/
def metAt (col : List UInt8) (last i : Nat) : Nat := ((List.range (col.length + 1)).map (walk col last)).idxOf i
theorem metAt_le {col : List UInt8} {last : Nat} (H : Whole col last) {i : Nat} (hi : i ≤ col.length) : metAt col last i ≤ col.length ∧ walk col last (metAt col last i) = i := by
  have hm : i ∈ (List.range (col.length + 1)).map (walk col last) := (met_perm H).mem_iff.2 (List.mem_range.2 (by omega))
  have h1 := List.idxOf_lt_length_of_mem hm
  have h2 := List.getElem_idxOf h1
  rw [List.getElem_map, List.getElem_range] at h2
  simp only [List.length_map, List.length_range] at h1
  exact ⟨by unfold metAt; omega, h2⟩
theorem metAt_walk {col : List UInt8} {last : Nat} (H : Whole col last) {k : Nat} (hk : k ≤ col.length) : metAt col last (walk col last k) = k := by
  have h := metAt_le H (walk_le H k hk)
  exact walk_inj H _ _ h.1 hk h.2
/-- Where each row is at. -/
def rowsBack (col : List UInt8) (last : Nat) : List Nat := (List.range (col.length + 1)).map fun i => col.length - metAt col last i
theorem rowsBack_len {col : List UInt8} {last : Nat} : (rowsBack col last).length = col.length + 1 := by simp [rowsBack]
theorem rowsBack_get {col : List UInt8} {last : Nat} {i : Nat} (hi : i < (rowsBack col last).length) : (rowsBack col last)[i]'hi = col.length - metAt col last i := by simp [rowsBack]
theorem rowsBack_end {col : List UInt8} {last : Nat} (H : Whole col last) {i : Nat} (hi : i ≤ col.length) : (spell col last col.length).drop (col.length - metAt col last i) = spell col last (metAt col last i) := spell_drop _ _ _ _ (metAt_le H hi).1
theorem rowsBack_is {col : List UInt8} {last : Nat} (H : Whole col last) : IsRows (spell col last col.length) (rowsBack col last) := by
  refine ⟨?_, ?_⟩
  · rw [spell_len]
    refine nodup_full _ _ ?_ ?_ rowsBack_len
    · unfold rowsBack
      rw [List.nodup_iff_pairwise_ne, List.pairwise_map]
      refine List.Pairwise.imp_of_mem ?_ List.nodup_range
      intro a b ha hb hab h
      have ha := List.mem_range.1 ha
      have hb := List.mem_range.1 hb
      have h1 := metAt_le H (i := a) (by omega)
      have h2 := metAt_le H (i := b) (by omega)
      have : metAt col last a = metAt col last b := by omega
      apply hab
      rw [← h1.2, ← h2.2, this]
    · intro x hx
      obtain ⟨k, hk, rfl⟩ := List.mem_map.1 hx
      omega
  · rw [List.pairwise_iff_getElem]
    intro i j hi hj hij
    rw [rowsBack_get, rowsBack_get]
    rw [rowsBack_len] at hi hj
    rw [rowsBack_end H (by omega), rowsBack_end H (by omega)]
    have h1 := metAt_le H (i := i) (by omega)
    have h2 := metAt_le H (i := j) (by omega)
    exact spell_less H _ _ h1.1 h2.1 (by rw [h1.2, h2.2]; exact hij)
theorem rowsBack_last {col : List UInt8} {last : Nat} (H : Whole col last) : (rowsBack col last).idxOf 0 = last := by
  have hl := H.le
  have h1 : metAt col last last = col.length := by
    have := metAt_walk H (k := col.length) (Nat.le_refl _)
    rw [H.fin] at this
    exact this
  have h2 : (rowsBack col last)[last]'(by rw [rowsBack_len]; omega) = 0 := by rw [rowsBack_get, h1]; omega
  have := (rows_nodup (rowsBack_is H)).idxOf_getElem last (by rw [rowsBack_len]; omega)
  rw [h2] at this
  exact this
theorem getD_drop (t : List UInt8) (m : Nat) (c : UInt8) (s : List UInt8) (h : t.drop m = c :: s) : (t[m]?).getD 0 = c := by
  have : t[m]? = (t.drop m)[0]? := by simp
  rw [this, h]
  rfl
theorem spell_at {col : List UInt8} {last : Nat} {k : Nat} (hk : k < col.length) : ((spell col last col.length)[col.length - k - 1]?).getD 0 = at' col (placeOf last (walk col last k)) := by
  refine getD_drop _ _ _ (spell col last k) ?_
  rw [show col.length - k - 1 = col.length - (k + 1) by omega, spell_drop _ _ _ _ (by omega)]
  rfl
/-- ONLY FILES: the column and the last row are those of the text that the steps spell. -/
theorem rowsBack_column {col : List UInt8} {last : Nat} (H : Whole col last) : columnOf (spell col last col.length) (rowsBack col last) = col := by
  have hR := rowsBack_is H
  unfold columnOf
  rw [filter_erase hR, rowsBack_last H]
  have hl := H.le
  apply List.ext_getElem
  · rw [List.length_map, List.length_eraseIdx]
    rw [rowsBack_len]
    rw [if_pos (by omega)]
    omega
  · intro j h1 h2
    rw [List.getElem_map]
    have key : ∀ i (hi : i < (rowsBack col last).length), i ≠ last → placeOf last i = j → ((spell col last col.length)[(rowsBack col last)[i]'hi - 1]?).getD 0 = col[j] := by
      intro i hi hne hp
      rw [rowsBack_get]
      have hi2 : i ≤ col.length := by rw [rowsBack_len] at hi; omega
      have hm := metAt_le H hi2
      have hlt : metAt col last i < col.length := by
        rcases Nat.lt_or_ge (metAt col last i) col.length with h | h
        · exact h
        · exfalso
          have : metAt col last i = col.length := by omega
          rw [this, H.fin] at hm
          exact hne hm.2.symm
      rw [spell_at hlt, hm.2, hp]
      unfold at'
      rw [List.getElem?_eq_getElem h2]
      rfl
    rw [List.getElem_eraseIdx]
    split
    · exact key j _ (by omega) (by unfold placeOf; rw [if_neg (by omega)])
    · exact key (j + 1) _ (by omega) (by unfold placeOf; rw [if_pos (by omega)]; omega)
end Rot
end Go.Proofs.YthlincikgdblfaaGreat

namespace Go.Proofs.YthlincikgdblfaaGreat
set_option linter.unusedVariables false
namespace Rot

theorem rows_length {t : List UInt8} {rows : List Nat} (h : IsRows t rows) : rows.length = t.length + 1 := by rw [h.perm.length_eq, List.length_range]
theorem rows_mem {t : List UInt8} {rows : List Nat} (h : IsRows t rows) {p : Nat} (hp : p ≤ t.length) : p ∈ rows := h.perm.mem_iff.2 (List.mem_range.2 (by omega))
/-- The row that is at p. -/
theorem rowAt_lt {t : List UInt8} {rows : List Nat} (h : IsRows t rows) {p : Nat} (hp : p ≤ t.length) : rows.idxOf p < rows.length := List.idxOf_lt_length_of_mem (rows_mem h hp)
theorem rowAt_get {t : List UInt8} {rows : List Nat} (h : IsRows t rows) {p : Nat} (hp : p ≤ t.length) : rows[rows.idxOf p]'(rowAt_lt h hp) = p := List.getElem_idxOf _
theorem rowAt_of {t : List UInt8} {rows : List Nat} (h : IsRows t rows) {i : Nat} (hi : i < rows.length) : rows.idxOf (rows[i]'hi) = i := (rows_nodup h).idxOf_getElem i hi
theorem rows_le {t : List UInt8} {rows : List Nat} (h : IsRows t rows) {i : Nat} (hi : i < rows.length) : rows[i]'hi ≤ t.length := by
  have := h.perm.mem_iff.1 (List.getElem_mem hi)
  have := List.mem_range.1 this
  omega
/-- Rows stand as their ends do. -/
theorem rowAt_less {t : List UInt8} {rows : List Nat} (h : IsRows t rows) {p q : Nat} (hp : p ≤ t.length) (hq : q ≤ t.length) (hl : less (t.drop p) (t.drop q) = true) : rows.idxOf p < rows.idxOf q := by
  have h1 := rowAt_lt h hp
  have h2 := rowAt_lt h hq
  have g1 := rowAt_get h hp
  have g2 := rowAt_get h hq
  rcases Nat.lt_trichotomy (rows.idxOf p) (rows.idxOf q) with hlt | heq | hgt
  · exact hlt
  · exfalso
    have : p = q := by rw [← g1, ← g2]; simp only [heq]
    rw [this, less_irrefl] at hl
    cases hl
  · exfalso
    have := (List.pairwise_iff_getElem.1 h.order) _ _ h2 h1 hgt
    rw [g1, g2] at this
    rw [less_asymm _ _ this] at hl
    cases hl
theorem row_zero {t : List UInt8} {rows : List Nat} (h : IsRows t rows) : rows[0]'(by rw [rows_length h]; omega) = t.length := by
  have hn := rowAt_lt h (Nat.le_refl t.length)
  have g := rowAt_get h (Nat.le_refl t.length)
  by_cases e : rows.idxOf t.length = 0
  · simp only [e] at g
    exact g
  · exfalso
    have := (List.pairwise_iff_getElem.1 h.order) 0 _ (by omega) hn (by omega)
    rw [g, List.drop_length] at this
    generalize t.drop (rows[0]'(by rw [rows_length h]; omega)) = x at this
    cases x <;> simp [less] at this
theorem last_le {t : List UInt8} {rows : List Nat} (h : IsRows t rows) : rows.idxOf 0 ≤ t.length := by
  have := rowAt_lt h (Nat.zero_le t.length)
  rw [rows_length h] at this
  omega
theorem row_pos {t : List UInt8} {rows : List Nat} (h : IsRows t rows) {i : Nat} (hi : i < rows.length) (hne : i ≠ rows.idxOf 0) : 0 < rows[i]'hi := by
  rcases Nat.eq_zero_or_pos (rows[i]'hi) with e | e
  · exfalso
    have := rowAt_of h hi
    rw [e] at this
    exact hne this.symm
  · exact e
/-- A row's byte, in the column. -/
theorem column_at {t : List UInt8} {rows : List Nat} (h : IsRows t rows) {i : Nat} (hi : i < rows.length) (hne : i ≠ rows.idxOf 0) : at' (columnOf t rows) (placeOf (rows.idxOf 0) i) = (t[rows[i]'hi - 1]?).getD 0 := by
  have hll := last_le h
  have hrl := rows_length h
  have hlt := placeOf_lt (n := t.length) hll (by omega) hne
  have hcl := column_length h
  unfold at'
  rw [List.getElem?_eq_getElem (by omega)]
  show (columnOf t rows)[placeOf (rows.idxOf 0) i]'(by omega) = _
  have key : ∀ (l : List UInt8) (hl : l = columnOf t rows) (hlt2 : placeOf (rows.idxOf 0) i < l.length), l[placeOf (rows.idxOf 0) i]'hlt2 = (t[rows[i]'hi - 1]?).getD 0 := by
    intro l hl hlt2
    unfold columnOf at hl
    rw [filter_erase h] at hl
    subst hl
    rw [List.getElem_map, List.getElem_eraseIdx]
    have : (if h' : placeOf (rows.idxOf 0) i < rows.idxOf 0 then rows[placeOf (rows.idxOf 0) i]'(by omega) else rows[placeOf (rows.idxOf 0) i + 1]'(by omega)) = rows[i]'hi := by
      unfold placeOf
      by_cases hc : rows.idxOf 0 < i
      · simp only [if_pos hc]
        rw [dif_neg (by omega)]
        congr 1
        omega
      · simp only [if_neg hc]
        rw [dif_pos (by omega)]
    rw [this]
  exact key _ rfl _
/-- The row of a place of the column. -/
def ofPlace (last j : Nat) : Nat := if j < last then j else j + 1
theorem placeOf_ofPlace (last j : Nat) : placeOf last (ofPlace last j) = j := by unfold placeOf ofPlace; split <;> split <;> omega
theorem ofPlace_placeOf {last i : Nat} (hi : i ≠ last) : ofPlace last (placeOf last i) = i := by unfold placeOf ofPlace; split <;> split <;> omega
theorem ofPlace_ne (last j : Nat) : ofPlace last j ≠ last := by unfold ofPlace; split <;> omega
theorem ofPlace_le {n last j : Nat} (hj : j < n) : ofPlace last j ≤ n := by unfold ofPlace; split <;> omega
theorem drop_byte (t : List UInt8) (p : Nat) (h0 : 0 < p) (hp : p ≤ t.length) : t.drop (p - 1) = (t[p - 1]?).getD 0 :: t.drop p := by
  rw [List.drop_eq_getElem_cons (by omega)]
  rw [List.getElem?_eq_getElem (by omega)]
  rw [show p - 1 + 1 = p by omega]
  rfl
/-- What row i is of, a byte longer. -/
def longer (rows : List Nat) (i : Nat) : Nat := rows.idxOf ((rows[i]?).getD 0 - 1)
theorem longer_lt {t : List UInt8} {rows : List Nat} (h : IsRows t rows) {i j : Nat} (hi : i < rows.length) (hj : j < rows.length) (ni : i ≠ rows.idxOf 0) (nj : j ≠ rows.idxOf 0) (ha : ahead (columnOf t rows) (placeOf (rows.idxOf 0) i) (placeOf (rows.idxOf 0) j) = true) : longer rows i < longer rows j := by
  unfold longer
  rw [List.getElem?_eq_getElem hi, List.getElem?_eq_getElem hj]
  have li := rows_le h hi
  have lj := rows_le h hj
  have pi := row_pos h hi ni
  have pj := row_pos h hj nj
  refine rowAt_less h (by simp; omega) (by simp; omega) ?_
  show less (t.drop (rows[i] - 1)) (t.drop (rows[j] - 1)) = true
  rw [drop_byte t _ pi li, drop_byte t _ pj lj]
  unfold ahead at ha
  rw [column_at h hi ni, column_at h hj nj] at ha
  simp only [Bool.or_eq_true, decide_eq_true_eq, Bool.and_eq_true, beq_iff_eq] at ha
  simp only [less]
  rcases ha with ha | ⟨ha, hb⟩
  · rw [if_pos ha]
  · have hij := (placeOf_lt_iff ni nj).1 hb
    rw [ha]
    have : ¬ (t[rows[j] - 1]?).getD 0 < (t[rows[j] - 1]?).getD 0 := by rw [UInt8.lt_iff_toNat_lt]; omega
    rw [if_neg this, if_neg this]
    exact (List.pairwise_iff_getElem.1 h.order) _ _ hi hj hij
theorem longer_pos {t : List UInt8} {rows : List Nat} (h : IsRows t rows) {i : Nat} (hi : i < rows.length) (ni : i ≠ rows.idxOf 0) : 0 < longer rows i ∧ longer rows i ≤ t.length := by
  have li := rows_le h hi
  have pi := row_pos h hi ni
  have hrl := rows_length h
  have e : longer rows i = rows.idxOf (rows[i] - 1) := by unfold longer; rw [List.getElem?_eq_getElem hi]; rfl
  have hlt := rowAt_lt h (p := rows[i] - 1) (by omega)
  refine ⟨?_, by rw [e]; omega⟩
  rcases Nat.eq_zero_or_pos (longer rows i) with e0 | e0
  · exfalso
    have g := rowAt_get h (p := rows[i] - 1) (by omega)
    rw [e] at e0
    simp only [e0] at g
    rw [row_zero h] at g
    omega
  · exact e0
/-- A step back leads to the row that is one place ahead. -/
theorem back_is {t : List UInt8} {rows : List Nat} (h : IsRows t rows) {i : Nat} (hi : i < rows.length) (ni : i ≠ rows.idxOf 0) : back (columnOf t rows) (rows.idxOf 0) i = longer rows i := by
  have hcl := column_length h
  have hrl := rows_length h
  have hll := last_le h
  generalize hlast : rows.idxOf 0 = last at *
  have row_ok : ∀ k, k < t.length → ofPlace last k < rows.length ∧ ofPlace last k ≠ last := fun k hk => ⟨by have := ofPlace_le (last := last) hk; omega, ofPlace_ne _ _⟩
  have hG : ∀ k j, k < t.length → j < t.length → ahead (columnOf t rows) k j = true → longer rows (ofPlace last k) < longer rows (ofPlace last j) := by
    intro k j hk hj ha
    subst hlast
    refine longer_lt h (row_ok k hk).1 (row_ok j hj).1 (row_ok k hk).2 (row_ok j hj).2 ?_
    rw [placeOf_ofPlace, placeOf_ofPlace]
    exact ha
  have hpos : ∀ k, k < t.length → 0 < longer rows (ofPlace last k) ∧ longer rows (ofPlace last k) ≤ t.length := fun k hk => by
    subst hlast
    exact longer_pos h (row_ok k hk).1 (row_ok k hk).2
  have hperm : ((List.range t.length).map fun k => longer rows (ofPlace last k) - 1).Perm (List.range t.length) := by
    refine nodup_full _ _ ?_ ?_ (by simp)
    · rw [List.nodup_iff_pairwise_ne, List.pairwise_map]
      refine List.Pairwise.imp_of_mem ?_ List.nodup_range
      intro a b ha hb hab e
      have ha := List.mem_range.1 ha
      have hb := List.mem_range.1 hb
      have pa := hpos a ha
      have pb := hpos b hb
      rcases ahead_total (columnOf t rows) hab with h1 | h1
      · have := hG a b ha hb h1; omega
      · have := hG b a hb ha h1; omega
    · intro x hx
      obtain ⟨k, hk, rfl⟩ := List.mem_map.1 hx
      have := hpos k (List.mem_range.1 hk)
      omega
  have hj : placeOf last i < t.length := placeOf_lt hll (by omega) ni
  unfold back lower
  rw [hcl]
  have e1 : (List.range t.length).countP (fun k => ahead (columnOf t rows) k (placeOf last i)) = ((List.range t.length).map fun k => longer rows (ofPlace last k) - 1).countP (fun m => decide (m < longer rows i - 1)) := by
    rw [List.countP_map]
    apply List.countP_congr
    intro k hk
    have hk := List.mem_range.1 hk
    have pk := hpos k hk
    have pj := hpos _ hj
    rw [ofPlace_placeOf ni] at pj
    simp only [Function.comp, decide_eq_true_eq]
    constructor
    · intro ha
      have := hG k _ hk hj ha
      rw [ofPlace_placeOf ni] at this
      omega
    · intro hlt
      have hne : k ≠ placeOf last i := by
        intro e
        subst e
        rw [ofPlace_placeOf ni] at hlt
        omega
      rcases ahead_total (columnOf t rows) hne with h1 | h1
      · exact h1
      · have := hG _ k hj hk h1
        rw [ofPlace_placeOf ni] at this
        omega
  have pi : 0 < longer rows i ∧ longer rows i ≤ t.length := by
    have := hpos _ hj
    rwa [ofPlace_placeOf ni] at this
  rw [e1, hperm.countP_eq, count_range _ _ (by omega)]
  omega
theorem walk_rows {t : List UInt8} {rows : List Nat} (h : IsRows t rows) : ∀ k, k ≤ t.length → ∃ hw : walk (columnOf t rows) (rows.idxOf 0) k < rows.length, rows[walk (columnOf t rows) (rows.idxOf 0) k]'hw = t.length - k
  | 0, _ => ⟨by rw [rows_length h]; exact Nat.succ_pos _, row_zero h⟩
  | k + 1, hk => by
    obtain ⟨hw, e⟩ := walk_rows h k (by omega)
    have ni : walk (columnOf t rows) (rows.idxOf 0) k ≠ rows.idxOf 0 := by
      intro e2
      have g := rowAt_get h (Nat.zero_le t.length)
      simp only [e2] at e
      omega
    have hb := back_is h hw ni
    have e3 : walk (columnOf t rows) (rows.idxOf 0) (k + 1) = rows.idxOf (t.length - (k + 1)) := by
      show back _ _ _ = _
      rw [hb]
      unfold longer
      rw [List.getElem?_eq_getElem hw, e]
      simp only [Option.getD_some]
      congr 1
    have hl := rowAt_lt h (p := t.length - (k + 1)) (by omega)
    exact ⟨by rw [e3]; exact hl, by simp only [e3]; exact rowAt_get h (by omega)⟩
/-- EVERY FILE: the steps back go through every row of a text. -/
theorem rows_whole {t : List UInt8} {rows : List Nat} (h : IsRows t rows) : Whole (columnOf t rows) (rows.idxOf 0) := by
  have hcl := column_length h
  refine ⟨by rw [hcl]; exact last_le h, ?_, ?_⟩
  · intro k hk e
    rw [hcl] at hk
    obtain ⟨hw, e2⟩ := walk_rows h k (by omega)
    have g := rowAt_get h (Nat.zero_le t.length)
    simp only [e] at e2
    omega
  · rw [hcl]
    obtain ⟨hw, e⟩ := walk_rows h t.length (Nat.le_refl _)
    rw [Nat.sub_self] at e
    have := rowAt_of h hw
    rw [e] at this
    exact this.symm
theorem spell_rows {t : List UInt8} {rows : List Nat} (h : IsRows t rows) : ∀ k, k ≤ t.length → spell (columnOf t rows) (rows.idxOf 0) k = t.drop (t.length - k)
  | 0, _ => by simp [spell]
  | k + 1, hk => by
    obtain ⟨hw, e⟩ := walk_rows h k (by omega)
    have ni := (rows_whole h).on k (by rw [column_length h]; omega)
    simp only [spell]
    rw [column_at h hw ni, e, spell_rows h k (by omega), show t.length - (k + 1) = t.length - k - 1 by omega]
    exact (drop_byte t _ (by omega) (by omega)).symm
theorem spell_text {t : List UInt8} {rows : List Nat} (h : IsRows t rows) : spell (columnOf t rows) (rows.idxOf 0) (columnOf t rows).length = t := by
  rw [column_length h, spell_rows h _ (Nat.le_refl _), Nat.sub_self, List.drop_zero]
end Rot
end Go.Proofs.YthlincikgdblfaaGreat
