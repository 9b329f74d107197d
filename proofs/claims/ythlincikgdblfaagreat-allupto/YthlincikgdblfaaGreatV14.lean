import Derived.Test.YthlincikgdblfaaGreatV13
import Derived.Test.YthlincikgdblfaaGreatV07
import Derived.Test.YthlincikgdblfaaGreatV12
namespace Go.Proofs.YthlincikgdblfaaGreat
set_option linter.unusedVariables false
namespace Rot

theorem rows_length {t : List UInt8} {rows : List Nat} (h : IsRows t rows) : rows.length = t.length + 1 := by rw [h.perm.length_eq, List.length_range]
theorem rows_mem {t : List UInt8} {rows : List Nat} (h : IsRows t rows) {p : Nat} (hp : p ≤ t.length) : p ∈ rows := h.perm.mem_iff.2 (List.mem_range.2 (by omega))
/-- The row that is at p. -/
theorem rowAt_lt {t : List UInt8} {rows : List Nat} (h : IsRows t rows) {p : Nat} (hp : p ≤ t.length) : rows.idxOf p < rows.length := List.idxOf_lt_length_of_mem (rows_mem h hp)
theorem rowAt_get {t : List UInt8} {rows : List Nat} (h : IsRows t rows) {p : Nat} (hp : p ≤ t.length) : rows[rows.idxOf p]'(rowAt_lt h hp) = p := List.getElem_idxOf _
theorem rowAt_of {t : List UInt8} {rows : List Nat} (h : IsRows t rows) {i : Nat} (hi : i < rows.length) : rows.idxOf (rows[i]'hi) = i := (rows_nodup h).idxOf_getElem i hi
theorem rows_le {t : List UInt8} {rows : List Nat} (h : IsRows t rows) {i : Nat} (hi : i < rows.length) : rows[i]'hi ≤ t.length := by
  have := h.perm.mem_iff.1 (List.getElem_mem hi)
  have := List.mem_range.1 this
  omega
/-- Rows stand as their ends do. -/
theorem rowAt_less {t : List UInt8} {rows : List Nat} (h : IsRows t rows) {p q : Nat} (hp : p ≤ t.length) (hq : q ≤ t.length) (hl : less (t.drop p) (t.drop q) = true) : rows.idxOf p < rows.idxOf q := by
  have h1 := rowAt_lt h hp
  have h2 := rowAt_lt h hq
  have g1 := rowAt_get h hp
  have g2 := rowAt_get h hq
  rcases Nat.lt_trichotomy (rows.idxOf p) (rows.idxOf q) with hlt | heq | hgt
  · exact hlt
  · exfalso
    have : p = q := by rw [← g1, ← g2]; simp only [heq]
    rw [this, less_irrefl] at hl
    cases hl
  · exfalso
    have := (List.pairwise_iff_getElem.1 h.order) _ _ h2 h1 hgt
    rw [g1, g2] at this
    rw [less_asymm _ _ this] at hl
    cases hl
theorem row_zero {t : List UInt8} {rows : List Nat} (h : IsRows t rows) : rows[0]'(by rw [rows_length h]; omega) = t.length := by
  have hn := rowAt_lt h (Nat.le_refl t.length)
  have g := rowAt_get h (Nat.le_refl t.length)
  by_cases e : rows.idxOf t.length = 0
  · simp only [e] at g
    exact g
  · exfalso
    have := (List.pairwise_iff_getElem.1 h.order) 0 _ (by omega) hn (by omega)
    rw [g, List.drop_length] at this
    generalize t.drop (rows[0]'(by rw [rows_length h]; omega)) = x at this
    cases x <;> simp [less] at this
theorem last_le {t : List UInt8} {rows : List Nat} (h : IsRows t rows) : rows.idxOf 0 ≤ t.length := by
  have := rowAt_lt h (Nat.zero_le t.length)
  rw [rows_length h] at this
  omega
theorem row_pos {t : List UInt8} {rows : List Nat} (h : IsRows t rows) {i : Nat} (hi : i < rows.length) (hne : i ≠ rows.idxOf 0) : 0 < rows[i]'hi := by
  rcases Nat.eq_zero_or_pos (rows[i]'hi) with e | e
  · exfalso
    have := rowAt_of h hi
    rw [e] at this
    exact hne this.symm
  · exact e
/-- A row's byte, in the column. -/
theorem column_at {t : List UInt8} {rows : List Nat} (h : IsRows t rows) {i : Nat} (hi : i < rows.length) (hne : i ≠ rows.idxOf 0) : at' (columnOf t rows) (placeOf (rows.idxOf 0) i) = (t[rows[i]'hi - 1]?).getD 0 := by
  have hll := last_le h
  have hrl := rows_length h
  have hlt := placeOf_lt (n := t.length) hll (by omega) hne
  have hcl := column_length h
  unfold at'
  rw [List.getElem?_eq_getElem (by omega)]
  show (columnOf t rows)[placeOf (rows.idxOf 0) i]'(by omega) = _
  have key : ∀ (l : List UInt8) (hl : l = columnOf t rows) (hlt2 : placeOf (rows.idxOf 0) i < l.length), l[placeOf (rows.idxOf 0) i]'hlt2 = (t[rows[i]'hi - 1]?).getD 0 := by
    intro l hl hlt2
    unfold columnOf at hl
    rw [filter_erase h] at hl
    subst hl
    rw [List.getElem_map, List.getElem_eraseIdx]
    have : (if h' : placeOf (rows.idxOf 0) i < rows.idxOf 0 then rows[placeOf (rows.idxOf 0) i]'(by omega) else rows[placeOf (rows.idxOf 0) i + 1]'(by omega)) = rows[i]'hi := by
      unfold placeOf
      by_cases hc : rows.idxOf 0 < i
      · simp only [if_pos hc]
        rw [dif_neg (by omega)]
        congr 1
        omega
      · simp only [if_neg hc]
        rw [dif_pos (by omega)]
    rw [this]
  exact key _ rfl _
/-- The row of a place of the column. -/
def ofPlace (last j : Nat) : Nat := if j < last then j else j + 1
theorem placeOf_ofPlace (last j : Nat) : placeOf last (ofPlace last j) = j := by unfold placeOf ofPlace; split <;> split <;> omega
theorem ofPlace_placeOf {last i : Nat} (hi : i ≠ last) : ofPlace last (placeOf last i) = i := by unfold placeOf ofPlace; split <;> split <;> omega
theorem ofPlace_ne (last j : Nat) : ofPlace last j ≠ last := by unfold ofPlace; split <;> omega
theorem ofPlace_le {n last j : Nat} (hj : j < n) : ofPlace last j ≤ n := by unfold ofPlace; split <;> omega
theorem drop_byte (t : List UInt8) (p : Nat) (h0 : 0 < p) (hp : p ≤ t.length) : t.drop (p - 1) = (t[p - 1]?).getD 0 :: t.drop p := by
  rw [List.drop_eq_getElem_cons (by omega)]
  rw [List.getElem?_eq_getElem (by omega)]
  rw [show p - 1 + 1 = p by omega]
  rfl
/-- What row i is of, a byte longer. -/
def longer (rows : List Nat) (i : Nat) : Nat := rows.idxOf ((rows[i]?).getD 0 - 1)
theorem longer_lt {t : List UInt8} {rows : List Nat} (h : IsRows t rows) {i j : Nat} (hi : i < rows.length) (hj : j < rows.length) (ni : i ≠ rows.idxOf 0) (nj : j ≠ rows.idxOf 0) (ha : ahead (columnOf t rows) (placeOf (rows.idxOf 0) i) (placeOf (rows.idxOf 0) j) = true) : longer rows i < longer rows j := by
  unfold longer
  rw [List.getElem?_eq_getElem hi, List.getElem?_eq_getElem hj]
  have li := rows_le h hi
  have lj := rows_le h hj
  have pi := row_pos h hi ni
  have pj := row_pos h hj nj
  refine rowAt_less h (by simp; omega) (by simp; omega) ?_
  show less (t.drop (rows[i] - 1)) (t.drop (rows[j] - 1)) = true
  rw [drop_byte t _ pi li, drop_byte t _ pj lj]
  unfold ahead at ha
  rw [column_at h hi ni, column_at h hj nj] at ha
  simp only [Bool.or_eq_true, decide_eq_true_eq, Bool.and_eq_true, beq_iff_eq] at ha
  simp only [less]
  rcases ha with ha | ⟨ha, hb⟩
  · rw [if_pos ha]
  · have hij := (placeOf_lt_iff ni nj).1 hb
    rw [ha]
    have : ¬ (t[rows[j] - 1]?).getD 0 < (t[rows[j] - 1]?).getD 0 := by rw [UInt8.lt_iff_toNat_lt]; omega
    rw [if_neg this, if_neg this]
    exact (List.pairwise_iff_getElem.1 h.order) _ _ hi hj hij
theorem longer_pos {t : List UInt8} {rows : List Nat} (h : IsRows t rows) {i : Nat} (hi : i < rows.length) (ni : i ≠ rows.idxOf 0) : 0 < longer rows i ∧ longer rows i ≤ t.length := by
  have li := rows_le h hi
  have pi := row_pos h hi ni
  have hrl := rows_length h
  have e : longer rows i = rows.idxOf (rows[i] - 1) := by unfold longer; rw [List.getElem?_eq_getElem hi]; rfl
  have hlt := rowAt_lt h (p := rows[i] - 1) (by omega)
  refine ⟨?_, by rw [e]; omega⟩
  rcases Nat.eq_zero_or_pos (longer rows i) with e0 | e0
  · exfalso
    have g := rowAt_get h (p := rows[i] - 1) (by omega)
    rw [e] at e0
    simp only [e0] at g
    rw [row_zero h] at g
    omega
  · exact e0
/-- A step back leads to the row that is one place ahead. -/
theorem back_is {t : List UInt8} {rows : List Nat} (h : IsRows t rows) {i : Nat} (hi : i < rows.length) (ni : i ≠ rows.idxOf 0) : back (columnOf t rows) (rows.idxOf 0) i = longer rows i := by
  have hcl := column_length h
  have hrl := rows_length h
  have hll := last_le h
  generalize hlast : rows.idxOf 0 = last at *
  have row_ok : ∀ k, k < t.length → ofPlace last k < rows.length ∧ ofPlace last k ≠ last := fun k hk => ⟨by have := ofPlace_le (last := last) hk; omega, ofPlace_ne _ _⟩
  have hG : ∀ k j, k < t.length → j < t.length → ahead (columnOf t rows) k j = true → longer rows (ofPlace last k) < longer rows (ofPlace last j) := by
    intro k j hk hj ha
    subst hlast
    refine longer_lt h (row_ok k hk).1 (row_ok j hj).1 (row_ok k hk).2 (row_ok j hj).2 ?_
    rw [placeOf_ofPlace, placeOf_ofPlace]
    exact ha
  have hpos : ∀ k, k < t.length → 0 < longer rows (ofPlace last k) ∧ longer rows (ofPlace last k) ≤ t.length := fun k hk => by
    subst hlast
    exact longer_pos h (row_ok k hk).1 (row_ok k hk).2
  have hperm : ((List.range t.length).map fun k => longer rows (ofPlace last k) - 1).Perm (List.range t.length) := by
    refine nodup_full _ _ ?_ ?_ (by simp)
    · rw [List.nodup_iff_pairwise_ne, List.pairwise_map]
      refine List.Pairwise.imp_of_mem ?_ List.nodup_range
      intro a b ha hb hab e
      have ha := List.mem_range.1 ha
      have hb := List.mem_range.1 hb
      have pa := hpos a ha
      have pb := hpos b hb
      rcases ahead_total (columnOf t rows) hab with h1 | h1
      · have := hG a b ha hb h1; omega
      · have := hG b a hb ha h1; omega
    · intro x hx
      obtain ⟨k, hk, rfl⟩ := List.mem_map.1 hx
      have := hpos k (List.mem_range.1 hk)
      omega
  have hj : placeOf last i < t.length := placeOf_lt hll (by omega) ni
  unfold back lower
  rw [hcl]
  have e1 : (List.range t.length).countP (fun k => ahead (columnOf t rows) k (placeOf last i)) = ((List.range t.length).map fun k => longer rows (ofPlace last k) - 1).countP (fun m => decide (m < longer rows i - 1)) := by
    rw [List.countP_map]
    apply List.countP_congr
    intro k hk
    have hk := List.mem_range.1 hk
    have pk := hpos k hk
    have pj := hpos _ hj
    rw [ofPlace_placeOf ni] at pj
    simp only [Function.comp, decide_eq_true_eq]
    constructor
    · intro ha
      have := hG k _ hk hj ha
      rw [ofPlace_placeOf ni] at this
      omega
    · intro hlt
      have hne : k ≠ placeOf last i := by
        intro e
        subst e
        rw [ofPlace_placeOf ni] at hlt
        omega
      rcases ahead_total (columnOf t rows) hne with h1 | h1
      · exact h1
      · have := hG _ k hj hk h1
        rw [ofPlace_placeOf ni] at this
        omega
  have pi : 0 < longer rows i ∧ longer rows i ≤ t.length := by
    have := hpos _ hj
    rwa [ofPlace_placeOf ni] at this
  rw [e1, hperm.countP_eq, count_range _ _ (by omega)]
  omega
theorem walk_rows {t : List UInt8} {rows : List Nat} (h : IsRows t rows) : ∀ k, k ≤ t.length → ∃ hw : walk (columnOf t rows) (rows.idxOf 0) k < rows.length, rows[walk (columnOf t rows) (rows.idxOf 0) k]'hw = t.length - k
  | 0, _ => ⟨by rw [rows_length h]; exact Nat.succ_pos _, row_zero h⟩
  | k + 1, hk => by
    obtain ⟨hw, e⟩ := walk_rows h k (by omega)
    have ni : walk (columnOf t rows) (rows.idxOf 0) k ≠ rows.idxOf 0 := by
      intro e2
      have g := rowAt_get h (Nat.zero_le t.length)
      simp only [e2] at e
      omega
    have hb := back_is h hw ni
    have e3 : walk (columnOf t rows) (rows.idxOf 0) (k + 1) = rows.idxOf (t.length - (k + 1)) := by
      show back _ _ _ = _
      rw [hb]
      unfold longer
      rw [List.getElem?_eq_getElem hw, e]
      simp only [Option.getD_some]
      congr 1
    have hl := rowAt_lt h (p := t.length - (k + 1)) (by omega)
    exact ⟨by rw [e3]; exact hl, by simp only [e3]; exact rowAt_get h (by omega)⟩
/-- EVERY FILE: the steps back go through every row of a text. -/
theorem rows_whole {t : List UInt8} {rows : List Nat} (h : IsRows t rows) : Whole (columnOf t rows) (rows.idxOf 0) := by
  have hcl := column_length h
  refine ⟨by rw [hcl]; exact last_le h, ?_, ?_⟩
  · intro k hk e
    rw [hcl] at hk
    obtain ⟨hw, e2⟩ := walk_rows h k (by omega)
    have g := rowAt_get h (Nat.zero_le t.length)
    simp only [e] at e2
    omega
  · rw [hcl]
    obtain ⟨hw, e⟩ := walk_rows h t.length (Nat.le_refl _)
    rw [Nat.sub_self] at e
    have := rowAt_of h hw
    rw [e] at this
    exact this.symm
theorem spell_rows {t : List UInt8} {rows : List Nat} (h : IsRows t rows) : ∀ k, k ≤ t.length → spell (columnOf t rows) (rows.idxOf 0) k = t.drop (t.length - k)
  | 0, _ => by simp [spell]
  | k + 1, hk => by
    obtain ⟨hw, e⟩ := walk_rows h k (by omega)
    have ni := (rows_whole h).on k (by rw [column_length h]; omega)
    simp only [spell]
    rw [column_at h hw ni, e, spell_rows h k (by omega), show t.length - (k + 1) = t.length - k - 1 by omega]
    exact (drop_byte t _ (by omega) (by omega)).symm
theorem spell_text {t : List UInt8} {rows : List Nat} (h : IsRows t rows) : spell (columnOf t rows) (rows.idxOf 0) (columnOf t rows).length = t := by
  rw [column_length h, spell_rows h _ (Nat.le_refl _), Nat.sub_self, List.drop_zero]
end Rot
end Go.Proofs.YthlincikgdblfaaGreat

namespace Go.Proofs.YthlincikgdblfaaGreat
set_option linter.unusedVariables false
namespace Rot

theorem byte_inj {a b : Nat} (ha : a < 256) (hb : b < 256) (h : UInt8.ofNat a = UInt8.ofNat b) : a = b := by
  have := congrArg UInt8.toNat h
  rw [UInt8.toNat_ofNat', UInt8.toNat_ofNat'] at this
  omega
theorem head_inj {n r s n' r' s' : Nat} (h : headOf n r s = headOf n' r' s') (hn : n < 256) (hn' : n' < 256) (hr : r < 256) (hr' : r' < 256) : n = n' ∧ r = r' := by
  simp only [headOf, le16, le32, List.cons_append, List.nil_append, List.cons.injEq, true_and, and_true] at h
  exact ⟨byte_inj hn hn' h.1, byte_inj hr hr' h.2.2.1⟩
theorem head_len (a b c : Nat) : (headOf a b c).length = 12 := by simp [headOf, le16, le32]

/-- Files tell texts and rates apart. -/
theorem file_inj {t u : List UInt8} {a b : List Nat} {r s : Nat} (ha : IsRows t a) (hb : IsRows u b) (ht : t.length ≤ 250) (hu : u.length ≤ 250) (hr : r < 256) (hs : s < 256) (h : fileOf t a r = fileOf u b s) : t = u ∧ r = s := by
  unfold fileOf at h
  rw [List.append_assoc, List.append_assoc] at h
  obtain ⟨h1, h2⟩ := List.append_inj h (by rw [head_len, head_len])
  obtain ⟨hn, rfl⟩ := head_inj h1 (by omega) (by omega) hr hs
  obtain ⟨_, h3⟩ := List.append_inj h2 (by rw [table_len, table_len]; rfl)
  refine ⟨?_, rfl⟩
  unfold bodyOf sectionsOf at h3
  simp only [List.flatMap_cons, List.flatMap_nil, List.append_nil, id] at h3
  obtain ⟨h4, h5⟩ := List.append_inj h3 rfl
  have hc : (columnOf t a).length = (columnOf u b).length := by rw [column_length ha, column_length hb, hn]
  obtain ⟨h6, _⟩ := List.append_inj h5 (by rw [treeOf_len, treeOf_len, hc])
  have i1 : a.idxOf 0 < a.length := List.idxOf_lt_length_of_mem (rows_zero ha)
  have i2 : b.idxOf 0 < b.length := List.idxOf_lt_length_of_mem (rows_zero hb)
  have l1 : a.length = t.length + 1 := by rw [ha.perm.length_eq, List.length_range]
  have l2 : b.length = u.length + 1 := by rw [hb.perm.length_eq, List.length_range]
  have hl : a.idxOf 0 = b.idxOf 0 := by
    unfold lastOf le16 at h4
    simp only [List.cons.injEq] at h4
    exact byte_inj (by omega) (by omega) h4.1
  exact text_of ha hb (tree_inj hc h6) hl hn
end Rot
end Go.Proofs.YthlincikgdblfaaGreat

namespace Go.Proofs.YthlincikgdblfaaGreat
set_option linter.unusedVariables false
namespace Rot

/-- A byte's place behind a filter. -/
theorem filter_at {α : Type} (p : α → Bool) (l : List α) (k : Nat) (hk : k < l.length) (hp : p (l[k]'hk) = true) : (l.filter p)[((l.take k).filter p).length]? = some (l[k]'hk) := by
  have e : l.filter p = (l.take k).filter p ++ (l[k]'hk :: (l.drop (k + 1)).filter p) := by
    have e1 : l = l.take k ++ (l[k]'hk :: l.drop (k + 1)) := by rw [← List.drop_eq_getElem_cons hk, List.take_append_drop]
    rw [show l.filter p = (l.take k ++ (l[k]'hk :: l.drop (k + 1))).filter p by rw [← e1], List.filter_append, List.filter_cons, if_pos hp]
  rw [e, List.getElem?_append_right (Nat.le_refl _), Nat.sub_self]
  rfl
theorem filter_not_len {α : Type} (p : α → Bool) (l : List α) : (l.filter fun x => !p x).length = l.length - (l.filter p).length := by
  induction l with
  | nil => rfl
  | cons a l ih =>
    have := List.length_filter_le p l
    rw [List.filter_cons, List.filter_cons]
    cases p a <;> simp [ih] <;> omega
/-- What the bits of a level say. -/
def Says (s : List UInt8) (f : Nat) (m : UInt8) (c : List UInt8) : Prop := ∀ i (hi : i < c.length), bitAt s f i = if (c[i]'hi &&& m == 0) = true then 0 else 1
theorem zs_is {s : List UInt8} {f : Nat} {m : UInt8} {c : List UInt8} (h : Says s f m c) : ∀ k, k ≤ c.length → zs s f k = ((c.take k).filter fun x => x &&& m == 0).length
  | 0, _ => by simp [zs]
  | k + 1, hk => by
    have ih := zs_is h k (by omega)
    simp only [zs]
    rw [h k (by omega), take_filter_snoc _ c k (by omega), List.length_append, ih]
    by_cases e : (c[k]'(by omega) &&& m == 0) = true
    · rw [if_pos e, if_pos e]; simp
    · rw [if_neg e, if_neg e]; simp
theorem nxt_is {s : List UInt8} {f : Nat} {m : UInt8} {c : List UInt8} (h : Says s f m c) (k : Nat) (hk : k < c.length) : (nextOf m c)[nxt s f c.length k]? = some (c[k]'hk) := by
  unfold nxt nextOf zerosOf onesOf
  have hz := zs_is h k (by omega)
  have hZ := zs_is h c.length (Nat.le_refl _)
  rw [List.take_length] at hZ
  have hb := h k hk
  by_cases e : (c[k]'hk &&& m == 0) = true
  · rw [if_pos e] at hb
    rw [if_pos hb, hz]
    have := filter_at (fun x => x &&& m == 0) c k hk e
    rw [List.getElem?_append_left]
    · exact this
    · exact (List.getElem?_eq_some_iff.1 this).1
  · rw [if_neg e] at hb
    rw [if_neg (by omega), hz, hZ]
    have e' : (!(c[k]'hk &&& m == 0)) = true := by simpa using e
    have := filter_at (fun x => !(x &&& m == 0)) c k hk e'
    rw [filter_not_len (fun x => x &&& m == 0) (c.take k), List.length_take, show min k c.length = k by omega] at this
    have hle := List.length_filter_le (fun x => x &&& m == 0) (c.take k)
    rw [List.length_take] at hle
    rw [List.getElem?_append_right (by omega)]
    rw [show (c.filter fun x => x &&& m == 0).length + k - ((c.take k).filter fun x => x &&& m == 0).length - (c.filter fun x => x &&& m == 0).length = k - ((c.take k).filter fun x => x &&& m == 0).length by omega]
    exact this
/-- All levels of a column. -/
def Tells (s : List UInt8) (at' : Nat) (col : List UInt8) : Prop := ∀ l, l < 8 → Says s (at' + l * (2 + (col.length + 7) / 8 + 2 * ((col.length + 15) / 16)) + 2) (UInt8.ofNat (2 ^ (7 - l))) (treeTo col l).2
theorem posn_is {s : List UInt8} {at' : Nat} {col : List UInt8} (h : Tells s at' col) (j : Nat) (hj : j < col.length) : ∀ l, l ≤ 8 → (treeTo col l).2[posn s at' col.length j l]? = some (col[j]'hj)
  | 0, _ => by simp [posn, treeTo, hj]
  | l + 1, hl => by
    have ih := posn_is h j hj l (by omega)
    obtain ⟨hlt, e⟩ := List.getElem?_eq_some_iff.1 ih
    have hs := h l (by omega)
    have := nxt_is hs _ hlt
    rw [e, (tree_len col l).1] at this
    exact this
theorem bit_of (x : UInt8) (i : Nat) (hi : i < 8) : (if (x &&& UInt8.ofNat (2 ^ i) == 0) = true then 0 else 1) = x.toNat / 2 ^ i % 2 := by
  have h := bit_test i hi x
  rw [← Int.natCast_ediv] at h
  have h2 : x.toNat / 2 ^ i % 2 < 2 := Nat.mod_lt _ (by decide)
  generalize x.toNat / 2 ^ i = d at h h2 ⊢
  cases hb : (x &&& UInt8.ofNat (2 ^ i) == 0) with
  | true =>
    rw [hb] at h
    simp at h
    simp
    omega
  | false =>
    rw [hb] at h
    simp at h
    simp
    omega
theorem code_is {s : List UInt8} {at' : Nat} {col : List UInt8} (h : Tells s at' col) (j : Nat) (hj : j < col.length) : ∀ l, l ≤ 8 → code s at' col.length j l = (col[j]'hj).toNat / 2 ^ (8 - l)
  | 0, _ => by
    have := (col[j]'hj).toNat_lt
    simp only [code]
    rw [Nat.sub_zero, Nat.div_eq_of_lt this]
  | l + 1, hl => by
    have ih := code_is h j hj l (by omega)
    obtain ⟨hlt, e⟩ := List.getElem?_eq_some_iff.1 (posn_is h j hj l (by omega))
    have hs := h l (by omega) _ hlt
    simp only [code]
    rw [ih, hs, e, bit_of _ _ (by omega)]
    rw [show 8 - l = (7 - l) + 1 by omega, show 8 - (l + 1) = 7 - l by omega, Nat.pow_succ, ← Nat.div_div_eq_div_mul]
    omega
/-- A tree that tells a column says it. -/
theorem colRead_is {s : List UInt8} {at' : Nat} {col : List UInt8} (h : Tells s at' col) : colRead s at' col.length = col := by
  unfold colRead
  apply List.ext_getElem
  · simp
  · intro j h1 h2
    rw [List.getElem_map, List.getElem_range, code_is h j h2 8 (Nat.le_refl _)]
    simp

/-- The levels of a tree, one by one. -/
theorem tree_split (col : List UInt8) : ∀ k l, l < k → ∃ post, (treeTo col k).1 = (treeTo col l).1 ++ levelOf (UInt8.ofNat (2 ^ (7 - l))) (treeTo col l).2 ++ post
  | k + 1, l, h => by
    by_cases e : l = k
    · subst e
      exact ⟨[], by simp [treeTo]⟩
    · obtain ⟨post, hp⟩ := tree_split col k l (by omega)
      refine ⟨post ++ levelOf (UInt8.ofNat (2 ^ (7 - k))) (treeTo col k).2, ?_⟩
      simp only [treeTo]
      rw [hp]
      simp [List.append_assoc]
theorem getD_append (a b : List UInt8) (k : Nat) : ((a ++ b)[a.length + k]?).getD 0 = (b[k]?).getD 0 := by
  rw [List.getElem?_append_right (by omega)]
  congr 2
  omega
theorem testBit_mod (x i : Nat) : x / 2 ^ i % 2 = if x.testBit i = true then 1 else 0 := by
  rw [Nat.testBit_eq_decide_div_mod_eq]
  have : x / 2 ^ i % 2 < 2 := Nat.mod_lt _ (by decide)
  by_cases h : x / 2 ^ i % 2 = 1
  · simp [h]
  · simp [h]; omega
/-- The bits of a row of bits, wherever it stands. -/
theorem bits_say (pre : List UInt8) (m : UInt8) (c post : List UInt8) : Says (pre ++ (bitsOf (c.map fun x => !(x &&& m == 0)) ++ post)) pre.length m c := by
  intro i hi
  unfold bitAt
  rw [getD_append]
  have hpl : (rowOf (c.map fun x => !(x &&& m == 0))).packed.length = (c.length + 7) / 8 := by rw [(row_fits _).packed, row_count, List.length_map]
  have e : ((bitsOf (c.map fun x => !(x &&& m == 0)) ++ post)[i / 8]?).getD 0 = ((rowOf (c.map fun x => !(x &&& m == 0))).packed[i / 8]?).getD 0 := by
    unfold bitsOf Row.bytes
    rw [List.append_assoc, List.getElem?_append_left (by omega)]
  rw [e, testBit_mod, packed_bit]
  rw [List.getElem?_map, List.getElem?_eq_getElem hi]
  simp only [Option.map_some, Option.getD_some]
  by_cases e3 : (c[i]'hi &&& m == 0) = true
  · simp [e3]
  · simp only [Bool.not_eq_true] at e3
    simp [e3]
theorem tree_tells (pre col post : List UInt8) : Tells (pre ++ (treeOf col ++ post)) pre.length col := by
  intro l hl
  obtain ⟨p2, hp⟩ := tree_split col 8 l hl
  have hlen := (tree_len col l).2
  unfold treeOf
  rw [hp]
  unfold levelOf
  have e : pre ++ ((treeTo col l).1 ++ (le16 (zerosOf (UInt8.ofNat (2 ^ (7 - l))) (treeTo col l).2).length ++ bitsOf ((treeTo col l).2.map fun c => !(c &&& UInt8.ofNat (2 ^ (7 - l)) == 0))) ++ p2 ++ post) = (pre ++ (treeTo col l).1 ++ le16 (zerosOf (UInt8.ofNat (2 ^ (7 - l))) (treeTo col l).2).length) ++ (bitsOf ((treeTo col l).2.map fun c => !(c &&& UInt8.ofNat (2 ^ (7 - l)) == 0)) ++ (p2 ++ post)) := by simp [List.append_assoc]
  rw [e]
  have e2 : pre.length + l * (2 + (col.length + 7) / 8 + 2 * ((col.length + 15) / 16)) + 2 = (pre ++ (treeTo col l).1 ++ le16 (zerosOf (UInt8.ofNat (2 ^ (7 - l))) (treeTo col l).2).length).length := by
    rw [List.length_append, List.length_append, hlen]
    rfl
  rw [e2]
  exact bits_say _ _ _ _
/-- EVERY FILE tells its column, from byte 44 on. -/
theorem file_tells {t : List UInt8} {rows : List Nat} (r : Nat) : Tells (fileOf t rows r) 44 (columnOf t rows) := by
  have e : fileOf t rows r = (headOf t.length r (12 + (tableOf (sectionsOf t rows r)).length + (bodyOf (sectionsOf t rows r)).length) ++ tableOf (sectionsOf t rows r) ++ lastOf rows) ++ (treeOf (columnOf t rows) ++ (firstOf t ++ marksOf rows r ++ placesOf rows r)) := by
    unfold fileOf
    simp only [bodyOf, sectionsOf, List.flatMap_cons, List.flatMap_nil, id, List.append_assoc, List.append_nil]
  have e2 : 44 = (headOf t.length r (12 + (tableOf (sectionsOf t rows r)).length + (bodyOf (sectionsOf t rows r)).length) ++ tableOf (sectionsOf t rows r) ++ lastOf rows).length := by
    rw [List.length_append, List.length_append, head_len, table_len]
    rfl
  rw [e]
  have := tree_tells (headOf t.length r (12 + (tableOf (sectionsOf t rows r)).length + (bodyOf (sectionsOf t rows r)).length) ++ tableOf (sectionsOf t rows r) ++ lastOf rows) (columnOf t rows) (firstOf t ++ marksOf rows r ++ placesOf rows r)
  rw [← e2] at this
  exact this
theorem file_column {t : List UInt8} {rows : List Nat} (h : IsRows t rows) (r : Nat) : colRead (fileOf t rows r) 44 t.length = columnOf t rows := by
  have := colRead_is (file_tells (t := t) (rows := rows) r)
  rw [column_length h] at this
  exact this
end Rot
end Go.Proofs.YthlincikgdblfaaGreat

namespace Go.Proofs.YthlincikgdblfaaGreat
set_option linter.unusedVariables false
namespace Rot

theorem zs_lt {s : List UInt8} {f j k : Nat} (h : j < k) (hb : bitAt s f j = 0) : zs s f j < zs s f k := by
  obtain ⟨d, rfl⟩ : ∃ d, k = j + 1 + d := ⟨k - (j + 1), by omega⟩
  have h1 := zs_mono s f (j + 1) d
  have h2 : zs s f (j + 1) = zs s f j + (1 - bitAt s f j) := rfl
  omega
theorem os_lt {s : List UInt8} {f j k : Nat} (h : j < k) (hb : bitAt s f j ≠ 0) : j - zs s f j < k - zs s f k := by
  obtain ⟨d, rfl⟩ : ∃ d, k = j + 1 + d := ⟨k - (j + 1), by omega⟩
  have h1 := zs_mono s f (j + 1) d
  have h2 : zs s f (j + 1) = zs s f j + (1 - bitAt s f j) := rfl
  have h3 := zs_le s f j
  have h4 := bitAt_lt s f j
  omega
theorem nxt_inj {s : List UInt8} {f n j k : Nat} (hj : j < n) (hk : k < n) (h : nxt s f n j = nxt s f n k) : j = k := by
  have aj := zs_le s f j
  have ak := zs_le s f k
  unfold nxt at h
  by_cases bj : bitAt s f j = 0
  · rw [if_pos bj] at h
    by_cases bk : bitAt s f k = 0
    · rw [if_pos bk] at h
      rcases Nat.lt_trichotomy j k with hl | he | hg
      · have := zs_lt (s := s) hl bj; omega
      · exact he
      · have := zs_lt (s := s) hg bk; omega
    · rw [if_neg bk] at h
      have := zs_lt (s := s) hj bj
      omega
  · rw [if_neg bj] at h
    by_cases bk : bitAt s f k = 0
    · rw [if_pos bk] at h
      have := zs_lt (s := s) hk bk
      omega
    · rw [if_neg bk] at h
      rcases Nat.lt_trichotomy j k with hl | he | hg
      · have := os_lt (s := s) hl bj; omega
      · exact he
      · have := os_lt (s := s) hg bk; omega
theorem posn_inj (s : List UInt8) (at' n : Nat) {j k : Nat} (hj : j < n) (hk : k < n) : ∀ l, posn s at' n j l = posn s at' n k l → j = k
  | 0, h => h
  | l + 1, h => posn_inj s at' n hj hk l (nxt_inj (posn_lt s at' n j hj l) (posn_lt s at' n k hk l) h)
/-- Every place of a level is some byte's. -/
theorem posn_onto (s : List UInt8) (at' n l : Nat) {i : Nat} (hi : i < n) : ∃ j, j < n ∧ posn s at' n j l = i := by
  have hp : ((List.range n).map fun j => posn s at' n j l).Perm (List.range n) := by
    refine nodup_full _ _ ?_ ?_ (by simp)
    · rw [List.nodup_iff_pairwise_ne, List.pairwise_map]
      refine List.Pairwise.imp_of_mem ?_ List.nodup_range
      intro a b ha hb hab h
      exact hab (posn_inj s at' n (List.mem_range.1 ha) (List.mem_range.1 hb) l h)
    · intro x hx
      obtain ⟨k, hk, rfl⟩ := List.mem_map.1 hx
      exact posn_lt s at' n k (List.mem_range.1 hk) l
  obtain ⟨j, hj, e⟩ := List.mem_map.1 (hp.mem_iff.2 (List.mem_range.2 hi))
  exact ⟨j, List.mem_range.1 hj, e⟩
/-- The first l bits of what is read. -/
theorem code_part (s : List UInt8) (at' n j : Nat) : ∀ d l, code s at' n j l = code s at' n j (l + d) / 2 ^ d
  | 0, l => by simp
  | d + 1, l => by
    have ih := code_part s at' n j d l
    have hb := bitAt_lt s (at' + (l + d) * (2 + (n + 7) / 8 + 2 * ((n + 15) / 16)) + 2) (posn s at' n j (l + d))
    have e : code s at' n j (l + (d + 1)) = 2 * code s at' n j (l + d) + bitAt s (at' + (l + d) * (2 + (n + 7) / 8 + 2 * ((n + 15) / 16)) + 2) (posn s at' n j (l + d)) := rfl
    rw [ih, e, Nat.pow_succ, Nat.mul_comm (2 ^ d) 2, ← Nat.div_div_eq_div_mul]
    congr 1
    omega
theorem code_bit (s : List UInt8) (at' n j l : Nat) (hl : l < 8) : code s at' n j 8 / 2 ^ (7 - l) % 2 = bitAt s (at' + l * (2 + (n + 7) / 8 + 2 * ((n + 15) / 16)) + 2) (posn s at' n j l) := by
  have h := code_part s at' n j (7 - l) (l + 1)
  rw [show l + 1 + (7 - l) = 8 by omega] at h
  rw [← h]
  have hb := bitAt_lt s (at' + l * (2 + (n + 7) / 8 + 2 * ((n + 15) / 16)) + 2) (posn s at' n j l)
  have e : code s at' n j (l + 1) = 2 * code s at' n j l + bitAt s (at' + l * (2 + (n + 7) / 8 + 2 * ((n + 15) / 16)) + 2) (posn s at' n j l) := rfl
  omega
theorem colRead_len (s : List UInt8) (at' n : Nat) : (colRead s at' n).length = n := by simp [colRead]
theorem colRead_get (s : List UInt8) (at' n j : Nat) (hj : j < (colRead s at' n).length) : ((colRead s at' n)[j]'hj).toNat = code s at' n j 8 := by
  have := code_lt s at' n j 8
  simp only [colRead, List.getElem_map, List.getElem_range]
  simp
  omega
theorem read_tells_aux (s : List UInt8) (at' n : Nat) : ∀ l, l ≤ 8 → (∀ j (hj : j < n), (treeTo (colRead s at' n) l).2[posn s at' n j l]? = some ((colRead s at' n)[j]'(by rw [colRead_len]; exact hj))) ∧ (∀ k, k < l → Says s (at' + k * (2 + (n + 7) / 8 + 2 * ((n + 15) / 16)) + 2) (UInt8.ofNat (2 ^ (7 - k))) (treeTo (colRead s at' n) k).2)
  | 0, _ => by
    refine ⟨fun j hj => ?_, fun k hk => absurd hk (Nat.not_lt_zero _)⟩
    simp only [posn, treeTo]
    exact List.getElem?_eq_getElem _
  | l + 1, hl => by
    obtain ⟨ih1, ih2⟩ := read_tells_aux s at' n l (by omega)
    have hlen : (treeTo (colRead s at' n) l).2.length = n := by rw [(tree_len _ l).1, colRead_len]
    have hsay : Says s (at' + l * (2 + (n + 7) / 8 + 2 * ((n + 15) / 16)) + 2) (UInt8.ofNat (2 ^ (7 - l))) (treeTo (colRead s at' n) l).2 := by
      intro i hi
      obtain ⟨j, hj, rfl⟩ := posn_onto s at' n l (i := i) (by omega)
      obtain ⟨_, e⟩ := List.getElem?_eq_some_iff.1 (ih1 j hj)
      rw [e, bit_of _ _ (by omega), colRead_get, code_bit s at' n j l (by omega)]
    refine ⟨fun j hj => ?_, fun k hk => ?_⟩
    · obtain ⟨hlt, e⟩ := List.getElem?_eq_some_iff.1 (ih1 j hj)
      have := nxt_is hsay _ hlt
      rw [e, hlen] at this
      exact this
    · by_cases e : k = l
      · subst e; exact hsay
      · exact ih2 k (by omega)
/-- WHATEVER THE BITS ARE: they are those of the column that is read off them. -/
theorem read_tells (s : List UInt8) (at' n : Nat) : Tells s at' (colRead s at' n) := by
  intro l hl
  rw [colRead_len]
  exact (read_tells_aux s at' n 8 (Nat.le_refl _)).2 l hl
/-- The bits of a level, as bools. -/
def levelBits (s : List UInt8) (f n : Nat) : List Bool := (List.range n).map fun i => bitAt s f i == 1
theorem says_bits {s : List UInt8} {f : Nat} {m : UInt8} {c : List UInt8} (h : Says s f m c) : (c.map fun x => !(x &&& m == 0)) = levelBits s f c.length := by
  apply List.ext_getElem
  · simp [levelBits]
  · intro i h1 h2
    have hi : i < c.length := by simpa using h1
    simp only [levelBits, List.getElem_map, List.getElem_range]
    rw [h i hi]
    by_cases e : (c[i]'hi &&& m == 0) = true
    · simp [e]
    · simp only [Bool.not_eq_true] at e
      simp [e]
theorem says_zeros {s : List UInt8} {f : Nat} {m : UInt8} {c : List UInt8} (h : Says s f m c) : (zerosOf m c).length = zs s f c.length := by
  rw [zs_is h _ (Nat.le_refl _), List.take_length]
  rfl
/-- A level whose zeros, bits and directory are what its bits say. -/
theorem level_read (s : List UInt8) (at' n l : Nat) (hl : l < 8) : levelOf (UInt8.ofNat (2 ^ (7 - l))) (treeTo (colRead s at' n) l).2 = le16 (zs s (at' + l * (2 + (n + 7) / 8 + 2 * ((n + 15) / 16)) + 2) n) ++ bitsOf (levelBits s (at' + l * (2 + (n + 7) / 8 + 2 * ((n + 15) / 16)) + 2) n) := by
  have h := read_tells s at' n l hl
  rw [colRead_len] at h
  have hlen : (treeTo (colRead s at' n) l).2.length = n := by rw [(tree_len _ l).1, colRead_len]
  unfold levelOf
  rw [says_bits h, says_zeros h, hlen]
theorem treeTo_flat (col : List UInt8) : ∀ k, (treeTo col k).1 = (List.range k).flatMap fun l => levelOf (UInt8.ofNat (2 ^ (7 - l))) (treeTo col l).2
  | 0 => rfl
  | k + 1 => by
    rw [List.range_succ, List.flatMap_append, ← treeTo_flat col k]
    simp [treeTo]
/-- ONLY TREES: a section of which each level is what its bits say is the tree of the column that is read. -/
theorem tree_read (s : List UInt8) (at' n : Nat) : treeOf (colRead s at' n) = (List.range 8).flatMap fun l => le16 (zs s (at' + l * (2 + (n + 7) / 8 + 2 * ((n + 15) / 16)) + 2) n) ++ bitsOf (levelBits s (at' + l * (2 + (n + 7) / 8 + 2 * ((n + 15) / 16)) + 2) n) := by
  unfold treeOf
  rw [treeTo_flat]
  have key : ∀ L : List Nat, (∀ l ∈ L, l < 8) → (L.flatMap fun l => levelOf (UInt8.ofNat (2 ^ (7 - l))) (treeTo (colRead s at' n) l).2) = L.flatMap fun l => le16 (zs s (at' + l * (2 + (n + 7) / 8 + 2 * ((n + 15) / 16)) + 2) n) ++ bitsOf (levelBits s (at' + l * (2 + (n + 7) / 8 + 2 * ((n + 15) / 16)) + 2) n) := by
    intro L
    induction L with
    | nil => intro _; rfl
    | cons a L ih =>
      intro h
      rw [List.flatMap_cons, List.flatMap_cons, level_read s at' n a (h a (by simp)), ih (fun l hl => h l (by simp [hl]))]
  exact key _ (fun l hl => List.mem_range.1 hl)

/-! FIRST: the column has the text's bytes. -/
theorem column_perm {t : List UInt8} {rows : List Nat} (h : IsRows t rows) : (columnOf t rows).Perm t := by
  unfold columnOf
  have h1 : (rows.filter fun p => decide (0 < p)).Perm ((List.range t.length).map (· + 1)) := by
    refine (h.perm.filter _).trans (List.Perm.of_eq ?_)
    rw [List.range_succ_eq_map, List.filter_cons]
    simp only [Nat.lt_irrefl, decide_false, Bool.false_eq_true, if_false]
    rw [List.filter_eq_self.2]
    · intro a ha
      obtain ⟨b, _, rfl⟩ := List.mem_map.1 ha
      simp
  refine (h1.map _).trans (List.Perm.of_eq ?_)
  rw [List.map_map]
  apply List.ext_getElem
  · simp
  · intro i h2 h3
    simp only [List.getElem_map, List.getElem_range, Function.comp, Nat.add_sub_cancel]
    rw [List.getElem?_eq_getElem h3]
    rfl
theorem below_perm {a b : List UInt8} (h : a.Perm b) (c : Nat) : belowOf a c = belowOf b c := by
  unfold belowOf
  rw [(h.filter _).length_eq]
theorem first_perm {a b : List UInt8} (h : a.Perm b) : firstOf a = firstOf b := by
  unfold firstOf
  congr 1
  funext c
  rw [below_perm h]
theorem first_column {t : List UInt8} {rows : List Nat} (h : IsRows t rows) : firstOf (columnOf t rows) = firstOf t := first_perm (column_perm h)
end Rot
end Go.Proofs.YthlincikgdblfaaGreat
