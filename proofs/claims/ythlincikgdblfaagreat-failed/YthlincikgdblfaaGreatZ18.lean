import Derived.Test.YthlincikgdblfaaGreatZ15
import Derived.Test.YthlincikgdblfaaGreatZ16
import Derived.Test.YthlincikgdblfaaGreatZ17
namespace Go.Proofs.YthlincikgdblfaaGreat
set_option linter.unusedVariables false
namespace Rot

theorem byte_inj {a b : Nat} (ha : a < 256) (hb : b < 256) (h : UInt8.ofNat a = UInt8.ofNat b) : a = b := by
  have := congrArg UInt8.toNat h
  rw [UInt8.toNat_ofNat', UInt8.toNat_ofNat'] at this
  omega
theorem head_inj {n r s n' r' s' : Nat} (h : headOf n r s = headOf n' r' s') (hn : n < 256) (hn' : n' < 256) (hr : r < 256) (hr' : r' < 256) : n = n' ∧ r = r' := by
  simp only [headOf, le16, le32, List.cons_append, List.nil_append, List.cons.injEq, true_and, and_true] at h
  exact ⟨byte_inj hn hn' h.1, byte_inj hr hr' h.2.2.1⟩
theorem head_len (a b c : Nat) : (headOf a b c).length = 12 := by simp [headOf, le16, le32]

/-- Files tell texts and rates apart. -/
theorem file_inj {t u : List UInt8} {a b : List Nat} {r s : Nat} (ha : IsRows t a) (hb : IsRows u b) (ht : t.length ≤ 250) (hu : u.length ≤ 250) (hr : r < 256) (hs : s < 256) (h : fileOf t a r = fileOf u b s) : t = u ∧ r = s := by
  unfold fileOf at h
  rw [List.append_assoc, List.append_assoc] at h
  obtain ⟨h1, h2⟩ := List.append_inj h (by rw [head_len, head_len])
  obtain ⟨hn, rfl⟩ := head_inj h1 (by omega) (by omega) hr hs
  obtain ⟨_, h3⟩ := List.append_inj h2 (by rw [table_len, table_len]; rfl)
  refine ⟨?_, rfl⟩
  unfold bodyOf sectionsOf at h3
  simp only [List.flatMap_cons, List.flatMap_nil, List.append_nil, id] at h3
  obtain ⟨h4, h5⟩ := List.append_inj h3 rfl
  have hc : (columnOf t a).length = (columnOf u b).length := by rw [column_length ha, column_length hb, hn]
  obtain ⟨h6, _⟩ := List.append_inj h5 (by rw [treeOf_len, treeOf_len, hc])
  have i1 : a.idxOf 0 < a.length := List.idxOf_lt_length_of_mem (rows_zero ha)
  have i2 : b.idxOf 0 < b.length := List.idxOf_lt_length_of_mem (rows_zero hb)
  have l1 : a.length = t.length + 1 := by rw [ha.perm.length_eq, List.length_range]
  have l2 : b.length = u.length + 1 := by rw [hb.perm.length_eq, List.length_range]
  have hl : a.idxOf 0 = b.idxOf 0 := by
    unfold lastOf le16 at h4
    simp only [List.cons.injEq] at h4
    exact byte_inj (by omega) (by omega) h4.1
  exact text_of ha hb (tree_inj hc h6) hl hn
end Rot
end Go.Proofs.YthlincikgdblfaaGreat

namespace Go.Proofs.YthlincikgdblfaaGreat
set_option linter.unusedVariables false
namespace Rot

/-- A byte's place behind a filter. -/
theorem filter_at {α : Type} (p : α → Bool) (l : List α) (k : Nat) (hk : k < l.length) (hp : p (l[k]'hk) = true) : (l.filter p)[((l.take k).filter p).length]? = some (l[k]'hk) := by
  have e : l.filter p = (l.take k).filter p ++ (l[k]'hk :: (l.drop (k + 1)).filter p) := by
    have e1 : l = l.take k ++ (l[k]'hk :: l.drop (k + 1)) := by rw [← List.drop_eq_getElem_cons hk, List.take_append_drop]
    rw [show l.filter p = (l.take k ++ (l[k]'hk :: l.drop (k + 1))).filter p by rw [← e1], List.filter_append, List.filter_cons, if_pos hp]
  rw [e, List.getElem?_append_right (Nat.le_refl _), Nat.sub_self]
  rfl
theorem filter_not_len {α : Type} (p : α → Bool) (l : List α) : (l.filter fun x => !p x).length = l.length - (l.filter p).length := by
  induction l with
  | nil => rfl
  | cons a l ih =>
    have := List.length_filter_le p l
    rw [List.filter_cons, List.filter_cons]
    cases p a <;> simp [ih] <;> omega
/-- What the bits of a level say. -/
def Says (s : List UInt8) (f : Nat) (m : UInt8) (c : List UInt8) : Prop := ∀ i (hi : i < c.length), bitAt s f i = if (c[i]'hi &&& m == 0) = true then 0 else 1
theorem zs_is {s : List UInt8} {f : Nat} {m : UInt8} {c : List UInt8} (h : Says s f m c) : ∀ k, k ≤ c.length → zs s f k = ((c.take k).filter fun x => x &&& m == 0).length
  | 0, _ => by simp [zs]
  | k + 1, hk => by
    have ih := zs_is h k (by omega)
    simp only [zs]
    rw [h k (by omega), take_filter_snoc _ c k (by omega), List.length_append, ih]
    by_cases e : (c[k]'(by omega) &&& m == 0) = true
    · rw [if_pos e, if_pos e]; simp
    · rw [if_neg e, if_neg e]; simp
theorem nxt_is {s : List UInt8} {f : Nat} {m : UInt8} {c : List UInt8} (h : Says s f m c) (k : Nat) (hk : k < c.length) : (nextOf m c)[nxt s f c.length k]? = some (c[k]'hk) := by
  unfold nxt nextOf zerosOf onesOf
  have hz := zs_is h k (by omega)
  have hZ := zs_is h c.length (Nat.le_refl _)
  rw [List.take_length] at hZ
  have hb := h k hk
  by_cases e : (c[k]'hk &&& m == 0) = true
  · rw [if_pos e] at hb
    rw [if_pos hb, hz]
    have := filter_at (fun x => x &&& m == 0) c k hk e
    rw [List.getElem?_append_left]
    · exact this
    · exact (List.getElem?_eq_some_iff.1 this).1
  · rw [if_neg e] at hb
    rw [if_neg (by omega), hz, hZ]
    have e' : (!(c[k]'hk &&& m == 0)) = true := by simpa using e
    have := filter_at (fun x => !(x &&& m == 0)) c k hk e'
    rw [filter_not_len (fun x => x &&& m == 0) (c.take k), List.length_take, show min k c.length = k by omega] at this
    have hle := List.length_filter_le (fun x => x &&& m == 0) (c.take k)
    rw [List.length_take] at hle
    rw [List.getElem?_append_right (by omega)]
    rw [show (c.filter fun x => x &&& m == 0).length + k - ((c.take k).filter fun x => x &&& m == 0).length - (c.filter fun x => x &&& m == 0).length = k - ((c.take k).filter fun x => x &&& m == 0).length by omega]
    exact this
/-- All levels of a column. -/
def Tells (s : List UInt8) (at' : Nat) (col : List UInt8) : Prop := ∀ l, l < 8 → Says s (at' + l * (2 + (col.length + 7) / 8 + 2 * ((col.length + 15) / 16)) + 2) (UInt8.ofNat (2 ^ (7 - l))) (treeTo col l).2
theorem posn_is {s : List UInt8} {at' : Nat} {col : List UInt8} (h : Tells s at' col) (j : Nat) (hj : j < col.length) : ∀ l, l ≤ 8 → (treeTo col l).2[posn s at' col.length j l]? = some (col[j]'hj)
  | 0, _ => by simp [posn, treeTo, hj]
  | l + 1, hl => by
    have ih := posn_is h j hj l (by omega)
    obtain ⟨hlt, e⟩ := List.getElem?_eq_some_iff.1 ih
    have hs := h l (by omega)
    have := nxt_is hs _ hlt
    rw [e, (tree_len col l).1] at this
    exact this
theorem bit_of (x : UInt8) (i : Nat) (hi : i < 8) : (if (x &&& UInt8.ofNat (2 ^ i) == 0) = true then 0 else 1) = x.toNat / 2 ^ i % 2 := by
  have h := bit_test i hi x
  rw [← Int.natCast_ediv] at h
  have h2 : x.toNat / 2 ^ i % 2 < 2 := Nat.mod_lt _ (by decide)
  generalize x.toNat / 2 ^ i = d at h h2 ⊢
  cases hb : (x &&& UInt8.ofNat (2 ^ i) == 0) with
  | true =>
    rw [hb] at h
    simp at h
    simp
    omega
  | false =>
    rw [hb] at h
    simp at h
    simp
    omega
theorem code_is {s : List UInt8} {at' : Nat} {col : List UInt8} (h : Tells s at' col) (j : Nat) (hj : j < col.length) : ∀ l, l ≤ 8 → code s at' col.length j l = (col[j]'hj).toNat / 2 ^ (8 - l)
  | 0, _ => by
    have := (col[j]'hj).toNat_lt
    simp only [code]
    rw [Nat.sub_zero, Nat.div_eq_of_lt this]
  | l + 1, hl => by
    have ih := code_is h j hj l (by omega)
    obtain ⟨hlt, e⟩ := List.getElem?_eq_some_iff.1 (posn_is h j hj l (by omega))
    have hs := h l (by omega) _ hlt
    simp only [code]
    rw [ih, hs, e, bit_of _ _ (by omega)]
    rw [show 8 - l = (7 - l) + 1 by omega, show 8 - (l + 1) = 7 - l by omega, Nat.pow_succ, ← Nat.div_div_eq_div_mul]
    omega
/-- A tree that tells a column says it. -/
theorem colRead_is {s : List UInt8} {at' : Nat} {col : List UInt8} (h : Tells s at' col) : colRead s at' col.length = col := by
  unfold colRead
  apply List.ext_getElem
  · simp
  · intro j h1 h2
    rw [List.getElem_map, List.getElem_range, code_is h j h2 8 (Nat.le_refl _)]
    simp

/-- The levels of a tree, one by one. -/
theorem tree_split (col : List UInt8) : ∀ k l, l < k → ∃ post, (treeTo col k).1 = (treeTo col l).1 ++ levelOf (UInt8.ofNat (2 ^ (7 - l))) (treeTo col l).2 ++ post
  | k + 1, l, h => by
    by_cases e : l = k
    · subst e
      exact ⟨[], by simp [treeTo]⟩
    · obtain ⟨post, hp⟩ := tree_split col k l (by omega)
      refine ⟨post ++ levelOf (UInt8.ofNat (2 ^ (7 - k))) (treeTo col k).2, ?_⟩
      simp only [treeTo]
      rw [hp]
      simp [List.append_assoc]
theorem getD_append (a b : List UInt8) (k : Nat) : ((a ++ b)[a.length + k]?).getD 0 = (b[k]?).getD 0 := by
  rw [List.getElem?_append_right (by omega)]
  congr 2
  omega
theorem testBit_mod (x i : Nat) : x / 2 ^ i % 2 = if x.testBit i = true then 1 else 0 := by
  rw [Nat.testBit_eq_decide_div_mod_eq]
  have : x / 2 ^ i % 2 < 2 := Nat.mod_lt _ (by decide)
  by_cases h : x / 2 ^ i % 2 = 1
  · simp [h]
  · simp [h]; omega
/-- The bits of a row of bits, wherever it stands. -/
theorem bits_say (pre : List UInt8) (m : UInt8) (c post : List UInt8) : Says (pre ++ (bitsOf (c.map fun x => !(x &&& m == 0)) ++ post)) pre.length m c := by
  intro i hi
  unfold bitAt
  rw [getD_append]
  have hpl : (rowOf (c.map fun x => !(x &&& m == 0))).packed.length = (c.length + 7) / 8 := by rw [(row_fits _).packed, row_count, List.length_map]
  have e : ((bitsOf (c.map fun x => !(x &&& m == 0)) ++ post)[i / 8]?).getD 0 = ((rowOf (c.map fun x => !(x &&& m == 0))).packed[i / 8]?).getD 0 := by
    unfold bitsOf Row.bytes
    rw [List.append_assoc, List.getElem?_append_left (by omega)]
  rw [e, testBit_mod, packed_bit]
  rw [List.getElem?_map, List.getElem?_eq_getElem hi]
  simp only [Option.map_some, Option.getD_some]
  by_cases e3 : (c[i]'hi &&& m == 0) = true
  · simp [e3]
  · simp only [Bool.not_eq_true] at e3
    simp [e3]
theorem tree_tells (pre col post : List UInt8) : Tells (pre ++ (treeOf col ++ post)) pre.length col := by
  intro l hl
  obtain ⟨p2, hp⟩ := tree_split col 8 l hl
  have hlen := (tree_len col l).2
  unfold treeOf
  rw [hp]
  unfold levelOf
  have e : pre ++ ((treeTo col l).1 ++ (le16 (zerosOf (UInt8.ofNat (2 ^ (7 - l))) (treeTo col l).2).length ++ bitsOf ((treeTo col l).2.map fun c => !(c &&& UInt8.ofNat (2 ^ (7 - l)) == 0))) ++ p2 ++ post) = (pre ++ (treeTo col l).1 ++ le16 (zerosOf (UInt8.ofNat (2 ^ (7 - l))) (treeTo col l).2).length) ++ (bitsOf ((treeTo col l).2.map fun c => !(c &&& UInt8.ofNat (2 ^ (7 - l)) == 0)) ++ (p2 ++ post)) := by simp [List.append_assoc]
  rw [e]
  have e2 : pre.length + l * (2 + (col.length + 7) / 8 + 2 * ((col.length + 15) / 16)) + 2 = (pre ++ (treeTo col l).1 ++ le16 (zerosOf (UInt8.ofNat (2 ^ (7 - l))) (treeTo col l).2).length).length := by
    rw [List.length_append, List.length_append, hlen]
    rfl
  rw [e2]
  exact bits_say _ _ _ _
/-- EVERY FILE tells its column, from byte 44 on. -/
theorem file_tells {t : List UInt8} {rows : List Nat} (r : Nat) : Tells (fileOf t rows r) 44 (columnOf t rows) := by
  have e : fileOf t rows r = (headOf t.length r (12 + (tableOf (sectionsOf t rows r)).length + (bodyOf (sectionsOf t rows r)).length) ++ tableOf (sectionsOf t rows r) ++ lastOf rows) ++ (treeOf (columnOf t rows) ++ (firstOf t ++ marksOf rows r ++ placesOf rows r)) := by
    unfold fileOf
    simp only [bodyOf, sectionsOf, List.flatMap_cons, List.flatMap_nil, id, List.append_assoc, List.append_nil]
  have e2 : 44 = (headOf t.length r (12 + (tableOf (sectionsOf t rows r)).length + (bodyOf (sectionsOf t rows r)).length) ++ tableOf (sectionsOf t rows r) ++ lastOf rows).length := by
    rw [List.length_append, List.length_append, head_len, table_len]
    rfl
  rw [e]
  have := tree_tells (headOf t.length r (12 + (tableOf (sectionsOf t rows r)).length + (bodyOf (sectionsOf t rows r)).length) ++ tableOf (sectionsOf t rows r) ++ lastOf rows) (columnOf t rows) (firstOf t ++ marksOf rows r ++ placesOf rows r)
  rw [← e2] at this
  exact this
theorem file_column {t : List UInt8} {rows : List Nat} (h : IsRows t rows) (r : Nat) : colRead (fileOf t rows r) 44 t.length = columnOf t rows := by
  have := colRead_is (file_tells (t := t) (rows := rows) r)
  rw [column_length h] at this
  exact this
end Rot
end Go.Proofs.YthlincikgdblfaaGreat

namespace Go.Proofs.YthlincikgdblfaaGreat
set_option linter.unusedVariables false
namespace Rot

theorem zs_lt {s : List UInt8} {f j k : Nat} (h : j < k) (hb : bitAt s f j = 0) : zs s f j < zs s f k := by
  obtain ⟨d, rfl⟩ : ∃ d, k = j + 1 + d := ⟨k - (j + 1), by omega⟩
  have h1 := zs_mono s f (j + 1) d
  have h2 : zs s f (j + 1) = zs s f j + (1 - bitAt s f j) := rfl
  omega
theorem os_lt {s : List UInt8} {f j k : Nat} (h : j < k) (hb : bitAt s f j ≠ 0) : j - zs s f j < k - zs s f k := by
  obtain ⟨d, rfl⟩ : ∃ d, k = j + 1 + d := ⟨k - (j + 1), by omega⟩
  have h1 := zs_mono s f (j + 1) d
  have h2 : zs s f (j + 1) = zs s f j + (1 - bitAt s f j) := rfl
  have h3 := zs_le s f j
  have h4 := bitAt_lt s f j
  omega
theorem nxt_inj {s : List UInt8} {f n j k : Nat} (hj : j < n) (hk : k < n) (h : nxt s f n j = nxt s f n k) : j = k := by
  have aj := zs_le s f j
  have ak := zs_le s f k
  unfold nxt at h
  by_cases bj : bitAt s f j = 0
  · rw [if_pos bj] at h
    by_cases bk : bitAt s f k = 0
    · rw [if_pos bk] at h
      rcases Nat.lt_trichotomy j k with hl | he | hg
      · have := zs_lt (s := s) hl bj; omega
      · exact he
      · have := zs_lt (s := s) hg bk; omega
    · rw [if_neg bk] at h
      have := zs_lt (s := s) hj bj
      omega
  · rw [if_neg bj] at h
    by_cases bk : bitAt s f k = 0
    · rw [if_pos bk] at h
      have := zs_lt (s := s) hk bk
      omega
    · rw [if_neg bk] at h
      rcases Nat.lt_trichotomy j k with hl | he | hg
      · have := os_lt (s := s) hl bj; omega
      · exact he
      · have := os_lt (s := s) hg bk; omega
theorem posn_inj (s : List UInt8) (at' n : Nat) {j k : Nat} (hj : j < n) (hk : k < n) : ∀ l, posn s at' n j l = posn s at' n k l → j = k
  | 0, h => h
  | l + 1, h => posn_inj s at' n hj hk l (nxt_inj (posn_lt s at' n j hj l) (posn_lt s at' n k hk l) h)
/-- Every place of a level is some byte's. -/
theorem posn_onto (s : List UInt8) (at' n l : Nat) {i : Nat} (hi : i < n) : ∃ j, j < n ∧ posn s at' n j l = i := by
  have hp : ((List.range n).map fun j => posn s at' n j l).Perm (List.range n) := by
    refine nodup_full _ _ ?_ ?_ (by simp)
    · rw [List.nodup_iff_pairwise_ne, List.pairwise_map]
      refine List.Pairwise.imp_of_mem ?_ List.nodup_range
      intro a b ha hb hab h
      exact hab (posn_inj s at' n (List.mem_range.1 ha) (List.mem_range.1 hb) l h)
    · intro x hx
      obtain ⟨k, hk, rfl⟩ := List.mem_map.1 hx
      exact posn_lt s at' n k (List.mem_range.1 hk) l
  obtain ⟨j, hj, e⟩ := List.mem_map.1 (hp.mem_iff.2 (List.mem_range.2 hi))
  exact ⟨j, List.mem_range.1 hj, e⟩
/-- The first l bits of what is read. -/
theorem code_part (s : List UInt8) (at' n j : Nat) : ∀ d l, code s at' n j l = code s at' n j (l + d) / 2 ^ d
  | 0, l => by simp
  | d + 1, l => by
    have ih := code_part s at' n j d l
    have hb := bitAt_lt s (at' + (l + d) * (2 + (n + 7) / 8 + 2 * ((n + 15) / 16)) + 2) (posn s at' n j (l + d))
    have e : code s at' n j (l + (d + 1)) = 2 * code s at' n j (l + d) + bitAt s (at' + (l + d) * (2 + (n + 7) / 8 + 2 * ((n + 15) / 16)) + 2) (posn s at' n j (l + d)) := rfl
    rw [ih, e, Nat.pow_succ, Nat.mul_comm (2 ^ d) 2, ← Nat.div_div_eq_div_mul]
    congr 1
    omega
theorem code_bit (s : List UInt8) (at' n j l : Nat) (hl : l < 8) : code s at' n j 8 / 2 ^ (7 - l) % 2 = bitAt s (at' + l * (2 + (n + 7) / 8 + 2 * ((n + 15) / 16)) + 2) (posn s at' n j l) := by
  have h := code_part s at' n j (7 - l) (l + 1)
  rw [show l + 1 + (7 - l) = 8 by omega] at h
  rw [← h]
  have hb := bitAt_lt s (at' + l * (2 + (n + 7) / 8 + 2 * ((n + 15) / 16)) + 2) (posn s at' n j l)
  have e : code s at' n j (l + 1) = 2 * code s at' n j l + bitAt s (at' + l * (2 + (n + 7) / 8 + 2 * ((n + 15) / 16)) + 2) (posn s at' n j l) := rfl
  omega
theorem colRead_len (s : List UInt8) (at' n : Nat) : (colRead s at' n).length = n := by simp [colRead]
theorem colRead_get (s : List UInt8) (at' n j : Nat) (hj : j < (colRead s at' n).length) : ((colRead s at' n)[j]'hj).toNat = code s at' n j 8 := by
  have := code_lt s at' n j 8
  simp only [colRead, List.getElem_map, List.getElem_range]
  simp
  omega
theorem read_tells_aux (s : List UInt8) (at' n : Nat) : ∀ l, l ≤ 8 → (∀ j (hj : j < n), (treeTo (colRead s at' n) l).2[posn s at' n j l]? = some ((colRead s at' n)[j]'(by rw [colRead_len]; exact hj))) ∧ (∀ k, k < l → Says s (at' + k * (2 + (n + 7) / 8 + 2 * ((n + 15) / 16)) + 2) (UInt8.ofNat (2 ^ (7 - k))) (treeTo (colRead s at' n) k).2)
  | 0, _ => by
    refine ⟨fun j hj => ?_, fun k hk => absurd hk (Nat.not_lt_zero _)⟩
    simp only [posn, treeTo]
    exact List.getElem?_eq_getElem _
  | l + 1, hl => by
    obtain ⟨ih1, ih2⟩ := read_tells_aux s at' n l (by omega)
    have hlen : (treeTo (colRead s at' n) l).2.length = n := by rw [(tree_len _ l).1, colRead_len]
    have hsay : Says s (at' + l * (2 + (n + 7) / 8 + 2 * ((n + 15) / 16)) + 2) (UInt8.ofNat (2 ^ (7 - l))) (treeTo (colRead s at' n) l).2 := by
      intro i hi
      obtain ⟨j, hj, rfl⟩ := posn_onto s at' n l (i := i) (by omega)
      obtain ⟨_, e⟩ := List.getElem?_eq_some_iff.1 (ih1 j hj)
      rw [e, bit_of _ _ (by omega), colRead_get, code_bit s at' n j l (by omega)]
    refine ⟨fun j hj => ?_, fun k hk => ?_⟩
    · obtain ⟨hlt, e⟩ := List.getElem?_eq_some_iff.1 (ih1 j hj)
      have := nxt_is hsay _ hlt
      rw [e, hlen] at this
      exact this
    · by_cases e : k = l
      · subst e; exact hsay
      · exact ih2 k (by omega)
/-- WHATEVER THE BITS ARE: they are those of the column that is read off them. -/
theorem read_tells (s : List UInt8) (at' n : Nat) : Tells s at' (colRead s at' n) := by
  intro l hl
  rw [colRead_len]
  exact (read_tells_aux s at' n 8 (Nat.le_refl _)).2 l hl
/-- The bits of a level, as bools. -/
def levelBits (s : List UInt8) (f n : Nat) : List Bool := (List.range n).map fun i => bitAt s f i == 1
theorem says_bits {s : List UInt8} {f : Nat} {m : UInt8} {c : List UInt8} (h : Says s f m c) : (c.map fun x => !(x &&& m == 0)) = levelBits s f c.length := by
  apply List.ext_getElem
  · simp [levelBits]
  · intro i h1 h2
    have hi : i < c.length := by simpa using h1
    simp only [levelBits, List.getElem_map, List.getElem_range]
    rw [h i hi]
    by_cases e : (c[i]'hi &&& m == 0) = true
    · simp [e]
    · simp only [Bool.not_eq_true] at e
      simp [e]
theorem says_zeros {s : List UInt8} {f : Nat} {m : UInt8} {c : List UInt8} (h : Says s f m c) : (zerosOf m c).length = zs s f c.length := by
  rw [zs_is h _ (Nat.le_refl _), List.take_length]
  rfl
/-- A level whose zeros, bits and directory are what its bits say. -/
theorem level_read (s : List UInt8) (at' n l : Nat) (hl : l < 8) : levelOf (UInt8.ofNat (2 ^ (7 - l))) (treeTo (colRead s at' n) l).2 = le16 (zs s (at' + l * (2 + (n + 7) / 8 + 2 * ((n + 15) / 16)) + 2) n) ++ bitsOf (levelBits s (at' + l * (2 + (n + 7) / 8 + 2 * ((n + 15) / 16)) + 2) n) := by
  have h := read_tells s at' n l hl
  rw [colRead_len] at h
  have hlen : (treeTo (colRead s at' n) l).2.length = n := by rw [(tree_len _ l).1, colRead_len]
  unfold levelOf
  rw [says_bits h, says_zeros h, hlen]
theorem treeTo_flat (col : List UInt8) : ∀ k, (treeTo col k).1 = (List.range k).flatMap fun l => levelOf (UInt8.ofNat (2 ^ (7 - l))) (treeTo col l).2
  | 0 => rfl
  | k + 1 => by
    rw [List.range_succ, List.flatMap_append, ← treeTo_flat col k]
    simp [treeTo]
/-- ONLY TREES: a section of which each level is what its bits say is the tree of the column that is read. -/
theorem tree_read (s : List UInt8) (at' n : Nat) : treeOf (colRead s at' n) = (List.range 8).flatMap fun l => le16 (zs s (at' + l * (2 + (n + 7) / 8 + 2 * ((n + 15) / 16)) + 2) n) ++ bitsOf (levelBits s (at' + l * (2 + (n + 7) / 8 + 2 * ((n + 15) / 16)) + 2) n) := by
  unfold treeOf
  rw [treeTo_flat]
  have key : ∀ L : List Nat, (∀ l ∈ L, l < 8) → (L.flatMap fun l => levelOf (UInt8.ofNat (2 ^ (7 - l))) (treeTo (colRead s at' n) l).2) = L.flatMap fun l => le16 (zs s (at' + l * (2 + (n + 7) / 8 + 2 * ((n + 15) / 16)) + 2) n) ++ bitsOf (levelBits s (at' + l * (2 + (n + 7) / 8 + 2 * ((n + 15) / 16)) + 2) n) := by
    intro L
    induction L with
    | nil => intro _; rfl
    | cons a L ih =>
      intro h
      rw [List.flatMap_cons, List.flatMap_cons, level_read s at' n a (h a (by simp)), ih (fun l hl => h l (by simp [hl]))]
  exact key _ (fun l hl => List.mem_range.1 hl)

/-! FIRST: the column has the text's bytes. -/
theorem column_perm {t : List UInt8} {rows : List Nat} (h : IsRows t rows) : (columnOf t rows).Perm t := by
  unfold columnOf
  have h1 : (rows.filter fun p => decide (0 < p)).Perm ((List.range t.length).map (· + 1)) := by
    refine (h.perm.filter _).trans (List.Perm.of_eq ?_)
    rw [List.range_succ_eq_map, List.filter_cons]
    simp only [Nat.lt_irrefl, decide_false, Bool.false_eq_true, if_false]
    rw [List.filter_eq_self.2]
    · intro a ha
      obtain ⟨b, _, rfl⟩ := List.mem_map.1 ha
      simp
  refine (h1.map _).trans (List.Perm.of_eq ?_)
  rw [List.map_map]
  apply List.ext_getElem
  · simp
  · intro i h2 h3
    simp only [List.getElem_map, List.getElem_range, Function.comp, Nat.add_sub_cancel]
    rw [List.getElem?_eq_getElem h3]
    rfl
theorem below_perm {a b : List UInt8} (h : a.Perm b) (c : Nat) : belowOf a c = belowOf b c := by
  unfold belowOf
  rw [(h.filter _).length_eq]
theorem first_perm {a b : List UInt8} (h : a.Perm b) : firstOf a = firstOf b := by
  unfold firstOf
  congr 1
  funext c
  rw [below_perm h]
theorem first_column {t : List UInt8} {rows : List Nat} (h : IsRows t rows) : firstOf (columnOf t rows) = firstOf t := first_perm (column_perm h)
end Rot
end Go.Proofs.YthlincikgdblfaaGreat
