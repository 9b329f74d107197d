import Derived.Test.YthlincikgdblfaaGreatA17
namespace Go.Proofs.YthlincikgdblfaaGreat
set_option linter.unusedVariables false
namespace Rot

theorem multiples (r : Nat) (hr : 0 < r) (n : Nat) : ((List.range (n + 1)).filter (isMarked r)).length = n / r + 1 := by
  induction n with
  | zero => simp [isMarked]
  | succ n ih =>
    rw [List.range_succ, List.filter_append, List.length_append, ih, Nat.succ_div]
    by_cases h : r ∣ n + 1
    · have : isMarked r (n + 1) = true := by simp [isMarked, Nat.mod_eq_zero_of_dvd h]
      simp [this, h]
    · have : isMarked r (n + 1) = false := by
        simp only [isMarked, beq_eq_false_iff_ne]
        exact fun e => h (Nat.dvd_of_mod_eq_zero e)
      simp [this, h]

/-- How many bytes a file has. -/
def sizeOf (n r : Nat) : Nat := 44 + 8 * (2 + (n + 7) / 8 + 2 * ((n + 15) / 16)) + 512 + ((n + 1 + 7) / 8 + 2 * ((n + 1 + 15) / 16)) + 2 * (n / r + 1)

theorem file_size {t : List UInt8} {rows : List Nat} (h : IsRows t rows) (r : Nat) (hr : 0 < r) : (fileOf t rows r).length = sizeOf t.length r ∧ 12 + (tableOf (sectionsOf t rows r)).length + (bodyOf (sectionsOf t rows r)).length = sizeOf t.length r := by
  have hl : rows.length = t.length + 1 := by rw [h.perm.length_eq, List.length_range]
  have hm : (rows.filter (isMarked r)).length = t.length / r + 1 := by rw [(h.perm.filter _).length_eq, multiples r hr]
  have ht : (tableOf (sectionsOf t rows r)).length = 30 := by rw [table_len]; rfl
  have hb : (bodyOf (sectionsOf t rows r)).length = 2 + 8 * (2 + (t.length + 7) / 8 + 2 * ((t.length + 15) / 16)) + 512 + ((t.length + 1 + 7) / 8 + 2 * ((t.length + 1 + 15) / 16)) + 2 * (t.length / r + 1) := by
    unfold bodyOf sectionsOf
    simp only [List.flatMap_cons, List.flatMap_nil, List.length_append, List.append_nil, id]
    rw [last_len, treeOf_len, first_len, marks_len, places_len, column_length h, hl, hm]
    omega
  have hh : ∀ a b c, (headOf a b c).length = 12 := by intro a b c; simp [headOf, le16, le32]
  constructor
  · unfold fileOf
    rw [List.length_append, List.length_append, hh, ht, hb]
    unfold sizeOf
    omega
  · rw [ht, hb]
    unfold sizeOf
    omega
theorem size_le (n r : Nat) (hn : n ≤ 250) : 577 ≤ sizeOf n r ∧ sizeOf n r ≤ 2000 := by
  unfold sizeOf
  have : n / r ≤ n := Nat.div_le_self _ _
  generalize n / r = q at this
  omega
end Rot
end Go.Proofs.YthlincikgdblfaaGreat
