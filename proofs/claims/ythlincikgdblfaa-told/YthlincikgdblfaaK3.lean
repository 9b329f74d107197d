import Derived.Test.YthlincikgdblfaaK2
namespace Go.Proofs.Ythlincikgdblfaa
set_option linter.unusedVariables false
namespace Rot

theorem byte_inj {a b : Nat} (ha : a < 256) (hb : b < 256) (h : UInt8.ofNat a = UInt8.ofNat b) : a = b := by
  have := congrArg UInt8.toNat h
  rw [UInt8.toNat_ofNat', UInt8.toNat_ofNat'] at this
  omega
theorem head_inj {n r s n' r' s' : Nat} (h : headOf n r s = headOf n' r' s') (hn : n < 256) (hn' : n' < 256) (hr : r < 256) (hr' : r' < 256) : n = n' ∧ r = r' := by
  simp only [headOf, le16, le32, List.cons_append, List.nil_append, List.cons.injEq, true_and, and_true] at h
  exact ⟨byte_inj hn hn' h.1, byte_inj hr hr' h.2.2.1⟩
theorem head_len (a b c : Nat) : (headOf a b c).length = 12 := by simp [headOf, le16, le32]

/-- Files tell texts and rates apart. -/
theorem file_inj {t u : List UInt8} {a b : List Nat} {r s : Nat} (ha : IsRows t a) (hb : IsRows u b) (ht : t.length ≤ 250) (hu : u.length ≤ 250) (hr : r < 256) (hs : s < 256) (h : fileOf t a r = fileOf u b s) : t = u ∧ r = s := by
  unfold fileOf at h
  rw [List.append_assoc, List.append_assoc] at h
  obtain ⟨h1, h2⟩ := List.append_inj h (by rw [head_len, head_len])
  obtain ⟨hn, rfl⟩ := head_inj h1 (by omega) (by omega) hr hs
  obtain ⟨_, h3⟩ := List.append_inj h2 (by rw [table_len, table_len]; rfl)
  refine ⟨?_, rfl⟩
  unfold bodyOf sectionsOf at h3
  simp only [List.flatMap_cons, List.flatMap_nil, List.append_nil, id] at h3
  obtain ⟨h4, h5⟩ := List.append_inj h3 rfl
  have hc : (columnOf t a).length = (columnOf u b).length := by rw [column_length ha, column_length hb, hn]
  obtain ⟨h6, _⟩ := List.append_inj h5 (by rw [treeOf_len, treeOf_len, hc])
  have i1 : a.idxOf 0 < a.length := List.idxOf_lt_length_of_mem (rows_zero ha)
  have i2 : b.idxOf 0 < b.length := List.idxOf_lt_length_of_mem (rows_zero hb)
  have l1 : a.length = t.length + 1 := by rw [ha.perm.length_eq, List.length_range]
  have l2 : b.length = u.length + 1 := by rw [hb.perm.length_eq, List.length_range]
  have hl : a.idxOf 0 = b.idxOf 0 := by
    unfold lastOf le16 at h4
    simp only [List.cons.injEq] at h4
    exact byte_inj (by omega) (by omega) h4.1
  exact text_of ha hb (tree_inj hc h6) hl hn
end Rot
end Go.Proofs.Ythlincikgdblfaa
