import Derived.Test.YthlincikgdblfaaGreatZ38
namespace Go.Proofs.YthlincikgdblfaaGreat
set_option linter.unusedVariables false

/-- What a file is, part for part, as a load reads it. -/
structure Apt (s t : List UInt8) (rows : List Nat) (r : Nat) : Prop where
  n : nn s = t.length
  rate : rr s = r
  head : headOk s
  table : 30 ≤ (tb s).length
  dds : dd s 0 = Rot.lastOf rows ∧ dd s 1 = Rot.treeOf (Rot.columnOf t rows) ∧ dd s 2 = Rot.firstOf t ∧ dd s 3 = Rot.marksOf rows r ∧ dd s 4 = Rot.placesOf rows r
  fin : rs s 5 = []
  le : sz s 0 ≤ (rs s 0).length ∧ sz s 1 ≤ (rs s 1).length ∧ sz s 2 ≤ (rs s 2).length ∧ sz s 3 ≤ (rs s 3).length ∧ sz s 4 ≤ (rs s 4).length
  szs : sz s 0 = (dd s 0).length ∧ sz s 1 = (dd s 1).length
  sums : Rot.sumOf (dd s 0) = cs s 0 ∧ Rot.sumOf (dd s 1) = cs s 1 ∧ Rot.sumOf (dd s 2) = cs s 2 ∧ Rot.sumOf (dd s 3) = cs s 3 ∧ Rot.sumOf (dd s 4) = cs s 4
theorem file_apt {t : List UInt8} {rows : List Nat} {r : Nat} (hR : Rot.IsRows t rows) (ht : t.length ≤ 250) (hr : isRate (r : Int) = true) : Apt (Rot.fileOf t rows r) t rows r := by
  have hr8 := Rot.rate_le hr
  have hrl := Rot.rows_length hR
  have hcl := column_length hR
  have l0 : (Rot.lastOf rows).length = 2 := rfl
  have l1 := treeOf_len (Rot.columnOf t rows)
  have l2 := first_len t
  have l3 := marks_len rows r
  have l4 := places_len rows r
  have hfl := List.length_filter_le (Rot.isMarked r) rows
  have hsec : Rot.sectionsOf t rows r = [Rot.lastOf rows, Rot.treeOf (Rot.columnOf t rows), Rot.firstOf t, Rot.marksOf rows r, Rot.placesOf rows r] := rfl
  have hfile : Rot.fileOf t rows r = Rot.headOf t.length r (Rot.fileOf t rows r).length ++ (Rot.tableOf [Rot.lastOf rows, Rot.treeOf (Rot.columnOf t rows), Rot.firstOf t, Rot.marksOf rows r, Rot.placesOf rows r] ++ Rot.bodyOf [Rot.lastOf rows, Rot.treeOf (Rot.columnOf t rows), Rot.firstOf t, Rot.marksOf rows r, Rot.placesOf rows r]) := by
    have hl : (Rot.fileOf t rows r).length = 12 + (Rot.tableOf (Rot.sectionsOf t rows r)).length + (Rot.bodyOf (Rot.sectionsOf t rows r)).length := by
      unfold Rot.fileOf
      rw [List.length_append, List.length_append, Rot.head_len]
    rw [hl, ← hsec]
    unfold Rot.fileOf
    rw [List.append_assoc]
  have hbl : (Rot.fileOf t rows r).length < 4294967296 := by
    unfold Rot.fileOf
    rw [List.length_append, List.length_append, Rot.head_len, hsec, table_len]
    simp only [Rot.bodyOf, List.flatMap_cons, List.flatMap_nil, id, List.length_append, List.length_nil, List.length_cons]
    omega
  generalize Rot.fileOf t rows r = s at *
  have htb : tb s = Rot.tableOf [Rot.lastOf rows, Rot.treeOf (Rot.columnOf t rows), Rot.firstOf t, Rot.marksOf rows r, Rot.placesOf rows r] ++ Rot.bodyOf [Rot.lastOf rows, Rot.treeOf (Rot.columnOf t rows), Rot.firstOf t, Rot.marksOf rows r, Rot.placesOf rows r] := by
    unfold tb
    rw [hfile]
    exact List.drop_left' (Rot.head_len _ _ _)
  have ts := table_sz (a0 := Rot.lastOf rows) (a1 := Rot.treeOf (Rot.columnOf t rows)) (a2 := Rot.firstOf t) (a3 := Rot.marksOf rows r) (a4 := Rot.placesOf rows r) (rest := Rot.bodyOf [Rot.lastOf rows, Rot.treeOf (Rot.columnOf t rows), Rot.firstOf t, Rot.marksOf rows r, Rot.placesOf rows r]) (by omega) (by omega) (by omega) (by omega) (by omega)
  have tm := table_sm (a0 := Rot.lastOf rows) (a1 := Rot.treeOf (Rot.columnOf t rows)) (a2 := Rot.firstOf t) (a3 := Rot.marksOf rows r) (a4 := Rot.placesOf rows r) (rest := Rot.bodyOf [Rot.lastOf rows, Rot.treeOf (Rot.columnOf t rows), Rot.firstOf t, Rot.marksOf rows r, Rot.placesOf rows r]) (sum_lt _) (sum_lt _) (sum_lt _) (sum_lt _) (sum_lt _)
  rw [← htb] at ts tm
  obtain ⟨z0, z1, z2, z3, z4⟩ := ts
  obtain ⟨s0, s1, s2, s3, s4⟩ := tm
  have hrs : rs s 0 = Rot.lastOf rows ++ (Rot.treeOf (Rot.columnOf t rows) ++ (Rot.firstOf t ++ (Rot.marksOf rows r ++ Rot.placesOf rows r))) := by
    show (tb s).drop 30 = _
    rw [htb, List.drop_left' (by rw [table_len]; rfl)]
    simp [Rot.bodyOf]
  obtain ⟨⟨e0, e1, e2, e3, e4⟩, hfin, hle⟩ := parts_of hrs z0 z1 z2 z3 z4
  have h16 := le16_at t.length (by omega)
  have h32 := le32_at s.length hbl
  have hr6 : (UInt8.ofNat r).toNat = r := by rw [UInt8.toNat_ofNat']; omega
  refine ⟨?_, ?_, ?_, ?_, ⟨e0, e1, e2, e3, e4⟩, hfin, hle, ⟨?_, ?_⟩, ?_⟩
  · unfold nn
    rw [hfile]
    exact h16
  · unfold rr
    rw [hfile]
    exact hr6
  · refine ⟨_, _, UInt8.ofNat r, _, _, _, _, _, hfile, ?_, ?_, h32⟩
    · exact Nat.le_trans (Nat.le_of_eq h16) ht
    · rw [hr6]; exact hr
  · rw [htb, List.length_append, table_len]
    simp
  · rw [e0]; exact z0
  · rw [e1]; exact z1
  · rw [e0, e1, e2, e3, e4]
    exact ⟨s0.symm, s1.symm, s2.symm, s3.symm, s4.symm⟩
end Go.Proofs.YthlincikgdblfaaGreat

namespace Go.Proofs.YthlincikgdblfaaGreat
set_option linter.unusedVariables false

theorem flat_len_eq (f : Nat → List UInt8) (W : Nat) (hf : ∀ k, (f k).length = W) : ∀ m, ((List.range m).flatMap f).length = m * W
  | 0 => by simp
  | m + 1 => by
    rw [List.range_succ, List.flatMap_append, List.length_append, flat_len_eq f W hf m, Nat.add_mul]
    simp [hf]
theorem chunk_of (f : Nat → List UInt8) (W : Nat) (hf : ∀ k, (f k).length = W) : ∀ m k, k < m → (((List.range m).flatMap f).drop (k * W)).take W = f k
  | 0, k, h => absurd h (Nat.not_lt_zero _)
  | m + 1, k, h => by
    have hl := flat_len_eq f W hf m
    rw [List.range_succ, List.flatMap_append]
    by_cases e : k < m
    · have hle : (k + 1) * W ≤ m * W := Nat.mul_le_mul_right _ (by omega)
      rw [Nat.add_mul, Nat.one_mul] at hle
      rw [List.drop_append_of_le_length (by omega), List.take_append_of_le_length (by rw [List.length_drop]; omega), chunk_of f W hf m k e]
    · have e2 : k = m := by omega
      subst e2
      rw [List.drop_left' hl]
      simp
      exact List.take_of_length_le (Nat.le_of_eq (hf k))
theorem numAt_flat : ∀ (D : List Nat) (rest : List UInt8) (i : Nat) (hi : i < D.length), (∀ x ∈ D, x < 65536) → Rot.numAt (D.flatMap Rot.le16 ++ rest) i = D[i]'hi
  | x :: D, rest, 0, hi, h => le16_at x (h x (by simp))
  | x :: D, rest, i + 1, hi, h => by
    have ih := numAt_flat D rest i (by simpa using hi) (fun y hy => h y (by simp [hy]))
    rw [List.getElem_cons_succ, ← ih]
    rfl
theorem nums_flat (D : List Nat) (rest : List UInt8) (h : ∀ x ∈ D, x < 65536) : Rot.nums (D.flatMap Rot.le16 ++ rest) D.length = D := by
  apply List.ext_getElem
  · rw [Rot.nums_len]
  · intro i h1 h2
    rw [Rot.nums_get, numAt_flat D rest i h2 h]
theorem ahead_lt (l : List Bool) (hl : l.length ≤ 300) : ∀ x ∈ (Rot.rowOf l).ahead, x < 65536 := by
  intro x hx
  have := row_ahead l x hx
  omega
/-- A level of a tree, read again. -/
theorem level_back {d : List UInt8} {n k z : Nat} {bits : List Bool} (hb : bits.length = n) (hn : n ≤ 300) (hz : z < 65536) (h : (d.drop (k * Wd n)).take (Wd n) = Rot.le16 z ++ Rot.bitsOf bits) : zAt d n k = z ∧ pc d n k = (Rot.rowOf bits).packed ∧ dc d n k = (Rot.rowOf bits).ahead := by
  have fp := (row_fits bits).packed
  have fa := (row_fits bits).ahead
  rw [row_count, hb] at fp fa
  have e : d.drop (k * Wd n) = Rot.le16 z ++ ((Rot.rowOf bits).packed ++ ((Rot.rowOf bits).ahead.flatMap Rot.le16 ++ d.drop (k * Wd n + Wd n))) := by
    conv => lhs; rw [← List.take_append_drop (Wd n) (d.drop (k * Wd n)), h, List.drop_drop]
    unfold Rot.bitsOf Rot.Row.bytes
    simp only [List.append_assoc]
  have e2 : d.drop (k * Wd n + 2) = (Rot.rowOf bits).packed ++ ((Rot.rowOf bits).ahead.flatMap Rot.le16 ++ d.drop (k * Wd n + Wd n)) := by
    rw [← List.drop_drop, e]
    rfl
  refine ⟨?_, ?_, ?_⟩
  · unfold zAt
    rw [e]
    exact le16_at z hz
  · unfold pc
    rw [e2, List.take_left' fp]
  · unfold dc
    rw [e2, List.drop_left' fp, ← fa, nums_flat _ _ (ahead_lt bits (by omega))]
end Go.Proofs.YthlincikgdblfaaGreat

namespace Go.Proofs.YthlincikgdblfaaGreat
set_option linter.unusedVariables false

theorem levelBytes_len (z : Nat) (bits : List Bool) (n : Nat) (hb : bits.length = n) : (Rot.le16 z ++ Rot.bitsOf bits).length = Wd n := by
  have fp := (row_fits bits).packed
  have fa := (row_fits bits).ahead
  rw [row_count, hb] at fp fa
  have hf : ∀ l : List Nat, (l.flatMap Rot.le16).length = 2 * l.length := flat_len
  unfold Rot.bitsOf Rot.Row.bytes
  rw [List.length_append, List.length_append, hf, fp, fa]
  show 2 + _ = _
  unfold Wd
  omega
/-- THE TREE OF A FILE keeps what a load looks at. -/
theorem tree_good {s : List UInt8} {n : Nat} (hn : nn s = n) (hn2 : n ≤ 250) (hd : dd s 1 = Rot.treeOf (Rot.colRead s 44 n)) (h0 : sz s 0 = 2) (h1 : sz s 1 = 8 * Wd n) : zerosOk (zerosTo (dd s 1) (nn s) 8) (pc (dd s 1) (nn s)) (nn s) 8 ∧ bitsOk (pc (dd s 1) (nn s)) (dc (dd s 1) (nn s)) (nn s) 8 := by
  subst hn
  have hlb : ∀ f, (Rot.levelBits s f (nn s)).length = nn s := fun f => by simp [Rot.levelBits]
  have key : ∀ k, k < 8 → zAt (dd s 1) (nn s) k = Rot.zs s (Rot.lvl 44 (nn s) k) (nn s) ∧ pc (dd s 1) (nn s) k = (Rot.rowOf (Rot.levelBits s (Rot.lvl 44 (nn s) k) (nn s))).packed ∧ dc (dd s 1) (nn s) k = (Rot.rowOf (Rot.levelBits s (Rot.lvl 44 (nn s) k) (nn s))).ahead := by
    intro k hk
    refine level_back (hlb _) (by omega) (by have := Rot.zs_le s (Rot.lvl 44 (nn s) k) (nn s); omega) ?_
    rw [hd, Rot.tree_read]
    exact chunk_of _ (Wd (nn s)) (fun l => levelBytes_len _ _ _ (hlb _)) 8 k hk
  have lev : ∀ k, k < 8 → Rot.levelBits (pc (dd s 1) (nn s) k) 0 (nn s) = Rot.levelBits s (Rot.lvl 44 (nn s) k) (nn s) := by
    intro k hk
    rw [piece_is h0 h1 hk]
    exact levelBits_piece s _ _ _ (Nat.le_refl _)
  refine ⟨fun k hk => ?_, fun k hk => ?_⟩
  · have hz : (zerosTo (dd s 1) (nn s) 8)[k]? = some (zAt (dd s 1) (nn s) k) := by
      unfold zerosTo
      rw [List.getElem?_map, List.getElem?_range hk]
      rfl
    rw [hz, Option.getD_some, (key k hk).1, os_zs, piece_is h0 h1 hk]
    exact (Rot.zs_piece s _ _ (nn s) (Nat.le_refl _) (nn s) (Nat.le_refl _)).symm
  · unfold agrees
    rw [lev k hk]
    exact ⟨(key k hk).2.1, (key k hk).2.2⟩
/-- THE FIRST ROWS OF A FILE. -/
theorem first_good {s t : List UInt8} {rows : List Nat} {n : Nat} (hR : Rot.IsRows t rows) (hn : nn s = n) (hn2 : n ≤ 250) (hl : t.length = n) (hc : Rot.colRead s 44 n = Rot.columnOf t rows) (hd : dd s 2 = Rot.firstOf t) : firstOk (Rot.numAt (dd s 2)) s (nn s) := by
  intro c hc2
  subst hn
  rw [hd, ← Rot.first_column hR, ← hc]
  have hb : ∀ x ∈ (List.range 256).map (Rot.belowOf (Rot.colRead s 44 (nn s))), x < 65536 := by
    intro x hx
    obtain ⟨i, _, rfl⟩ := List.mem_map.1 hx
    have := Rot.below_le (Rot.colRead s 44 (nn s)) i
    have h2 := Rot.colRead_len s 44 (nn s)
    omega
  have hf : Rot.firstOf (Rot.colRead s 44 (nn s)) = ((List.range 256).map (Rot.belowOf (Rot.colRead s 44 (nn s)))).flatMap Rot.le16 ++ [] := by
    unfold Rot.firstOf
    rw [List.flatMap_map, List.append_nil]
  rw [hf, numAt_flat _ _ c (by simpa using hc2) hb]
  simp
end Go.Proofs.YthlincikgdblfaaGreat
