import Derived.Test.YthlincikgdblfaaGreatV30
import Derived.Test.YthlincikgdblfaaGreatV25
namespace Go.Proofs.YthlincikgdblfaaGreat
set_option linter.unusedVariables false

theorem dd_len {s : List UInt8} {k : Nat} (h : sz s k ≤ (rs s k).length) : (dd s k).length = sz s k := by
  unfold dd
  rw [List.length_take]
  omega
theorem dd_whole {s : List UInt8} {k m : Nat} (hl : m ≤ (dd s k).length) (he : (dd s k).drop m = []) : (dd s k).take m = dd s k ∧ (dd s k).length = m := by
  have h1 := congrArg List.length he
  rw [List.length_drop, List.length_nil] at h1
  exact ⟨List.take_of_length_le (by omega), by omega⟩
theorem chunks (d : List UInt8) (W : Nat) : ∀ m, d.take (m * W) = (List.range m).flatMap fun k => (d.drop (k * W)).take W
  | 0 => by simp
  | m + 1 => by
    rw [Nat.add_mul, Nat.one_mul, List.take_add, chunks d W m, List.range_succ, List.flatMap_append]
    simp
theorem os_zs (P : List UInt8) (n : Nat) : n - Rot.os P n = Rot.zs P 0 n := by
  have := Rot.zs_le P 0 n
  unfold Rot.os
  omega
theorem levelBits_piece (s : List UInt8) (f m n : Nat) (hm : (n + 7) / 8 ≤ m) : Rot.levelBits ((s.drop f).take m) 0 n = Rot.levelBits s f n := by
  unfold Rot.levelBits
  apply List.map_congr_left
  intro i hi
  have hi := List.mem_range.1 hi
  rw [Rot.bit_piece s f m i (by omega)]
theorem good_marks {s : List UInt8} (h : Good s) (W : Rot.Whole (Rot.colRead s 44 (nn s)) (lastIn s)) : ∀ i (hi : i < (Rot.rowsBack (Rot.colRead s 44 (nn s)) (lastIn s)).length), markOk (mk s) (Rot.nums (dd s 4) (Rot.os (mk s) (nn s + 1))) (rr s) i ((Rot.rowsBack (Rot.colRead s 44 (nn s)) (lastIn s))[i]'hi) := by
  intro i hi
  have hcl := Rot.colRead_len s 44 (nn s)
  have hi2 : i ≤ (Rot.colRead s 44 (nn s)).length := by rw [Rot.rowsBack_len] at hi; omega
  obtain ⟨hm, hw⟩ := Rot.metAt_le W hi2
  rw [Rot.rowsBack_get]
  by_cases e : Rot.metAt (Rot.colRead s 44 (nn s)) (lastIn s) i < nn s
  · have := (h.walk.2.1 _ e).2
    rw [hw] at this
    rw [hcl]
    exact this
  · have e2 : Rot.metAt (Rot.colRead s 44 (nn s)) (lastIn s) i = nn s := by omega
    have := h.walk.2.2
    rw [e2] at hw
    rw [hw] at this
    rw [hcl, e2, Nat.sub_self]
    exact this
/-- ONLY FILES: what a load looks at leaves nothing but files. -/
theorem good_is {s : List UInt8} (h : Good s) : Rot.IsFile s (Rot.spell (Rot.colRead s 44 (nn s)) (lastIn s) (Rot.colRead s 44 (nn s)).length) (rr s) := by
  obtain ⟨hn, hr, h12⟩ := h.head.n
  have hcl := Rot.colRead_len s 44 (nn s)
  have W : Rot.Whole (Rot.colRead s 44 (nn s)) (lastIn s) := Rot.whole_of (by rw [hcl]; exact h.walk.1) (fun k hk => (h.walk.2.1 k (by rw [hcl] at hk; exact hk)).1)
  have hR := Rot.rowsBack_is W
  have hcol := Rot.rowsBack_column W
  have hlast := Rot.rowsBack_last W
  have hmk := good_marks h W
  have htl : (Rot.spell (Rot.colRead s 44 (nn s)) (lastIn s) (Rot.colRead s 44 (nn s)).length).length = nn s := by rw [Rot.spell_len, hcl]
  have hrl : (Rot.rowsBack (Rot.colRead s 44 (nn s)) (lastIn s)).length = nn s + 1 := by rw [Rot.rowsBack_len, hcl]
  generalize Rot.spell (Rot.colRead s 44 (nn s)) (lastIn s) (Rot.colRead s 44 (nn s)).length = t at hR hcol htl ⊢
  generalize Rot.rowsBack (Rot.colRead s 44 (nn s)) (lastIn s) = rows at hR hcol hlast hmk hrl
  refine ⟨by omega, hr, rows, hR, ?_⟩
  have hz0 := end_size h.z0 h.l0 h.e0.1
  have hz1 := end_size h.z1 h.l1 h.e1.2.2.1
  have w0 := dd_whole h.l0 h.e0.1
  have w1 := dd_whole h.l1 h.e1.2.2.1
  have w2 := dd_whole h.l2 h.e2.1
  have w3 := dd_whole h.l3 h.e3.2.1
  have w4 := dd_whole h.l4 h.e4.1
  have d0 : dd s 0 = Rot.lastOf rows := by
    have := Rot.nums_bytes (dd s 0) 1 h.l0
    rw [w0.1] at this
    unfold Rot.lastOf
    rw [hlast, ← this]
    show [Rot.numAt (dd s 0) 0].flatMap Rot.le16 = _
    simp [lastIn]
  have d1 : dd s 1 = Rot.treeOf (Rot.columnOf t rows) := by
    rw [hcol, Rot.tree_read]
    have := chunks (dd s 1) (Wd (nn s)) 8
    rw [w1.1] at this
    rw [this]
    have key : ∀ L : List Nat, (∀ l ∈ L, l < 8) → (L.flatMap fun k => ((dd s 1).drop (k * Wd (nn s))).take (Wd (nn s))) = L.flatMap fun l => Rot.le16 (Rot.zs s (44 + l * (2 + (nn s + 7) / 8 + 2 * ((nn s + 15) / 16)) + 2) (nn s)) ++ Rot.bitsOf (Rot.levelBits s (44 + l * (2 + (nn s + 7) / 8 + 2 * ((nn s + 15) / 16)) + 2) (nn s)) := by
      intro L
      induction L with
      | nil => intro _; rfl
      | cons k L ih =>
        intro hL
        have hk := hL k (by simp)
        have hzk := h.e1.1 k hk
        have hlen : (zerosTo (dd s 1) (nn s) 8)[k]? = some (nn s - Rot.os (pc (dd s 1) (nn s) k) (nn s)) := by
          rw [← hzk]
          have hkl : k < (zerosTo (dd s 1) (nn s) 8).length := by rw [zerosTo_len]; exact hk
          rw [List.getElem?_eq_getElem hkl]
          rfl
        rw [List.flatMap_cons, List.flatMap_cons, ih (fun l hl => hL l (by simp [hl])), level_is h.l1 hk hlen (h.e1.2.1 k hk), os_zs, piece_is hz0 hz1 hk]
        unfold piece
        rw [Rot.zs_piece s _ _ (nn s) (Nat.le_refl _) (nn s) (Nat.le_refl _), levelBits_piece s _ _ _ (Nat.le_refl _)]
        rfl
    exact key _ (fun l hl => List.mem_range.1 hl)
  have d2 : dd s 2 = Rot.firstOf t := by
    have := Rot.nums_bytes (dd s 2) 256 h.l2
    rw [w2.1] at this
    rw [← Rot.first_column hR, hcol, ← this]
    unfold Rot.nums Rot.firstOf
    rw [List.flatMap_map]
    have key : ∀ L : List Nat, (∀ l ∈ L, l < 256) → (L.flatMap fun a => Rot.le16 (Rot.numAt (dd s 2) a)) = L.flatMap fun c => Rot.le16 (Rot.belowOf (Rot.colRead s 44 (nn s)) c) := by
      intro L
      induction L with
      | nil => intro _; rfl
      | cons k L ih =>
        intro hL
        rw [List.flatMap_cons, List.flatMap_cons, ih (fun l hl => hL l (by simp [hl])), h.first k (hL k (by simp))]
    exact key _ (fun l hl => List.mem_range.1 hl)
  have d3 : dd s 3 = Rot.marksOf rows (rr s) := by
    have ha := h.e3.1 0 (by decide)
    have hb : Rot.bitsOf (Rot.levelBits (mk s) 0 (nn s + 1)) = mk s ++ (mkD s).flatMap Rot.le16 := by
      unfold Rot.bitsOf Rot.Row.bytes
      rw [← ha.1, ← ha.2]
    have hlv : Rot.levelBits (mk s) 0 (nn s + 1) = rows.map (Rot.isMarked (rr s)) := by
      apply List.ext_getElem
      · simp [Rot.levelBits, hrl]
      · intro i h1 h2
        have hi : i < rows.length := by simpa using h2
        have := (hmk i hi).1
        simpa [Rot.levelBits] using this
    unfold Rot.marksOf
    rw [← hlv, hb]
    unfold mkD
    rw [Rot.nums_bytes _ _ (by rw [List.length_drop]; have := h.l3; omega)]
    unfold mk
    have e := w3.1
    rw [List.take_add] at e
    exact e.symm
  have d4 : dd s 4 = Rot.placesOf rows (rr s) := by
    have hf := filter_take (M := mk s) (Q := Rot.nums (dd s 4) (Rot.os (mk s) (nn s + 1))) (rows := rows) (p := Rot.isMarked (rr s)) (fun i hi => (hmk i hi).1) (fun i hi hb => by
      have h1 := (hmk i hi).2 hb
      have hlt : Rot.os (mk s) i < (Rot.nums (dd s 4) (Rot.os (mk s) (nn s + 1))).length := by rw [Rot.nums_len]; exact os_bit_lt (by omega) hb
      rw [List.getElem?_eq_getElem hlt] at h1 ⊢
      rw [Option.getD_some] at h1
      rw [h1]) rows.length (Nat.le_refl _)
    rw [List.take_length, hrl, List.take_of_length_le (by rw [Rot.nums_len]; exact Nat.le_refl _)] at hf
    unfold Rot.placesOf
    rw [hf, Rot.nums_bytes _ _ h.l4, w4.1]
  have hsecs : Rot.sectionsOf t rows (rr s) = [dd s 0, dd s 1, dd s 2, dd s 3, dd s 4] := by rw [d0, d1, d2, d3, d4]; rfl
  have htab : Rot.tableOf [dd s 0, dd s 1, dd s 2, dd s 3, dd s 4] = (tb s).take 30 := by
    have ht := table_is h.table
    have hl30 : ((Rot.le16 (szAt (tb s) 0) ++ Rot.le32 (smAt (tb s) 0)) ++ ((Rot.le16 (szAt (tb s) 1) ++ Rot.le32 (smAt (tb s) 1)) ++ ((Rot.le16 (szAt (tb s) 2) ++ Rot.le32 (smAt (tb s) 2)) ++ ((Rot.le16 (szAt (tb s) 3) ++ Rot.le32 (smAt (tb s) 3)) ++ (Rot.le16 (szAt (tb s) 4) ++ Rot.le32 (smAt (tb s) 4)))))).length = 30 := rfl
    have ht2 : tb s = ((Rot.le16 (szAt (tb s) 0) ++ Rot.le32 (smAt (tb s) 0)) ++ ((Rot.le16 (szAt (tb s) 1) ++ Rot.le32 (smAt (tb s) 1)) ++ ((Rot.le16 (szAt (tb s) 2) ++ Rot.le32 (smAt (tb s) 2)) ++ ((Rot.le16 (szAt (tb s) 3) ++ Rot.le32 (smAt (tb s) 3)) ++ (Rot.le16 (szAt (tb s) 4) ++ Rot.le32 (smAt (tb s) 4)))))) ++ (tb s).drop 30 := by
      conv => lhs; rw [ht]
      simp only [List.append_assoc]
    have := congrArg (List.take 30) ht2
    rw [List.take_left' hl30] at this
    rw [this]
    unfold Rot.tableOf
    simp only [List.flatMap_cons, List.flatMap_nil, List.append_nil]
    rw [dd_len h.z0, dd_len h.z1, dd_len h.z2, dd_len h.z3, dd_len h.z4, h.e0.2, h.e1.2.2.2, h.e2.2, h.e3.2.2, h.e4.2]
    rfl
  have hbody : Rot.bodyOf [dd s 0, dd s 1, dd s 2, dd s 3, dd s 4] = (tb s).drop 30 := by
    show _ = rs s 0
    rw [body_split h.fin]
    simp [Rot.bodyOf]
  have hlen : 12 + (Rot.tableOf [dd s 0, dd s 1, dd s 2, dd s 3, dd s 4]).length + (Rot.bodyOf [dd s 0, dd s 1, dd s 2, dd s 3, dd s 4]).length = s.length := by
    rw [htab, hbody, List.length_take, List.length_drop]
    have := h.table
    unfold tb at *
    rw [List.length_drop] at *
    omega
  unfold Rot.fileOf
  rw [hsecs, hlen, htl, htab, hbody, List.append_assoc, List.take_append_drop]
  exact head_is h.head
theorem good_file {s : List UInt8} (h : Good s) : ∃ t r, Rot.IsFile s t r := ⟨_, _, good_is h⟩
end Go.Proofs.YthlincikgdblfaaGreat

namespace Go.Proofs.YthlincikgdblfaaGreat
set_option linter.unusedVariables false

theorem le16_at (n : Nat) (h : n < 65536) : (((Rot.le16 n)[0]?).getD 0).toNat + 256 * (((Rot.le16 n)[1]?).getD 0).toNat = n := by
  simp [Rot.le16]
  omega
theorem le32_at (n : Nat) (h : n < 4294967296) : (((Rot.le32 n)[0]?).getD 0).toNat + 256 * (((Rot.le32 n)[1]?).getD 0).toNat + 65536 * (((Rot.le32 n)[2]?).getD 0).toNat + 16777216 * (((Rot.le32 n)[3]?).getD 0).toNat = n := by
  simp [Rot.le32]
  omega
theorem table_sz {a0 a1 a2 a3 a4 rest : List UInt8} (h0 : a0.length < 65536) (h1 : a1.length < 65536) (h2 : a2.length < 65536) (h3 : a3.length < 65536) (h4 : a4.length < 65536) :
    szAt (Rot.tableOf [a0, a1, a2, a3, a4] ++ rest) 0 = a0.length ∧ szAt (Rot.tableOf [a0, a1, a2, a3, a4] ++ rest) 1 = a1.length ∧ szAt (Rot.tableOf [a0, a1, a2, a3, a4] ++ rest) 2 = a2.length ∧ szAt (Rot.tableOf [a0, a1, a2, a3, a4] ++ rest) 3 = a3.length ∧ szAt (Rot.tableOf [a0, a1, a2, a3, a4] ++ rest) 4 = a4.length :=
  ⟨le16_at _ h0, le16_at _ h1, le16_at _ h2, le16_at _ h3, le16_at _ h4⟩
theorem table_sm {a0 a1 a2 a3 a4 rest : List UInt8} (h0 : Rot.sumOf a0 < 4294967296) (h1 : Rot.sumOf a1 < 4294967296) (h2 : Rot.sumOf a2 < 4294967296) (h3 : Rot.sumOf a3 < 4294967296) (h4 : Rot.sumOf a4 < 4294967296) :
    smAt (Rot.tableOf [a0, a1, a2, a3, a4] ++ rest) 0 = Rot.sumOf a0 ∧ smAt (Rot.tableOf [a0, a1, a2, a3, a4] ++ rest) 1 = Rot.sumOf a1 ∧ smAt (Rot.tableOf [a0, a1, a2, a3, a4] ++ rest) 2 = Rot.sumOf a2 ∧ smAt (Rot.tableOf [a0, a1, a2, a3, a4] ++ rest) 3 = Rot.sumOf a3 ∧ smAt (Rot.tableOf [a0, a1, a2, a3, a4] ++ rest) 4 = Rot.sumOf a4 :=
  ⟨le32_at _ h0, le32_at _ h1, le32_at _ h2, le32_at _ h3, le32_at _ h4⟩
/-- Five parts, one behind the other, are taken apart again. -/
theorem parts_of {s a0 a1 a2 a3 a4 : List UInt8} (hs : rs s 0 = a0 ++ (a1 ++ (a2 ++ (a3 ++ a4)))) (z0 : sz s 0 = a0.length) (z1 : sz s 1 = a1.length) (z2 : sz s 2 = a2.length) (z3 : sz s 3 = a3.length) (z4 : sz s 4 = a4.length) :
    (dd s 0 = a0 ∧ dd s 1 = a1 ∧ dd s 2 = a2 ∧ dd s 3 = a3 ∧ dd s 4 = a4) ∧ rs s 5 = [] ∧ sz s 0 ≤ (rs s 0).length ∧ sz s 1 ≤ (rs s 1).length ∧ sz s 2 ≤ (rs s 2).length ∧ sz s 3 ≤ (rs s 3).length ∧ sz s 4 ≤ (rs s 4).length := by
  have r1 : rs s 1 = a1 ++ (a2 ++ (a3 ++ a4)) := by show (rs s 0).drop (sz s 0) = _; rw [hs, z0, List.drop_left]
  have r2 : rs s 2 = a2 ++ (a3 ++ a4) := by show (rs s 1).drop (sz s 1) = _; rw [r1, z1, List.drop_left]
  have r3 : rs s 3 = a3 ++ a4 := by show (rs s 2).drop (sz s 2) = _; rw [r2, z2, List.drop_left]
  have r4 : rs s 4 = a4 := by show (rs s 3).drop (sz s 3) = _; rw [r3, z3, List.drop_left]
  have r5 : rs s 5 = [] := by show (rs s 4).drop (sz s 4) = _; rw [r4, z4, List.drop_length]
  refine ⟨⟨?_, ?_, ?_, ?_, ?_⟩, r5, ?_, ?_, ?_, ?_, ?_⟩
  · unfold dd; rw [hs, z0, List.take_left]
  · unfold dd; rw [r1, z1, List.take_left]
  · unfold dd; rw [r2, z2, List.take_left]
  · unfold dd; rw [r3, z3, List.take_left]
  · unfold dd; rw [r4, z4, List.take_length]
  · rw [hs, z0, List.length_append]; omega
  · rw [r1, z1, List.length_append]; omega
  · rw [r2, z2, List.length_append]; omega
  · rw [r3, z3, List.length_append]; omega
  · rw [r4, z4]; exact Nat.le_refl _
end Go.Proofs.YthlincikgdblfaaGreat

namespace Go.Proofs.YthlincikgdblfaaGreat
set_option linter.unusedVariables false

/-- What a file is, part for part, as a load reads it. -/
structure Apt (s t : List UInt8) (rows : List Nat) (r : Nat) : Prop where
  n : nn s = t.length
  rate : rr s = r
  head : headOk s
  table : 30 ≤ (tb s).length
  dds : dd s 0 = Rot.lastOf rows ∧ dd s 1 = Rot.treeOf (Rot.columnOf t rows) ∧ dd s 2 = Rot.firstOf t ∧ dd s 3 = Rot.marksOf rows r ∧ dd s 4 = Rot.placesOf rows r
  fin : rs s 5 = []
  le : sz s 0 ≤ (rs s 0).length ∧ sz s 1 ≤ (rs s 1).length ∧ sz s 2 ≤ (rs s 2).length ∧ sz s 3 ≤ (rs s 3).length ∧ sz s 4 ≤ (rs s 4).length
  szs : sz s 0 = (dd s 0).length ∧ sz s 1 = (dd s 1).length
  sums : Rot.sumOf (dd s 0) = cs s 0 ∧ Rot.sumOf (dd s 1) = cs s 1 ∧ Rot.sumOf (dd s 2) = cs s 2 ∧ Rot.sumOf (dd s 3) = cs s 3 ∧ Rot.sumOf (dd s 4) = cs s 4
theorem file_apt {t : List UInt8} {rows : List Nat} {r : Nat} (hR : Rot.IsRows t rows) (ht : t.length ≤ 250) (hr : isRate (r : Int) = true) : Apt (Rot.fileOf t rows r) t rows r := by
  have hr8 := Rot.rate_le hr
  have hrl := Rot.rows_length hR
  have hcl := column_length hR
  have l0 : (Rot.lastOf rows).length = 2 := rfl
  have l1 := treeOf_len (Rot.columnOf t rows)
  have l2 := first_len t
  have l3 := marks_len rows r
  have l4 := places_len rows r
  have hfl := List.length_filter_le (Rot.isMarked r) rows
  have hsec : Rot.sectionsOf t rows r = [Rot.lastOf rows, Rot.treeOf (Rot.columnOf t rows), Rot.firstOf t, Rot.marksOf rows r, Rot.placesOf rows r] := rfl
  have hfile : Rot.fileOf t rows r = Rot.headOf t.length r (Rot.fileOf t rows r).length ++ (Rot.tableOf [Rot.lastOf rows, Rot.treeOf (Rot.columnOf t rows), Rot.firstOf t, Rot.marksOf rows r, Rot.placesOf rows r] ++ Rot.bodyOf [Rot.lastOf rows, Rot.treeOf (Rot.columnOf t rows), Rot.firstOf t, Rot.marksOf rows r, Rot.placesOf rows r]) := by
    have hl : (Rot.fileOf t rows r).length = 12 + (Rot.tableOf (Rot.sectionsOf t rows r)).length + (Rot.bodyOf (Rot.sectionsOf t rows r)).length := by
      unfold Rot.fileOf
      rw [List.length_append, List.length_append, Rot.head_len]
    rw [hl, ← hsec]
    unfold Rot.fileOf
    rw [List.append_assoc]
  have hbl : (Rot.fileOf t rows r).length < 4294967296 := by
    unfold Rot.fileOf
    rw [List.length_append, List.length_append, Rot.head_len, hsec, table_len]
    simp only [Rot.bodyOf, List.flatMap_cons, List.flatMap_nil, id, List.length_append, List.length_nil, List.length_cons]
    omega
  generalize Rot.fileOf t rows r = s at *
  have htb : tb s = Rot.tableOf [Rot.lastOf rows, Rot.treeOf (Rot.columnOf t rows), Rot.firstOf t, Rot.marksOf rows r, Rot.placesOf rows r] ++ Rot.bodyOf [Rot.lastOf rows, Rot.treeOf (Rot.columnOf t rows), Rot.firstOf t, Rot.marksOf rows r, Rot.placesOf rows r] := by
    unfold tb
    rw [hfile]
    exact List.drop_left' (Rot.head_len _ _ _)
  have ts := table_sz (a0 := Rot.lastOf rows) (a1 := Rot.treeOf (Rot.columnOf t rows)) (a2 := Rot.firstOf t) (a3 := Rot.marksOf rows r) (a4 := Rot.placesOf rows r) (rest := Rot.bodyOf [Rot.lastOf rows, Rot.treeOf (Rot.columnOf t rows), Rot.firstOf t, Rot.marksOf rows r, Rot.placesOf rows r]) (by omega) (by omega) (by omega) (by omega) (by omega)
  have tm := table_sm (a0 := Rot.lastOf rows) (a1 := Rot.treeOf (Rot.columnOf t rows)) (a2 := Rot.firstOf t) (a3 := Rot.marksOf rows r) (a4 := Rot.placesOf rows r) (rest := Rot.bodyOf [Rot.lastOf rows, Rot.treeOf (Rot.columnOf t rows), Rot.firstOf t, Rot.marksOf rows r, Rot.placesOf rows r]) (sum_lt _) (sum_lt _) (sum_lt _) (sum_lt _) (sum_lt _)
  rw [← htb] at ts tm
  obtain ⟨z0, z1, z2, z3, z4⟩ := ts
  obtain ⟨s0, s1, s2, s3, s4⟩ := tm
  have hrs : rs s 0 = Rot.lastOf rows ++ (Rot.treeOf (Rot.columnOf t rows) ++ (Rot.firstOf t ++ (Rot.marksOf rows r ++ Rot.placesOf rows r))) := by
    show (tb s).drop 30 = _
    rw [htb, List.drop_left' (by rw [table_len]; rfl)]
    simp [Rot.bodyOf]
  obtain ⟨⟨e0, e1, e2, e3, e4⟩, hfin, hle⟩ := parts_of hrs z0 z1 z2 z3 z4
  have h16 := le16_at t.length (by omega)
  have h32 := le32_at s.length hbl
  have hr6 : (UInt8.ofNat r).toNat = r := by rw [UInt8.toNat_ofNat']; omega
  refine ⟨?_, ?_, ?_, ?_, ⟨e0, e1, e2, e3, e4⟩, hfin, hle, ⟨?_, ?_⟩, ?_⟩
  · unfold nn
    rw [hfile]
    exact h16
  · unfold rr
    rw [hfile]
    exact hr6
  · refine ⟨_, _, UInt8.ofNat r, _, _, _, _, _, hfile, ?_, ?_, h32⟩
    · exact Nat.le_trans (Nat.le_of_eq h16) ht
    · rw [hr6]; exact hr
  · rw [htb, List.length_append, table_len]
    simp
  · rw [e0]; exact z0
  · rw [e1]; exact z1
  · rw [e0, e1, e2, e3, e4]
    exact ⟨s0.symm, s1.symm, s2.symm, s3.symm, s4.symm⟩
end Go.Proofs.YthlincikgdblfaaGreat

namespace Go.Proofs.YthlincikgdblfaaGreat
set_option linter.unusedVariables false

theorem flat_len_eq (f : Nat → List UInt8) (W : Nat) (hf : ∀ k, (f k).length = W) : ∀ m, ((List.range m).flatMap f).length = m * W
  | 0 => by simp
  | m + 1 => by
    rw [List.range_succ, List.flatMap_append, List.length_append, flat_len_eq f W hf m, Nat.add_mul]
    simp [hf]
theorem chunk_of (f : Nat → List UInt8) (W : Nat) (hf : ∀ k, (f k).length = W) : ∀ m k, k < m → (((List.range m).flatMap f).drop (k * W)).take W = f k
  | 0, k, h => absurd h (Nat.not_lt_zero _)
  | m + 1, k, h => by
    have hl := flat_len_eq f W hf m
    rw [List.range_succ, List.flatMap_append]
    by_cases e : k < m
    · have hle : (k + 1) * W ≤ m * W := Nat.mul_le_mul_right _ (by omega)
      rw [Nat.add_mul, Nat.one_mul] at hle
      rw [List.drop_append_of_le_length (by omega), List.take_append_of_le_length (by rw [List.length_drop]; omega), chunk_of f W hf m k e]
    · have e2 : k = m := by omega
      subst e2
      rw [List.drop_left' hl]
      simp
      exact List.take_of_length_le (Nat.le_of_eq (hf k))
theorem numAt_flat : ∀ (D : List Nat) (rest : List UInt8) (i : Nat) (hi : i < D.length), (∀ x ∈ D, x < 65536) → Rot.numAt (D.flatMap Rot.le16 ++ rest) i = D[i]'hi
  | x :: D, rest, 0, hi, h => le16_at x (h x (by simp))
  | x :: D, rest, i + 1, hi, h => by
    have ih := numAt_flat D rest i (by simpa using hi) (fun y hy => h y (by simp [hy]))
    rw [List.getElem_cons_succ, ← ih]
    rfl
theorem nums_flat (D : List Nat) (rest : List UInt8) (h : ∀ x ∈ D, x < 65536) : Rot.nums (D.flatMap Rot.le16 ++ rest) D.length = D := by
  apply List.ext_getElem
  · rw [Rot.nums_len]
  · intro i h1 h2
    rw [Rot.nums_get, numAt_flat D rest i h2 h]
theorem ahead_lt (l : List Bool) (hl : l.length ≤ 300) : ∀ x ∈ (Rot.rowOf l).ahead, x < 65536 := by
  intro x hx
  have := row_ahead l x hx
  omega
/-- A level of a tree, read again. -/
theorem level_back {d : List UInt8} {n k z : Nat} {bits : List Bool} (hb : bits.length = n) (hn : n ≤ 300) (hz : z < 65536) (h : (d.drop (k * Wd n)).take (Wd n) = Rot.le16 z ++ Rot.bitsOf bits) : zAt d n k = z ∧ pc d n k = (Rot.rowOf bits).packed ∧ dc d n k = (Rot.rowOf bits).ahead := by
  have fp := (row_fits bits).packed
  have fa := (row_fits bits).ahead
  rw [row_count, hb] at fp fa
  have e : d.drop (k * Wd n) = Rot.le16 z ++ ((Rot.rowOf bits).packed ++ ((Rot.rowOf bits).ahead.flatMap Rot.le16 ++ d.drop (k * Wd n + Wd n))) := by
    conv => lhs; rw [← List.take_append_drop (Wd n) (d.drop (k * Wd n)), h, List.drop_drop]
    unfold Rot.bitsOf Rot.Row.bytes
    simp only [List.append_assoc]
  have e2 : d.drop (k * Wd n + 2) = (Rot.rowOf bits).packed ++ ((Rot.rowOf bits).ahead.flatMap Rot.le16 ++ d.drop (k * Wd n + Wd n)) := by
    rw [← List.drop_drop, e]
    rfl
  refine ⟨?_, ?_, ?_⟩
  · unfold zAt
    rw [e]
    exact le16_at z hz
  · unfold pc
    rw [e2, List.take_left' fp]
  · unfold dc
    rw [e2, List.drop_left' fp, ← fa, nums_flat _ _ (ahead_lt bits (by omega))]
end Go.Proofs.YthlincikgdblfaaGreat
