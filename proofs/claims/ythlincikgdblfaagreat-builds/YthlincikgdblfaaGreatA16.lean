import Derived.Test.YthlincikgdblfaaGreatA15
import Derived.Test.YthlincikgdblfaaGreatA9
import Derived.Test.YthlincikgdblfaaGreatA13
namespace Go.Proofs.YthlincikgdblfaaGreat
open Go.RowKit
set_option linter.unusedVariables false

theorem Bs.up {w w' : World} {b c : Nat} {v : Value} {l : List UInt8} (h : Bs w b v l) (hb : c ≤ b) (g : w.grownBy w' none) : Bs w' c v l := (h.mono hb).kept0 g
theorem rows_lt {t : List UInt8} {rows : List Nat} (h : Rot.IsRows t rows) : ∀ x ∈ rows, x ≤ t.length := by
  intro x hx
  have := h.perm.mem_iff.1 hx
  rw [List.mem_range] at this
  omega
theorem rows_zero {t : List UInt8} {rows : List Nat} (h : Rot.IsRows t rows) : 0 ∈ rows := h.perm.mem_iff.2 (List.mem_range.2 (Nat.succ_pos _))
theorem Is.up {w w' : World} {b : Nat} {v : Value} {l : List Nat} (h : Is w b v l) (g : w.grownBy w' none) : Is w' b v l := ownsRow_kept0 h g

theorem column_length {t : List UInt8} {rows : List Nat} (h : Rot.IsRows t rows) : (Rot.columnOf t rows).length = t.length := by
  unfold Rot.columnOf
  rw [List.length_map, (h.perm.filter _).length_eq, List.range_succ_eq_map, List.filter_cons]
  rw [if_neg (by simp), List.filter_eq_self.2 (by intro a ha; rw [List.mem_map] at ha; obtain ⟨b, _, rfl⟩ := ha; simp)]
  simp
/-- Five cells, one behind the other, are stored. -/
def put5 (w : World) (b : Nat) (x0 x1 x2 x3 x4 : Value) : World := ((((w.setCell ⟨b, 0, none⟩ x0).setCell ⟨b, 1, none⟩ x1).setCell ⟨b, 2, none⟩ x2).setCell ⟨b, 3, none⟩ x3).setCell ⟨b, 4, none⟩ x4
theorem grown_put5 (w : World) (b : Nat) (x0 x1 x2 x3 x4 : Value) : w.grownBy (put5 w b x0 x1 x2 x3 x4) (some b) := by
  unfold put5
  exact grown_trans (grown_trans (grown_trans (grown_trans (grown_setCell w b 0 x0) (grown_setCell _ b 1 x1) (Or.inl rfl)) (grown_setCell _ b 2 x2) (Or.inl rfl)) (grown_setCell _ b 3 x3) (Or.inl rfl)) (grown_setCell _ b 4 x4) (Or.inl rfl)
theorem Bs.put5 {w : World} {b c : Nat} {v : Value} {l : List UInt8} (h : Bs w c v l) (hb : b < c) (x0 x1 x2 x3 x4 : Value) (B : Nat) (hB : B ≤ c) : Bs (put5 w b x0 x1 x2 x3 x4) B v l :=
  (h.kept (grown_put5 w b x0 x1 x2 x3 x4) (by
    cases e : v.ownBlock with
    | none => exact Or.inl rfl
    | some k => exact Or.inr (fun e2 => by cases e2; have := (h.lt e).1; omega))).mono hB

set_option maxRecDepth 100000 in
set_option maxHeartbeats 2000000 in
theorem sections_any (s : ByteArray) (r : Nat) (w : World) (hs : s.size ≤ 250) (hr1 : 1 ≤ r) (hr2 : r ≤ 8) :
    Calls Tryz.prog 60 #[.string s, .int .i64 r] w fun e w' => ∃ rows v0 v1 v2 v3 v4, e = .returned (.agg #[v0, v1, v2, v3, v4]) ∧ Rot.IsRows s.data.toList rows ∧
      Bs w' w.heap.size v0 (Rot.lastOf rows) ∧ Bs w' w.heap.size v1 (Rot.treeOf (Rot.columnOf s.data.toList rows)) ∧ Bs w' w.heap.size v2 (Rot.firstOf s.data.toList) ∧ Bs w' w.heap.size v3 (Rot.marksOf rows r) ∧ Bs w' w.heap.size v4 (Rot.placesOf rows r) ∧ w.grownBy w' none := by
  go_enter Tryz.func60, Tryz.ntmps60
  go_wp2_with fail
  refine (rows_any s _ hs).mono ?_
  rintro e w1 ⟨g, cap, rows, rfl, hR, hrl, I, G1⟩
  have hsl : s.data.toList.length = s.size := by simp
  have hlt : ∀ x ∈ rows, x < 1000 := fun x hx => by have := rows_lt hR x hx; omega
  have hle : ∀ x ∈ rows, x ≤ s.size := fun x hx => by have := rows_lt hR x hx; omega
  have h0 := rows_zero hR
  have hlen : rows.length < 1000 := by omega
  have hcl : (Rot.columnOf s.data.toList rows).length ≤ 250 := by rw [column_length hR]; omega
  rw [← hrl] at I ⊢
  have HR := hide hR
  have Hlt := hide hlt
  have Hle := hide hle
  have H0 := hide h0
  have Hcl := hide hcl
  clear hR hlt hle h0 hcl hrl
  go_wp2_with fail
  refine (last_any _ g cap rows _ I (unhide H0) hlen).mono ?_
  rintro e w2 ⟨v0, rfl, S0, G2⟩
  have I2 := Is.up I G2
  clear I
  go_wp2_with fail
  refine (column_any _ s g cap rows _ I2 (unhide Hle) hlen (by omega)).mono ?_
  rintro e w3 ⟨vc, rfl, SC, G3⟩
  have I3 := Is.up I2 G3
  clear I2
  go_wp2_with fail
  refine (tree_any w2.heap.size _ _ _ SC G3.size (unhide Hcl)).mono ?_
  rintro e w4 ⟨v1, rfl, S1, G4⟩
  have I4 := Is.up I3 G4
  clear I3
  go_wp2_with fail
  refine (first_any s _ hs).mono ?_
  rintro e w5 ⟨v2, rfl, S2, G5⟩
  have I5 := Is.up I4 G5
  clear I4
  go_wp2_with fail
  refine (marks_any _ g cap rows r _ I5 (unhide Hlt) hlen hr1 hr2).mono ?_
  rintro e w6 ⟨v3, rfl, S3, G6⟩
  have I6 := Is.up I5 G6
  clear I5
  go_wp2_with fail
  refine (places_any _ _ rows r _ I6 (unhide Hlt) hlen hr1 hr2).mono ?_
  rintro e w7 ⟨v4, rfl, S4, G7⟩
  clear I6
  have GA := grown_trans (grown_trans (grown_trans (grown_trans (grown_trans (grown_trans G1 G2 (Or.inl rfl)) G3 (Or.inl rfl)) G4 (Or.inl rfl)) G5 (Or.inl rfl)) G6 (Or.inl rfl)) G7 (Or.inl rfl)
  have hz1 := G1.size
  have hz2 := G2.size
  have hz3 := G3.size
  have hz4 := G4.size
  have hz5 := G5.size
  have hz6 := G6.size
  have hz7 := G7.size
  simp only [World.size_alloc] at hz1
  have hblk : w7.heap[w.heap.size]? = some (.cells #[.slice none 0 0, .slice none 0 0, .slice none 0 0, .slice none 0 0, .slice none 0 0] 117 (0, 0)) := by
    rw [GA.block w.heap.size (by simp) (by simp)]
    exact heap_alloc_new _ _
  have q0 := cell_of_row w7 w.heap.size 0 _ _ _ hblk
  have q1 := cell_of_row w7 w.heap.size 1 _ _ _ hblk
  have q2 := cell_of_row w7 w.heap.size 2 _ _ _ hblk
  have q3 := cell_of_row w7 w.heap.size 3 _ _ _ hblk
  have q4 := cell_of_row w7 w.heap.size 4 _ _ _ hblk
  have f := fun j => frozen_of_row w7 w.heap.size j _ _ hblk
  have f0 := f 0
  have f1 := f 1
  have f2 := f 2
  have f3 := f 3
  have f4 := f 4
  clear f hblk
  simp only [List.getElem?_toArray, List.getElem?_cons_zero, List.getElem?_cons_succ] at q0 q1 q2 q3 q4
  have G67 := G7
  have G57 := grown_trans G6 G67 (Or.inl rfl)
  have G47 := grown_trans G5 G57 (Or.inl rfl)
  have G27 := grown_trans (grown_trans G3 G4 (Or.inl rfl)) G47 (Or.inl rfl)
  have S0' := hide (S0.kept0 G27)
  have S1' := hide (S1.kept0 G47)
  have S2' := hide (S2.kept0 G57)
  have S3' := hide (S3.kept0 G67)
  have S4' := hide S4
  obtain ⟨a0, c0, rfl⟩ := S0.shape
  obtain ⟨a1, c1, rfl⟩ := S1.shape
  obtain ⟨a2, c2, rfl⟩ := S2.shape
  obtain ⟨a3, c3, rfl⟩ := S3.shape
  obtain ⟨a4, c4, rfl⟩ := S4.shape
  have HGA := hide (grown_trans (World.grownBy_alloc w _ none) GA (Or.inl rfl))
  clear G1 G2 G3 G4 G5 G6 G7 G67 G57 G47 G27 GA S0 S1 S2 S3 S4 SC
  go_wp2_with fail
  refine bodyPost_ret (v := .agg #[.slice a0 (Rot.lastOf rows).length c0, .slice a1 (Rot.treeOf (Rot.columnOf s.data.toList rows)).length c1, .slice a2 (Rot.firstOf s.data.toList).length c2, .slice a3 (Rot.marksOf rows r).length c3, .slice a4 (Rot.placesOf rows r).length c4]) (by simp [results, Tryz.results60, go_sem]; go_simp) rfl ⟨rows, _, _, _, _, _, rfl, unhide HR, ?_, ?_, ?_, ?_, ?_, ?_⟩
  · exact (unhide S0').put5 (by omega) _ _ _ _ _ _ (by omega)
  · exact (unhide S1').put5 (by omega) _ _ _ _ _ _ (by omega)
  · exact (unhide S2').put5 (by omega) _ _ _ _ _ _ (by omega)
  · exact (unhide S3').put5 (by omega) _ _ _ _ _ _ (by omega)
  · exact (unhide S4').put5 (by omega) _ _ _ _ _ _ (by omega)
  · exact grown_trans (unhide HGA) (grown_put5 _ _ _ _ _ _ _) (Or.inr ⟨_, rfl, Nat.le_refl _⟩)
end Go.Proofs.YthlincikgdblfaaGreat
