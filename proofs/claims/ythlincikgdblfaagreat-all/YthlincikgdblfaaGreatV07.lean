import Derived.Test.YthlincikgdblfaaGreatV05
import Derived.Test.YthlincikgdblfaaGreatV06
namespace Go.Proofs.YthlincikgdblfaaGreat
open Go.RowKit
set_option linter.unusedVariables false

theorem Bs.up {w w' : World} {b c : Nat} {v : Value} {l : List UInt8} (h : Bs w b v l) (hb : c ≤ b) (g : w.grownBy w' none) : Bs w' c v l := (h.mono hb).kept0 g
theorem rows_lt {t : List UInt8} {rows : List Nat} (h : Rot.IsRows t rows) : ∀ x ∈ rows, x ≤ t.length := by
  intro x hx
  have := h.perm.mem_iff.1 hx
  rw [List.mem_range] at this
  omega
theorem rows_zero {t : List UInt8} {rows : List Nat} (h : Rot.IsRows t rows) : 0 ∈ rows := h.perm.mem_iff.2 (List.mem_range.2 (Nat.succ_pos _))
theorem Is.up {w w' : World} {b : Nat} {v : Value} {l : List Nat} (h : Is w b v l) (g : w.grownBy w' none) : Is w' b v l := ownsRow_kept0 h g

theorem column_length {t : List UInt8} {rows : List Nat} (h : Rot.IsRows t rows) : (Rot.columnOf t rows).length = t.length := by
  unfold Rot.columnOf
  rw [List.length_map, (h.perm.filter _).length_eq, List.range_succ_eq_map, List.filter_cons]
  rw [if_neg (by simp), List.filter_eq_self.2 (by intro a ha; rw [List.mem_map] at ha; obtain ⟨b, _, rfl⟩ := ha; simp)]
  simp
/-- Five cells, one behind the other, are stored. -/
def put5 (w : World) (b : Nat) (x0 x1 x2 x3 x4 : Value) : World := ((((w.setCell ⟨b, 0, none⟩ x0).setCell ⟨b, 1, none⟩ x1).setCell ⟨b, 2, none⟩ x2).setCell ⟨b, 3, none⟩ x3).setCell ⟨b, 4, none⟩ x4
theorem grown_put5 (w : World) (b : Nat) (x0 x1 x2 x3 x4 : Value) : w.grownBy (put5 w b x0 x1 x2 x3 x4) (some b) := by
  unfold put5
  exact grown_trans (grown_trans (grown_trans (grown_trans (grown_setCell w b 0 x0) (grown_setCell _ b 1 x1) (Or.inl rfl)) (grown_setCell _ b 2 x2) (Or.inl rfl)) (grown_setCell _ b 3 x3) (Or.inl rfl)) (grown_setCell _ b 4 x4) (Or.inl rfl)
theorem Bs.put5 {w : World} {b c : Nat} {v : Value} {l : List UInt8} (h : Bs w c v l) (hb : b < c) (x0 x1 x2 x3 x4 : Value) (B : Nat) (hB : B ≤ c) : Bs (put5 w b x0 x1 x2 x3 x4) B v l :=
  (h.kept (grown_put5 w b x0 x1 x2 x3 x4) (by
    cases e : v.ownBlock with
    | none => exact Or.inl rfl
    | some k => exact Or.inr (fun e2 => by cases e2; have := (h.lt e).1; omega))).mono hB

set_option maxRecDepth 100000 in
set_option maxHeartbeats 2000000 in
theorem sections_any (s : ByteArray) (r : Nat) (w : World) (hs : s.size ≤ 250) (hr1 : 1 ≤ r) (hr2 : r ≤ 8) :
    Calls Tryz.prog 60 #[.string s, .int .i64 r] w fun e w' => ∃ rows v0 v1 v2 v3 v4, e = .returned (.agg #[v0, v1, v2, v3, v4]) ∧ Rot.IsRows s.data.toList rows ∧
      Bs w' w.heap.size v0 (Rot.lastOf rows) ∧ Bs w' w.heap.size v1 (Rot.treeOf (Rot.columnOf s.data.toList rows)) ∧ Bs w' w.heap.size v2 (Rot.firstOf s.data.toList) ∧ Bs w' w.heap.size v3 (Rot.marksOf rows r) ∧ Bs w' w.heap.size v4 (Rot.placesOf rows r) ∧ w.grownBy w' none := by
  go_enter Tryz.func60, Tryz.ntmps60
  go_wp2_with fail
  refine (rows_any s _ hs).mono ?_
  rintro e w1 ⟨g, cap, rows, rfl, hR, hrl, I, G1⟩
  have hsl : s.data.toList.length = s.size := by simp
  have hlt : ∀ x ∈ rows, x < 1000 := fun x hx => by have := rows_lt hR x hx; omega
  have hle : ∀ x ∈ rows, x ≤ s.size := fun x hx => by have := rows_lt hR x hx; omega
  have h0 := rows_zero hR
  have hlen : rows.length < 1000 := by omega
  have hcl : (Rot.columnOf s.data.toList rows).length ≤ 250 := by rw [column_length hR]; omega
  rw [← hrl] at I ⊢
  have HR := hide hR
  have Hlt := hide hlt
  have Hle := hide hle
  have H0 := hide h0
  have Hcl := hide hcl
  clear hR hlt hle h0 hcl hrl
  go_wp2_with fail
  refine (last_any _ g cap rows _ I (unhide H0) hlen).mono ?_
  rintro e w2 ⟨v0, rfl, S0, G2⟩
  have I2 := Is.up I G2
  clear I
  go_wp2_with fail
  refine (column_any _ s g cap rows _ I2 (unhide Hle) hlen (by omega)).mono ?_
  rintro e w3 ⟨vc, rfl, SC, G3⟩
  have I3 := Is.up I2 G3
  clear I2
  go_wp2_with fail
  refine (tree_any w2.heap.size _ _ _ SC G3.size (unhide Hcl)).mono ?_
  rintro e w4 ⟨v1, rfl, S1, G4⟩
  have I4 := Is.up I3 G4
  clear I3
  go_wp2_with fail
  refine (first_any s _ hs).mono ?_
  rintro e w5 ⟨v2, rfl, S2, G5⟩
  have I5 := Is.up I4 G5
  clear I4
  go_wp2_with fail
  refine (marks_any _ g cap rows r _ I5 (unhide Hlt) hlen hr1 hr2).mono ?_
  rintro e w6 ⟨v3, rfl, S3, G6⟩
  have I6 := Is.up I5 G6
  clear I5
  go_wp2_with fail
  refine (places_any _ _ rows r _ I6 (unhide Hlt) hlen hr1 hr2).mono ?_
  rintro e w7 ⟨v4, rfl, S4, G7⟩
  clear I6
  have GA := grown_trans (grown_trans (grown_trans (grown_trans (grown_trans (grown_trans G1 G2 (Or.inl rfl)) G3 (Or.inl rfl)) G4 (Or.inl rfl)) G5 (Or.inl rfl)) G6 (Or.inl rfl)) G7 (Or.inl rfl)
  have hz1 := G1.size
  have hz2 := G2.size
  have hz3 := G3.size
  have hz4 := G4.size
  have hz5 := G5.size
  have hz6 := G6.size
  have hz7 := G7.size
  simp only [World.size_alloc] at hz1
  have hblk : w7.heap[w.heap.size]? = some (.cells #[.slice none 0 0, .slice none 0 0, .slice none 0 0, .slice none 0 0, .slice none 0 0] 117 (0, 0)) := by
    rw [GA.block w.heap.size (by simp) (by simp)]
    exact heap_alloc_new _ _
  have q0 := cell_of_row w7 w.heap.size 0 _ _ _ hblk
  have q1 := cell_of_row w7 w.heap.size 1 _ _ _ hblk
  have q2 := cell_of_row w7 w.heap.size 2 _ _ _ hblk
  have q3 := cell_of_row w7 w.heap.size 3 _ _ _ hblk
  have q4 := cell_of_row w7 w.heap.size 4 _ _ _ hblk
  have f := fun j => frozen_of_row w7 w.heap.size j _ _ hblk
  have f0 := f 0
  have f1 := f 1
  have f2 := f 2
  have f3 := f 3
  have f4 := f 4
  clear f hblk
  simp only [List.getElem?_toArray, List.getElem?_cons_zero, List.getElem?_cons_succ] at q0 q1 q2 q3 q4
  have G67 := G7
  have G57 := grown_trans G6 G67 (Or.inl rfl)
  have G47 := grown_trans G5 G57 (Or.inl rfl)
  have G27 := grown_trans (grown_trans G3 G4 (Or.inl rfl)) G47 (Or.inl rfl)
  have S0' := hide (S0.kept0 G27)
  have S1' := hide (S1.kept0 G47)
  have S2' := hide (S2.kept0 G57)
  have S3' := hide (S3.kept0 G67)
  have S4' := hide S4
  obtain ⟨a0, c0, rfl⟩ := S0.shape
  obtain ⟨a1, c1, rfl⟩ := S1.shape
  obtain ⟨a2, c2, rfl⟩ := S2.shape
  obtain ⟨a3, c3, rfl⟩ := S3.shape
  obtain ⟨a4, c4, rfl⟩ := S4.shape
  have HGA := hide (grown_trans (World.grownBy_alloc w _ none) GA (Or.inl rfl))
  clear G1 G2 G3 G4 G5 G6 G7 G67 G57 G47 G27 GA S0 S1 S2 S3 S4 SC
  go_wp2_with fail
  refine bodyPost_ret (v := .agg #[.slice a0 (Rot.lastOf rows).length c0, .slice a1 (Rot.treeOf (Rot.columnOf s.data.toList rows)).length c1, .slice a2 (Rot.firstOf s.data.toList).length c2, .slice a3 (Rot.marksOf rows r).length c3, .slice a4 (Rot.placesOf rows r).length c4]) (by simp [results, Tryz.results60, go_sem]; go_simp) rfl ⟨rows, _, _, _, _, _, rfl, unhide HR, ?_, ?_, ?_, ?_, ?_, ?_⟩
  · exact (unhide S0').put5 (by omega) _ _ _ _ _ _ (by omega)
  · exact (unhide S1').put5 (by omega) _ _ _ _ _ _ (by omega)
  · exact (unhide S2').put5 (by omega) _ _ _ _ _ _ (by omega)
  · exact (unhide S3').put5 (by omega) _ _ _ _ _ _ (by omega)
  · exact (unhide S4').put5 (by omega) _ _ _ _ _ _ (by omega)
  · exact grown_trans (unhide HGA) (grown_put5 _ _ _ _ _ _ _) (Or.inr ⟨_, rfl, Nat.le_refl _⟩)
end Go.Proofs.YthlincikgdblfaaGreat

namespace Go.Proofs.YthlincikgdblfaaGreat
open Go.RowKit
set_option linter.unusedVariables false

theorem idx_five (cs : Array Value) (k : Nat) (v : Value) (hk : k < 5) (hv : cs[k]? = some v) (w : World) : (Instr.index 117 (.agg cs) (.int .i64 (k : Int))).run Tryz.prog w = .ok v w := by
  simp [Instr.index, run_underlying Tryz.underlying117, asIntOf, part, Tryz.sizeOf45, Tryz.isAgg45, hv, go_sem]
  intro h
  omega

theorem table_snoc (ss : List (List UInt8)) (k : Nat) (hk : k < ss.length) : Rot.tableOf (ss.take (k + 1)) = Rot.tableOf (ss.take k) ++ Rot.le16 (ss[k]'hk).length ++ Rot.le32 (Rot.sumOf (ss[k]'hk)) := by
  unfold Rot.tableOf
  rw [List.take_succ_eq_append_getElem hk, List.flatMap_append]
  simp
theorem body_snoc (ss : List (List UInt8)) (k : Nat) (hk : k < ss.length) : Rot.bodyOf (ss.take (k + 1)) = Rot.bodyOf (ss.take k) ++ (ss[k]'hk) := by
  unfold Rot.bodyOf
  rw [List.take_succ_eq_append_getElem hk, List.flatMap_append]
  simp
theorem table_len (ss : List (List UInt8)) : (Rot.tableOf ss).length = 6 * ss.length := by
  unfold Rot.tableOf
  induction ss with
  | nil => rfl
  | cons a l ih => rw [List.flatMap_cons, List.length_append, ih]; simp [Rot.le16, Rot.le32]; omega
theorem body_len (ss : List (List UInt8)) (h : ∀ x ∈ ss, x.length < 1000) : (Rot.bodyOf ss).length ≤ 1000 * ss.length := by
  unfold Rot.bodyOf
  induction ss with
  | nil => simp
  | cons a l ih =>
    rw [List.flatMap_cons, List.length_append]
    have h1 := ih (fun x hx => h x (List.mem_cons_of_mem _ hx))
    have h2 := h a (List.mem_cons_self)
    simp only [id, List.length_cons]
    omega

theorem ret_str {a b : List UInt8} (h : a = b) : Ending.returned (.string ⟨a.toArray⟩) = .returned (.string ⟨b.toArray⟩) := by rw [h]
theorem last_len (d : List Nat) : (Rot.lastOf d).length = 2 := rfl
theorem treeOf_len (col : List UInt8) : (Rot.treeOf col).length = 8 * (2 + (col.length + 7) / 8 + 2 * ((col.length + 15) / 16)) := (tree_len col 8).2
theorem first_len (t : List UInt8) : (Rot.firstOf t).length = 512 := by
  unfold Rot.firstOf
  rw [← List.flatMap_map (f := Rot.belowOf t) (g := Rot.le16), flat_len]
  simp
theorem marks_len (d : List Nat) (r : Nat) : (Rot.marksOf d r).length = (d.length + 7) / 8 + 2 * ((d.length + 15) / 16) := by
  unfold Rot.marksOf
  rw [bits_len, List.length_map]
theorem places_len (d : List Nat) (r : Nat) : (Rot.placesOf d r).length = 2 * (d.filter (Rot.isMarked r)).length := flat_len _
theorem sec_len {t : List UInt8} {rows : List Nat} (h : Rot.IsRows t rows) (ht : t.length ≤ 250) (r : Nat) : ∀ x ∈ Rot.sectionsOf t rows r, x.length < 1000 := by
  have hl : rows.length = t.length + 1 := by rw [h.perm.length_eq, List.length_range]
  intro x hx
  simp only [Rot.sectionsOf, List.mem_cons, List.not_mem_nil, or_false] at hx
  rcases hx with rfl | rfl | rfl | rfl | rfl
  · rw [last_len]; omega
  · rw [treeOf_len, column_length h]; omega
  · rw [first_len]; omega
  · rw [marks_len]; omega
  · rw [places_len]
    have := List.length_filter_le (Rot.isMarked r) rows
    omega
theorem push_all (l : List UInt8) : ∀ s : ByteArray, (l.map fun b => (b.toNat : Int)).foldl (fun r n => r.push (UInt8.ofNat n.toNat)) s = ⟨s.data ++ l.toArray⟩ := by
  induction l with
  | nil => intro s; simp
  | cons b l ih =>
    intro s
    rw [List.map_cons, List.foldl_cons, ih]
    simp [ByteArray.push]
theorem by8_ints (l : List UInt8) : (l.map fun b => (b.toNat : Int)).map (Value.int .u8) = by8 l := by simp [by8]
theorem conv_str {w : World} {B g cap : Nat} {l : List UInt8} (h : Bs w B (.slice (some ⟨g, 0, none⟩) l.length cap) l) :
    (convert 45 9 (.slice (some ⟨g, 0, none⟩) l.length cap)).run Tryz.prog w = .ok (.string ⟨l.toArray⟩) w := by
  have hl : (loadCells ⟨g, 0, none⟩ (by8 l).length).run Tryz.prog w = .ok (by8 l).toArray w := run_loadCells_list (P := Tryz.prog) w ⟨g, 0, none⟩ (by8 l) (World.ownsRow.cells h (g := g) rfl)
  rw [by8_length] at hl
  have hr := run_bytesToString (P := Tryz.prog) w ⟨g, 0, none⟩ l.length cap (l.map fun b => (b.toNat : Int)) (by rw [by8_ints]; exact hl)
  rw [push_all] at hr
  simp only [convert, Sem.run_bind, run_underlying Tryz.underlying45, run_underlying Tryz.underlying9, run_underlying Tryz.underlying5, Result.andThen_ok]
  rw [hr]
  simp

set_option maxRecDepth 100000 in
set_option maxHeartbeats 2000000 in
theorem file_any (s : ByteArray) (r : Nat) (w : World) (hs : s.size ≤ 250) (hr1 : 1 ≤ r) (hr2 : r ≤ 8) :
    Calls Tryz.prog 35 #[.string s, .int .i64 r] w fun e w' => ∃ rows, Rot.IsRows s.data.toList rows ∧ e = .returned (.string ⟨(Rot.fileOf s.data.toList rows r).toArray⟩) ∧ Below w.heap.size w w' := by
  go_enter Tryz.func35, Tryz.ntmps35
  go_wp2_with fail
  refine (sections_any s r _ hs hr1 hr2).mono ?_
  rintro e w0 ⟨rows, v0, v1, v2, v3, v4, rfl, hR, S0, S1, S2, S3, S4, G0⟩
  have hlen : (Rot.sectionsOf s.data.toList rows r).length = 5 := rfl
  have hS : ∀ k (hk : k < (Rot.sectionsOf s.data.toList rows r).length), ∃ v, #[v0, v1, v2, v3, v4][k]? = some v ∧ Bs w0 w.heap.size v ((Rot.sectionsOf s.data.toList rows r)[k]'hk) := by
    intro k hk
    rw [hlen] at hk
    match k, hk with
    | 0, _ => exact ⟨v0, rfl, S0⟩
    | 1, _ => exact ⟨v1, rfl, S1⟩
    | 2, _ => exact ⟨v2, rfl, S2⟩
    | 3, _ => exact ⟨v3, rfl, S3⟩
    | 4, _ => exact ⟨v4, rfl, S4⟩
  have hL : ∀ x ∈ Rot.sectionsOf s.data.toList rows r, x.length < 1000 := sec_len hR (by simpa using hs) r
  have HR := hide hR
  have HF : Hid (Rot.fileOf s.data.toList rows r = Rot.headOf s.data.toList.length r (12 + (Rot.tableOf (Rot.sectionsOf s.data.toList rows r)).length + (Rot.bodyOf (Rot.sectionsOf s.data.toList rows r)).length) ++ Rot.tableOf (Rot.sectionsOf s.data.toList rows r) ++ Rot.bodyOf (Rot.sectionsOf s.data.toList rows r)) := rfl
  generalize Rot.sectionsOf s.data.toList rows r = SS at hlen hS hL HF
  generalize #[v0, v1, v2, v3, v4] = V at hS ⊢
  have HS := hide hS
  have HL := hide hL
  clear hR S0 S1 S2 S3 S4 hS hL
  go_wp2_with fail
  go_loopw [5, 6, 14] (fun tb bd i wr => ∃ k : Nat, k ≤ 5 ∧ i = .int .i64 k ∧ Bs wr w0.heap.size tb (Rot.tableOf (SS.take k)) ∧ Bs wr w0.heap.size bd (Rot.bodyOf (SS.take k)) ∧ Apart tb bd ∧ w0.grownBy wr none) (fun _ _ i _ => 5 - (intOf i).toNat)
  case atStart => exact ⟨0, Nat.zero_le _, rfl, Bs.nil _ _, Bs.nil _ _, Apart.nil _, World.grownBy.refl _ _⟩
  case round =>
    obtain ⟨k, hk, rfl, T, D, AP, G⟩ := hrel
    by_cases hlt : k < 5
    · have hlt' : k < SS.length := by omega
      obtain ⟨v, hv, Sk⟩ := unhide HS k hlt'
      have hidx := idx_five V k v hlt hv
      have HT := hide (table_snoc SS k hlt')
      have HD := hide (body_snoc SS k hlt')
      have hsl : (SS[k]'hlt').length < 1000 := unhide HL _ (List.getElem_mem hlt')
      have htl : (Rot.tableOf (SS.take k)).length ≤ 30 := by rw [table_len, List.length_take]; omega
      have hbl : (Rot.bodyOf (SS.take k)).length ≤ 5000 := by
        have := body_len (SS.take k) (fun x hx => unhide HL x (List.mem_of_mem_take hx))
        rw [List.length_take] at this
        omega
      generalize SS[k]'hlt' = S at Sk HT HD hsl
      generalize Rot.tableOf (SS.take k) = TT at T HT htl
      generalize Rot.bodyOf (SS.take k) = DD at D HD hbl
      obtain ⟨az, cz, rfl⟩ := Sk.shape
      have hsz := G.size
      have HSk := hide Sk
      clear Sk hv
      go_wp2_with fail
      refine (app16_any w0.heap.size _ TT S.length _ hsz T (by omega) (by omega)).mono ?_
      rintro e w1 ⟨t1, rfl, A1⟩
      have G1 := A1.fresh G T
      have D1 := D.kept A1.grown AP.symm.kept
      have AP1 := AP.step A1.at' (fun k hk => (D.lt hk).2)
      have T1 := A1.own
      have SS1 := (unhide HSk).kept0 G1
      clear A1 T D AP G
      have hsz1 := G1.size
      go_wp2_with fail
      refine (checkSum_any _ _ S _ SS1 (by omega)).mono ?_
      rintro e w2 ⟨rfl, hw2⟩
      subst hw2
      go_wp2_with fail
      refine (app32_any w0.heap.size _ (TT ++ Rot.le16 S.length) (Rot.sumOf S) _ hsz1 T1 (by rw [List.length_append]; simp [Rot.le16]; omega) (sum_lt S)).mono ?_
      rintro e w3 ⟨t2, rfl, A2⟩
      have G2 := A2.fresh G1 T1
      have D2 := D1.kept A2.grown AP1.symm.kept
      have AP2 := AP1.step A2.at' (fun k hk => (D1.lt hk).2)
      have T2 := A2.own
      have SS2 := (unhide HSk).kept0 G2
      clear A2 T1 D1 AP1 G1 SS1
      have hsz2 := G2.size
      go_wp2_with (at_builtin; refine wp_appBs _ rfl (.tmp 26) (.tmp 27) rfl w0.heap.size _ DD rfl D2 _ w.heap.size S rfl SS2 ?c1 hsz2 ?_)
      case c1 => omega
      intro d3 w4 A3
      have HG3 := hide (A3.fresh G2 D2)
      have HT3 := hide (T2.kept A3.grown AP2.kept)
      have HAP3 := hide (AP2.symm.step A3.at' (fun k hk => (T2.lt hk).2)).symm
      have HD3 := hide A3.own
      clear A3 T2 D2 AP2 G2 SS2 HSk hidx
      go_wp2_with fail
      go_roundw
      case rel => exact ⟨k + 1, by omega, by go_num, by rw [unhide HT]; exact unhide HT3, by rw [unhide HD]; exact unhide HD3, unhide HAP3, unhide HG3⟩
      case measure => simp [intOf]; omega
    · have hk' : k = 5 := by omega
      subst hk'
      rw [List.take_of_length_le (by omega)] at T D
      have htl : (Rot.tableOf SS).length = 30 := by rw [table_len, hlen]
      have hbl : (Rot.bodyOf SS).length ≤ 5000 := by
        have := body_len SS (unhide HL)
        omega
      obtain ⟨at1, ct1, rfl⟩ := T.shape
      obtain ⟨ad1, cd1, rfl⟩ := D.shape
      have hsz := G.size
      have GG := grown_trans G0 G (Or.inl rfl)
      have HT := hide T
      have HD := hide D
      have hsl : s.data.toList.length = s.size := by simp
      rw [hsl] at HF
      generalize Rot.tableOf SS = TT at HT htl HF ⊢
      generalize Rot.bodyOf SS = DD at HD hbl HF ⊢
      clear T D AP hsl
      go_wp2_with fail
      have ez : (42 + (DD.length : Int)) = ((42 + DD.length : Nat) : Int) := by omega
      rw [ez]
      refine (headOf_any s.size r (42 + DD.length) _ (by omega) (by omega) (by omega)).mono ?_
      rintro e w1 ⟨o1, rfl, O1, G1⟩
      have HTT := hide htl
      have T1 := (unhide HT).kept0 G1
      have hsz1 := G1.size
      have hhl : (Rot.headOf s.size r (42 + DD.length)).length = 12 := by simp [Rot.headOf, Rot.le16, Rot.le32]
      rw [show 12 + TT.length + DD.length = 42 + DD.length by rw [htl]] at HF
      generalize Rot.headOf s.size r (42 + DD.length) = HH at O1 hhl HF
      have hc1 : HH.length + TT.length < 1000000 := by omega
      have GG1 := grown_trans GG G1 (Or.inl rfl)
      clear ez htl
      go_wp2_with (at_builtin; refine wp_appBs _ rfl (.tmp 41) (.tmp 42) rfl wr.heap.size _ HH rfl O1 _ w0.heap.size TT rfl T1 hc1 hsz1 ?_)
      intro o2 w2 A2
      have G2 := A2.fresh G1 O1
      have B2 := A2.own
      have D2 := (unhide HD).kept0 G2
      have hsz2 := G2.size
      have hc2 : (HH ++ TT).length + DD.length < 1000000 := by have := unhide HTT; rw [List.length_append]; omega
      clear A2 T1 O1
      go_wp2_with (at_builtin; refine wp_appBs _ rfl (.tmp 44) (.tmp 45) rfl wr.heap.size _ (HH ++ TT) rfl B2 _ w0.heap.size DD rfl D2 hc2 hsz2 ?_)
      intro o3 w3 A3
      have G3 := A3.fresh G2 B2
      have hpos : 0 < (HH ++ TT ++ DD).length := by rw [List.length_append, List.length_append]; omega
      try rw [← List.append_assoc] at A3
      generalize HH ++ TT ++ DD = FF at A3 HF hpos
      obtain ⟨g3, c3, rfl⟩ := A3.slice hpos
      have hcv := conv_str A3.own
      have HG := hide (Below.of_grown (grown_trans GG G3 (Or.inl rfl)))
      clear A3 B2 D2
      go_wp2_with fail
      go_ret
      exact ⟨rows, unhide HR, ret_str (unhide HF).symm, unhide HG⟩
end Go.Proofs.YthlincikgdblfaaGreat

namespace Go.Proofs.YthlincikgdblfaaGreat
open Go.RowKit
set_option linter.unusedVariables false

/-- Build refuses what is no text, or no rate. -/
theorem build_no (s : ByteArray) (r : Int) (w : World) (hs : s.size ≤ maxLen) (h : ¬ (s.size ≤ 250 ∧ isRate r = true)) :
    Calls Tryz.prog 21 #[.string s, .int .i64 r] w fun e w' => e = .returned (.tuple #[.string ⟨#[]⟩, .int .i64 1]) ∧ w' = w := by
  by_cases h1 : s.size ≤ 250
  · have h2 : isRate r = false := by
      cases hr : isRate r with
      | true => exact absurd ⟨h1, hr⟩ h
      | false => rfl
    have hd : decide (s.size ≤ 250) = true := by simpa using h1
    go_enter Tryz.func21, Tryz.ntmps21
    go_wp2_with fail
    refine (isText_any _ _ hs).mono ?_
    rw [hd]
    rintro e w1 ⟨rfl, hw⟩
    subst hw
    go_wp2_with fail
    refine (isRate_any _ _).mono ?_
    rw [h2]
    rintro e w1 ⟨rfl, hw⟩
    subst hw
    go_wp2_with fail
    go_ret2
    exact ⟨rfl, rfl⟩
  · have hd : decide (s.size ≤ 250) = false := by simpa using h1
    go_enter Tryz.func21, Tryz.ntmps21
    go_wp2_with fail
    refine (isText_any _ _ hs).mono ?_
    rw [hd]
    rintro e w1 ⟨rfl, hw⟩
    subst hw
    go_wp2_with fail
    go_ret2
    exact ⟨rfl, rfl⟩

/-- Build makes the file of a text by a rate. -/
theorem build_yes (s : ByteArray) (r : Nat) (w : World) (hs : s.size ≤ 250) (h : isRate r = true) :
    Calls Tryz.prog 21 #[.string s, .int .i64 r] w fun e w' => ∃ rows, Rot.IsRows s.data.toList rows ∧ e = .returned (.tuple #[.string ⟨(Rot.fileOf s.data.toList rows r).toArray⟩, .int .i64 0]) ∧ Below w.heap.size w w' := by
  have hr : 1 ≤ r ∧ r ≤ 8 := by
    unfold isRate at h
    simp at h
    omega
  have hd : decide (s.size ≤ 250) = true := by simpa using hs
  go_enter Tryz.func21, Tryz.ntmps21
  go_wp2_with fail
  refine (isText_any _ _ (by unfold maxLen; omega)).mono ?_
  rw [hd]
  rintro e w1 ⟨rfl, hw⟩
  subst hw
  go_wp2_with fail
  refine (isRate_any _ _).mono ?_
  rw [h]
  rintro e w1 ⟨rfl, hw⟩
  subst hw
  go_wp2_with fail
  refine (file_any s r _ hs hr.1 hr.2).mono ?_
  rintro e w2 ⟨rows, hR, rfl, hB⟩
  go_wp2_with fail
  go_ret2
  exact ⟨rows, hR, rfl, hB⟩
end Go.Proofs.YthlincikgdblfaaGreat

namespace Go.Proofs.YthlincikgdblfaaGreat
set_option linter.unusedVariables false
namespace Rot

theorem multiples (r : Nat) (hr : 0 < r) (n : Nat) : ((List.range (n + 1)).filter (isMarked r)).length = n / r + 1 := by
  induction n with
  | zero => simp [isMarked]
  | succ n ih =>
    rw [List.range_succ, List.filter_append, List.length_append, ih, Nat.succ_div]
    by_cases h : r ∣ n + 1
    · have : isMarked r (n + 1) = true := by simp [isMarked, Nat.mod_eq_zero_of_dvd h]
      simp [this, h]
    · have : isMarked r (n + 1) = false := by
        simp only [isMarked, beq_eq_false_iff_ne]
        exact fun e => h (Nat.dvd_of_mod_eq_zero e)
      simp [this, h]

/-- How many bytes a file has. -/
def sizeOf (n r : Nat) : Nat := 44 + 8 * (2 + (n + 7) / 8 + 2 * ((n + 15) / 16)) + 512 + ((n + 1 + 7) / 8 + 2 * ((n + 1 + 15) / 16)) + 2 * (n / r + 1)

theorem file_size {t : List UInt8} {rows : List Nat} (h : IsRows t rows) (r : Nat) (hr : 0 < r) : (fileOf t rows r).length = sizeOf t.length r ∧ 12 + (tableOf (sectionsOf t rows r)).length + (bodyOf (sectionsOf t rows r)).length = sizeOf t.length r := by
  have hl : rows.length = t.length + 1 := by rw [h.perm.length_eq, List.length_range]
  have hm : (rows.filter (isMarked r)).length = t.length / r + 1 := by rw [(h.perm.filter _).length_eq, multiples r hr]
  have ht : (tableOf (sectionsOf t rows r)).length = 30 := by rw [table_len]; rfl
  have hb : (bodyOf (sectionsOf t rows r)).length = 2 + 8 * (2 + (t.length + 7) / 8 + 2 * ((t.length + 15) / 16)) + 512 + ((t.length + 1 + 7) / 8 + 2 * ((t.length + 1 + 15) / 16)) + 2 * (t.length / r + 1) := by
    unfold bodyOf sectionsOf
    simp only [List.flatMap_cons, List.flatMap_nil, List.length_append, List.append_nil, id]
    rw [last_len, treeOf_len, first_len, marks_len, places_len, column_length h, hl, hm]
    omega
  have hh : ∀ a b c, (headOf a b c).length = 12 := by intro a b c; simp [headOf, le16, le32]
  constructor
  · unfold fileOf
    rw [List.length_append, List.length_append, hh, ht, hb]
    unfold sizeOf
    omega
  · rw [ht, hb]
    unfold sizeOf
    omega
theorem size_le (n r : Nat) (hn : n ≤ 250) : 577 ≤ sizeOf n r ∧ sizeOf n r ≤ 2000 := by
  unfold sizeOf
  have : n / r ≤ n := Nat.div_le_self _ _
  generalize n / r = q at this
  omega
end Rot
end Go.Proofs.YthlincikgdblfaaGreat
