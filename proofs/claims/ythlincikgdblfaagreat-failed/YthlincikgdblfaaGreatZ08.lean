import Derived.Test.YthlincikgdblfaaGreatZ07
import Derived.Test.YthlincikgdblfaaGreatZ06
namespace Go.Proofs.YthlincikgdblfaaGreat
open Go.RowKit
set_option linter.unusedVariables false

section
open Go.Sort Go.Shelf Go.Lib

theorem heap_sorted' {α : Type} [Inhabited α] (enc : α → Value) {w : World} {g n : Nat} {os : Array Obj} {cur : Array Value} {e : TypeId} {fr : Nat × Nat} (d : Array α) (hb : w.heap[g]? = some (.cells cur e fr)) :
    (sortWorld enc w g 0 n d os).heap[g]? = some (.cells (putCells enc 0 d cur) e fr) := by
  unfold sortWorld
  have hg : g < w.heap.size := (Array.getElem?_eq_some_iff.1 hb).1
  rw [heap_grow_old _ _ (by simpa using hg)]
  simp [putRow, mapBlock, Sort.ahead, Array.getElem?_modify, hb, onCells]
theorem take_putCells' {α : Type} [Inhabited α] (enc : α → Value) (cur : Array Value) (d : Array α) (h : d.size ≤ cur.size) : (putCells enc 0 d cur).toList.take d.size = d.toList.map enc := by
  apply List.ext_getElem?
  intro j
  by_cases hj : j < d.size
  · rw [List.getElem?_take_of_lt hj, Array.getElem?_toList]
    simp [putCells, hj, show j < cur.size by omega]
  · rw [List.getElem?_take_eq_none (by omega), List.getElem?_eq_none (by simp; omega)]
theorem range_fin (n : Nat) : ((Array.ofFn (n := n) id).toList.map fun i => i.val) = List.range n := by
  apply List.ext_getElem?
  intro j
  by_cases hj : j < n
  · simp [hj]
  · simp [hj]
theorem drop_ne (t : List UInt8) (p q : Nat) (hp : p ≤ t.length) (hq : q ≤ t.length) (h : p ≠ q) : t.drop p ≠ t.drop q := by
  intro e
  have := congrArg List.length e
  simp at this
  omega

/-- The sort's own contract, at the rows of a text. -/
theorem sort_rows (s : ByteArray) (b blk cap base : Nat) (w : World) (hs : s.size ≤ 250) (hb : w.cell? ⟨b, 0, none⟩ = some (.string s)) (hne : b ≠ blk)
    (hO : Is w base (.slice (some ⟨blk, 0, none⟩) (s.size + 1) cap) (List.range (s.size + 1))) :
    Calls Tryz.prog 121 #[.slice (some ⟨blk, 0, none⟩) (s.size + 1) cap, .func (.func 122) #[] #[.pointer (some ⟨b, 0, none⟩)]] w fun e w' =>
      e = .returned (.tuple #[]) ∧ ∃ rows, Rot.IsRows s.data.toList rows ∧ Is w' base (.slice (some ⟨blk, 0, none⟩) (s.size + 1) cap) rows ∧ rows.length = s.size + 1 ∧ w.grownBy w' (some blk) := by
  have hl : s.data.toList.length = s.size := by simp
  have eg : ∀ args w, (callFunc 122 args).run Tryz.prog w = .ok (.enter 122 args) w := enters_of Tryz.func122 (by kernel_rfl) rfl
  let d : Array (Fin (s.data.toList.length + 1)) := Array.ofFn id
  have hd : d.size = s.size + 1 := by simp [d]
  rcases hO.2 with ⟨h0, _⟩ | ⟨g, cap', cur, hv, hbase, hg, hnc, hcm, hcs, htake⟩
  · simp at h0
  simp only [Value.slice.injEq, Option.some.injEq, Addr.mk.injEq, and_true] at hv
  obtain ⟨rfl, hlen, rfl⟩ := hv
  have hH : Holds (encP s.data.toList) w blk 0 d := by
    intro j hj
    rw [hd] at hj
    refine ⟨?_, ?_⟩
    · have hc := Is.cell hO j (by simpa using hj)
      rw [Nat.zero_add, hc]
      have : d[j]! = ⟨j, by omega⟩ := by
        rw [getElem!_pos d j (by omega)]
        simp [d]
      rw [this]
      simp [encP]
    · rw [Nat.zero_add]
      exact frozen_of_row w blk j cur _ hg
  have hcon := Any.slices_SortFunc Tryz.sortL (encP s.data.toList) (fun _ => rfl) (cmpP s.data.toList) (swoP s.data.toList) 122 #[.pointer (some ⟨b, 0, none⟩)] blk 0 cap d w eg (cmpReads s b blk 0 d.size w hs hb hne).lays hH (Array.getElem?_eq_some_iff.1 hg).1 (by rw [hd]; omega)
  change Calls Tryz.prog 121 _ _ _ at hcon
  rw [hd] at hcon
  refine hcon.mono ?_
  rintro e w' ⟨rfl, d', n, os, hp, hsort, rfl⟩
  refine ⟨rfl, d'.toList.map (fun i => i.val), ?_, ?_, ?_, grown_sorted _ _ _ _ _ _ _⟩
  · have hperm : (d'.toList.map fun i => i.val).Perm (List.range (s.data.toList.length + 1)) := by
      rw [← range_fin]
      refine List.Perm.map _ ?_
      have h3 := hp.2.2
      have e1 : (d'.extract 0 (s.size + 1)).toList = d'.toList := by
        have := hp.1
        simp only [Array.toList_extract, List.extract_eq_take_drop, List.drop_zero, Nat.sub_zero]
        exact List.take_of_length_le (by simp; omega)
      have e2 : (d.extract 0 (s.size + 1)).toList = d.toList := by
        simp only [Array.toList_extract, List.extract_eq_take_drop, List.drop_zero, Nat.sub_zero]
        exact List.take_of_length_le (by simp; omega)
      rw [e1, e2] at h3
      exact h3
    refine ⟨hperm, ?_⟩
    have hnd : (d'.toList.map fun i => i.val).Nodup := hperm.nodup_iff.2 List.nodup_range
    rw [List.pairwise_iff_getElem]
    intro i j hi hj hij
    simp only [List.getElem_map, Array.getElem_toList]
    have hi' : i < d'.size := by simpa using hi
    have hj' : j < d'.size := by simpa using hj
    have h1 := hsort i j (Nat.zero_le _) hij (by have := hp.1; omega)
    rw [ltP, getElem!_pos d' i hi', getElem!_pos d' j hj'] at h1
    have hne2 : d'[i].val ≠ d'[j].val := by
      have := (List.nodup_iff_pairwise_ne.1 hnd)
      rw [List.pairwise_iff_getElem] at this
      have := this i j hi hj hij
      simpa using this
    have hdn := drop_ne s.data.toList d'[i].val d'[j].val (by have := d'[i].isLt; omega) (by have := d'[j].isLt; omega) hne2
    cases h2 : Rot.less (List.drop d'[i].val s.data.toList) (List.drop d'[j].val s.data.toList) with
    | true => rfl
    | false => exact absurd (Rot.less_total _ _ h2 h1) hdn
  · have hsz : d'.size = s.size + 1 := hp.1.trans hd
    have hlen' : (d'.toList.map fun i => i.val).length = s.size + 1 := by simpa using hsz
    refine ⟨by simp [byI], .inr ⟨blk, cap, _, by rw [hlen'], hbase, heap_sorted' _ _ hg, by rw [hlen']; simpa using hnc, hcm, by simp [putCells, hcs], ?_⟩⟩
    rw [Nat.mul_one, hlen', ← hsz, take_putCells' _ _ _ (by rw [hcs]; have := hnc; simp at this; omega)]
    simp [byI, encP]
  · simpa using hp.1.trans hd
end
end Go.Proofs.YthlincikgdblfaaGreat

namespace Go.Proofs.YthlincikgdblfaaGreat
open Go.RowKit
set_option linter.unusedVariables false

set_option maxRecDepth 100000 in
set_option maxHeartbeats 1000000 in
theorem rows_any (s : ByteArray) (w : World) (hs : s.size ≤ 250) :
    Calls Tryz.prog 90 #[.string s] w fun e w' => ∃ g cap rows, e = .returned (.slice (some ⟨g, 0, none⟩) (s.size + 1) cap) ∧ Rot.IsRows s.data.toList rows ∧ rows.length = s.size + 1 ∧ Is w' w.heap.size (.slice (some ⟨g, 0, none⟩) (s.size + 1) cap) rows ∧ w.grownBy w' none := by
  obtain ⟨i0, hi, hz0, hz1, hz2⟩ := info_parts infoI
  have hb0 : (w.alloc (.cells #[.string s] 9)).cell? ⟨w.heap.size, 0, none⟩ = some (.string s) := by go_simp
  go_enter Tryz.func90, Tryz.ntmps90
  go_wp2_with (at_make; refine wpList_make_full _ rfl _ _ 25 rfl (w.heap.size + 1) 3 i0 (.int .i64 0) 1 Tryz.underlying25 hi hz0 hz1 .i64 .i64 _ _ (s.size + 1) rfl rfl ?l1 ?l2 ?m1 ?m2 ?m3 ?_)
  case l1 => omega
  case l2 => omega
  case m1 => rw [hz2]; omega
  case m2 => unfold maxLen; omega
  case m3 => simp
  intro w0 O0 G0
  have I0 : Is w0 (w.heap.size + 1) (.slice (some ⟨w.heap.size + 1, 0, none⟩) (s.size + 1) (s.size + 1)) (fillTo (s.size + 1) 0) := by
    unfold Is
    rw [fill_len, fill_none]
    simpa using O0
  clear O0
  go_wp2_with fail
  go_loopw [11] (fun i wr => ∃ k : Nat, k ≤ s.size + 1 ∧ i = .int .i64 k ∧ Is wr (w.heap.size + 1) (.slice (some ⟨w.heap.size + 1, 0, none⟩) (s.size + 1) (s.size + 1)) (fillTo (s.size + 1) k) ∧ (w.alloc (.cells #[.string s] 9)).grownBy wr none) (fun i _ => s.size + 1 - (intOf i).toNat)
  case atStart => exact ⟨0, Nat.zero_le _, rfl, I0, G0⟩
  case round =>
    obtain ⟨k, hk, rfl, I, G⟩ := hrel
    clear I0 G0
    by_cases hlt : k < s.size + 1
    · have hlen : k < (fillTo (s.size + 1) k).length := by rw [fill_len]; omega
      have hc := Is.cell I k hlen
      generalize hzz : (fillTo (s.size + 1) k)[k]'hlen = zz at hc
      clear hzz
      have S : wr.ownsRow (w.heap.size + 1) 3 1 (.slice (some ⟨w.heap.size + 1, 0, none⟩) (s.size + 1) (s.size + 1)) (s.size + 1) (byI (fillTo (s.size + 1) k)) := by
        have := I
        unfold Is at this
        rwa [fill_len] at this
      have hf := World.ownsRow.frozenAt S k
      have HS := hide (World.ownsRow.stored S k (.int .i64 (k : Int)))
      clear S I
      go_wp2
      go_roundw
      case rel =>
        refine ⟨k + 1, by omega, by go_num, ?_, grown_trans G (unhide HS).2 (Or.inr ⟨_, rfl, by simp⟩)⟩
        unfold Is
        rw [fill_len, ← fill_set _ _ hlt, byI_set]
        exact (unhide HS).1
      case measure => simp [intOf]; omega
    · have hk' : k = s.size + 1 := by omega
      subst hk'
      rw [fill_all] at I
      have hb := G.cell hb0 (by simp)
      have hcon := sort_rows s w.heap.size (w.heap.size + 1) (s.size + 1) (w.heap.size + 1) wr hs hb (by omega) I
      go_wp2_with fail
      refine hcon.mono ?_
      rintro e w2 ⟨rfl, rows, hr, I2, hl2, G2⟩
      clear hcon
      go_wp2_with fail
      go_ret
      refine ⟨_, _, rows, rfl, hr, hl2, ?_, ?_⟩
      · exact ⟨I2.1, I2.2.imp id fun ⟨g, cap, cur, a, b, c⟩ => ⟨g, cap, cur, a, by omega, c⟩⟩
      · exact grown_trans (grown_trans (World.grownBy_alloc w _ none) G (Or.inl rfl)) G2 (Or.inr ⟨_, rfl, by omega⟩)
end Go.Proofs.YthlincikgdblfaaGreat

namespace Go.Proofs.YthlincikgdblfaaGreat
open Go.RowKit
set_option linter.unusedVariables false

theorem Bs.up {w w' : World} {b c : Nat} {v : Value} {l : List UInt8} (h : Bs w b v l) (hb : c ≤ b) (g : w.grownBy w' none) : Bs w' c v l := (h.mono hb).kept0 g
theorem rows_lt {t : List UInt8} {rows : List Nat} (h : Rot.IsRows t rows) : ∀ x ∈ rows, x ≤ t.length := by
  intro x hx
  have := h.perm.mem_iff.1 hx
  rw [List.mem_range] at this
  omega
theorem rows_zero {t : List UInt8} {rows : List Nat} (h : Rot.IsRows t rows) : 0 ∈ rows := h.perm.mem_iff.2 (List.mem_range.2 (Nat.succ_pos _))
theorem Is.up {w w' : World} {b : Nat} {v : Value} {l : List Nat} (h : Is w b v l) (g : w.grownBy w' none) : Is w' b v l := ownsRow_kept0 h g

theorem column_length {t : List UInt8} {rows : List Nat} (h : Rot.IsRows t rows) : (Rot.columnOf t rows).length = t.length := by
  unfold Rot.columnOf
  rw [List.length_map, (h.perm.filter _).length_eq, List.range_succ_eq_map, List.filter_cons]
  rw [if_neg (by simp), List.filter_eq_self.2 (by intro a ha; rw [List.mem_map] at ha; obtain ⟨b, _, rfl⟩ := ha; simp)]
  simp
/-- Five cells, one behind the other, are stored. -/
def put5 (w : World) (b : Nat) (x0 x1 x2 x3 x4 : Value) : World := ((((w.setCell ⟨b, 0, none⟩ x0).setCell ⟨b, 1, none⟩ x1).setCell ⟨b, 2, none⟩ x2).setCell ⟨b, 3, none⟩ x3).setCell ⟨b, 4, none⟩ x4
theorem grown_put5 (w : World) (b : Nat) (x0 x1 x2 x3 x4 : Value) : w.grownBy (put5 w b x0 x1 x2 x3 x4) (some b) := by
  unfold put5
  exact grown_trans (grown_trans (grown_trans (grown_trans (grown_setCell w b 0 x0) (grown_setCell _ b 1 x1) (Or.inl rfl)) (grown_setCell _ b 2 x2) (Or.inl rfl)) (grown_setCell _ b 3 x3) (Or.inl rfl)) (grown_setCell _ b 4 x4) (Or.inl rfl)
theorem Bs.put5 {w : World} {b c : Nat} {v : Value} {l : List UInt8} (h : Bs w c v l) (hb : b < c) (x0 x1 x2 x3 x4 : Value) (B : Nat) (hB : B ≤ c) : Bs (put5 w b x0 x1 x2 x3 x4) B v l :=
  (h.kept (grown_put5 w b x0 x1 x2 x3 x4) (by
    cases e : v.ownBlock with
    | none => exact Or.inl rfl
    | some k => exact Or.inr (fun e2 => by cases e2; have := (h.lt e).1; omega))).mono hB

set_option maxRecDepth 100000 in
set_option maxHeartbeats 2000000 in
theorem sections_any (s : ByteArray) (r : Nat) (w : World) (hs : s.size ≤ 250) (hr1 : 1 ≤ r) (hr2 : r ≤ 8) :
    Calls Tryz.prog 60 #[.string s, .int .i64 r] w fun e w' => ∃ rows v0 v1 v2 v3 v4, e = .returned (.agg #[v0, v1, v2, v3, v4]) ∧ Rot.IsRows s.data.toList rows ∧
      Bs w' w.heap.size v0 (Rot.lastOf rows) ∧ Bs w' w.heap.size v1 (Rot.treeOf (Rot.columnOf s.data.toList rows)) ∧ Bs w' w.heap.size v2 (Rot.firstOf s.data.toList) ∧ Bs w' w.heap.size v3 (Rot.marksOf rows r) ∧ Bs w' w.heap.size v4 (Rot.placesOf rows r) ∧ w.grownBy w' none := by
  go_enter Tryz.func60, Tryz.ntmps60
  go_wp2_with fail
  refine (rows_any s _ hs).mono ?_
  rintro e w1 ⟨g, cap, rows, rfl, hR, hrl, I, G1⟩
  have hsl : s.data.toList.length = s.size := by simp
  have hlt : ∀ x ∈ rows, x < 1000 := fun x hx => by have := rows_lt hR x hx; omega
  have hle : ∀ x ∈ rows, x ≤ s.size := fun x hx => by have := rows_lt hR x hx; omega
  have h0 := rows_zero hR
  have hlen : rows.length < 1000 := by omega
  have hcl : (Rot.columnOf s.data.toList rows).length ≤ 250 := by rw [column_length hR]; omega
  rw [← hrl] at I ⊢
  have HR := hide hR
  have Hlt := hide hlt
  have Hle := hide hle
  have H0 := hide h0
  have Hcl := hide hcl
  clear hR hlt hle h0 hcl hrl
  go_wp2_with fail
  refine (last_any _ g cap rows _ I (unhide H0) hlen).mono ?_
  rintro e w2 ⟨v0, rfl, S0, G2⟩
  have I2 := Is.up I G2
  clear I
  go_wp2_with fail
  refine (column_any _ s g cap rows _ I2 (unhide Hle) hlen (by omega)).mono ?_
  rintro e w3 ⟨vc, rfl, SC, G3⟩
  have I3 := Is.up I2 G3
  clear I2
  go_wp2_with fail
  refine (tree_any w2.heap.size _ _ _ SC G3.size (unhide Hcl)).mono ?_
  rintro e w4 ⟨v1, rfl, S1, G4⟩
  have I4 := Is.up I3 G4
  clear I3
  go_wp2_with fail
  refine (first_any s _ hs).mono ?_
  rintro e w5 ⟨v2, rfl, S2, G5⟩
  have I5 := Is.up I4 G5
  clear I4
  go_wp2_with fail
  refine (marks_any _ g cap rows r _ I5 (unhide Hlt) hlen hr1 hr2).mono ?_
  rintro e w6 ⟨v3, rfl, S3, G6⟩
  have I6 := Is.up I5 G6
  clear I5
  go_wp2_with fail
  refine (places_any _ _ rows r _ I6 (unhide Hlt) hlen hr1 hr2).mono ?_
  rintro e w7 ⟨v4, rfl, S4, G7⟩
  clear I6
  have GA := grown_trans (grown_trans (grown_trans (grown_trans (grown_trans (grown_trans G1 G2 (Or.inl rfl)) G3 (Or.inl rfl)) G4 (Or.inl rfl)) G5 (Or.inl rfl)) G6 (Or.inl rfl)) G7 (Or.inl rfl)
  have hz1 := G1.size
  have hz2 := G2.size
  have hz3 := G3.size
  have hz4 := G4.size
  have hz5 := G5.size
  have hz6 := G6.size
  have hz7 := G7.size
  simp only [World.size_alloc] at hz1
  have hblk : w7.heap[w.heap.size]? = some (.cells #[.slice none 0 0, .slice none 0 0, .slice none 0 0, .slice none 0 0, .slice none 0 0] 117 (0, 0)) := by
    rw [GA.block w.heap.size (by simp) (by simp)]
    exact heap_alloc_new _ _
  have q0 := cell_of_row w7 w.heap.size 0 _ _ _ hblk
  have q1 := cell_of_row w7 w.heap.size 1 _ _ _ hblk
  have q2 := cell_of_row w7 w.heap.size 2 _ _ _ hblk
  have q3 := cell_of_row w7 w.heap.size 3 _ _ _ hblk
  have q4 := cell_of_row w7 w.heap.size 4 _ _ _ hblk
  have f := fun j => frozen_of_row w7 w.heap.size j _ _ hblk
  have f0 := f 0
  have f1 := f 1
  have f2 := f 2
  have f3 := f 3
  have f4 := f 4
  clear f hblk
  simp only [List.getElem?_toArray, List.getElem?_cons_zero, List.getElem?_cons_succ] at q0 q1 q2 q3 q4
  have G67 := G7
  have G57 := grown_trans G6 G67 (Or.inl rfl)
  have G47 := grown_trans G5 G57 (Or.inl rfl)
  have G27 := grown_trans (grown_trans G3 G4 (Or.inl rfl)) G47 (Or.inl rfl)
  have S0' := hide (S0.kept0 G27)
  have S1' := hide (S1.kept0 G47)
  have S2' := hide (S2.kept0 G57)
  have S3' := hide (S3.kept0 G67)
  have S4' := hide S4
  obtain ⟨a0, c0, rfl⟩ := S0.shape
  obtain ⟨a1, c1, rfl⟩ := S1.shape
  obtain ⟨a2, c2, rfl⟩ := S2.shape
  obtain ⟨a3, c3, rfl⟩ := S3.shape
  obtain ⟨a4, c4, rfl⟩ := S4.shape
  have HGA := hide (grown_trans (World.grownBy_alloc w _ none) GA (Or.inl rfl))
  clear G1 G2 G3 G4 G5 G6 G7 G67 G57 G47 G27 GA S0 S1 S2 S3 S4 SC
  go_wp2_with fail
  refine bodyPost_ret (v := .agg #[.slice a0 (Rot.lastOf rows).length c0, .slice a1 (Rot.treeOf (Rot.columnOf s.data.toList rows)).length c1, .slice a2 (Rot.firstOf s.data.toList).length c2, .slice a3 (Rot.marksOf rows r).length c3, .slice a4 (Rot.placesOf rows r).length c4]) (by simp [results, Tryz.results60, go_sem]; go_simp) rfl ⟨rows, _, _, _, _, _, rfl, unhide HR, ?_, ?_, ?_, ?_, ?_, ?_⟩
  · exact (unhide S0').put5 (by omega) _ _ _ _ _ _ (by omega)
  · exact (unhide S1').put5 (by omega) _ _ _ _ _ _ (by omega)
  · exact (unhide S2').put5 (by omega) _ _ _ _ _ _ (by omega)
  · exact (unhide S3').put5 (by omega) _ _ _ _ _ _ (by omega)
  · exact (unhide S4').put5 (by omega) _ _ _ _ _ _ (by omega)
  · exact grown_trans (unhide HGA) (grown_put5 _ _ _ _ _ _ _) (Or.inr ⟨_, rfl, Nat.le_refl _⟩)
end Go.Proofs.YthlincikgdblfaaGreat
