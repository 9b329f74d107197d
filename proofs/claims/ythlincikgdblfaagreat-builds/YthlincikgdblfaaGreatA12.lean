import Derived.Test.YthlincikgdblfaaGreatA11
namespace Go.Proofs.YthlincikgdblfaaGreat
open Go.RowKit
set_option linter.unusedVariables false

section
open Go.Sort Go.Shelf Go.Lib

theorem heap_sorted' {α : Type} [Inhabited α] (enc : α → Value) {w : World} {g n : Nat} {os : Array Obj} {cur : Array Value} {e : TypeId} {fr : Nat × Nat} (d : Array α) (hb : w.heap[g]? = some (.cells cur e fr)) :
    (sortWorld enc w g 0 n d os).heap[g]? = some (.cells (putCells enc 0 d cur) e fr) := by
  unfold sortWorld
  have hg : g < w.heap.size := (Array.getElem?_eq_some_iff.1 hb).1
  rw [heap_grow_old _ _ (by simpa using hg)]
  simp [putRow, mapBlock, Sort.ahead, Array.getElem?_modify, hb, onCells]
theorem take_putCells' {α : Type} [Inhabited α] (enc : α → Value) (cur : Array Value) (d : Array α) (h : d.size ≤ cur.size) : (putCells enc 0 d cur).toList.take d.size = d.toList.map enc := by
  apply List.ext_getElem?
  intro j
  by_cases hj : j < d.size
  · rw [List.getElem?_take_of_lt hj, Array.getElem?_toList]
    simp [putCells, hj, show j < cur.size by omega]
  · rw [List.getElem?_take_eq_none (by omega), List.getElem?_eq_none (by simp; omega)]
theorem range_fin (n : Nat) : ((Array.ofFn (n := n) id).toList.map fun i => i.val) = List.range n := by
  apply List.ext_getElem?
  intro j
  by_cases hj : j < n
  · simp [hj]
  · simp [hj]
theorem drop_ne (t : List UInt8) (p q : Nat) (hp : p ≤ t.length) (hq : q ≤ t.length) (h : p ≠ q) : t.drop p ≠ t.drop q := by
  intro e
  have := congrArg List.length e
  simp at this
  omega

/-- The sort's own contract, at the rows of a text. -/
theorem sort_rows (s : ByteArray) (b blk cap base : Nat) (w : World) (hs : s.size ≤ 250) (hb : w.cell? ⟨b, 0, none⟩ = some (.string s)) (hne : b ≠ blk)
    (hO : Is w base (.slice (some ⟨blk, 0, none⟩) (s.size + 1) cap) (List.range (s.size + 1))) :
    Calls Tryz.prog 121 #[.slice (some ⟨blk, 0, none⟩) (s.size + 1) cap, .func (.func 122) #[] #[.pointer (some ⟨b, 0, none⟩)]] w fun e w' =>
      e = .returned (.tuple #[]) ∧ ∃ rows, Rot.IsRows s.data.toList rows ∧ Is w' base (.slice (some ⟨blk, 0, none⟩) (s.size + 1) cap) rows ∧ rows.length = s.size + 1 ∧ w.grownBy w' (some blk) := by
  have hl : s.data.toList.length = s.size := by simp
  have eg : ∀ args w, (callFunc 122 args).run Tryz.prog w = .ok (.enter 122 args) w := enters_of Tryz.func122 (by kernel_rfl) rfl
  let d : Array (Fin (s.data.toList.length + 1)) := Array.ofFn id
  have hd : d.size = s.size + 1 := by simp [d]
  rcases hO.2 with ⟨h0, _⟩ | ⟨g, cap', cur, hv, hbase, hg, hnc, hcm, hcs, htake⟩
  · simp at h0
  simp only [Value.slice.injEq, Option.some.injEq, Addr.mk.injEq, and_true] at hv
  obtain ⟨rfl, hlen, rfl⟩ := hv
  have hH : Holds (encP s.data.toList) w blk 0 d := by
    intro j hj
    rw [hd] at hj
    refine ⟨?_, ?_⟩
    · have hc := Is.cell hO j (by simpa using hj)
      rw [Nat.zero_add, hc]
      have : d[j]! = ⟨j, by omega⟩ := by
        rw [getElem!_pos d j (by omega)]
        simp [d]
      rw [this]
      simp [encP]
    · rw [Nat.zero_add]
      exact frozen_of_row w blk j cur _ hg
  have hcon := Any.slices_SortFunc Tryz.sortL (encP s.data.toList) (fun _ => rfl) (cmpP s.data.toList) (swoP s.data.toList) 122 #[.pointer (some ⟨b, 0, none⟩)] blk 0 cap d w eg (cmpReads s b blk 0 d.size w hs hb hne).lays hH (Array.getElem?_eq_some_iff.1 hg).1 (by rw [hd]; omega)
  change Calls Tryz.prog 121 _ _ _ at hcon
  rw [hd] at hcon
  refine hcon.mono ?_
  rintro e w' ⟨rfl, d', n, os, hp, hsort, rfl⟩
  refine ⟨rfl, d'.toList.map (fun i => i.val), ?_, ?_, ?_, grown_sorted _ _ _ _ _ _ _⟩
  · have hperm : (d'.toList.map fun i => i.val).Perm (List.range (s.data.toList.length + 1)) := by
      rw [← range_fin]
      refine List.Perm.map _ ?_
      have h3 := hp.2.2
      have e1 : (d'.extract 0 (s.size + 1)).toList = d'.toList := by
        have := hp.1
        simp only [Array.toList_extract, List.extract_eq_take_drop, List.drop_zero, Nat.sub_zero]
        exact List.take_of_length_le (by simp; omega)
      have e2 : (d.extract 0 (s.size + 1)).toList = d.toList := by
        simp only [Array.toList_extract, List.extract_eq_take_drop, List.drop_zero, Nat.sub_zero]
        exact List.take_of_length_le (by simp; omega)
      rw [e1, e2] at h3
      exact h3
    refine ⟨hperm, ?_⟩
    have hnd : (d'.toList.map fun i => i.val).Nodup := hperm.nodup_iff.2 List.nodup_range
    rw [List.pairwise_iff_getElem]
    intro i j hi hj hij
    simp only [List.getElem_map, Array.getElem_toList]
    have hi' : i < d'.size := by simpa using hi
    have hj' : j < d'.size := by simpa using hj
    have h1 := hsort i j (Nat.zero_le _) hij (by have := hp.1; omega)
    rw [ltP, getElem!_pos d' i hi', getElem!_pos d' j hj'] at h1
    have hne2 : d'[i].val ≠ d'[j].val := by
      have := (List.nodup_iff_pairwise_ne.1 hnd)
      rw [List.pairwise_iff_getElem] at this
      have := this i j hi hj hij
      simpa using this
    have hdn := drop_ne s.data.toList d'[i].val d'[j].val (by have := d'[i].isLt; omega) (by have := d'[j].isLt; omega) hne2
    cases h2 : Rot.less (List.drop d'[i].val s.data.toList) (List.drop d'[j].val s.data.toList) with
    | true => rfl
    | false => exact absurd (Rot.less_total _ _ h2 h1) hdn
  · have hsz : d'.size = s.size + 1 := hp.1.trans hd
    have hlen' : (d'.toList.map fun i => i.val).length = s.size + 1 := by simpa using hsz
    refine ⟨by simp [byI], .inr ⟨blk, cap, _, by rw [hlen'], hbase, heap_sorted' _ _ hg, by rw [hlen']; simpa using hnc, hcm, by simp [putCells, hcs], ?_⟩⟩
    rw [Nat.mul_one, hlen', ← hsz, take_putCells' _ _ _ (by rw [hcs]; have := hnc; simp at this; omega)]
    simp [byI, encP]
  · simpa using hp.1.trans hd
end
end Go.Proofs.YthlincikgdblfaaGreat
