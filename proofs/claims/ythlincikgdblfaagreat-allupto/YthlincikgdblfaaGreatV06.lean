import Derived.Test.YthlincikgdblfaaGreatV02
import Derived.Sort.OwnSorted
import Derived.Test.YthlincikgdblfaaGreatShelf3
import Derived.Deep.LoopGhost
namespace Go.Proofs.YthlincikgdblfaaGreat
open Go.RowKit
set_option linter.unusedVariables false

namespace Rot
/-- One end comes ahead of another. -/
def less : List UInt8 → List UInt8 → Bool
  | [], [] => false
  | [], _ :: _ => true
  | _ :: _, [] => false
  | a :: xs, b :: ys => if a < b then true else if b < a then false else less xs ys
theorem less_irrefl (a : List UInt8) : less a a = false := by
  induction a with
  | nil => rfl
  | cons x a ih => simp [less, ih]
theorem less_trans : ∀ a b c : List UInt8, less a b = true → less b c = true → less a c = true
  | [], [], c, h, _ => by simp [less] at h
  | [], _ :: _, [], _, h => by simp [less] at h
  | [], _ :: _, _ :: _, _, _ => rfl
  | _ :: _, [], _, h, _ => by simp [less] at h
  | _ :: _, _ :: _, [], _, h => by simp [less] at h
  | x :: a, y :: b, z :: c, h1, h2 => by
    have ih := less_trans a b c
    simp only [less] at h1 h2 ⊢
    by_cases xy : x < y
    · by_cases yz : y < z
      · rw [if_pos (UInt8.lt_trans xy yz)]
      · rw [if_neg yz] at h2
        by_cases zy : z < y
        · rw [if_pos zy] at h2; cases h2
        · have e : y = z := by
            apply UInt8.toNat_inj.1
            rw [UInt8.lt_iff_toNat_lt] at yz zy
            omega
          subst e
          rw [if_pos xy]
    · rw [if_neg xy] at h1
      by_cases yx : y < x
      · rw [if_pos yx] at h1; cases h1
      · rw [if_neg yx] at h1
        have e : x = y := by
          apply UInt8.toNat_inj.1
          rw [UInt8.lt_iff_toNat_lt] at xy yx
          omega
        subst e
        by_cases yz : x < z
        · rw [if_pos yz]
        · rw [if_neg yz] at h2 ⊢
          by_cases zy : z < x
          · rw [if_pos zy] at h2; cases h2
          · rw [if_neg zy] at h2 ⊢
            exact ih h1 h2
theorem less_total : ∀ a b : List UInt8, less a b = false → less b a = false → a = b
  | [], [], _, _ => rfl
  | [], _ :: _, h, _ => by simp [less] at h
  | _ :: _, [], _, h => by simp [less] at h
  | x :: a, y :: b, h1, h2 => by
    have ih := less_total a b
    simp only [less] at h1 h2
    by_cases xy : x < y
    · rw [if_pos xy] at h1; cases h1
    · by_cases yx : y < x
      · rw [if_pos yx] at h2; cases h2
      · rw [if_neg xy, if_neg yx] at h1
        rw [if_neg yx, if_neg xy] at h2
        have e : x = y := by
          apply UInt8.toNat_inj.1
          rw [UInt8.lt_iff_toNat_lt] at xy yx
          omega
        subst e
        rw [ih h1 h2]
theorem less_ntrans (a b c : List UInt8) (h1 : less a b = false) (h2 : less b c = false) : less a c = false := by
  cases h : less a c with
  | false => rfl
  | true =>
    exfalso
    cases hb : less b a with
    | true =>
      have := less_trans b a c hb h
      rw [this] at h2; cases h2
    | false =>
      have e := less_total a b h1 hb
      subst e
      rw [h] at h2; cases h2
/-- The rows of a text: where its ends, in order, begin. -/
structure IsRows (t : List UInt8) (rows : List Nat) : Prop where
  perm : rows.Perm (List.range (t.length + 1))
  order : rows.Pairwise fun p q => less (t.drop p) (t.drop q) = true
end Rot

theorem compare_less : ∀ a b : List UInt8, decide (Lib.compareBytes a b < 0) = Rot.less a b
  | [], [] => by simp [Lib.compareBytes, Rot.less]
  | [], _ :: _ => by simp [Lib.compareBytes, Rot.less]
  | _ :: _, [] => by simp [Lib.compareBytes, Rot.less]
  | x :: a, y :: b => by
    have ih := compare_less a b
    simp only [Lib.compareBytes, Rot.less]
    by_cases xy : x < y
    · simp [xy]
    · by_cases yx : y < x
      · simp [xy, yx]
      · simp only [xy, yx, if_false]
        exact ih
theorem infoI : (Tryz.prog.info? 3).map (fun i => (i.zero, i.size, i.bytes)) = some (some (.int .i64 0), 1, 8) := by kernel_rfl

/-- The closure: two ends of the text, compared. -/
theorem cmp_any (b : Nat) (s : ByteArray) (x y : Nat) (w : World) (hb : w.cell? ⟨b, 0, none⟩ = some (.string s)) (hx : x ≤ s.size) (hy : y ≤ s.size) (hs : s.size ≤ 250) :
    Calls Tryz.prog 122 #[.int .i64 x, .int .i64 y, .pointer (some ⟨b, 0, none⟩)] w fun e w' => e = .returned (.int .i64 (Lib.compareBytes (s.data.toList.drop x) (s.data.toList.drop y))) ∧ ∃ q, w' = w.drewN q := by
  have e1 : (s.extract x s.size).data.toList = s.data.toList.drop x := by
    rw [ByteArray.data_extract]
    simp
    exact List.take_of_length_le (by simp)
  have e2 : (s.extract y s.size).data.toList = s.data.toList.drop y := by
    rw [ByteArray.data_extract]
    simp
    exact List.take_of_length_le (by simp)
  have hcon := fun W => Tryz.strings_Compare (s.extract x s.size) (s.extract y s.size) W
  rw [← e1, ← e2]
  clear e1 e2
  generalize Lib.compareBytes (s.extract x s.size).data.toList (s.extract y s.size).data.toList = rr at hcon ⊢
  go_enter Tryz.func122, Tryz.ntmps122
  go_wp2_with fail
  go_quiet ((go_at_call 123; exact Calls.quiet_of_same (hcon _)))
  go_wp2
  go_ret
  exact ⟨rfl, _, rfl⟩

end Go.Proofs.YthlincikgdblfaaGreat

namespace Go.Proofs.YthlincikgdblfaaGreat
open Go.RowKit
set_option linter.unusedVariables false

open Go.Sort Go.Shelf in
theorem grown_sorted {α : Type} [Inhabited α] (enc : α → Value) (w : World) (g off n : Nat) (d : Array α) (os : Array Obj) : w.grownBy (sortWorld enc w g off n d os) (some g) := by
  unfold sortWorld
  refine ⟨rfl, rfl, rfl, by simp, fun k hk hne => ?_⟩
  rw [heap_grow_old _ _ (by simpa using hk)]
  have : g ≠ k := fun e => hne (by rw [e])
  simp [putRow, mapBlock, Sort.ahead, Array.getElem?_modify, this]
/-- The first k places filled. -/
def fillTo (n k : Nat) : List Nat := (List.range n).map fun j => if j < k then j else 0
theorem fill_len (n k : Nat) : (fillTo n k).length = n := by simp [fillTo]
theorem fill_set (n k : Nat) (hk : k < n) : (fillTo n k).set k k = fillTo n (k + 1) := by
  apply List.ext_getElem?
  intro j
  rw [List.getElem?_set]
  by_cases hj : j < n
  · by_cases e : k = j
    · subst e; simp [fillTo, hk]
    · have : (j < k + 1) = (j < k) := by apply propext; omega
      simp [fillTo, hj, e, this]
  · have h1 : ¬ k = j := by omega
    simp [fillTo, hj, h1]
theorem fill_all (n : Nat) : fillTo n n = List.range n := by
  apply List.ext_getElem?
  intro j
  by_cases hj : j < n
  · simp [fillTo, hj]
  · simp [fillTo, hj]
theorem fill_none (n : Nat) : byI (fillTo n 0) = (madeCells #[.int .i64 0] n).toList := by
  rw [toList_madeCells_one]
  apply List.ext_getElem?
  intro j
  by_cases hj : j < n
  · simp [byI, fillTo, hj]
  · simp [byI, fillTo, hj]
theorem byI_set (l : List Nat) (j n : Nat) : byI (l.set j n) = (byI l).set j (.int .i64 (n : Int)) := by simp [byI, List.map_set]

section
open Go.Sort Go.Shelf Go.Lib
variable (t : List UInt8)
def encP (i : Fin (t.length + 1)) : Value := .int .i64 ((i.val : Nat) : Int)
def cmpP (x y : Fin (t.length + 1)) : Int := Lib.compareBytes (t.drop x.val) (t.drop y.val)
theorem ltP (x y : Fin (t.length + 1)) : ltOf (cmpP t) x y = Rot.less (t.drop x.val) (t.drop y.val) := compare_less _ _
theorem swoP : SWO (ltOf (cmpP t)) where
  irrefl x := by rw [ltP]; exact Rot.less_irrefl _
  trans x y z h1 h2 := by rw [ltP] at *; exact Rot.less_trans _ _ _ h1 h2
  ntrans x y z h1 h2 := by rw [ltP] at *; exact Rot.less_ntrans _ _ _ h1 h2
theorem cmpReads (s : ByteArray) (b blk off size : Nat) (w : World) (hs : s.size ≤ 250) (hb : w.cell? ⟨b, 0, none⟩ = some (.string s)) (hne : b ≠ blk) :
    CmpReads Tryz.prog 122 #[.pointer (some ⟨b, 0, none⟩)] (encP s.data.toList) (cmpP s.data.toList) blk off size w := by
  intro m os dk hsz x y
  have hl : s.data.toList.length = s.size := by simp
  have hx : x.val ≤ s.size := by have := x.isLt; omega
  have hy : y.val ≤ s.size := by have := y.isLt; omega
  exact cmp_any b s x.val y.val _ ((grown_sorted _ _ _ _ _ _ _).cell hb (by intro e; cases e; exact hne rfl)) hx hy hs
end
end Go.Proofs.YthlincikgdblfaaGreat

namespace Go.Proofs.YthlincikgdblfaaGreat
open Go.RowKit
set_option linter.unusedVariables false

section
open Go.Sort Go.Shelf Go.Lib

theorem heap_sorted' {α : Type} [Inhabited α] (enc : α → Value) {w : World} {g n : Nat} {os : Array Obj} {cur : Array Value} {e : TypeId} {fr : Nat × Nat} (d : Array α) (hb : w.heap[g]? = some (.cells cur e fr)) :
    (sortWorld enc w g 0 n d os).heap[g]? = some (.cells (putCells enc 0 d cur) e fr) := by
  unfold sortWorld
  have hg : g < w.heap.size := (Array.getElem?_eq_some_iff.1 hb).1
  rw [heap_grow_old _ _ (by simpa using hg)]
  simp [putRow, mapBlock, Sort.ahead, Array.getElem?_modify, hb, onCells]
theorem take_putCells' {α : Type} [Inhabited α] (enc : α → Value) (cur : Array Value) (d : Array α) (h : d.size ≤ cur.size) : (putCells enc 0 d cur).toList.take d.size = d.toList.map enc := by
  apply List.ext_getElem?
  intro j
  by_cases hj : j < d.size
  · rw [List.getElem?_take_of_lt hj, Array.getElem?_toList]
    simp [putCells, hj, show j < cur.size by omega]
  · rw [List.getElem?_take_eq_none (by omega), List.getElem?_eq_none (by simp; omega)]
theorem range_fin (n : Nat) : ((Array.ofFn (n := n) id).toList.map fun i => i.val) = List.range n := by
  apply List.ext_getElem?
  intro j
  by_cases hj : j < n
  · simp [hj]
  · simp [hj]
theorem drop_ne (t : List UInt8) (p q : Nat) (hp : p ≤ t.length) (hq : q ≤ t.length) (h : p ≠ q) : t.drop p ≠ t.drop q := by
  intro e
  have := congrArg List.length e
  simp at this
  omega

/-- The sort's own contract, at the rows of a text. -/
theorem sort_rows (s : ByteArray) (b blk cap base : Nat) (w : World) (hs : s.size ≤ 250) (hb : w.cell? ⟨b, 0, none⟩ = some (.string s)) (hne : b ≠ blk)
    (hO : Is w base (.slice (some ⟨blk, 0, none⟩) (s.size + 1) cap) (List.range (s.size + 1))) :
    Calls Tryz.prog 121 #[.slice (some ⟨blk, 0, none⟩) (s.size + 1) cap, .func (.func 122) #[] #[.pointer (some ⟨b, 0, none⟩)]] w fun e w' =>
      e = .returned (.tuple #[]) ∧ ∃ rows, Rot.IsRows s.data.toList rows ∧ Is w' base (.slice (some ⟨blk, 0, none⟩) (s.size + 1) cap) rows ∧ rows.length = s.size + 1 ∧ w.grownBy w' (some blk) := by
  have hl : s.data.toList.length = s.size := by simp
  have eg : ∀ args w, (callFunc 122 args).run Tryz.prog w = .ok (.enter 122 args) w := enters_of Tryz.func122 (by kernel_rfl) rfl
  let d : Array (Fin (s.data.toList.length + 1)) := Array.ofFn id
  have hd : d.size = s.size + 1 := by simp [d]
  rcases hO.2 with ⟨h0, _⟩ | ⟨g, cap', cur, hv, hbase, hg, hnc, hcm, hcs, htake⟩
  · simp at h0
  simp only [Value.slice.injEq, Option.some.injEq, Addr.mk.injEq, and_true] at hv
  obtain ⟨rfl, hlen, rfl⟩ := hv
  have hH : Holds (encP s.data.toList) w blk 0 d := by
    intro j hj
    rw [hd] at hj
    refine ⟨?_, ?_⟩
    · have hc := Is.cell hO j (by simpa using hj)
      rw [Nat.zero_add, hc]
      have : d[j]! = ⟨j, by omega⟩ := by
        rw [getElem!_pos d j (by omega)]
        simp [d]
      rw [this]
      simp [encP]
    · rw [Nat.zero_add]
      exact frozen_of_row w blk j cur _ hg
  have hcon := Any.slices_SortFunc Tryz.sortL (encP s.data.toList) (fun _ => rfl) (cmpP s.data.toList) (swoP s.data.toList) 122 #[.pointer (some ⟨b, 0, none⟩)] blk 0 cap d w eg (cmpReads s b blk 0 d.size w hs hb hne).lays hH (Array.getElem?_eq_some_iff.1 hg).1 (by rw [hd]; omega)
  change Calls Tryz.prog 121 _ _ _ at hcon
  rw [hd] at hcon
  refine hcon.mono ?_
  rintro e w' ⟨rfl, d', n, os, hp, hsort, rfl⟩
  refine ⟨rfl, d'.toList.map (fun i => i.val), ?_, ?_, ?_, grown_sorted _ _ _ _ _ _ _⟩
  · have hperm : (d'.toList.map fun i => i.val).Perm (List.range (s.data.toList.length + 1)) := by
      rw [← range_fin]
      refine List.Perm.map _ ?_
      have h3 := hp.2.2
      have e1 : (d'.extract 0 (s.size + 1)).toList = d'.toList := by
        have := hp.1
        simp only [Array.toList_extract, List.extract_eq_take_drop, List.drop_zero, Nat.sub_zero]
        exact List.take_of_length_le (by simp; omega)
      have e2 : (d.extract 0 (s.size + 1)).toList = d.toList := by
        simp only [Array.toList_extract, List.extract_eq_take_drop, List.drop_zero, Nat.sub_zero]
        exact List.take_of_length_le (by simp; omega)
      rw [e1, e2] at h3
      exact h3
    refine ⟨hperm, ?_⟩
    have hnd : (d'.toList.map fun i => i.val).Nodup := hperm.nodup_iff.2 List.nodup_range
    rw [List.pairwise_iff_getElem]
    intro i j hi hj hij
    simp only [List.getElem_map, Array.getElem_toList]
    have hi' : i < d'.size := by simpa using hi
    have hj' : j < d'.size := by simpa using hj
    have h1 := hsort i j (Nat.zero_le _) hij (by have := hp.1; omega)
    rw [ltP, getElem!_pos d' i hi', getElem!_pos d' j hj'] at h1
    have hne2 : d'[i].val ≠ d'[j].val := by
      have := (List.nodup_iff_pairwise_ne.1 hnd)
      rw [List.pairwise_iff_getElem] at this
      have := this i j hi hj hij
      simpa using this
    have hdn := drop_ne s.data.toList d'[i].val d'[j].val (by have := d'[i].isLt; omega) (by have := d'[j].isLt; omega) hne2
    cases h2 : Rot.less (List.drop d'[i].val s.data.toList) (List.drop d'[j].val s.data.toList) with
    | true => rfl
    | false => exact absurd (Rot.less_total _ _ h2 h1) hdn
  · have hsz : d'.size = s.size + 1 := hp.1.trans hd
    have hlen' : (d'.toList.map fun i => i.val).length = s.size + 1 := by simpa using hsz
    refine ⟨by simp [byI], .inr ⟨blk, cap, _, by rw [hlen'], hbase, heap_sorted' _ _ hg, by rw [hlen']; simpa using hnc, hcm, by simp [putCells, hcs], ?_⟩⟩
    rw [Nat.mul_one, hlen', ← hsz, take_putCells' _ _ _ (by rw [hcs]; have := hnc; simp at this; omega)]
    simp [byI, encP]
  · simpa using hp.1.trans hd
end
end Go.Proofs.YthlincikgdblfaaGreat

namespace Go.Proofs.YthlincikgdblfaaGreat
open Go.RowKit
set_option linter.unusedVariables false

set_option maxRecDepth 100000 in
set_option maxHeartbeats 1000000 in
theorem rows_any (s : ByteArray) (w : World) (hs : s.size ≤ 250) :
    Calls Tryz.prog 90 #[.string s] w fun e w' => ∃ g cap rows, e = .returned (.slice (some ⟨g, 0, none⟩) (s.size + 1) cap) ∧ Rot.IsRows s.data.toList rows ∧ rows.length = s.size + 1 ∧ Is w' w.heap.size (.slice (some ⟨g, 0, none⟩) (s.size + 1) cap) rows ∧ w.grownBy w' none := by
  obtain ⟨i0, hi, hz0, hz1, hz2⟩ := info_parts infoI
  have hb0 : (w.alloc (.cells #[.string s] 9)).cell? ⟨w.heap.size, 0, none⟩ = some (.string s) := by go_simp
  go_enter Tryz.func90, Tryz.ntmps90
  go_wp2_with (at_make; refine wpList_make_full _ rfl _ _ 25 rfl (w.heap.size + 1) 3 i0 (.int .i64 0) 1 Tryz.underlying25 hi hz0 hz1 .i64 .i64 _ _ (s.size + 1) rfl rfl ?l1 ?l2 ?m1 ?m2 ?m3 ?_)
  case l1 => omega
  case l2 => omega
  case m1 => rw [hz2]; omega
  case m2 => unfold maxLen; omega
  case m3 => simp
  intro w0 O0 G0
  have I0 : Is w0 (w.heap.size + 1) (.slice (some ⟨w.heap.size + 1, 0, none⟩) (s.size + 1) (s.size + 1)) (fillTo (s.size + 1) 0) := by
    unfold Is
    rw [fill_len, fill_none]
    simpa using O0
  clear O0
  go_wp2_with fail
  go_loopw [11] (fun i wr => ∃ k : Nat, k ≤ s.size + 1 ∧ i = .int .i64 k ∧ Is wr (w.heap.size + 1) (.slice (some ⟨w.heap.size + 1, 0, none⟩) (s.size + 1) (s.size + 1)) (fillTo (s.size + 1) k) ∧ (w.alloc (.cells #[.string s] 9)).grownBy wr none) (fun i _ => s.size + 1 - (intOf i).toNat)
  case atStart => exact ⟨0, Nat.zero_le _, rfl, I0, G0⟩
  case round =>
    obtain ⟨k, hk, rfl, I, G⟩ := hrel
    clear I0 G0
    by_cases hlt : k < s.size + 1
    · have hlen : k < (fillTo (s.size + 1) k).length := by rw [fill_len]; omega
      have hc := Is.cell I k hlen
      generalize hzz : (fillTo (s.size + 1) k)[k]'hlen = zz at hc
      clear hzz
      have S : wr.ownsRow (w.heap.size + 1) 3 1 (.slice (some ⟨w.heap.size + 1, 0, none⟩) (s.size + 1) (s.size + 1)) (s.size + 1) (byI (fillTo (s.size + 1) k)) := by
        have := I
        unfold Is at this
        rwa [fill_len] at this
      have hf := World.ownsRow.frozenAt S k
      have HS := hide (World.ownsRow.stored S k (.int .i64 (k : Int)))
      clear S I
      go_wp2
      go_roundw
      case rel =>
        refine ⟨k + 1, by omega, by go_num, ?_, grown_trans G (unhide HS).2 (Or.inr ⟨_, rfl, by simp⟩)⟩
        unfold Is
        rw [fill_len, ← fill_set _ _ hlt, byI_set]
        exact (unhide HS).1
      case measure => simp [intOf]; omega
    · have hk' : k = s.size + 1 := by omega
      subst hk'
      rw [fill_all] at I
      have hb := G.cell hb0 (by simp)
      have hcon := sort_rows s w.heap.size (w.heap.size + 1) (s.size + 1) (w.heap.size + 1) wr hs hb (by omega) I
      go_wp2_with fail
      refine hcon.mono ?_
      rintro e w2 ⟨rfl, rows, hr, I2, hl2, G2⟩
      clear hcon
      go_wp2_with fail
      go_ret
      refine ⟨_, _, rows, rfl, hr, hl2, ?_, ?_⟩
      · exact ⟨I2.1, I2.2.imp id fun ⟨g, cap, cur, a, b, c⟩ => ⟨g, cap, cur, a, by omega, c⟩⟩
      · exact grown_trans (grown_trans (World.grownBy_alloc w _ none) G (Or.inl rfl)) G2 (Or.inr ⟨_, rfl, by omega⟩)
end Go.Proofs.YthlincikgdblfaaGreat
