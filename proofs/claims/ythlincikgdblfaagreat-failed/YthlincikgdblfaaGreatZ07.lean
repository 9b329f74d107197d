import Derived.Test.YthlincikgdblfaaGreatZ03
import Derived.Sort.OwnSorted
import Derived.Test.YthlincikgdblfaaGreatShelf3
import Derived.Deep.LoopGhost
namespace Go.Proofs.YthlincikgdblfaaGreat
open Go.RowKit
set_option linter.unusedVariables false

/-- How often each byte value stands in a text, as cells. -/
def cntOf (l : List UInt8) (c : Nat) : Nat := l.countP fun b => b.toNat == c
def cntCells (l : List UInt8) : Array Value := ((List.range 256).map fun (c : Nat) => Value.int .u16 (cntOf l c : Int)).toArray
theorem cnt_size (l : List UInt8) : (cntCells l).size = 256 := by simp [cntCells]
theorem cnt_get (l : List UInt8) (c : Nat) (hc : c < 256) : (cntCells l)[c]? = some (.int .u16 (cntOf l c : Int)) := by
  simp [cntCells, hc]
theorem cntOf_snoc (l : List UInt8) (b : UInt8) (c : Nat) : cntOf (l ++ [b]) c = cntOf l c + if b.toNat = c then 1 else 0 := by
  unfold cntOf
  rw [List.countP_append]
  by_cases h : b.toNat = c <;> simp [h]
theorem cnt_set (l : List UInt8) (b : UInt8) : (cntCells l).setIfInBounds b.toNat (.int .u16 ((cntOf l b.toNat : Int) + 1)) = cntCells (l ++ [b]) := by
  have hb : b.toNat < 256 := b.toNat_lt
  apply Array.ext_getElem?
  intro j
  rw [Array.getElem?_setIfInBounds]
  by_cases hj : j < 256
  · rw [cnt_get _ j hj, cnt_get _ j hj, cntOf_snoc, cnt_size]
    by_cases e : b.toNat = j
    · subst e; simp [hb]
    · simp [e]
  · have h1 : (cntCells l)[j]? = none := Array.getElem?_eq_none (by rw [cnt_size]; omega)
    have h2 : (cntCells (l ++ [b]))[j]? = none := Array.getElem?_eq_none (by rw [cnt_size]; omega)
    rw [h1, h2]
    by_cases e : b.toNat = j
    · omega
    · simp [e]
theorem cnt_le (l : List UInt8) (c : Nat) : cntOf l c ≤ l.length := List.countP_le_length
theorem belowOf_succ (l : List UInt8) (c : Nat) : Rot.belowOf l (c + 1) = Rot.belowOf l c + cntOf l c := by
  unfold Rot.belowOf cntOf
  induction l with
  | nil => rfl
  | cons b l ih =>
    simp only [List.filter_cons, List.countP_cons]
    by_cases h1 : b.toNat < c
    · have h2 : b.toNat < c + 1 := by omega
      have h3 : ¬ b.toNat = c := by omega
      simp [h1, h2, h3]; omega
    · by_cases h2 : b.toNat = c
      · subst h2; simp; omega
      · have h3 : ¬ b.toNat < c + 1 := by omega
        simp [h1, h2, h3]; omega
theorem belowOf_le (l : List UInt8) (c : Nat) : Rot.belowOf l c ≤ 1 + l.length := by
  unfold Rot.belowOf
  have := List.length_filter_le (fun b : UInt8 => decide (b.toNat < c)) l
  omega
theorem zero_cells : Tryz.zeroCells74 = cntCells [] := by kernel_rfl

theorem idx_counts (cs : Array Value) (k : Nat) (v : Value) (hk : k < 256) (hv : cs[k]? = some v) (w : World) : (Instr.index 74 (.agg cs) (.int .i64 (k : Int))).run Tryz.prog w = .ok v w := by
  have h0 : (k : Int) < 256 := by omega
  simp [Instr.index, run_underlying Tryz.underlying74, asIntOf, part, Tryz.sizeOf67, Tryz.isAgg67, hv, go_sem]
  intro h
  omega

theorem take_snoc' (s : ByteArray) (k : Nat) (h : k < s.size) : s.data.toList.take (k + 1) = s.data.toList.take k ++ [s[k]] := by
  rw [List.take_succ_eq_append_getElem (by simpa using h)]; rfl

set_option maxRecDepth 100000 in
set_option maxHeartbeats 1000000 in
theorem first_any (s : ByteArray) (w : World) (hs : s.size ≤ 250) :
    Calls Tryz.prog 94 #[.string s] w fun e w' => ∃ v', e = .returned v' ∧ Bs w' w.heap.size v' (Rot.firstOf s.data.toList) ∧ w.grownBy w' none := by
  go_enter Tryz.func94, Tryz.ntmps94
  go_wp2_with fail
  rw [zero_cells]
  go_loopw [11] (fun i wr => ∃ k : Nat, k ≤ s.size ∧ i = .int .i64 k ∧ wr.heap[w.heap.size]? = some (.cells (cntCells (s.data.toList.take k)) 74 (0, 0)) ∧ w.grownBy wr none) (fun i _ => s.size - (intOf i).toNat)
  case atStart => exact ⟨0, Nat.zero_le _, rfl, heap_alloc_new _ _, World.grownBy_alloc _ _ _⟩
  case round =>
    obtain ⟨k, hk, rfl, hh, G⟩ := hrel
    by_cases hlt : k < s.size
    · have hb := (s[k]).toNat_lt
      have hc := cell_of_row wr w.heap.size (s[k]).toNat _ _ _ hh
      rw [cnt_get _ _ hb] at hc
      have hf := frozen_of_row wr w.heap.size (s[k]).toNat _ _ hh
      have hle := cnt_le (s.data.toList.take k) (s[k]).toNat
      rw [List.length_take] at hle
      have HH := hide hh
      have HT := hide (take_snoc' s k hlt)
      have HS := hide (cnt_set (s.data.toList.take k) (s[k]))
      clear hh
      generalize hcn : cntOf (s.data.toList.take k) (s[k]).toNat = cn at hc hle HS
      clear hcn
      go_wp2
      go_roundw
      case rel =>
        refine ⟨k + 1, by omega, by go_num, ?_, ?_⟩
        · rw [unhide HT, ← unhide HS]
          exact heap_setCell_same wr w.heap.size _ _ _ _ (unhide HH)
        · exact grown_trans G (grown_setCell wr w.heap.size _ _) (Or.inr ⟨_, rfl, Nat.le_refl _⟩)
      case measure => simp [intOf]; omega
    · have hk' : k = s.size := by omega
      subst hk'
      rw [List.take_of_length_le (by simp)] at hh
      generalize hL : s.data.toList = L at hh
      have hLs : L.length ≤ 250 := by rw [← hL]; simpa using hs
      have HLL := hide hL
      clear hL
      have hsz : (Tryz.prog.info? 74).map (·.size) = some (cntCells L).size := by rw [cnt_size]; kernel_rfl
      go_wp2_with (refine wpList_load_row rfl 74 (.tmp 3) rfl w.heap.size rfl _ _ _ _ hh Tryz.underlying74 rfl hsz ?_)
      clear hsz hh
      go_loopw [5, 6, 23] (fun v b i wr => ∃ k : Nat, k ≤ 256 ∧ i = .int .i64 k ∧ b = .int .u16 (Rot.belowOf L k : Int) ∧ Bs wr w.heap.size v ((List.range k).flatMap fun c => Rot.le16 (Rot.belowOf L c)) ∧ w.grownBy wr none) (fun _ _ i _ => 256 - (intOf i).toNat)
      case atStart => exact ⟨0, Nat.zero_le _, rfl, by rw [show Rot.belowOf L 0 = 1 from by simp [Rot.belowOf]]; rfl, Bs.nil _ _, G⟩
      case round =>
        obtain ⟨k, hk, rfl, rfl, A, G⟩ := hrel
        by_cases hlt : k < 256
        · have hidx := idx_counts (cntCells L) k _ hlt (cnt_get L k hlt)
          have hbl := belowOf_le L k
          have hbs := belowOf_le L (k + 1)
          have HB := hide (belowOf_succ L k)
          have hcl := cnt_le L k
          have hsum : Rot.belowOf L k + cntOf L k ≤ 1 + L.length := by rw [← unhide HB]; exact hbs
          clear hbs
          have hlen : ((List.range k).flatMap fun c => Rot.le16 (Rot.belowOf L c)).length < 900000 := by
            rw [← List.flatMap_map (f := Rot.belowOf L) (g := Rot.le16), flat_len]
            simp
            omega
          have hsz := G.size
          go_wp2_with fail
          refine (app16_any w.heap.size _ _ _ _ (by omega) A hlen (by omega)).mono ?_
          rintro e w1 ⟨u', rfl, A1⟩
          have G1 := A1.fresh G A
          have B1 := A1.own
          have e2 : ((List.range k).flatMap fun c => Rot.le16 (Rot.belowOf L c)) ++ Rot.le16 (Rot.belowOf L k) = (List.range (k + 1)).flatMap fun c => Rot.le16 (Rot.belowOf L c) := by
            rw [List.range_succ, List.flatMap_append]; simp
          rw [e2] at B1
          have HB1 := hide B1
          clear A A1 B1 e2 hlen hidx G
          go_wp2_with fail
          go_roundw
          case rel => exact ⟨k + 1, by omega, by go_num, num_eq (by rw [unhide HB]; omega), unhide HB1, G1⟩
          case measure => simp [intOf]; omega
        · have hk' : k = 256 := by omega
          subst hk'
          go_wp2_with fail
          go_ret
          exact ⟨_, rfl, by unfold Rot.firstOf; rw [unhide HLL]; exact A, G⟩
end Go.Proofs.YthlincikgdblfaaGreat

namespace Go.Proofs.YthlincikgdblfaaGreat
open Go.RowKit
set_option linter.unusedVariables false

namespace Rot
/-- One end comes ahead of another. -/
def less : List UInt8 → List UInt8 → Bool
  | [], [] => false
  | [], _ :: _ => true
  | _ :: _, [] => false
  | a :: xs, b :: ys => if a < b then true else if b < a then false else less xs ys
theorem less_irrefl (a : List UInt8) : less a a = false := by
  induction a with
  | nil => rfl
  | cons x a ih => simp [less, ih]
theorem less_trans : ∀ a b c : List UInt8, less a b = true → less b c = true → less a c = true
  | [], [], c, h, _ => by simp [less] at h
  | [], _ :: _, [], _, h => by simp [less] at h
  | [], _ :: _, _ :: _, _, _ => rfl
  | _ :: _, [], _, h, _ => by simp [less] at h
  | _ :: _, _ :: _, [], _, h => by simp [less] at h
  | x :: a, y :: b, z :: c, h1, h2 => by
    have ih := less_trans a b c
    simp only [less] at h1 h2 ⊢
    by_cases xy : x < y
    · by_cases yz : y < z
      · rw [if_pos (UInt8.lt_trans xy yz)]
      · rw [if_neg yz] at h2
        by_cases zy : z < y
        · rw [if_pos zy] at h2; cases h2
        · have e : y = z := by
            apply UInt8.toNat_inj.1
            rw [UInt8.lt_iff_toNat_lt] at yz zy
            omega
          subst e
          rw [if_pos xy]
    · rw [if_neg xy] at h1
      by_cases yx : y < x
      · rw [if_pos yx] at h1; cases h1
      · rw [if_neg yx] at h1
        have e : x = y := by
          apply UInt8.toNat_inj.1
          rw [UInt8.lt_iff_toNat_lt] at xy yx
          omega
        subst e
        by_cases yz : x < z
        · rw [if_pos yz]
        · rw [if_neg yz] at h2 ⊢
          by_cases zy : z < x
          · rw [if_pos zy] at h2; cases h2
          · rw [if_neg zy] at h2 ⊢
            exact ih h1 h2
theorem less_total : ∀ a b : List UInt8, less a b = false → less b a = false → a = b
  | [], [], _, _ => rfl
  | [], _ :: _, h, _ => by simp [less] at h
  | _ :: _, [], _, h => by simp [less] at h
  | x :: a, y :: b, h1, h2 => by
    have ih := less_total a b
    simp only [less] at h1 h2
    by_cases xy : x < y
    · rw [if_pos xy] at h1; cases h1
    · by_cases yx : y < x
      · rw [if_pos yx] at h2; cases h2
      · rw [if_neg xy, if_neg yx] at h1
        rw [if_neg yx, if_neg xy] at h2
        have e : x = y := by
          apply UInt8.toNat_inj.1
          rw [UInt8.lt_iff_toNat_lt] at xy yx
          omega
        subst e
        rw [ih h1 h2]
theorem less_ntrans (a b c : List UInt8) (h1 : less a b = false) (h2 : less b c = false) : less a c = false := by
  cases h : less a c with
  | false => rfl
  | true =>
    exfalso
    cases hb : less b a with
    | true =>
      have := less_trans b a c hb h
      rw [this] at h2; cases h2
    | false =>
      have e := less_total a b h1 hb
      subst e
      rw [h] at h2; cases h2
/-- The rows of a text: where its ends, in order, begin. -/
structure IsRows (t : List UInt8) (rows : List Nat) : Prop where
  perm : rows.Perm (List.range (t.length + 1))
  order : rows.Pairwise fun p q => less (t.drop p) (t.drop q) = true
end Rot

theorem compare_less : ∀ a b : List UInt8, decide (Lib.compareBytes a b < 0) = Rot.less a b
  | [], [] => by simp [Lib.compareBytes, Rot.less]
  | [], _ :: _ => by simp [Lib.compareBytes, Rot.less]
  | _ :: _, [] => by simp [Lib.compareBytes, Rot.less]
  | x :: a, y :: b => by
    have ih := compare_less a b
    simp only [Lib.compareBytes, Rot.less]
    by_cases xy : x < y
    · simp [xy]
    · by_cases yx : y < x
      · simp [xy, yx]
      · simp only [xy, yx, if_false]
        exact ih
theorem infoI : (Tryz.prog.info? 3).map (fun i => (i.zero, i.size, i.bytes)) = some (some (.int .i64 0), 1, 8) := by kernel_rfl

/-- The closure: two ends of the text, compared. -/
theorem cmp_any (b : Nat) (s : ByteArray) (x y : Nat) (w : World) (hb : w.cell? ⟨b, 0, none⟩ = some (.string s)) (hx : x ≤ s.size) (hy : y ≤ s.size) (hs : s.size ≤ 250) :
    Calls Tryz.prog 122 #[.int .i64 x, .int .i64 y, .pointer (some ⟨b, 0, none⟩)] w fun e w' => e = .returned (.int .i64 (Lib.compareBytes (s.data.toList.drop x) (s.data.toList.drop y))) ∧ ∃ q, w' = w.drewN q := by
  have e1 : (s.extract x s.size).data.toList = s.data.toList.drop x := by
    rw [ByteArray.data_extract]
    simp
    exact List.take_of_length_le (by simp)
  have e2 : (s.extract y s.size).data.toList = s.data.toList.drop y := by
    rw [ByteArray.data_extract]
    simp
    exact List.take_of_length_le (by simp)
  have hcon := fun W => Tryz.strings_Compare (s.extract x s.size) (s.extract y s.size) W
  rw [← e1, ← e2]
  clear e1 e2
  generalize Lib.compareBytes (s.extract x s.size).data.toList (s.extract y s.size).data.toList = rr at hcon ⊢
  go_enter Tryz.func122, Tryz.ntmps122
  go_wp2_with fail
  go_quiet ((go_at_call 123; exact Calls.quiet_of_same (hcon _)))
  go_wp2
  go_ret
  exact ⟨rfl, _, rfl⟩

end Go.Proofs.YthlincikgdblfaaGreat

namespace Go.Proofs.YthlincikgdblfaaGreat
open Go.RowKit
set_option linter.unusedVariables false

open Go.Sort Go.Shelf in
theorem grown_sorted {α : Type} [Inhabited α] (enc : α → Value) (w : World) (g off n : Nat) (d : Array α) (os : Array Obj) : w.grownBy (sortWorld enc w g off n d os) (some g) := by
  unfold sortWorld
  refine ⟨rfl, rfl, rfl, by simp, fun k hk hne => ?_⟩
  rw [heap_grow_old _ _ (by simpa using hk)]
  have : g ≠ k := fun e => hne (by rw [e])
  simp [putRow, mapBlock, Sort.ahead, Array.getElem?_modify, this]
/-- The first k places filled. -/
def fillTo (n k : Nat) : List Nat := (List.range n).map fun j => if j < k then j else 0
theorem fill_len (n k : Nat) : (fillTo n k).length = n := by simp [fillTo]
theorem fill_set (n k : Nat) (hk : k < n) : (fillTo n k).set k k = fillTo n (k + 1) := by
  apply List.ext_getElem?
  intro j
  rw [List.getElem?_set]
  by_cases hj : j < n
  · by_cases e : k = j
    · subst e; simp [fillTo, hk]
    · have : (j < k + 1) = (j < k) := by apply propext; omega
      simp [fillTo, hj, e, this]
  · have h1 : ¬ k = j := by omega
    simp [fillTo, hj, h1]
theorem fill_all (n : Nat) : fillTo n n = List.range n := by
  apply List.ext_getElem?
  intro j
  by_cases hj : j < n
  · simp [fillTo, hj]
  · simp [fillTo, hj]
theorem fill_none (n : Nat) : byI (fillTo n 0) = (madeCells #[.int .i64 0] n).toList := by
  rw [toList_madeCells_one]
  apply List.ext_getElem?
  intro j
  by_cases hj : j < n
  · simp [byI, fillTo, hj]
  · simp [byI, fillTo, hj]
theorem byI_set (l : List Nat) (j n : Nat) : byI (l.set j n) = (byI l).set j (.int .i64 (n : Int)) := by simp [byI, List.map_set]

section
open Go.Sort Go.Shelf Go.Lib
variable (t : List UInt8)
def encP (i : Fin (t.length + 1)) : Value := .int .i64 ((i.val : Nat) : Int)
def cmpP (x y : Fin (t.length + 1)) : Int := Lib.compareBytes (t.drop x.val) (t.drop y.val)
theorem ltP (x y : Fin (t.length + 1)) : ltOf (cmpP t) x y = Rot.less (t.drop x.val) (t.drop y.val) := compare_less _ _
theorem swoP : SWO (ltOf (cmpP t)) where
  irrefl x := by rw [ltP]; exact Rot.less_irrefl _
  trans x y z h1 h2 := by rw [ltP] at *; exact Rot.less_trans _ _ _ h1 h2
  ntrans x y z h1 h2 := by rw [ltP] at *; exact Rot.less_ntrans _ _ _ h1 h2
theorem cmpReads (s : ByteArray) (b blk off size : Nat) (w : World) (hs : s.size ≤ 250) (hb : w.cell? ⟨b, 0, none⟩ = some (.string s)) (hne : b ≠ blk) :
    CmpReads Tryz.prog 122 #[.pointer (some ⟨b, 0, none⟩)] (encP s.data.toList) (cmpP s.data.toList) blk off size w := by
  intro m os dk hsz x y
  have hl : s.data.toList.length = s.size := by simp
  have hx : x.val ≤ s.size := by have := x.isLt; omega
  have hy : y.val ≤ s.size := by have := y.isLt; omega
  exact cmp_any b s x.val y.val _ ((grown_sorted _ _ _ _ _ _ _).cell hb (by intro e; cases e; exact hne rfl)) hx hy hs
end
end Go.Proofs.YthlincikgdblfaaGreat
