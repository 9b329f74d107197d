import Derived.Test.YthlincikgdblfaaGreatA10
import Derived.Test.YthlincikgdblfaaGreatShelf3
import Derived.Deep.LoopGhost
namespace Go.Proofs.YthlincikgdblfaaGreat
open Go.RowKit
set_option linter.unusedVariables false

open Go.Sort Go.Shelf in
theorem grown_sorted {α : Type} [Inhabited α] (enc : α → Value) (w : World) (g off n : Nat) (d : Array α) (os : Array Obj) : w.grownBy (sortWorld enc w g off n d os) (some g) := by
  unfold sortWorld
  refine ⟨rfl, rfl, rfl, by simp, fun k hk hne => ?_⟩
  rw [heap_grow_old _ _ (by simpa using hk)]
  have : g ≠ k := fun e => hne (by rw [e])
  simp [putRow, mapBlock, Sort.ahead, Array.getElem?_modify, this]
/-- The first k places filled. -/
def fillTo (n k : Nat) : List Nat := (List.range n).map fun j => if j < k then j else 0
theorem fill_len (n k : Nat) : (fillTo n k).length = n := by simp [fillTo]
theorem fill_set (n k : Nat) (hk : k < n) : (fillTo n k).set k k = fillTo n (k + 1) := by
  apply List.ext_getElem?
  intro j
  rw [List.getElem?_set]
  by_cases hj : j < n
  · by_cases e : k = j
    · subst e; simp [fillTo, hk]
    · have : (j < k + 1) = (j < k) := by apply propext; omega
      simp [fillTo, hj, e, this]
  · have h1 : ¬ k = j := by omega
    simp [fillTo, hj, h1]
theorem fill_all (n : Nat) : fillTo n n = List.range n := by
  apply List.ext_getElem?
  intro j
  by_cases hj : j < n
  · simp [fillTo, hj]
  · simp [fillTo, hj]
theorem fill_none (n : Nat) : byI (fillTo n 0) = (madeCells #[.int .i64 0] n).toList := by
  rw [toList_madeCells_one]
  apply List.ext_getElem?
  intro j
  by_cases hj : j < n
  · simp [byI, fillTo, hj]
  · simp [byI, fillTo, hj]
theorem byI_set (l : List Nat) (j n : Nat) : byI (l.set j n) = (byI l).set j (.int .i64 (n : Int)) := by simp [byI, List.map_set]

section
open Go.Sort Go.Shelf Go.Lib
variable (t : List UInt8)
def encP (i : Fin (t.length + 1)) : Value := .int .i64 ((i.val : Nat) : Int)
def cmpP (x y : Fin (t.length + 1)) : Int := Lib.compareBytes (t.drop x.val) (t.drop y.val)
theorem ltP (x y : Fin (t.length + 1)) : ltOf (cmpP t) x y = Rot.less (t.drop x.val) (t.drop y.val) := compare_less _ _
theorem swoP : SWO (ltOf (cmpP t)) where
  irrefl x := by rw [ltP]; exact Rot.less_irrefl _
  trans x y z h1 h2 := by rw [ltP] at *; exact Rot.less_trans _ _ _ h1 h2
  ntrans x y z h1 h2 := by rw [ltP] at *; exact Rot.less_ntrans _ _ _ h1 h2
theorem cmpReads (s : ByteArray) (b blk off size : Nat) (w : World) (hs : s.size ≤ 250) (hb : w.cell? ⟨b, 0, none⟩ = some (.string s)) (hne : b ≠ blk) :
    CmpReads Tryz.prog 122 #[.pointer (some ⟨b, 0, none⟩)] (encP s.data.toList) (cmpP s.data.toList) blk off size w := by
  intro m os dk hsz x y
  have hl : s.data.toList.length = s.size := by simp
  have hx : x.val ≤ s.size := by have := x.isLt; omega
  have hy : y.val ≤ s.size := by have := y.isLt; omega
  exact cmp_any b s x.val y.val _ ((grown_sorted _ _ _ _ _ _ _).cell hb (by intro e; cases e; exact hne rfl)) hx hy hs
end
end Go.Proofs.YthlincikgdblfaaGreat
