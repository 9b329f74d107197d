import Derived.Maps.AppendAt
import Derived.Laws.AppendOwnNone
import Derived.WalkKit
import Derived.Laws.OwnMore
import Derived.Deep.QuietTactic
import Derived.BigQuiet
import Derived.WalkLawsBesides
import Derived.WalkSpells
namespace Go.Proofs.YthlincikgdblfaaGreat
open Go.RowKit
namespace Rot

/-- Numbers in a file: their low bytes first. -/
def le16 (n : Nat) : List UInt8 := [UInt8.ofNat n, UInt8.ofNat (n / 256)]
def le32 (n : Nat) : List UInt8 := [UInt8.ofNat n, UInt8.ofNat (n / 256), UInt8.ofNat (n / 65536), UInt8.ofNat (n / 16777216)]
/-- The check sum. -/
def sumStep (s : Nat) (b : UInt8) : Nat := (s * 65599 + b.toNat + 1) % 4294967296
def sumOf (l : List UInt8) : Nat := l.foldl sumStep 0
/-- One bit more. -/
def addBit (p : List UInt8) (n : Nat) (b : Bool) : List UInt8 :=
  let p1 := if n % 8 = 0 then p ++ [0] else p
  if b then p1.set (n / 8) ((p1[n / 8]?).getD 0 ||| UInt8.ofNat (2 ^ (n % 8))) else p1
def addAhead (d : List Nat) (n ones : Nat) : List Nat := if n % 16 = 0 then d ++ [ones] else d
structure Row where
  packed : List UInt8
  ahead : List Nat
  count : Nat
  ones : Nat
def Row.none : Row := ⟨[], [], 0, 0⟩
def Row.add (r : Row) (b : Bool) : Row := ⟨addBit r.packed r.count b, addAhead r.ahead r.count r.ones, r.count + 1, r.ones + b.toNat⟩
def rowOf (l : List Bool) : Row := l.foldl Row.add Row.none
def Row.bytes (r : Row) : List UInt8 := r.packed ++ r.ahead.flatMap le16
/-- Bits with their directory. -/
def bitsOf (l : List Bool) : List UInt8 := (rowOf l).bytes
def zerosOf (mask : UInt8) (col : List UInt8) : List UInt8 := col.filter fun c => c &&& mask == 0
def onesOf (mask : UInt8) (col : List UInt8) : List UInt8 := col.filter fun c => !(c &&& mask == 0)
def levelOf (mask : UInt8) (col : List UInt8) : List UInt8 := le16 (zerosOf mask col).length ++ bitsOf (col.map fun c => !(c &&& mask == 0))
def nextOf (mask : UInt8) (col : List UInt8) : List UInt8 := zerosOf mask col ++ onesOf mask col
/-- Behind k levels: what is written, and the column. -/
def treeTo (col : List UInt8) : Nat → List UInt8 × List UInt8
  | 0 => ([], col)
  | k + 1 => let s := treeTo col k; (s.1 ++ levelOf (UInt8.ofNat (2 ^ (7 - k))) s.2, nextOf (UInt8.ofNat (2 ^ (7 - k))) s.2)
def treeOf (col : List UInt8) : List UInt8 := (treeTo col 8).1
def belowOf (t : List UInt8) (c : Nat) : Nat := 1 + (t.filter fun b => decide (b.toNat < c)).length
def firstOf (t : List UInt8) : List UInt8 := (List.range 256).flatMap fun c => le16 (belowOf t c)
def isMarked (r p : Nat) : Bool := p % r == 0
def marksOf (rows : List Nat) (r : Nat) : List UInt8 := bitsOf (rows.map (isMarked r))
def placesOf (rows : List Nat) (r : Nat) : List UInt8 := (rows.filter (isMarked r)).flatMap le16
def lastOf (rows : List Nat) : List UInt8 := le16 (rows.idxOf 0)
def columnOf (t : List UInt8) (rows : List Nat) : List UInt8 := (rows.filter fun p => decide (0 < p)).map fun p => (t[p - 1]?).getD 0
def sectionsOf (t : List UInt8) (rows : List Nat) (r : Nat) : List (List UInt8) := [lastOf rows, treeOf (columnOf t rows), firstOf t, marksOf rows r, placesOf rows r]
def tableOf (ss : List (List UInt8)) : List UInt8 := ss.flatMap fun s => le16 s.length ++ le32 (sumOf s)
def bodyOf (ss : List (List UInt8)) : List UInt8 := ss.flatMap id
def headOf (n r size : Nat) : List UInt8 := [82, 84, 88, 49] ++ le16 n ++ [UInt8.ofNat r] ++ [5] ++ le32 size
def fileOf (t : List UInt8) (rows : List Nat) (r : Nat) : List UInt8 :=
  headOf t.length r (12 + (tableOf (sectionsOf t rows r)).length + (bodyOf (sectionsOf t rows r)).length) ++ tableOf (sectionsOf t rows r) ++ bodyOf (sectionsOf t rows r)
end Rot

/-- Bytes as cells. -/
def by8 (l : List UInt8) : List Value := l.map fun b => .int .u8 (b.toNat : Int)
theorem by8_length (l : List UInt8) : (by8 l).length = l.length := by simp [by8]
theorem by8_append (l m : List UInt8) : by8 (l ++ m) = by8 l ++ by8 m := by simp [by8]
theorem by8_one (l : List UInt8) : ∀ u ∈ by8 l, u.oneCell' = true := by
  intro u hu
  simp only [by8, List.mem_map] at hu
  obtain ⟨b, _, rfl⟩ := hu
  rfl

/-- THE SLICE v OWNS THE BYTES l (in a block from 'base' on). -/
def Bs (w : World) (base : Nat) (v : Value) (l : List UInt8) : Prop := w.ownsRow base 5 1 v l.length (by8 l)

theorem Bs.nil (w : World) (base : Nat) : Bs w base (.slice none 0 0) [] := World.ownsRow_nil _ _ _ _
theorem Bs.form {w : World} {base : Nat} {v : Value} {l : List UInt8} (h : Bs w base v l) : (v = .slice none 0 0 ∧ l = []) ∨ ∃ g cap, v = .slice (some ⟨g, 0, none⟩) l.length cap ∧ base ≤ g ∧ g < w.heap.size ∧ l.length ≤ cap := by
  rcases h.2 with ⟨hv, hn⟩ | ⟨g, cap, cur, hv, hb, hg, hc, _⟩
  · exact Or.inl ⟨hv, List.eq_nil_of_length_eq_zero hn⟩
  · exact Or.inr ⟨g, cap, hv, hb, (Array.getElem?_eq_some_iff.1 hg).1, hc⟩
theorem Bs.shape {w : World} {base : Nat} {v : Value} {l : List UInt8} (h : Bs w base v l) : ∃ az cz, v = .slice az l.length cz := by
  rcases h.form with ⟨rfl, rfl⟩ | ⟨g, cap, rfl, _⟩
  · exact ⟨none, 0, rfl⟩
  · exact ⟨_, _, rfl⟩
theorem Bs.cell {w : World} {base : Nat} {l : List UInt8} {g n cap : Nat} (h : Bs w base (.slice (some ⟨g, 0, none⟩) n cap) l) (j : Nat) (hj : j < l.length) : w.cell? ⟨g, j, none⟩ = some (.int .u8 ((l[j]'hj).toNat : Int)) := by
  have := World.ownsRow.cells h (g := g) rfl j (.int .u8 ((l[j]'hj).toNat : Int)) (by simp [by8, hj])
  have e : ((⟨g, 0, none⟩ : Addr).add j) = ⟨g, j, none⟩ := by
    unfold Addr.add
    by_cases h0 : j = 0
    · subst h0; rfl
    · simp [h0]
  rw [e] at this
  exact this
theorem Bs.mono {w : World} {base base' : Nat} {v : Value} {l : List UInt8} (h : Bs w base v l) (hb : base' ≤ base) : Bs w base' v l :=
  ⟨h.1, h.2.imp id fun ⟨g, cap, cur, a, b, c⟩ => ⟨g, cap, cur, a, Nat.le_trans hb b, c⟩⟩
/-- Where a slice lies behind an append: in its old row, or in a new one. -/
def At (w : World) (v v' : Value) : Prop := v'.ownBlock = v.ownBlock ∨ ∃ k, v'.ownBlock = some k ∧ w.heap.size ≤ k
theorem At.refl (w : World) (v : Value) : At w v v := Or.inl rfl
theorem At.trans {w w1 : World} {v v1 v2 : Value} (h : At w v v1) (hs : w.heap.size ≤ w1.heap.size) (k : At w1 v1 v2) : At w v v2 := by
  rcases k with k | ⟨j, hj, hl⟩
  · rcases h with h | ⟨j, hj, hl⟩
    · exact Or.inl (k.trans h)
    · exact Or.inr ⟨j, k.trans hj, hl⟩
  · exact Or.inr ⟨j, hj, Nat.le_trans hs hl⟩
/-- What an append leaves. -/
structure Apx (w w' : World) (base : Nat) (v v' : Value) (l : List UInt8) : Prop where
  own : Bs w' base v' l
  grown : w.grownBy w' v.ownBlock
  at' : At w v v'
theorem Apx.size {w w' : World} {base : Nat} {v v' : Value} {l : List UInt8} (h : Apx w w' base v v' l) : w.heap.size ≤ w'.heap.size := h.grown.size
/-- Two steps, the second one's row being the first one's or a new one. -/
theorem grown_trans {a b c : World} {r r' : Option Nat} (h : a.grownBy b r) (k : b.grownBy c r') (hr : r' = r ∨ ∃ j, r' = some j ∧ a.heap.size ≤ j) : a.grownBy c r :=
  ⟨k.os.trans h.os, k.tape.trans h.tape, k.output.trans h.output, Nat.le_trans h.size k.size, fun i hi hne =>
    (k.block i (Nat.lt_of_lt_of_le hi h.size) (by rcases hr with rfl | ⟨j, rfl, hj⟩; exact hne; intro e; cases e; omega)).trans (h.block i hi hne)⟩
theorem Apx.trans {w w1 w2 : World} {base : Nat} {v v1 v2 : Value} {l l2 : List UInt8} (h : Apx w w1 base v v1 l) (k : Apx w1 w2 base v1 v2 l2) : Apx w w2 base v v2 l2 :=
  ⟨k.own, grown_trans h.grown k.grown h.at', h.at'.trans h.size k.at'⟩
theorem grown_refl (w : World) (r : Option Nat) : w.grownBy w r := World.grownBy.refl w r
theorem grown_drewN {w w' : World} {r : Option Nat} (h : w.grownBy w' r) (k : Nat) : w.grownBy (w'.drewN k) r := ⟨h.os, h.tape, h.output, h.size, h.block⟩
/-- A step that writes none of the old rows. -/
theorem grown_none {a b c : World} (h : a.grownBy b none) {r : Option Nat} (k : b.grownBy c r) (hr : r = none ∨ ∃ j, r = some j ∧ a.heap.size ≤ j) : a.grownBy c none := grown_trans h k hr
theorem grown_weak {a b : World} (h : a.grownBy b none) (r : Option Nat) : a.grownBy b r := ⟨h.os, h.tape, h.output, h.size, fun i hi _ => h.block i hi (by simp)⟩
theorem Bs.kept {w w' : World} {base : Nat} {v : Value} {l : List UInt8} {r : Option Nat} (h : Bs w base v l) (hg : w.grownBy w' r) (hne : v.ownBlock = none ∨ v.ownBlock ≠ r) : Bs w' base v l := World.ownsRow.kept h hg hne
theorem Bs.kept0 {w w' : World} {base : Nat} {v : Value} {l : List UInt8} (h : Bs w base v l) (hg : w.grownBy w' none) : Bs w' base v l := by
  refine World.ownsRow.kept h hg ?_
  cases e : v.ownBlock with
  | none => exact Or.inl rfl
  | some k => exact Or.inr (by simp)
theorem Bs.alloc {w : World} {base : Nat} {v : Value} {l : List UInt8} (h : Bs w base v l) (o : Obj) : Bs (w.alloc o) base v l := World.ownsRow.alloc h o
theorem Bs.lt {w : World} {base : Nat} {v : Value} {l : List UInt8} (h : Bs w base v l) {k : Nat} (hk : v.ownBlock = some k) : base ≤ k ∧ k < w.heap.size := World.ownsRow.lt h k hk
theorem grown_alloc {w w' : World} {r : Option Nat} (h : w.grownBy w' r) (o : Obj) : w.grownBy (w'.alloc o) r :=
  grown_trans h (World.grownBy_alloc w' o r) (Or.inl rfl)
/-- Numbers of two bytes, and ints, as rows. -/
def by16 (d : List Nat) : List Value := d.map fun (n : Nat) => Value.int .u16 (n : Int)
def byI (d : List Nat) : List Value := d.map fun (n : Nat) => Value.int .i64 (n : Int)
def Us (w : World) (base : Nat) (v : Value) (d : List Nat) : Prop := w.ownsRow base 67 1 v d.length (by16 d)
def Is (w : World) (base : Nat) (v : Value) (d : List Nat) : Prop := w.ownsRow base 3 1 v d.length (byI d)
theorem addr_add (g j : Nat) : ((⟨g, 0, none⟩ : Addr).add j) = ⟨g, j, none⟩ := by
  unfold Addr.add
  by_cases h0 : j = 0
  · subst h0; rfl
  · simp [h0]
theorem Us.form {w : World} {base : Nat} {v : Value} {l : List Nat} (h : Us w base v l) : (v = .slice none 0 0 ∧ l = []) ∨ ∃ g cap, v = .slice (some ⟨g, 0, none⟩) l.length cap ∧ base ≤ g ∧ g < w.heap.size ∧ l.length ≤ cap := by
  rcases h.2 with ⟨hv, hn⟩ | ⟨g, cap, cur, hv, hb, hg, hc, _⟩
  · exact Or.inl ⟨hv, List.eq_nil_of_length_eq_zero hn⟩
  · exact Or.inr ⟨g, cap, hv, hb, (Array.getElem?_eq_some_iff.1 hg).1, hc⟩
theorem Us.cell {w : World} {base : Nat} {l : List Nat} {g n cap : Nat} (h : Us w base (.slice (some ⟨g, 0, none⟩) n cap) l) (j : Nat) (hj : j < l.length) : w.cell? ⟨g, j, none⟩ = some (.int .u16 ((l[j]'hj : Nat) : Int)) := by
  have := World.ownsRow.cells h (g := g) rfl j (.int .u16 ((l[j]'hj : Nat) : Int)) (by simp [by16, hj])
  rw [addr_add] at this
  exact this
theorem Is.form {w : World} {base : Nat} {v : Value} {l : List Nat} (h : Is w base v l) : (v = .slice none 0 0 ∧ l = []) ∨ ∃ g cap, v = .slice (some ⟨g, 0, none⟩) l.length cap ∧ base ≤ g ∧ g < w.heap.size ∧ l.length ≤ cap := by
  rcases h.2 with ⟨hv, hn⟩ | ⟨g, cap, cur, hv, hb, hg, hc, _⟩
  · exact Or.inl ⟨hv, List.eq_nil_of_length_eq_zero hn⟩
  · exact Or.inr ⟨g, cap, hv, hb, (Array.getElem?_eq_some_iff.1 hg).1, hc⟩
theorem Is.cell {w : World} {base : Nat} {l : List Nat} {g n cap : Nat} (h : Is w base (.slice (some ⟨g, 0, none⟩) n cap) l) (j : Nat) (hj : j < l.length) : w.cell? ⟨g, j, none⟩ = some (.int .i64 ((l[j]'hj : Nat) : Int)) := by
  have := World.ownsRow.cells h (g := g) rfl j (.int .i64 ((l[j]'hj : Nat) : Int)) (by simp [byI, hj])
  rw [addr_add] at this
  exact this
theorem ownsRow_kept0 {w w' : World} {base e n : Nat} {v : Value} {xs : List Value} (h : w.ownsRow base e 1 v n xs) (hg : w.grownBy w' none) : w'.ownsRow base e 1 v n xs := by
  refine World.ownsRow.kept h hg ?_
  cases e : v.ownBlock with
  | none => exact Or.inl rfl
  | some k => exact Or.inr (by simp)
/-- No row is both one's and the other's. -/
def Apart (v u : Value) : Prop := ∀ k, v.ownBlock = some k → u.ownBlock = some k → False
theorem Apart.kept {v u : Value} (h : Apart v u) : v.ownBlock = none ∨ v.ownBlock ≠ u.ownBlock := by
  cases e : v.ownBlock with
  | none => exact Or.inl rfl
  | some k => exact Or.inr (fun e2 => h k e e2.symm)
theorem Apart.symm {v u : Value} (h : Apart v u) : Apart u v := fun k a b => h k b a
theorem Apart.nil (u : Value) : Apart (.slice none 0 0) u := fun k a _ => by simp [Value.ownBlock] at a
theorem Apart.step {v v' u : Value} {w : World} (h : Apart v u) (hat : At w v v') (hu : ∀ k, u.ownBlock = some k → k < w.heap.size) : Apart v' u := by
  intro k a b
  rcases hat with e | ⟨j, e, hj⟩
  · exact h k (e ▸ a) b
  · have := hu k b
    rw [e] at a
    cases a
    omega
/-- A row of the call's own has grown: nothing old has turned. -/
theorem Apx.fresh {w wr w1 : World} {B : Nat} {u u' : Value} {l l' : List UInt8} (A1 : Apx wr w1 B u u' l') (G : w.grownBy wr none) (A : Bs wr w.heap.size u l) : w.grownBy w1 none :=
  grown_trans G A1.grown (by
    cases eo : u.ownBlock with
    | none => exact Or.inl rfl
    | some j => exact Or.inr ⟨j, rfl, (A.lt eo).1⟩)
theorem hide {P : Prop} (h : P) : Hid P := h
theorem unhide {P : Prop} (h : Hid P) : P := h.out
theorem Below.of_grown {w w' : World} (h : w.grownBy w' none) : Below w.heap.size w w' := (Below.refl _ _).grown h (Nat.le_refl _) (fun k hk => by cases hk)
end Go.Proofs.YthlincikgdblfaaGreat
