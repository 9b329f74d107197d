import Derived.Maps.AppendAt
import Derived.Laws.AppendOwnNone
import Derived.WalkKit
import Derived.Laws.OwnMore
import Derived.Deep.QuietTactic
import Derived.BigQuiet
import Derived.WalkLawsBesides
import Derived.WalkSpells
import Derived.Test.YthlincikgdblfaaGreatRows
import Derived.Test.YthlincikgdblfaaGreatShelf
import Derived.Lib.SlBytesConst
namespace Go.Proofs.YthlincikgdblfaaGreat
open Go.RowKit
namespace Rot

/-- Numbers in a file: their low bytes first. -/
def le16 (n : Nat) : List UInt8 := [UInt8.ofNat n, UInt8.ofNat (n / 256)]
def le32 (n : Nat) : List UInt8 := [UInt8.ofNat n, UInt8.ofNat (n / 256), UInt8.ofNat (n / 65536), UInt8.ofNat (n / 16777216)]
/-- The check sum. -/
def sumStep (s : Nat) (b : UInt8) : Nat := (s * 65599 + b.toNat + 1) % 4294967296
def sumOf (l : List UInt8) : Nat := l.foldl sumStep 0
/-- One bit more. -/
def addBit (p : List UInt8) (n : Nat) (b : Bool) : List UInt8 :=
  let p1 := if n % 8 = 0 then p ++ [0] else p
  if b then p1.set (n / 8) ((p1[n / 8]?).getD 0 ||| UInt8.ofNat (2 ^ (n % 8))) else p1
def addAhead (d : List Nat) (n ones : Nat) : List Nat := if n % 16 = 0 then d ++ [ones] else d
structure Row where
  packed : List UInt8
  ahead : List Nat
  count : Nat
  ones : Nat
def Row.none : Row := ⟨[], [], 0, 0⟩
def Row.add (r : Row) (b : Bool) : Row := ⟨addBit r.packed r.count b, addAhead r.ahead r.count r.ones, r.count + 1, r.ones + b.toNat⟩
def rowOf (l : List Bool) : Row := l.foldl Row.add Row.none
def Row.bytes (r : Row) : List UInt8 := r.packed ++ r.ahead.flatMap le16
/-- Bits with their directory. -/
def bitsOf (l : List Bool) : List UInt8 := (rowOf l).bytes
def zerosOf (mask : UInt8) (col : List UInt8) : List UInt8 := col.filter fun c => c &&& mask == 0
def onesOf (mask : UInt8) (col : List UInt8) : List UInt8 := col.filter fun c => !(c &&& mask == 0)
def levelOf (mask : UInt8) (col : List UInt8) : List UInt8 := le16 (zerosOf mask col).length ++ bitsOf (col.map fun c => !(c &&& mask == 0))
def nextOf (mask : UInt8) (col : List UInt8) : List UInt8 := zerosOf mask col ++ onesOf mask col
/-- Behind k levels: what is written, and the column. -/
def treeTo (col : List UInt8) : Nat → List UInt8 × List UInt8
  | 0 => ([], col)
  | k + 1 => let s := treeTo col k; (s.1 ++ levelOf (UInt8.ofNat (2 ^ (7 - k))) s.2, nextOf (UInt8.ofNat (2 ^ (7 - k))) s.2)
def treeOf (col : List UInt8) : List UInt8 := (treeTo col 8).1
def belowOf (t : List UInt8) (c : Nat) : Nat := 1 + (t.filter fun b => decide (b.toNat < c)).length
def firstOf (t : List UInt8) : List UInt8 := (List.range 256).flatMap fun c => le16 (belowOf t c)
def isMarked (r p : Nat) : Bool := p % r == 0
def marksOf (rows : List Nat) (r : Nat) : List UInt8 := bitsOf (rows.map (isMarked r))
def placesOf (rows : List Nat) (r : Nat) : List UInt8 := (rows.filter (isMarked r)).flatMap le16
def lastOf (rows : List Nat) : List UInt8 := le16 (rows.idxOf 0)
def columnOf (t : List UInt8) (rows : List Nat) : List UInt8 := (rows.filter fun p => decide (0 < p)).map fun p => (t[p - 1]?).getD 0
def sectionsOf (t : List UInt8) (rows : List Nat) (r : Nat) : List (List UInt8) := [lastOf rows, treeOf (columnOf t rows), firstOf t, marksOf rows r, placesOf rows r]
def tableOf (ss : List (List UInt8)) : List UInt8 := ss.flatMap fun s => le16 s.length ++ le32 (sumOf s)
def bodyOf (ss : List (List UInt8)) : List UInt8 := ss.flatMap id
def headOf (n r size : Nat) : List UInt8 := [82, 84, 88, 49] ++ le16 n ++ [UInt8.ofNat r] ++ [5] ++ le32 size
def fileOf (t : List UInt8) (rows : List Nat) (r : Nat) : List UInt8 :=
  headOf t.length r (12 + (tableOf (sectionsOf t rows r)).length + (bodyOf (sectionsOf t rows r)).length) ++ tableOf (sectionsOf t rows r) ++ bodyOf (sectionsOf t rows r)
end Rot

/-- Bytes as cells. -/
def by8 (l : List UInt8) : List Value := l.map fun b => .int .u8 (b.toNat : Int)
theorem by8_length (l : List UInt8) : (by8 l).length = l.length := by simp [by8]
theorem by8_append (l m : List UInt8) : by8 (l ++ m) = by8 l ++ by8 m := by simp [by8]
theorem by8_one (l : List UInt8) : ∀ u ∈ by8 l, u.oneCell' = true := by
  intro u hu
  simp only [by8, List.mem_map] at hu
  obtain ⟨b, _, rfl⟩ := hu
  rfl

/-- THE SLICE v OWNS THE BYTES l (in a block from 'base' on). -/
def Bs (w : World) (base : Nat) (v : Value) (l : List UInt8) : Prop := w.ownsRow base 5 1 v l.length (by8 l)

theorem Bs.nil (w : World) (base : Nat) : Bs w base (.slice none 0 0) [] := World.ownsRow_nil _ _ _ _
theorem Bs.form {w : World} {base : Nat} {v : Value} {l : List UInt8} (h : Bs w base v l) : (v = .slice none 0 0 ∧ l = []) ∨ ∃ g cap, v = .slice (some ⟨g, 0, none⟩) l.length cap ∧ base ≤ g ∧ g < w.heap.size ∧ l.length ≤ cap := by
  rcases h.2 with ⟨hv, hn⟩ | ⟨g, cap, cur, hv, hb, hg, hc, _⟩
  · exact Or.inl ⟨hv, List.eq_nil_of_length_eq_zero hn⟩
  · exact Or.inr ⟨g, cap, hv, hb, (Array.getElem?_eq_some_iff.1 hg).1, hc⟩
theorem Bs.shape {w : World} {base : Nat} {v : Value} {l : List UInt8} (h : Bs w base v l) : ∃ az cz, v = .slice az l.length cz := by
  rcases h.form with ⟨rfl, rfl⟩ | ⟨g, cap, rfl, _⟩
  · exact ⟨none, 0, rfl⟩
  · exact ⟨_, _, rfl⟩
theorem Bs.cell {w : World} {base : Nat} {l : List UInt8} {g n cap : Nat} (h : Bs w base (.slice (some ⟨g, 0, none⟩) n cap) l) (j : Nat) (hj : j < l.length) : w.cell? ⟨g, j, none⟩ = some (.int .u8 ((l[j]'hj).toNat : Int)) := by
  have := World.ownsRow.cells h (g := g) rfl j (.int .u8 ((l[j]'hj).toNat : Int)) (by simp [by8, hj])
  have e : ((⟨g, 0, none⟩ : Addr).add j) = ⟨g, j, none⟩ := by
    unfold Addr.add
    by_cases h0 : j = 0
    · subst h0; rfl
    · simp [h0]
  rw [e] at this
  exact this
theorem Bs.mono {w : World} {base base' : Nat} {v : Value} {l : List UInt8} (h : Bs w base v l) (hb : base' ≤ base) : Bs w base' v l :=
  ⟨h.1, h.2.imp id fun ⟨g, cap, cur, a, b, c⟩ => ⟨g, cap, cur, a, Nat.le_trans hb b, c⟩⟩
/-- Where a slice lies behind an append: in its old row, or in a new one. -/
def At (w : World) (v v' : Value) : Prop := v'.ownBlock = v.ownBlock ∨ ∃ k, v'.ownBlock = some k ∧ w.heap.size ≤ k
theorem At.refl (w : World) (v : Value) : At w v v := Or.inl rfl
theorem At.trans {w w1 : World} {v v1 v2 : Value} (h : At w v v1) (hs : w.heap.size ≤ w1.heap.size) (k : At w1 v1 v2) : At w v v2 := by
  rcases k with k | ⟨j, hj, hl⟩
  · rcases h with h | ⟨j, hj, hl⟩
    · exact Or.inl (k.trans h)
    · exact Or.inr ⟨j, k.trans hj, hl⟩
  · exact Or.inr ⟨j, hj, Nat.le_trans hs hl⟩
/-- What an append leaves. -/
structure Apx (w w' : World) (base : Nat) (v v' : Value) (l : List UInt8) : Prop where
  own : Bs w' base v' l
  grown : w.grownBy w' v.ownBlock
  at' : At w v v'
theorem Apx.size {w w' : World} {base : Nat} {v v' : Value} {l : List UInt8} (h : Apx w w' base v v' l) : w.heap.size ≤ w'.heap.size := h.grown.size
/-- Two steps, the second one's row being the first one's or a new one. -/
theorem grown_trans {a b c : World} {r r' : Option Nat} (h : a.grownBy b r) (k : b.grownBy c r') (hr : r' = r ∨ ∃ j, r' = some j ∧ a.heap.size ≤ j) : a.grownBy c r :=
  ⟨k.os.trans h.os, k.tape.trans h.tape, k.output.trans h.output, Nat.le_trans h.size k.size, fun i hi hne =>
    (k.block i (Nat.lt_of_lt_of_le hi h.size) (by rcases hr with rfl | ⟨j, rfl, hj⟩; exact hne; intro e; cases e; omega)).trans (h.block i hi hne)⟩
theorem Apx.trans {w w1 w2 : World} {base : Nat} {v v1 v2 : Value} {l l2 : List UInt8} (h : Apx w w1 base v v1 l) (k : Apx w1 w2 base v1 v2 l2) : Apx w w2 base v v2 l2 :=
  ⟨k.own, grown_trans h.grown k.grown h.at', h.at'.trans h.size k.at'⟩
theorem grown_refl (w : World) (r : Option Nat) : w.grownBy w r := World.grownBy.refl w r
theorem grown_drewN {w w' : World} {r : Option Nat} (h : w.grownBy w' r) (k : Nat) : w.grownBy (w'.drewN k) r := ⟨h.os, h.tape, h.output, h.size, h.block⟩
/-- A step that writes none of the old rows. -/
theorem grown_none {a b c : World} (h : a.grownBy b none) {r : Option Nat} (k : b.grownBy c r) (hr : r = none ∨ ∃ j, r = some j ∧ a.heap.size ≤ j) : a.grownBy c none := grown_trans h k hr
theorem grown_weak {a b : World} (h : a.grownBy b none) (r : Option Nat) : a.grownBy b r := ⟨h.os, h.tape, h.output, h.size, fun i hi _ => h.block i hi (by simp)⟩
theorem Bs.kept {w w' : World} {base : Nat} {v : Value} {l : List UInt8} {r : Option Nat} (h : Bs w base v l) (hg : w.grownBy w' r) (hne : v.ownBlock = none ∨ v.ownBlock ≠ r) : Bs w' base v l := World.ownsRow.kept h hg hne
theorem Bs.kept0 {w w' : World} {base : Nat} {v : Value} {l : List UInt8} (h : Bs w base v l) (hg : w.grownBy w' none) : Bs w' base v l := by
  refine World.ownsRow.kept h hg ?_
  cases e : v.ownBlock with
  | none => exact Or.inl rfl
  | some k => exact Or.inr (by simp)
theorem Bs.alloc {w : World} {base : Nat} {v : Value} {l : List UInt8} (h : Bs w base v l) (o : Obj) : Bs (w.alloc o) base v l := World.ownsRow.alloc h o
theorem Bs.lt {w : World} {base : Nat} {v : Value} {l : List UInt8} (h : Bs w base v l) {k : Nat} (hk : v.ownBlock = some k) : base ≤ k ∧ k < w.heap.size := World.ownsRow.lt h k hk
theorem grown_alloc {w w' : World} {r : Option Nat} (h : w.grownBy w' r) (o : Obj) : w.grownBy (w'.alloc o) r :=
  grown_trans h (World.grownBy_alloc w' o r) (Or.inl rfl)
/-- Numbers of two bytes, and ints, as rows. -/
def by16 (d : List Nat) : List Value := d.map fun (n : Nat) => Value.int .u16 (n : Int)
def byI (d : List Nat) : List Value := d.map fun (n : Nat) => Value.int .i64 (n : Int)
def Us (w : World) (base : Nat) (v : Value) (d : List Nat) : Prop := w.ownsRow base 67 1 v d.length (by16 d)
def Is (w : World) (base : Nat) (v : Value) (d : List Nat) : Prop := w.ownsRow base 3 1 v d.length (byI d)
theorem addr_add (g j : Nat) : ((⟨g, 0, none⟩ : Addr).add j) = ⟨g, j, none⟩ := by
  unfold Addr.add
  by_cases h0 : j = 0
  · subst h0; rfl
  · simp [h0]
theorem Us.form {w : World} {base : Nat} {v : Value} {l : List Nat} (h : Us w base v l) : (v = .slice none 0 0 ∧ l = []) ∨ ∃ g cap, v = .slice (some ⟨g, 0, none⟩) l.length cap ∧ base ≤ g ∧ g < w.heap.size ∧ l.length ≤ cap := by
  rcases h.2 with ⟨hv, hn⟩ | ⟨g, cap, cur, hv, hb, hg, hc, _⟩
  · exact Or.inl ⟨hv, List.eq_nil_of_length_eq_zero hn⟩
  · exact Or.inr ⟨g, cap, hv, hb, (Array.getElem?_eq_some_iff.1 hg).1, hc⟩
theorem Us.cell {w : World} {base : Nat} {l : List Nat} {g n cap : Nat} (h : Us w base (.slice (some ⟨g, 0, none⟩) n cap) l) (j : Nat) (hj : j < l.length) : w.cell? ⟨g, j, none⟩ = some (.int .u16 ((l[j]'hj : Nat) : Int)) := by
  have := World.ownsRow.cells h (g := g) rfl j (.int .u16 ((l[j]'hj : Nat) : Int)) (by simp [by16, hj])
  rw [addr_add] at this
  exact this
theorem Is.form {w : World} {base : Nat} {v : Value} {l : List Nat} (h : Is w base v l) : (v = .slice none 0 0 ∧ l = []) ∨ ∃ g cap, v = .slice (some ⟨g, 0, none⟩) l.length cap ∧ base ≤ g ∧ g < w.heap.size ∧ l.length ≤ cap := by
  rcases h.2 with ⟨hv, hn⟩ | ⟨g, cap, cur, hv, hb, hg, hc, _⟩
  · exact Or.inl ⟨hv, List.eq_nil_of_length_eq_zero hn⟩
  · exact Or.inr ⟨g, cap, hv, hb, (Array.getElem?_eq_some_iff.1 hg).1, hc⟩
theorem Is.cell {w : World} {base : Nat} {l : List Nat} {g n cap : Nat} (h : Is w base (.slice (some ⟨g, 0, none⟩) n cap) l) (j : Nat) (hj : j < l.length) : w.cell? ⟨g, j, none⟩ = some (.int .i64 ((l[j]'hj : Nat) : Int)) := by
  have := World.ownsRow.cells h (g := g) rfl j (.int .i64 ((l[j]'hj : Nat) : Int)) (by simp [byI, hj])
  rw [addr_add] at this
  exact this
theorem ownsRow_kept0 {w w' : World} {base e n : Nat} {v : Value} {xs : List Value} (h : w.ownsRow base e 1 v n xs) (hg : w.grownBy w' none) : w'.ownsRow base e 1 v n xs := by
  refine World.ownsRow.kept h hg ?_
  cases e : v.ownBlock with
  | none => exact Or.inl rfl
  | some k => exact Or.inr (by simp)
/-- No row is both one's and the other's. -/
def Apart (v u : Value) : Prop := ∀ k, v.ownBlock = some k → u.ownBlock = some k → False
theorem Apart.kept {v u : Value} (h : Apart v u) : v.ownBlock = none ∨ v.ownBlock ≠ u.ownBlock := by
  cases e : v.ownBlock with
  | none => exact Or.inl rfl
  | some k => exact Or.inr (fun e2 => h k e e2.symm)
theorem Apart.symm {v u : Value} (h : Apart v u) : Apart u v := fun k a b => h k b a
theorem Apart.nil (u : Value) : Apart (.slice none 0 0) u := fun k a _ => by simp [Value.ownBlock] at a
theorem Apart.step {v v' u : Value} {w : World} (h : Apart v u) (hat : At w v v') (hu : ∀ k, u.ownBlock = some k → k < w.heap.size) : Apart v' u := by
  intro k a b
  rcases hat with e | ⟨j, e, hj⟩
  · exact h k (e ▸ a) b
  · have := hu k b
    rw [e] at a
    cases a
    omega
/-- A row of the call's own has grown: nothing old has turned. -/
theorem Apx.fresh {w wr w1 : World} {B : Nat} {u u' : Value} {l l' : List UInt8} (A1 : Apx wr w1 B u u' l') (G : w.grownBy wr none) (A : Bs wr w.heap.size u l) : w.grownBy w1 none :=
  grown_trans G A1.grown (by
    cases eo : u.ownBlock with
    | none => exact Or.inl rfl
    | some j => exact Or.inr ⟨j, rfl, (A.lt eo).1⟩)
theorem hide {P : Prop} (h : P) : Hid P := h
theorem unhide {P : Prop} (h : Hid P) : P := h.out
theorem Below.of_grown {w w' : World} (h : w.grownBy w' none) : Below w.heap.size w w' := (Below.refl _ _).grown h (Nat.le_refl _) (fun k hk => by cases hk)
end Go.Proofs.YthlincikgdblfaaGreat

namespace Go.Proofs.YthlincikgdblfaaGreat
open Go.RowKit
set_option linter.unusedVariables false

theorem ret_int {k : IntKind} {a b : Int} (h : a = b) : Ending.returned (.int k a) = .returned (.int k b) := by rw [h]
theorem ret_bool {a b : Bool} (h : a = b) : Ending.returned (.bool a) = .returned (.bool b) := by rw [h]
theorem num_eq {k : IntKind} {a b : Int} (h : a = b) : Value.int k a = .int k b := by rw [h]
theorem info8 : (Tryz.prog.info? 5).map (fun i => (i.zero, i.size, i.bytes)) = some (some (.int .u8 0), 1, 1) := by kernel_rfl

theorem isText_any (s : ByteArray) (w : World) (hs : s.size ≤ maxLen) : Calls Tryz.prog 33 #[.string s] w fun e w' => e = .returned (.bool (decide (s.size ≤ 250))) ∧ w' = w := by
  unfold maxLen at hs
  go_enter Tryz.func33, Tryz.ntmps33
  go_wp2
  go_ret
  exact ⟨ret_bool (by rw [Bool.eq_iff_iff]; simp; omega), rfl⟩

def isRate (r : Int) : Bool := r == 1 || r == 2 || r == 4 || r == 8
theorem isRate_any (r : Int) (w : World) : Calls Tryz.prog 34 #[.int .i64 r] w fun e w' => e = .returned (.bool (isRate r)) ∧ w' = w := by
  unfold isRate
  by_cases h1 : r = 1
  · subst h1
    go_enter Tryz.func34, Tryz.ntmps34
    go_wp2
    go_ret
    exact ⟨rfl, rfl⟩
  by_cases h2 : r = 2
  · subst h2
    go_enter Tryz.func34, Tryz.ntmps34
    go_wp2
    go_ret
    exact ⟨rfl, rfl⟩
  by_cases h4 : r = 4
  · subst h4
    go_enter Tryz.func34, Tryz.ntmps34
    go_wp2
    go_ret
    exact ⟨rfl, rfl⟩
  by_cases h8 : r = 8
  · subst h8
    go_enter Tryz.func34, Tryz.ntmps34
    go_wp2
    go_ret
    exact ⟨rfl, rfl⟩
  have e1 : (r == 1) = false := by simp [h1]
  have e2 : (r == 2) = false := by simp [h2]
  have e4 : (r == 4) = false := by simp [h4]
  have e8 : (r == 8) = false := by simp [h8]
  go_enter Tryz.func34, Tryz.ntmps34
  go_wp2
  go_ret
  exact ⟨by simp [e1, e2, e4, e8], rfl⟩

theorem isMarked_any (p r : Nat) (w : World) (hp : p ≤ 1000000) (hr : 1 ≤ r) (hr2 : r ≤ 8) : Calls Tryz.prog 120 #[.int .i64 p, .int .i64 r] w fun e w' => e = .returned (.bool (Rot.isMarked r p)) ∧ w' = w := by
  have hr0 : ((r : Int) == 0) = false := by simp; omega
  go_enter Tryz.func120, Tryz.ntmps120
  go_wp2
  go_ret
  exact ⟨ret_bool (by unfold Rot.isMarked; rw [Bool.eq_iff_iff]; simp; omega), rfl⟩

theorem len16 : (Lib.bitLen (Int.toNat 65535) : Int) = 16 := by decide
theorem width16 (w : World) : Calls Tryz.prog 97 #[] w fun e w' => e = .returned (.int .i64 2) ∧ w' = w := by
  have hsg : IntKind.u16.signed = false := rfl
  have hxo : bits BinOp.xor IntKind.u16 IntKind.u16.max 0 = 65535 := by decide
  go_enter Tryz.func97, Tryz.ntmps97
  go_wp2_with fail
  refine (Tryz.bits_Len64 _ _ (by decide) (by decide)).mono ?_
  rw [len16]
  rintro e w' ⟨rfl, rfl⟩
  go_wp2
  go_ret
  exact ⟨rfl, rfl⟩
theorem len32 : (Lib.bitLen (Int.toNat 4294967295) : Int) = 32 := by decide
theorem width32 (w : World) : Calls Tryz.prog 98 #[] w fun e w' => e = .returned (.int .i64 4) ∧ w' = w := by
  have hsg : IntKind.u32.signed = false := rfl
  have hxo : bits BinOp.xor IntKind.u32 IntKind.u32.max 0 = 4294967295 := by decide
  go_enter Tryz.func98, Tryz.ntmps98
  go_wp2_with fail
  refine (Tryz.bits_Len64 _ _ (by decide) (by decide)).mono ?_
  rw [len32]
  rintro e w' ⟨rfl, rfl⟩
  go_wp2
  go_ret
  exact ⟨rfl, rfl⟩
theorem len8 : (Lib.bitLen (Int.toNat 255) : Int) = 8 := by decide
theorem width8 (w : World) : Calls Tryz.prog 112 #[] w fun e w' => e = .returned (.int .i64 1) ∧ w' = w := by
  have hsg : IntKind.u8.signed = false := rfl
  have hxo : bits BinOp.xor IntKind.u8 IntKind.u8.max 0 = 255 := by decide
  go_enter Tryz.func112, Tryz.ntmps112
  go_wp2_with fail
  refine (Tryz.bits_Len64 _ _ (by decide) (by decide)).mono ?_
  rw [len8]
  rintro e w' ⟨rfl, rfl⟩
  go_wp2
  go_ret
  exact ⟨rfl, rfl⟩

section
variable {P : Program}
/-- APPEND OF BYTES FROM WHATEVER ROW onto a slice of the call's own. -/
theorem wp_appBs (w : World) {ops : Array Oper} {rest : List Oper} {o : Oper} {a : Act} {Q : Exit → Act → World → Prop} (hgd : o.guard = none) (s x : Operand)
    (ho : o.op = .call { callee := .builtin .append, args := #[s, x], argTypes := #[45, 45] })
    (B : Nat) (v : Value) (l : List UInt8) (hs : a.eval s = v) (hown : Bs w B v l) (v2 : Value) (B2 : Nat) (m : List UInt8) (hx : a.eval x = v2) (hm : Bs w B2 v2 m)
    (hl : l.length + m.length < 1000000) (hB : B ≤ w.heap.size)
    (h : ∀ v' w', Apx w w' B v v' (l ++ m) → wpList Tryz.prog ops Q rest (a.put o.dst v') w') : wpList Tryz.prog ops Q (o :: rest) a w := by
  obtain ⟨i0, hi, hz0, hz1, hz2⟩ := info_parts info8
  have hml : (by8 m).length = m.length * 1 := by rw [by8_length]; omega
  rcases hm.form with ⟨rfl, rfl⟩ | ⟨g, cap, rfl, hg1, hg2, hg3⟩
  · refine wpList_append_own_none hgd s x 45 ho B 5 i0 1 Tryz.underlying45 hi v l.length (by8 l) hs hown hx ?_
    refine h v w ⟨?_, World.grownBy.refl _ _, At.refl _ _⟩
    rw [List.append_nil]
    exact hown
  · refine wpList_append_own_at w hgd s x 45 ho B 5 i0 (.int .u8 0) 1 1 Tryz.underlying45 hi hz0 hz1 hz2 rfl (by decide) v l.length (by8 l) hs hown ⟨g, 0, none⟩ m.length cap (by8 m) hx hml (World.ownsRow.cells hm (g := g) rfl) (by8_one m) (by unfold maxLen; omega) (by omega) hB ?_
    intro v' w' h1 h2 h3 h4
    refine h v' w' ⟨?_, h2, ?_⟩
    · unfold Bs; rw [by8_append, List.length_append]; exact h1
    · rcases h4 with h4 | h4
      · exact Or.inl h4
      · exact Or.inr ⟨_, h4, Nat.le_refl _⟩
/-- APPEND OF ONE BYTE onto a full slice, whoever's. -/
theorem wp_app1_full (w : World) {ops : Array Oper} {rest : List Oper} {o : Oper} {a : Act} {Q : Exit → Act → World → Prop} (hgd : o.guard = none) (s x : Operand)
    (ho : o.op = .call { callee := .builtin .append, args := #[s, x], argTypes := #[45, 45] })
    (g : Nat) (l : List UInt8) (hs : a.eval s = .slice (some ⟨g, 0, none⟩) l.length l.length) (W : World) (N : Int) (hw : w = W.alloc (.cells #[.int .u8 N] 5)) (hx : a.eval x = .slice (some ⟨W.heap.size, 0, none⟩) 1 1)
    (hc : ∀ j (hj : j < l.length), W.cell? ⟨g, j, none⟩ = some (.int .u8 ((l[j]'hj).toNat : Int))) (hg : g < W.heap.size) (b : UInt8) (hb : N = (b.toNat : Int)) (hl : l.length < 1000000)
    (h : ∀ v' w', Bs w' W.heap.size v' (l ++ [b]) → W.grownBy w' none → wpList Tryz.prog ops Q rest (a.put o.dst v') w') : wpList Tryz.prog ops Q (o :: rest) a w := by
  subst hw hb
  obtain ⟨i0, hi, hz0, hz1, hz2⟩ := info_parts info8
  refine wpList_append_grows _ hgd s x 45 ho 5 i0 (.int .u8 0) 1 1 Tryz.underlying45 hi hz0 hz1 hz2 rfl (by decide) (some ⟨g, 0, none⟩) l.length l.length (by8 l) hs (by simp) (by rw [by8_length]; omega) ?_ ⟨W.heap.size, 0, none⟩ 1 1 (by8 [b]) hx rfl (cell_one_new _ _ _) (by8_one [b]) (by omega) (by unfold maxLen; omega) (by omega) ?_
  · intro b' hb' j u hu
    cases hb'
    rw [addr_add, World.cell?_alloc_past _ _ _ hg]
    have hj : j < l.length := by have := (List.getElem?_eq_some_iff.1 hu).1; rwa [by8_length] at this
    rw [hc j hj]
    simpa [by8, hj] using hu
  · intro v' w' h1 h2
    refine h v' w' (Bs.mono (base := (W.alloc (.cells #[.int .u8 (b.toNat : Int)] 5)).heap.size) ?_ (by simp)) (grown_trans (World.grownBy_alloc W _ none) h2 (Or.inl rfl))
    unfold Bs; rw [by8_append, List.length_append]; exact h1
/-- APPEND OF ONE BYTE, which lies in a new block. -/
theorem wp_app1 (w : World) {ops : Array Oper} {rest : List Oper} {o : Oper} {a : Act} {Q : Exit → Act → World → Prop} (hgd : o.guard = none) (s x : Operand)
    (ho : o.op = .call { callee := .builtin .append, args := #[s, x], argTypes := #[45, 45] })
    (B : Nat) (v : Value) (l : List UInt8) (hs : a.eval s = v) (W : World) (N : Int) (hw : w = W.alloc (.cells #[.int .u8 N] 5)) (hx : a.eval x = .slice (some ⟨W.heap.size, 0, none⟩) 1 1) (hown : Bs W B v l) (b : UInt8) (hb : N = (b.toNat : Int))
    (hl : l.length < 1000000) (hB : B ≤ W.heap.size)
    (h : ∀ v' w', Apx W w' B v v' (l ++ [b]) → wpList Tryz.prog ops Q rest (a.put o.dst v') w') : wpList Tryz.prog ops Q (o :: rest) a w := by
  subst hw hb
  obtain ⟨i0, hi, hz0, hz1, hz2⟩ := info_parts info8
  refine wpList_append_own_at _ hgd s x 45 ho B 5 i0 (.int .u8 0) 1 1 Tryz.underlying45 hi hz0 hz1 hz2 rfl (by decide) v l.length (by8 l) hs (hown.alloc _) ⟨W.heap.size, 0, none⟩ 1 1 (by8 [b]) hx rfl (cell_one_new _ _ _) (by8_one [b]) (by unfold maxLen; omega) (by omega) (by simp; omega) ?_
  intro v' w' h1 h2 h3 h4
  refine h v' w' ⟨?_, grown_trans (World.grownBy_alloc W _ _) h2 (Or.inl rfl), ?_⟩
  · unfold Bs; rw [by8_append, List.length_append]; exact h1
  · rcases h4 with h4 | h4
    · exact Or.inl h4
    · exact Or.inr ⟨_, h4, by simp⟩
end

theorem byte_of (x : Nat) : ((x : Int) % 256) = ((UInt8.ofNat x).toNat : Int) := by
  rw [UInt8.toNat_ofNat']; omega

set_option maxHeartbeats 1000000 in
theorem app16_any (B : Nat) (v : Value) (l : List UInt8) (x : Nat) (w : World) (hB : B ≤ w.heap.size) (h : Bs w B v l) (hl : l.length < 900000) (hx : x < 65536) :
    Calls Tryz.prog 61 #[v, .int .u16 x] w fun e w' => ∃ v', e = .returned v' ∧ Apx w w' B v v' (l ++ Rot.le16 x) := by
  go_enter Tryz.func61, Tryz.ntmps61
  go_wp2_with fail
  refine (width16 _).mono ?_
  rintro e w0 ⟨rfl, hw0⟩
  subst hw0
  go_wp2_with fail
  refine wp_loop_rounds 3 ?_
  rw [rounds_succ]
  go_wp2_with (at_builtin; refine wp_app1 _ rfl (.tmp 11) (.tmp 14) rfl B _ l rfl w0 _ rfl rfl h (UInt8.ofNat x) ?b0 ?l0 hB ?_)
  case b0 => exact byte_of x
  case l0 => omega
  intro v1 w1 C1
  have A1 := C1
  clear C1
  go_wp2_with fail
  rw [rounds_succ]
  go_wp2_with (at_builtin; refine wp_app1 _ rfl (.tmp 11) (.tmp 14) rfl B _ (l ++ [UInt8.ofNat x]) rfl w1 _ rfl rfl A1.own (UInt8.ofNat (x / 256)) ?b1 ?l1 (Nat.le_trans hB A1.size) ?_)
  case b1 => rw [← byte_of]; omega
  case l1 => rw [List.length_append]; simp only [List.length_cons, List.length_nil]; omega
  intro v2 w2 C2
  have A2 := A1.trans C2
  try rw [List.append_assoc] at A2
  try simp only [List.cons_append, List.nil_append] at A2
  clear C2 A1
  go_wp2_with fail
  rw [rounds_succ]
  go_wp2_with fail
  go_ret
  exact ⟨_, rfl, A2⟩

set_option maxHeartbeats 1000000 in
theorem app16_full (g : Nat) (l : List UInt8) (x : Nat) (w : World) (hc : ∀ j (hj : j < l.length), w.cell? ⟨g, j, none⟩ = some (.int .u8 ((l[j]'hj).toNat : Int))) (hg : g < w.heap.size) (hl : l.length < 900000) (hx : x < 65536) :
    Calls Tryz.prog 61 #[.slice (some ⟨g, 0, none⟩) l.length l.length, .int .u16 x] w fun e w' => ∃ v', e = .returned v' ∧ Bs w' w.heap.size v' (l ++ Rot.le16 x) ∧ w.grownBy w' none := by
  have HC : Hid (∀ j (hj : j < l.length), w.cell? ⟨g, j, none⟩ = some (.int .u8 ((l[j]'hj).toNat : Int))) := hc
  clear hc
  go_enter Tryz.func61, Tryz.ntmps61
  go_wp2_with fail
  refine (width16 _).mono ?_
  rintro e w0 ⟨rfl, hw0⟩
  subst hw0
  go_wp2_with fail
  refine wp_loop_rounds 3 ?_
  rw [rounds_succ]
  go_wp2_with (at_builtin; refine wp_app1_full _ rfl (.tmp 11) (.tmp 14) rfl g l rfl w0 _ rfl rfl HC.out hg (UInt8.ofNat x) ?b0 ?l0 ?_)
  case b0 => exact byte_of x
  case l0 => omega
  intro v1 w1 C1 G1
  clear HC
  go_wp2_with fail
  rw [rounds_succ]
  go_wp2_with (at_builtin; refine wp_app1 _ rfl (.tmp 11) (.tmp 14) rfl w0.heap.size _ (l ++ [UInt8.ofNat x]) rfl w1 _ rfl rfl C1 (UInt8.ofNat (x / 256)) ?b1 ?l1 G1.size ?_)
  case b1 => rw [← byte_of]; omega
  case l1 => rw [List.length_append]; simp only [List.length_cons, List.length_nil]; omega
  intro v2 w2 C2
  have A2 := C2.own
  have G2 : w0.grownBy w2 none := grown_trans G1 C2.grown (by
    cases eo : v1.ownBlock with
    | none => exact Or.inl rfl
    | some j => exact Or.inr ⟨j, rfl, (C1.lt eo).1⟩)
  try rw [List.append_assoc] at A2
  try simp only [List.cons_append, List.nil_append] at A2
  clear C1 C2 G1
  go_wp2_with fail
  rw [rounds_succ]
  go_wp2_with fail
  go_ret
  exact ⟨_, rfl, A2, G2⟩

set_option maxHeartbeats 1000000 in
theorem app32_any (B : Nat) (v : Value) (l : List UInt8) (x : Nat) (w : World) (hB : B ≤ w.heap.size) (h : Bs w B v l) (hl : l.length < 900000) (hx : x < 4294967296) :
    Calls Tryz.prog 62 #[v, .int .u32 x] w fun e w' => ∃ v', e = .returned v' ∧ Apx w w' B v v' (l ++ Rot.le32 x) := by
  go_enter Tryz.func62, Tryz.ntmps62
  go_wp2_with fail
  refine (width32 _).mono ?_
  rintro e w0 ⟨rfl, hw0⟩
  subst hw0
  go_wp2_with fail
  refine wp_loop_rounds 5 ?_
  rw [rounds_succ]
  go_wp2_with (at_builtin; refine wp_app1 _ rfl (.tmp 11) (.tmp 14) rfl B _ l rfl w0 _ rfl rfl h (UInt8.ofNat x) ?b0 ?l0 hB ?_)
  case b0 => exact byte_of x
  case l0 => omega
  intro v1 w1 C1
  have A1 := C1
  clear C1
  go_wp2_with fail
  rw [rounds_succ]
  go_wp2_with (at_builtin; refine wp_app1 _ rfl (.tmp 11) (.tmp 14) rfl B _ (l ++ [UInt8.ofNat x]) rfl w1 _ rfl rfl A1.own (UInt8.ofNat (x / 256)) ?b1 ?l1 (Nat.le_trans hB A1.size) ?_)
  case b1 => rw [← byte_of]; omega
  case l1 => rw [List.length_append]; simp only [List.length_cons, List.length_nil]; omega
  intro v2 w2 C2
  have A2 := A1.trans C2
  try rw [List.append_assoc] at A2
  try simp only [List.cons_append, List.nil_append] at A2
  clear C2 A1
  go_wp2_with fail
  rw [rounds_succ]
  go_wp2_with (at_builtin; refine wp_app1 _ rfl (.tmp 11) (.tmp 14) rfl B _ (l ++ [UInt8.ofNat x, UInt8.ofNat (x / 256)]) rfl w2 _ rfl rfl A2.own (UInt8.ofNat (x / 65536)) ?b2 ?l2 (Nat.le_trans hB A2.size) ?_)
  case b2 => rw [← byte_of]; omega
  case l2 => rw [List.length_append]; simp only [List.length_cons, List.length_nil]; omega
  intro v3 w3 C3
  have A3 := A2.trans C3
  try rw [List.append_assoc] at A3
  try simp only [List.cons_append, List.nil_append] at A3
  clear C3 A2
  go_wp2_with fail
  rw [rounds_succ]
  go_wp2_with (at_builtin; refine wp_app1 _ rfl (.tmp 11) (.tmp 14) rfl B _ (l ++ [UInt8.ofNat x, UInt8.ofNat (x / 256), UInt8.ofNat (x / 65536)]) rfl w3 _ rfl rfl A3.own (UInt8.ofNat (x / 16777216)) ?b3 ?l3 (Nat.le_trans hB A3.size) ?_)
  case b3 => rw [← byte_of]; omega
  case l3 => rw [List.length_append]; simp only [List.length_cons, List.length_nil]; omega
  intro v4 w4 C4
  have A4 := A3.trans C4
  try rw [List.append_assoc] at A4
  try simp only [List.cons_append, List.nil_append] at A4
  clear C4 A3
  go_wp2_with fail
  rw [rounds_succ]
  go_wp2_with fail
  go_ret
  exact ⟨_, rfl, A4⟩

set_option maxHeartbeats 1000000 in
theorem app8_any (B : Nat) (v : Value) (l : List UInt8) (x : Nat) (w : World) (hB : B ≤ w.heap.size) (h : Bs w B v l) (hl : l.length < 900000) (hx : x < 256) :
    Calls Tryz.prog 99 #[v, .int .u8 x] w fun e w' => ∃ v', e = .returned v' ∧ Apx w w' B v v' (l ++ [UInt8.ofNat x]) := by
  go_enter Tryz.func99, Tryz.ntmps99
  go_wp2_with fail
  refine (width8 _).mono ?_
  rintro e w0 ⟨rfl, hw0⟩
  subst hw0
  go_wp2_with fail
  refine wp_loop_rounds 2 ?_
  rw [rounds_succ]
  go_wp2_with (at_builtin; refine wp_app1 _ rfl (.tmp 11) (.tmp 14) rfl B _ l rfl w0 _ rfl rfl h (UInt8.ofNat x) ?b0 ?l0 hB ?_)
  case b0 => rw [← byte_of]; omega
  case l0 => omega
  intro v1 w1 C1
  have A1 := C1
  clear C1
  go_wp2_with fail
  rw [rounds_succ]
  go_wp2_with fail
  go_ret
  exact ⟨_, rfl, A1⟩

end Go.Proofs.YthlincikgdblfaaGreat

namespace Go.Proofs.YthlincikgdblfaaGreat
open Go.RowKit
set_option linter.unusedVariables false

theorem sum_snoc (l : List UInt8) (k : Nat) (hk : k < l.length) : Rot.sumOf (l.take (k + 1)) = Rot.sumStep (Rot.sumOf (l.take k)) (l[k]'hk) := by
  rw [List.take_succ_eq_append_getElem hk]
  unfold Rot.sumOf
  rw [List.foldl_append]
  rfl
theorem sum_lt (l : List UInt8) : Rot.sumOf l < 4294967296 := by
  rcases List.eq_nil_or_concat l with rfl | ⟨m, b, rfl⟩
  · decide
  · unfold Rot.sumOf
    rw [List.concat_eq_append, List.foldl_append]
    show Rot.sumStep _ _ < _
    unfold Rot.sumStep
    omega

set_option maxHeartbeats 400000 in
theorem checkSum_any (B : Nat) (v : Value) (l : List UInt8) (w : World) (h : Bs w B v l) (hl : l.length < 900000) :
    Calls Tryz.prog 63 #[v] w fun e w' => e = .returned (.int .u32 (Rot.sumOf l)) ∧ w' = w := by
  rcases h.form with ⟨rfl, rfl⟩ | ⟨g, cap, rfl, hg1, hg2, hg3⟩
  · go_enter Tryz.func63, Tryz.ntmps63
    go_wp2_with fail
    refine wp_loop_rounds 1 ?_
    rw [rounds_succ]
    go_wp2_with fail
    go_ret
    exact ⟨rfl, rfl⟩
  · have hc := h.cell
    clear h
    go_enter Tryz.func63, Tryz.ntmps63
    go_wp2_with fail
    go_loop [3, 8] (fun s i => ∃ k : Nat, k ≤ l.length ∧ i = .int .i64 k ∧ s = .int .u32 (Rot.sumOf (l.take k))) (fun _ i => l.length - (intOf i).toNat)
    case atStart => exact ⟨0, Nat.zero_le _, rfl, rfl⟩
    case round =>
      obtain ⟨k, hk, rfl, rfl⟩ := hrel
      by_cases hlt : k < l.length
      · have hck := hc k hlt
        have hbl := (l[k]'hlt).toNat_lt
        have hsl := sum_lt (l.take k)
        have HS : Hid (Rot.sumOf (l.take (k + 1)) = Rot.sumStep (Rot.sumOf (l.take k)) (l[k]'hlt)) := sum_snoc l k hlt
        clear hc
        go_wp2
        go_round
        case rel => 
          refine ⟨k + 1, by omega, by go_num, ?_⟩
          rw [HS.out]
          unfold Rot.sumStep
          exact num_eq (by omega)
        case measure => simp [intOf]; omega
      · go_wp2
        go_ret
        exact ⟨ret_int (by rw [List.take_of_length_le (by omega)]), rfl⟩

theorem flat_snoc (d : List Nat) (k : Nat) (hk : k < d.length) : (d.take (k + 1)).flatMap Rot.le16 = (d.take k).flatMap Rot.le16 ++ Rot.le16 (d[k]'hk) := by
  rw [List.take_succ_eq_append_getElem hk, List.flatMap_append]
  simp
theorem flat_len (d : List Nat) : (d.flatMap Rot.le16).length = 2 * d.length := by
  induction d with
  | nil => rfl
  | cons a d ih => rw [List.flatMap_cons, List.length_append, ih]; simp [Rot.le16]; omega

set_option maxHeartbeats 400000 in
theorem appendAll_any (B B2 : Nat) (v v2 : Value) (l : List UInt8) (d : List Nat) (w : World) (hB : B ≤ w.heap.size) (h : Bs w B v l) (h2 : Us w B2 v2 d) (hap : Apart v2 v) (hl : l.length + 2 * d.length < 900000) (hd : ∀ x ∈ d, x < 65536) :
    Calls Tryz.prog 150 #[v, v2] w fun e w' => ∃ v', e = .returned v' ∧ Apx w w' B v v' (l ++ d.flatMap Rot.le16) := by
  rcases h2.form with ⟨rfl, rfl⟩ | ⟨g, cap, rfl, hg1, hg2, hg3⟩
  · go_enter Tryz.func150, Tryz.ntmps150
    go_wp2_with fail
    refine wp_loop_rounds 1 ?_
    rw [rounds_succ]
    go_wp2_with fail
    go_ret
    exact ⟨v, rfl, by simpa using h, World.grownBy.refl _ _, At.refl _ _⟩
  · have HD : Hid (∀ x ∈ d, x < 65536) := hd
    have HU : Hid (Us w B2 (.slice (some ⟨g, 0, none⟩) d.length cap) d) := h2
    have HA := hap.kept
    clear hd h2 hap
    go_enter Tryz.func150, Tryz.ntmps150
    go_wp2_with fail
    go_loopw [0, 9] (fun u i wr => ∃ k : Nat, k ≤ d.length ∧ i = .int .i64 k ∧ Apx w wr B v u (l ++ (d.take k).flatMap Rot.le16)) (fun _ i _ => d.length - (intOf i).toNat)
    case atStart => exact ⟨0, Nat.zero_le _, rfl, by simpa using h, World.grownBy.refl _ _, At.refl _ _⟩
    case round =>
      obtain ⟨k, hk, rfl, A⟩ := hrel
      by_cases hlt : k < d.length
      · have hck := Us.cell (World.ownsRow.kept HU.out A.grown HA) k hlt
        have hx : d[k]'hlt < 65536 := HD.out _ (List.getElem_mem hlt)
        have hlen : (l ++ (d.take k).flatMap Rot.le16).length < 900000 := by rw [List.length_append, flat_len, List.length_take]; omega
        have hsz := A.size
        go_wp2_with fail
        refine (app16_any B _ _ _ _ (by omega) A.own hlen hx).mono ?_
        rintro e w1 ⟨u', rfl, A1⟩
        have A2 := A.trans A1
        rw [List.append_assoc, ← flat_snoc d k hlt] at A2
        clear A A1 hck hlen
        go_wp2_with fail
        go_roundw
        case rel => exact ⟨k + 1, by omega, by go_num, A2⟩
        case measure => simp [intOf]; omega
      · have hk' : k = d.length := by omega
        subst hk'
        rw [List.take_length] at A
        go_wp2
        go_ret
        exact ⟨_, rfl, A⟩


set_option maxRecDepth 100000 in
set_option maxHeartbeats 1000000 in
theorem headOf_any (n r size : Nat) (w : World) (hn : n < 65536) (hr : r < 256) (hs : size < 4294967296) :
    Calls Tryz.prog 64 #[.int .i64 n, .int .i64 r, .int .i64 size] w fun e w' => ∃ v', e = .returned v' ∧ Bs w' w.heap.size v' (Rot.headOf n r size) ∧ w.grownBy w' none := by
  have kc := fun (w : World) (C : Array Value) (n c : Nat) => Lib.run_convert_bytes_const (P := Tryz.prog) w 45 5 C n c Tryz.underlying45 Tryz.underlying5
  go_enter Tryz.func64, Tryz.ntmps64
  go_wp2_with fail
  clear kc
  refine (app16_full w.heap.size [82, 84, 88, 49] n _ ?_ (by simp) (by simp) hn).mono ?_
  · intro j hj
    rw [World.cell?_alloc_mark]
    match j, hj with
    | 0, _ => rfl
    | 1, _ => rfl
    | 2, _ => rfl
    | 3, _ => rfl
  rintro e w1 ⟨u1, rfl, A1, G1⟩
  have G0 : w.grownBy w1 none := grown_trans (World.grownBy_alloc w _ none) G1 (Or.inl rfl)
  have A1' := A1.mono (base' := w.heap.size) (by simp)
  clear A1 G1
  have hz1 := G0.size
  go_wp2_with fail
  refine (app8_any w.heap.size _ _ r _ hz1 A1' (by simp [Rot.le16]) hr).mono ?_
  rintro e w2 ⟨u2, rfl, A2⟩
  go_wp2_with fail
  refine (app8_any w.heap.size _ _ 5 _ (Nat.le_trans hz1 A2.size) A2.own (by simp [Rot.le16]) (by decide)).mono ?_
  rintro e w3 ⟨u3, rfl, B3⟩
  have A3 := A2.trans B3
  clear A2 B3
  go_wp2_with fail
  refine (app32_any w.heap.size _ _ size _ (Nat.le_trans hz1 A3.size) A3.own (by simp [Rot.le16]) hs).mono ?_
  rintro e w4 ⟨u4, rfl, B4⟩
  have A4 := A3.trans B4
  clear A3 B4
  go_wp2_with fail
  go_ret
  refine ⟨_, rfl, ?_, grown_trans G0 A4.grown (by
    cases eo : u1.ownBlock with
    | none => exact Or.inl rfl
    | some j => exact Or.inr ⟨j, rfl, (A1'.lt eo).1⟩)⟩
  have := A4.own
  simpa [Rot.headOf] using this
end Go.Proofs.YthlincikgdblfaaGreat

namespace Go.Proofs.YthlincikgdblfaaGreat
open Go.RowKit
set_option linter.unusedVariables false

theorem take_filter_snoc {α : Type} (p : α → Bool) (d : List α) (k : Nat) (hk : k < d.length) : (d.take (k + 1)).filter p = (d.take k).filter p ++ if p (d[k]'hk) then [d[k]'hk] else [] := by
  rw [List.take_succ_eq_append_getElem hk, List.filter_append]
  simp [List.filter_cons]

set_option maxHeartbeats 400000 in
theorem places_any (B : Nat) (v : Value) (d : List Nat) (r : Nat) (w : World) (h : Is w B v d) (hd : ∀ x ∈ d, x < 1000) (hdl : d.length < 1000) (hr1 : 1 ≤ r) (hr2 : r ≤ 8) :
    Calls Tryz.prog 96 #[v, .int .i64 r] w fun e w' => ∃ v', e = .returned v' ∧ Bs w' w.heap.size v' (Rot.placesOf d r) ∧ w.grownBy w' none := by
  rcases h.form with ⟨rfl, rfl⟩ | ⟨g, cap, rfl, hg1, hg2, hg3⟩
  · go_enter Tryz.func96, Tryz.ntmps96
    go_wp2_with fail
    refine wp_loop_rounds 1 ?_
    rw [rounds_succ]
    go_wp2_with fail
    go_ret
    exact ⟨_, rfl, Bs.nil _ _, World.grownBy.refl _ _⟩
  · have HD : Hid (∀ x ∈ d, x < 1000) := hd
    have HU : Hid (Is w B (.slice (some ⟨g, 0, none⟩) d.length cap) d) := h
    clear hd h
    go_enter Tryz.func96, Tryz.ntmps96
    go_wp2_with fail
    go_loopw [5, 10] (fun u i wr => ∃ k : Nat, k ≤ d.length ∧ i = .int .i64 k ∧ Bs wr w.heap.size u (((d.take k).filter (Rot.isMarked r)).flatMap Rot.le16) ∧ w.grownBy wr none) (fun _ i _ => d.length - (intOf i).toNat)
    case atStart => exact ⟨0, Nat.zero_le _, rfl, Bs.nil _ _, World.grownBy.refl _ _⟩
    case round =>
      obtain ⟨k, hk, rfl, A, G⟩ := hrel
      by_cases hlt : k < d.length
      · have hck := Is.cell (ownsRow_kept0 HU.out G) k hlt
        have hx : d[k]'hlt < 1000 := HD.out _ (List.getElem_mem hlt)
        have hlen : (((d.take k).filter (Rot.isMarked r)).flatMap Rot.le16).length < 900000 := by
          rw [flat_len]
          have := List.length_filter_le (Rot.isMarked r) (d.take k)
          rw [List.length_take] at this
          omega
        have hsz := G.size
        have HF : Hid ((d.take (k + 1)).filter (Rot.isMarked r) = (d.take k).filter (Rot.isMarked r) ++ if Rot.isMarked r (d[k]'hlt) then [d[k]'hlt] else []) := take_filter_snoc _ d k hlt
        go_wp2_with fail
        refine (isMarked_any _ _ _ (by omega) hr1 hr2).mono ?_
        rintro e w1 ⟨rfl, hw1⟩
        subst hw1
        cases hm : Rot.isMarked r (d[k]'hlt) with
        | true =>
          go_wp2_with fail
          refine (app16_any w.heap.size _ _ _ _ (by omega) A hlen (by omega)).mono ?_
          rintro e w1 ⟨u', rfl, A1⟩
          have B1 := A1.own
          have G1 := A1.fresh G A
          have e2 : ((d.take k).filter (Rot.isMarked r)).flatMap Rot.le16 ++ Rot.le16 (d[k]'hlt) = ((d.take (k + 1)).filter (Rot.isMarked r)).flatMap Rot.le16 := by
            rw [HF.out, hm, List.flatMap_append]; simp
          rw [e2] at B1
          have HB := hide B1
          clear A A1 B1 G hck hlen hm e2
          go_wp2_with fail
          go_roundw
          case rel => exact ⟨k + 1, by omega, by go_num, (unhide HB), G1⟩
          case measure => simp [intOf]; omega
        | false =>
          have e2 : (d.take k).filter (Rot.isMarked r) = (d.take (k + 1)).filter (Rot.isMarked r) := by
            rw [HF.out, hm]; simp
          rw [e2] at A
          have HB := hide A
          clear A hck hlen hm e2
          go_wp2_with fail
          go_roundw
          case rel => exact ⟨k + 1, by omega, by go_num, (unhide HB), G⟩
          case measure => simp [intOf]; omega
      · have hk' : k = d.length := by omega
        subst hk'
        rw [List.take_length] at A
        go_wp2
        go_ret
        exact ⟨_, rfl, A, G⟩

theorem at_zero (d : List Nat) (k : Nat) (hk : k < d.length) : ((d.take (k + 1)).filter fun p => decide (0 < p)) = ((d.take k).filter fun p => decide (0 < p)) ++ if 0 < d[k]'hk then [d[k]'hk] else [] := by
  rw [take_filter_snoc _ d k hk]
  simp

theorem column_snoc (t : List UInt8) (d : List Nat) (k : Nat) (hk : k < d.length) : Rot.columnOf t (d.take (k + 1)) = Rot.columnOf t (d.take k) ++ if 0 < d[k]'hk then [(t[d[k]'hk - 1]?).getD 0] else [] := by
  unfold Rot.columnOf
  rw [at_zero d k hk, List.map_append]
  by_cases h : 0 < d[k]'hk <;> simp [h]
theorem column_len (t : List UInt8) (d : List Nat) : (Rot.columnOf t d).length ≤ d.length := by
  unfold Rot.columnOf
  rw [List.length_map]
  exact List.length_filter_le _ _
theorem byte_at (s : ByteArray) (j : Nat) (hj : j < s.size) : (s.data.toList[j]?).getD 0 = s[j] := by
  have : j < s.data.toList.length := by simpa using hj
  rw [List.getElem?_eq_getElem this]
  rfl

set_option maxRecDepth 100000 in
set_option maxHeartbeats 1000000 in
theorem column_any (B : Nat) (s : ByteArray) (g cap : Nat) (d : List Nat) (w : World) (h : Is w B (.slice (some ⟨g, 0, none⟩) d.length cap) d) (hd : ∀ x ∈ d, x ≤ s.size) (hdl : d.length < 1000) (hs : s.size < 1000) :
    Calls Tryz.prog 93 #[.string s, .slice (some ⟨g, 0, none⟩) d.length cap] w fun e w' => ∃ v', e = .returned v' ∧ Bs w' w.heap.size v' (Rot.columnOf s.data.toList d) ∧ w.grownBy w' none := by
  obtain ⟨i0, hi, hz0, hz1, hz2⟩ := info_parts info8
  have HD := hide hd
  have HU := hide h
  clear hd h
  go_enter Tryz.func93, Tryz.ntmps93
  go_wp2_with (at_make; refine wpList_make_own _ rfl _ _ 45 rfl w.heap.size 5 i0 (.int .u8 0) 1 Tryz.underlying45 hi hz0 hz1 .i64 .i64 _ s.size rfl rfl rfl ?m1 ?m2 (Nat.le_refl _) ?_)
  case m1 => rw [hz2]; omega
  case m2 => unfold maxLen; omega
  intro w0 O0 G0
  have B0 : Bs w0 w.heap.size (.slice (some ⟨w.heap.size, 0, none⟩) 0 s.size) [] := O0
  clear O0
  go_wp2_with fail
  go_loopw [5, 13] (fun u i wr => ∃ k : Nat, k ≤ d.length ∧ i = .int .i64 k ∧ Bs wr w.heap.size u (Rot.columnOf s.data.toList (d.take k)) ∧ w.grownBy wr none) (fun _ i _ => d.length - (intOf i).toNat)
  case atStart => exact ⟨0, Nat.zero_le _, rfl, B0, G0⟩
  case round =>
    obtain ⟨k, hk, rfl, A, G⟩ := hrel
    clear B0 G0
    by_cases hlt : k < d.length
    · have hck := Is.cell (ownsRow_kept0 (unhide HU) G) k hlt
      have hx : d[k]'hlt ≤ s.size := unhide HD _ (List.getElem_mem hlt)
      have hlen : (Rot.columnOf s.data.toList (d.take k)).length < 1000000 := by
        have := column_len s.data.toList (d.take k)
        rw [List.length_take] at this
        omega
      have hsz := G.size
      have HF := hide (column_snoc s.data.toList d k hlt)
      by_cases hp : 0 < d[k]'hlt
      · have hidx : d[k]'hlt - 1 < s.size := by omega
        have HB := hide (byte_at s (d[k]'hlt - 1) hidx)
        generalize hdk : d[k]'hlt = q at hck hx HF hp hidx HB
        clear hdk
        go_wp2_with (at_builtin; refine wp_app1 _ rfl (.tmp 19) (.tmp 24) rfl w.heap.size _ (Rot.columnOf s.data.toList (d.take k)) rfl wr _ rfl rfl A (s[q - 1]) ?b0 hlen hsz ?_)
        case b0 => rfl
        intro u' w1 A1
        have G1 := A1.fresh G A
        have B1 := A1.own
        have e2 : Rot.columnOf s.data.toList (d.take k) ++ [s[q - 1]] = Rot.columnOf s.data.toList (d.take (k + 1)) := by
          rw [unhide HF, if_pos hp, unhide HB]
        rw [e2] at B1
        have HB1 := hide B1
        clear A A1 B1 G hck hlen e2
        go_wp2_with fail
        go_roundw
        case rel => exact ⟨k + 1, by omega, by go_num, unhide HB1, G1⟩
        case measure => simp [intOf]; omega
      · have e2 : Rot.columnOf s.data.toList (d.take k) = Rot.columnOf s.data.toList (d.take (k + 1)) := by
          rw [unhide HF, if_neg hp]; simp
        rw [e2] at A
        have HB1 := hide A
        clear A hlen e2
        go_wp2_with fail
        go_roundw
        case rel => exact ⟨k + 1, by omega, by go_num, unhide HB1, G⟩
        case measure => simp [intOf]; omega
    · have hk' : k = d.length := by omega
      subst hk'
      rw [List.take_length] at A
      go_wp2
      go_ret
      exact ⟨_, rfl, A, G⟩
end Go.Proofs.YthlincikgdblfaaGreat
