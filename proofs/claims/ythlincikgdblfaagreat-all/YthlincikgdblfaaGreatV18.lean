import Derived.Test.YthlincikgdblfaaGreatV17
namespace Go.Proofs.YthlincikgdblfaaGreat
open Go.RowKit
set_option linter.unusedVariables false

theorem infoBits : (Tryz.prog.info? 69).map (fun i => (i.zero, i.size, i.bytes)) = some (some (.agg #[.slice none 0 0, .slice none 0 0, .int .i64 0, .int .u16 0]), 4, 64) := by kernel_rfl
theorem cells_new4 (W : World) (x0 x1 x2 x3 : Value) (ty : TypeId) : ∀ j u, [x0, x1, x2, x3][j]? = some u → (W.alloc (.cells #[x0, x1, x2, x3] ty)).cell? ((⟨W.heap.size, 0, none⟩ : Addr).add j) = some u := by
  intro j u hu
  obtain ⟨_, h0, h1, h2, h3, _⟩ := cells4 W x0 x1 x2 x3 ty
  rw [addr_add]
  match j, hu with
  | 0, hu => simp at hu; subst hu; exact h0
  | 1, hu => simp at hu; subst hu; exact h1
  | 2, hu => simp at hu; subst hu; exact h2
  | 3, hu => simp at hu; subst hu; exact h3
  | j + 4, hu => simp at hu
/-- APPEND OF ONE ROW OF BITS, as one step of a region that draws. -/
theorem step_appBits {ops : Array Oper} {o : Oper} {a : Act} {w : World} {K : Act → World → Prop} {Q : Exit → Act → World → Prop} {E : Prop}
    (hg : o.guard = none) (s x : Operand) (hop : o.op = Op.call { callee := Callee.builtin Builtin.append, args := #[s, x], argTypes := #[99, 99] })
    (B : Nat) (v : Value) (k : Nat) (cs : List Value) (hs : a.eval s = v) (W : World) (x0 x1 x2 x3 : Value) (o0 : x0.oneCell' = true) (o1 : x1.oneCell' = true) (o2 : x2.oneCell' = true) (o3 : x3.oneCell' = true) (hw : w = W.alloc (.cells #[x0, x1, x2, x3] 69)) (hx : a.eval x = .slice (some ⟨W.heap.size, 0, none⟩) 1 1) (hown : W.ownsRow B 69 4 v k cs)
    (hl : k < 1000) (hB : B ≤ W.heap.size)
    (hK : ∀ g cap w', w'.ownsRow B 69 4 (.slice (some ⟨g, 0, none⟩) (k + 1) cap) (k + 1) (cs ++ [x0, x1, x2, x3]) → W.grownBy w' v.ownBlock → At W v (.slice (some ⟨g, 0, none⟩) (k + 1) cap) → K (a.put o.dst (.slice (some ⟨g, 0, none⟩) (k + 1) cap)) w') :
    if Region.wanted o (yielded ops a.tmps) = true then Oper.wp Tryz.prog o a w K Q else E := by
  have hwt : Region.wanted o (yielded ops a.tmps) = true := by simp [Region.wanted, hg]
  rw [if_pos hwt]
  subst hw
  obtain ⟨i0, hi, hz0, hz1, hz2⟩ := info_parts infoBits
  obtain ⟨v', w', hr, h2, h3, h4, h5⟩ := run_append_own_at (P := Tryz.prog) (W.alloc (.cells #[x0, x1, x2, x3] 69)) B 99 o.type 69 i0 (.agg #[.slice none 0 0, .slice none 0 0, .int .i64 0, .int .u16 0]) 4 64 Tryz.underlying99 hi hz0 hz1 hz2 rfl (by decide) v k cs (World.ownsRow.alloc hown _) ⟨W.heap.size, 0, none⟩ 1 1 [x0, x1, x2, x3] rfl (cells_new4 _ _ _ _ _ _) (by intro u hu; simp at hu; rcases hu with rfl | rfl | rfl | rfl <;> assumption) (by unfold maxLen; omega) (by omega) (by simp; omega)
  obtain ⟨g, cap, rfl⟩ : ∃ g cap, v' = .slice (some ⟨g, 0, none⟩) (k + 1) cap := by
    rcases h2.2 with ⟨hv, hn⟩ | ⟨g, cap, _, hv, _⟩
    · omega
    · exact ⟨g, cap, hv⟩
  unfold Oper.wp
  simp [execOp, hop, resolve, invoke, builtin, hs, hx, hr, Result.andThen]
  refine hK g cap w' h2 (grown_trans (World.grownBy_alloc W _ _) h3 (Or.inl rfl)) ?_
  rcases h5 with h5 | h5
  · exact Or.inl h5
  · exact Or.inr ⟨_, h5, by simp⟩
def Wd (n : Nat) : Nat := 2 + (n + 7) / 8 + 2 * ((n + 15) / 16)
def zAt (l : List UInt8) (n i : Nat) : Nat := Rot.numAt (l.drop (i * Wd n)) 0
def zerosTo (l : List UInt8) (n k : Nat) : List Nat := (List.range k).map (zAt l n)
def pc (l : List UInt8) (n i : Nat) : List UInt8 := (l.drop (i * Wd n + 2)).take ((n + 7) / 8)
def dc (l : List UInt8) (n i : Nat) : List Nat := Rot.nums ((l.drop (i * Wd n + 2)).drop ((n + 7) / 8)) ((n + 15) / 16)
def oc (l : List UInt8) (n i : Nat) : Nat := onesIn (l.drop (i * Wd n + 2)) n
def bitCells (l : List UInt8) (n : Nat) (p a : Nat → Value) (k : Nat) : List Value := (List.range k).flatMap fun i => [p i, a i, .int .i64 n, .int .u16 (oc l n i : Nat)]
theorem zerosTo_succ (l : List UInt8) (n k : Nat) : zerosTo l n (k + 1) = zerosTo l n k ++ [zAt l n k] := by
  unfold zerosTo
  rw [List.range_succ, List.map_append]
  rfl
theorem zerosTo_len (l : List UInt8) (n k : Nat) : (zerosTo l n k).length = k := by simp [zerosTo]
theorem bitCells_succ (l : List UInt8) (n : Nat) (p a : Nat → Value) (k : Nat) : bitCells l n p a (k + 1) = bitCells l n p a k ++ [p k, a k, .int .i64 n, .int .u16 (oc l n k : Nat)] := by
  unfold bitCells
  rw [List.range_succ, List.flatMap_append]
  simp
theorem bitCells_len (l : List UInt8) (n : Nat) (p a : Nat → Value) : ∀ k, (bitCells l n p a k).length = k * 4
  | 0 => rfl
  | k + 1 => by rw [bitCells_succ, List.length_append, bitCells_len l n p a k]; simp; omega
theorem bitCells_congr (l : List UInt8) (n : Nat) (p a p' a' : Nat → Value) (k : Nat) (h : ∀ i, i < k → p' i = p i ∧ a' i = a i) : bitCells l n p' a' k = bitCells l n p a k := by
  induction k with
  | zero => rfl
  | succ k ih => rw [bitCells_succ, bitCells_succ, ih (fun i hi => h i (by omega)), (h k (by omega)).1, (h k (by omega)).2]
theorem bitCells_get (l : List UInt8) (n : Nat) (p a : Nat → Value) : ∀ k i, i < k → (bitCells l n p a k)[i * 4]? = some (p i) ∧ (bitCells l n p a k)[i * 4 + 1]? = some (a i) ∧ (bitCells l n p a k)[i * 4 + 2]? = some (.int .i64 n) ∧ (bitCells l n p a k)[i * 4 + 3]? = some (.int .u16 (oc l n i : Nat))
  | 0, i, h => absurd h (Nat.not_lt_zero _)
  | k + 1, i, h => by
    have hl := bitCells_len l n p a k
    rw [bitCells_succ]
    by_cases e : i = k
    · subst e
      refine ⟨?_, ?_, ?_, ?_⟩ <;> rw [List.getElem?_append_right (by omega), hl]
      · simp
      · rw [show i * 4 + 1 - i * 4 = 1 by omega]; rfl
      · rw [show i * 4 + 2 - i * 4 = 2 by omega]; rfl
      · rw [show i * 4 + 3 - i * 4 = 3 by omega]; rfl
    · have ih := bitCells_get l n p a k i (by omega)
      refine ⟨?_, ?_, ?_, ?_⟩ <;> rw [List.getElem?_append_left (by omega)]
      · exact ih.1
      · exact ih.2.1
      · exact ih.2.2.1
      · exact ih.2.2.2
end Go.Proofs.YthlincikgdblfaaGreat

namespace Go.Proofs.YthlincikgdblfaaGreat
open Go.RowKit
set_option linter.unusedVariables false

theorem own_ne {v : Value} {r : Option Nat} (h : ∀ k, v.ownBlock = some k → r ≠ some k) : v.ownBlock = none ∨ v.ownBlock ≠ r := by
  cases e : v.ownBlock with
  | none => exact Or.inl rfl
  | some k => exact Or.inr (fun e2 => h k e e2.symm)
/-- Behind so many zeros and so many bits. -/
structure TreeAt (w W3 wr : World) (g : Nat) (v Nv Bb : Value) (l : List UInt8) (n kn kb : Nat) (rest : List UInt8) (p a : Nat → Value) : Prop where
  rdr : ∃ u, Rdr wr (w.heap.size + 1) g u rest
  s0 : wr.cell? ⟨w.heap.size + 2, 0, none⟩ = some v
  s1 : wr.cell? ⟨w.heap.size + 2, 1, none⟩ = some (.pointer (some ⟨w.heap.size + 1, 0, none⟩))
  s2 : wr.cell? ⟨w.heap.size + 2, 2, none⟩ = some Nv
  s3 : wr.cell? ⟨w.heap.size + 2, 3, none⟩ = some Bb
  f2 : wr.frozen? ⟨w.heap.size + 2, 2, none⟩ = false
  f3 : wr.frozen? ⟨w.heap.size + 2, 3, none⟩ = false
  nums : Us wr (w.heap.size + 3) Nv (zerosTo l n kn)
  rows : wr.ownsRow (w.heap.size + 3) 69 4 Bb kb (bitCells l n p a kb)
  lv : ∀ i, i < kb → Bs wr (w.heap.size + 3) (p i) (pc l n i) ∧ Us wr (w.heap.size + 3) (a i) (dc l n i) ∧ Apart (p i) Nv ∧ Apart (a i) Nv ∧ Apart (p i) Bb ∧ Apart (a i) Bb
  nb : Apart Nv Bb
  below : Below (w.heap.size + 1) W3 wr
  gl : g < w.heap.size
theorem TreeAt.ls {w W3 wr : World} {g : Nat} {v Nv Bb : Value} {l : List UInt8} {n kn kb : Nat} {rest : List UInt8} {p a : Nat → Value} (h : TreeAt w W3 wr g v Nv Bb l n kn kb rest p a) : w.heap.size + 3 ≤ wr.heap.size := World.block_lt_of_cell? wr ⟨w.heap.size + 2, 0, none⟩ h.s0
/-- The reader has gone on. -/
theorem TreeAt.read {w W3 wr w' : World} {g : Nat} {v Nv Bb : Value} {l : List UInt8} {n kn kb : Nat} {rest rest' : List UInt8} {p a : Nat → Value} (h : TreeAt w W3 wr g v Nv Bb l n kn kb rest p a) (G : wr.grownBy w' (some (w.heap.size + 1))) (hr : ∃ u, Rdr w' (w.heap.size + 1) g u rest') : TreeAt w W3 w' g v Nv Bb l n kn kb rest' p a := by
  have hls := h.ls
  have hS : ∀ j, w'.cell? ⟨w.heap.size + 2, j, none⟩ = wr.cell? ⟨w.heap.size + 2, j, none⟩ := grown_cell G (by omega) (by intro e; injection e with e; omega)
  have hF : ∀ j, w'.frozen? ⟨w.heap.size + 2, j, none⟩ = wr.frozen? ⟨w.heap.size + 2, j, none⟩ := grown_frozen G (by omega) (by intro e; injection e with e; omega)
  have hne : ∀ (u : Value), (∀ k, u.ownBlock = some k → w.heap.size + 3 ≤ k) → u.ownBlock = none ∨ u.ownBlock ≠ some (w.heap.size + 1) := fun u hu => own_ne fun k hk e => by have := hu k hk; injection e with e; omega
  refine ⟨hr, (hS 0).trans h.s0, (hS 1).trans h.s1, (hS 2).trans h.s2, (hS 3).trans h.s3, (hF 2).trans h.f2, (hF 3).trans h.f3, World.ownsRow.kept h.nums G (hne _ fun k hk => (World.ownsRow.lt h.nums k hk).1), World.ownsRow.kept h.rows G (hne _ fun k hk => (World.ownsRow.lt h.rows k hk).1), ?_, h.nb, h.below.trans (below_grown G (by omega) (fun k hk => by injection hk with hk; omega)), h.gl⟩
  intro i hi
  obtain ⟨h1, h2, h3⟩ := h.lv i hi
  exact ⟨h1.kept G (hne _ fun k hk => (h1.lt hk).1), World.ownsRow.kept h2 G (hne _ fun k hk => (World.ownsRow.lt h2 k hk).1), h3⟩
/-- A number more. -/
theorem TreeAt.num {w W3 wr w1 : World} {g : Nat} {v Nv Nv' Bb : Value} {l : List UInt8} {n kn kb : Nat} {rest : List UInt8} {p a : Nat → Value} (h : TreeAt w W3 wr g v Nv Bb l n kn kb rest p a) (O : Us w1 (w.heap.size + 3) Nv' (zerosTo l n (kn + 1))) (G : wr.grownBy w1 Nv.ownBlock) (hat : At wr Nv Nv') : TreeAt w W3 (w1.setCell ⟨w.heap.size + 2, 2, none⟩ Nv') g v Nv' Bb l n (kn + 1) kb rest p a := by
  have hls := h.ls
  have hg := h.gl
  have nl := fun k hk => (World.ownsRow.lt h.nums k hk)
  have hne : ∀ b, b < w.heap.size + 3 → Nv.ownBlock ≠ some b := fun b hb e => by have := (nl b e).1; omega
  have hs1 := G.size
  have hS : ∀ j, w1.cell? ⟨w.heap.size + 2, j, none⟩ = wr.cell? ⟨w.heap.size + 2, j, none⟩ := grown_cell G (by omega) (hne _ (by omega))
  have hF : ∀ j, w1.frozen? ⟨w.heap.size + 2, j, none⟩ = wr.frozen? ⟨w.heap.size + 2, j, none⟩ := grown_frozen G (by omega) (hne _ (by omega))
  have G2 := grown_setCell w1 (w.heap.size + 2) 2 Nv'
  have oth : ∀ j, j ≠ 2 → (w1.setCell ⟨w.heap.size + 2, 2, none⟩ Nv').cell? ⟨w.heap.size + 2, j, none⟩ = w1.cell? ⟨w.heap.size + 2, j, none⟩ := fun j hj => World.cell?_setCell_other _ _ _ _ (fun e => hj (by injection e with _ e; exact e.symm))
  have hneS : ∀ (u : Value), (∀ k, u.ownBlock = some k → w.heap.size + 3 ≤ k) → u.ownBlock = none ∨ u.ownBlock ≠ some (w.heap.size + 2) := fun u hu => own_ne fun k hk e => by have := hu k hk; injection e with e; omega
  obtain ⟨u, hu⟩ := h.rdr
  have hrows1 := World.ownsRow.kept h.rows G h.nb.symm.kept
  refine ⟨⟨u, (hu.grown G (hne _ (by omega)) (hne _ (by omega)) (by omega)).grown G2 (by intro e; injection e with e; omega) (by intro e; injection e with e; omega) (by omega)⟩, ?_, ?_, ?_, ?_, ?_, ?_, ?_, ?_, ?_, ?_, ?_, hg⟩
  · rw [oth 0 (by decide), hS]; exact h.s0
  · rw [oth 1 (by decide), hS]; exact h.s1
  · exact World.cell?_setCell_same _ _ _ ((hS 2).trans h.s2)
  · rw [oth 3 (by decide), hS]; exact h.s3
  · rw [World.frozen?_setCell, hF]; exact h.f2
  · rw [World.frozen?_setCell, hF]; exact h.f3
  · exact World.ownsRow.kept O G2 (hneS _ fun k hk => (World.ownsRow.lt O k hk).1)
  · exact World.ownsRow.kept hrows1 G2 (hneS _ fun k hk => (World.ownsRow.lt h.rows k hk).1)
  · intro i hi
    obtain ⟨h1, h2, h3, h4, h5, h6⟩ := h.lv i hi
    exact ⟨(h1.kept G h3.kept).kept G2 (hneS _ fun k hk => (h1.lt hk).1), World.ownsRow.kept (World.ownsRow.kept h2 G h4.kept) G2 (hneS _ fun k hk => (World.ownsRow.lt h2 k hk).1), (h3.symm.step hat (fun k hk => (h1.lt hk).2)).symm, (h4.symm.step hat (fun k hk => (World.ownsRow.lt h2 k hk).2)).symm, h5, h6⟩
  · exact h.nb.step hat (fun k hk => (World.ownsRow.lt h.rows k hk).2)
  · exact (h.below.trans (below_grown G (by omega) (fun k hk => by have := (nl k hk).1; omega))).trans (below_grown G2 (by omega) (fun k hk => by injection hk with hk; omega))
/-- Bits more. -/
theorem TreeAt.bits {w W3 wr w0 w1 : World} {g : Nat} {v Nv Bb Bb' p0 a0 : Value} {l : List UInt8} {n kn kb : Nat} {rest : List UInt8} {p a : Nat → Value} (h : TreeAt w W3 w0 g v Nv Bb l n kn kb rest p a) (hlt : ∀ k, Nv.ownBlock = some k ∨ Bb.ownBlock = some k → k < wr.heap.size) (hwr : w.heap.size + 3 ≤ wr.heap.size) (hP : Bs w0 wr.heap.size p0 (pc l n kb)) (hA : Us w0 wr.heap.size a0 (dc l n kb)) (O : w1.ownsRow (w.heap.size + 3) 69 4 Bb' (kb + 1) (bitCells l n p a kb ++ [p0, a0, .int .i64 n, .int .u16 (oc l n kb : Nat)])) (G : w0.grownBy w1 Bb.ownBlock) (hat : At w0 Bb Bb') : TreeAt w W3 (w1.setCell ⟨w.heap.size + 2, 3, none⟩ Bb') g v Nv Bb' l n kn (kb + 1) rest (fun i => if i = kb then p0 else p i) (fun i => if i = kb then a0 else a i) := by
  have hls := h.ls
  have hg := h.gl
  have nl := fun k hk => (World.ownsRow.lt h.rows k hk)
  have hne : ∀ b, b < w.heap.size + 3 → Bb.ownBlock ≠ some b := fun b hb e => by have := (nl b e).1; omega
  have hs1 := G.size
  have hS : ∀ j, w1.cell? ⟨w.heap.size + 2, j, none⟩ = w0.cell? ⟨w.heap.size + 2, j, none⟩ := grown_cell G (by omega) (hne _ (by omega))
  have hF : ∀ j, w1.frozen? ⟨w.heap.size + 2, j, none⟩ = w0.frozen? ⟨w.heap.size + 2, j, none⟩ := grown_frozen G (by omega) (hne _ (by omega))
  have G2 := grown_setCell w1 (w.heap.size + 2) 3 Bb'
  have oth : ∀ j, j ≠ 3 → (w1.setCell ⟨w.heap.size + 2, 3, none⟩ Bb').cell? ⟨w.heap.size + 2, j, none⟩ = w1.cell? ⟨w.heap.size + 2, j, none⟩ := fun j hj => World.cell?_setCell_other _ _ _ _ (fun e => hj (by injection e with _ e; exact e.symm))
  have hneS : ∀ (u : Value), (∀ k, u.ownBlock = some k → w.heap.size + 3 ≤ k) → u.ownBlock = none ∨ u.ownBlock ≠ some (w.heap.size + 2) := fun u hu => own_ne fun k hk e => by have := hu k hk; injection e with e; omega
  obtain ⟨u, hu⟩ := h.rdr
  have hnum1 := World.ownsRow.kept h.nums G h.nb.kept
  have apN : ∀ u : Value, (∀ k, u.ownBlock = some k → wr.heap.size ≤ k) → Apart u Nv := fun u hu k e1 e2 => by have := hu k e1; have := hlt k (Or.inl e2); omega
  have apB : ∀ u : Value, (∀ k, u.ownBlock = some k → wr.heap.size ≤ k ∧ k < w0.heap.size) → Apart u Bb := fun u hu k e1 e2 => by have := hu k e1; have := hlt k (Or.inr e2); omega
  refine ⟨⟨u, (hu.grown G (hne _ (by omega)) (hne _ (by omega)) (by omega)).grown G2 (by intro e; injection e with e; omega) (by intro e; injection e with e; omega) (by omega)⟩, ?_, ?_, ?_, ?_, ?_, ?_, ?_, ?_, ?_, ?_, ?_, hg⟩
  · rw [oth 0 (by decide), hS]; exact h.s0
  · rw [oth 1 (by decide), hS]; exact h.s1
  · rw [oth 2 (by decide), hS]; exact h.s2
  · exact World.cell?_setCell_same _ _ _ ((hS 3).trans h.s3)
  · rw [World.frozen?_setCell, hF]; exact h.f2
  · rw [World.frozen?_setCell, hF]; exact h.f3
  · exact World.ownsRow.kept hnum1 G2 (hneS _ fun k hk => (World.ownsRow.lt h.nums k hk).1)
  · have := World.ownsRow.kept O G2 (hneS _ fun k hk => (World.ownsRow.lt O k hk).1)
    rw [bitCells_succ, bitCells_congr l n p a _ _ kb (fun i hi => by rw [if_neg (by omega), if_neg (by omega)]; exact ⟨rfl, rfl⟩), if_pos rfl, if_pos rfl]
    exact this
  · intro i hi
    by_cases e : i = kb
    · subst e
      rw [if_pos rfl, if_pos rfl]
      have hp := fun k hk => hP.lt (k := k) hk
      have ha := fun k hk => World.ownsRow.lt hA k hk
      have ap1 := apB p0 (fun k hk => hp k hk)
      have ap2 := apB a0 (fun k hk => ha k hk)
      exact ⟨((hP.kept G ap1.kept).kept G2 (hneS _ fun k hk => by have := hp k hk; omega)).mono hwr, (fun (this : Us _ wr.heap.size a0 (dc l n i)) => (⟨this.1, this.2.imp id fun ⟨g, cap, cur, a, b, c⟩ => ⟨g, cap, cur, a, by omega, c⟩⟩ : Us _ (w.heap.size + 3) a0 (dc l n i))) (World.ownsRow.kept (World.ownsRow.kept hA G ap2.kept) G2 (hneS _ fun k hk => by have := ha k hk; omega)), apN _ (fun k hk => (hp k hk).1), apN _ (fun k hk => (ha k hk).1), (ap1.symm.step hat (fun k hk => (hp k hk).2)).symm, (ap2.symm.step hat (fun k hk => (ha k hk).2)).symm⟩
    · rw [if_neg e, if_neg e]
      obtain ⟨h1, h2, h3, h4, h5, h6⟩ := h.lv i (by omega)
      exact ⟨(h1.kept G h5.kept).kept G2 (hneS _ fun k hk => (h1.lt hk).1), World.ownsRow.kept (World.ownsRow.kept h2 G h6.kept) G2 (hneS _ fun k hk => (World.ownsRow.lt h2 k hk).1), h3, h4, (h5.symm.step hat (fun k hk => (h1.lt hk).2)).symm, (h6.symm.step hat (fun k hk => (World.ownsRow.lt h2 k hk).2)).symm⟩
  · exact (h.nb.symm.step hat (fun k hk => (World.ownsRow.lt h.nums k hk).2)).symm
  · exact (h.below.trans (below_grown G (by omega) (fun k hk => by have := (nl k hk).1; omega))).trans (below_grown G2 (by omega) (fun k hk => by injection hk with hk; omega))
end Go.Proofs.YthlincikgdblfaaGreat
