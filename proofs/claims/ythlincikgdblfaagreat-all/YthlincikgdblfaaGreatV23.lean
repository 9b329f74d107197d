import Derived.Test.YthlincikgdblfaaGreatV22
import Derived.Deep.RegionHeld
import Derived.Laws.Tables
import Derived.Laws.Cover3
namespace Go.Proofs.YthlincikgdblfaaGreat
open Go.RowKit
set_option linter.unusedVariables false
set_option linter.unusedSimpArgs false

/-- Cells that are laid over others. -/
theorem fold_put_list (off : Nat) : ∀ (v : List Value) (k : Nat) (cs : Array Value), off + k + v.length ≤ cs.size → ((v.zipIdx k).foldl (fun cs (x : Value × Nat) => cs.setIfInBounds (off + x.2) x.1) cs).size = cs.size ∧ ∀ i, ((v.zipIdx k).foldl (fun cs (x : Value × Nat) => cs.setIfInBounds (off + x.2) x.1) cs)[i]? = if off + k ≤ i ∧ i < off + k + v.length then v[i - (off + k)]? else cs[i]?
  | [], k, cs, _ => by
    refine ⟨rfl, fun i => ?_⟩
    rw [if_neg (by rintro ⟨h1, h2⟩; simp at h2; omega)]
    rfl
  | x :: v, k, cs, h => by
    simp only [List.length_cons] at h
    have ih := fold_put_list off v (k + 1) (cs.setIfInBounds (off + k) x) (by simp; omega)
    simp only [List.zipIdx_cons, List.foldl_cons]
    refine ⟨by rw [ih.1]; simp, fun i => ?_⟩
    rw [ih.2 i]
    by_cases h1 : off + (k + 1) ≤ i ∧ i < off + (k + 1) + v.length
    · rw [if_pos h1, if_pos (by simp only [List.length_cons]; omega), show i - (off + k) = (i - (off + (k + 1))) + 1 by omega, List.getElem?_cons_succ]
    · rw [if_neg h1]
      by_cases h2 : i = off + k
      · subst h2
        rw [if_pos (by simp only [List.length_cons]; omega), show off + k - (off + k) = 0 by omega]
        rw [Array.getElem?_setIfInBounds_self_of_lt (by omega)]
        rfl
      · rw [if_neg (by simp only [List.length_cons]; omega), Array.getElem?_setIfInBounds_ne (by omega)]
theorem zero_rows : Tryz.zeroCells76.size = 304 := by kernel_rfl
/-- What f.rows is made from. -/
structure FIn (w : World) (fb : Nat) (C : Nat → Value) (n r last : Nat) (Z F Q : List Nat) (N0 N1 N2 N4 : Value) (Bt ct Bm : Nat) (p a : Nat → Value) (P : Nat → List UInt8) (D : Nat → List Nat) (pm am : Value) (M : List UInt8) (Dm : List Nat) : Prop where
  file : Fc w fb C
  k0 : C 0 = .int .i64 n
  k1 : C 1 = .int .i64 r
  k14 : C 14 = N0
  k18 : C 18 = N1
  k19 : C 19 = .slice (some ⟨Bt, 0, none⟩) 8 ct
  k22 : C 22 = N2
  k27 : C 27 = .slice (some ⟨Bm, 0, none⟩) 1 1
  k30 : C 30 = N4
  u0 : Us w 0 N0 [last]
  u1 : Us w 0 N1 Z
  u2 : Us w 0 N2 F
  u4 : Us w 0 N4 Q
  lz : Z.length = 8
  lf : F.length = 256
  bz : ∀ z ∈ Z, z < 65536
  bl : last < 65536
  bits : ∀ i, i < 8 → Bv w Bt (i * 4) (p i) (a i) (P i) (D i) n (Rot.os (P i) n)
  marks : Bv w Bm 0 pm am M Dm (n + 1) (Rot.os M (n + 1))
theorem frozen_alloc2 (w : World) (c : Array Value) (t : TypeId) (j : Nat) : (w.alloc (.cells c t)).frozen? ⟨w.heap.size, j, none⟩ = false := by go_simp
theorem cell_alloc2 (w : World) (c : Array Value) (t : TypeId) (j : Nat) : (w.alloc (.cells c t)).cell? ⟨w.heap.size, j, none⟩ = c[j]? := by go_simp
/-- What f.rows leaves: the cells of the rows. -/
structure XOut (w w' : World) (x n r last : Nat) (Z F : List Nat) (N4 : Value) (p a : Nat → Value) (P : Nat → List UInt8) (pm am : Value) (M : List UInt8) (k : Nat) : Prop where
  len : w'.cell? ⟨x, 0, none⟩ = some (.int .i64 (n : Int))
  rate : w'.cell? ⟨x, 1, none⟩ = some (.int .i64 (r : Int))
  last : w'.cell? ⟨x, 2, none⟩ = some (.int .i64 (last : Int))
  tree : ∀ i, i < k → w'.cell? ⟨x, 3 + i * 5, none⟩ = some (.int .i64 ((Z[i]?).getD 0 : Nat)) ∧ w'.cell? ⟨x, 3 + i * 5 + 1, none⟩ = some (p i) ∧ w'.cell? ⟨x, 3 + i * 5 + 2, none⟩ = some (a i) ∧ w'.cell? ⟨x, 3 + i * 5 + 3, none⟩ = some (.int .i64 (n : Int)) ∧ w'.cell? ⟨x, 3 + i * 5 + 4, none⟩ = some (.int .u16 (Rot.os (P i) n : Nat))
  first : ∀ c, c < 256 → w'.cell? ⟨x, 43 + c, none⟩ = some (.int .u16 ((F[c]?).getD 0 : Nat))
  m0 : w'.cell? ⟨x, 299, none⟩ = some pm
  m1 : w'.cell? ⟨x, 300, none⟩ = some am
  m2 : w'.cell? ⟨x, 301, none⟩ = some (.int .i64 ((n + 1 : Nat) : Int))
  m3 : w'.cell? ⟨x, 302, none⟩ = some (.int .u16 (Rot.os M (n + 1) : Nat))
  places : w'.cell? ⟨x, 303, none⟩ = some N4
  some : ∀ j, j < 304 → (w'.cell? ⟨x, j, none⟩).isSome = true
  free : ∀ j, w'.frozen? ⟨x, j, none⟩ = false
  grown : w.grownBy w' none
def set5 (w : World) (x o : Nat) (a b c d e : Value) : World := ((((w.setCell ⟨x, o, none⟩ a).setCell ⟨x, o + 1, none⟩ b).setCell ⟨x, o + 2, none⟩ c).setCell ⟨x, o + 3, none⟩ d).setCell ⟨x, o + 4, none⟩ e
theorem set5_far (w : World) (x o : Nat) (a b c d e : Value) (j : Nat) (h : j < o ∨ o + 4 < j) : (set5 w x o a b c d e).cell? ⟨x, j, none⟩ = w.cell? ⟨x, j, none⟩ := by
  have ne : ∀ i, i ≠ j → (⟨x, i, none⟩ : Addr) ≠ ⟨x, j, none⟩ := fun i hi e => hi (by injection e)
  unfold set5
  rw [World.cell?_setCell_other _ _ _ _ (ne _ (by omega)), World.cell?_setCell_other _ _ _ _ (ne _ (by omega)), World.cell?_setCell_other _ _ _ _ (ne _ (by omega)), World.cell?_setCell_other _ _ _ _ (ne _ (by omega)), World.cell?_setCell_other _ _ _ _ (ne _ (by omega))]
theorem set5_in (w : World) (x o : Nat) (a b c d e : Value) (h : ∀ j, j < 5 → (w.cell? ⟨x, o + j, none⟩).isSome = true) : (set5 w x o a b c d e).cell? ⟨x, o, none⟩ = some a ∧ (set5 w x o a b c d e).cell? ⟨x, o + 1, none⟩ = some b ∧ (set5 w x o a b c d e).cell? ⟨x, o + 2, none⟩ = some c ∧ (set5 w x o a b c d e).cell? ⟨x, o + 3, none⟩ = some d ∧ (set5 w x o a b c d e).cell? ⟨x, o + 4, none⟩ = some e := by
  have ne : ∀ i j, i ≠ j → (⟨x, i, none⟩ : Addr) ≠ ⟨x, j, none⟩ := fun i j hi e => hi (by injection e)
  obtain ⟨v0, h0⟩ := Option.isSome_iff_exists.1 (h 0 (by decide))
  obtain ⟨v1, h1⟩ := Option.isSome_iff_exists.1 (h 1 (by decide))
  obtain ⟨v2, h2⟩ := Option.isSome_iff_exists.1 (h 2 (by decide))
  obtain ⟨v3, h3⟩ := Option.isSome_iff_exists.1 (h 3 (by decide))
  obtain ⟨v4, h4⟩ := Option.isSome_iff_exists.1 (h 4 (by decide))
  rw [Nat.add_zero] at h0
  unfold set5
  refine ⟨?_, ?_, ?_, ?_, ?_⟩
  · rw [World.cell?_setCell_other _ _ _ _ (ne _ _ (by omega)), World.cell?_setCell_other _ _ _ _ (ne _ _ (by omega)), World.cell?_setCell_other _ _ _ _ (ne _ _ (by omega)), World.cell?_setCell_other _ _ _ _ (ne _ _ (by omega))]
    exact World.cell?_setCell_same _ _ _ h0
  · rw [World.cell?_setCell_other _ _ _ _ (ne _ _ (by omega)), World.cell?_setCell_other _ _ _ _ (ne _ _ (by omega)), World.cell?_setCell_other _ _ _ _ (ne _ _ (by omega))]
    exact World.cell?_setCell_same _ _ _ ((World.cell?_setCell_other _ _ _ _ (ne _ _ (by omega))).trans h1)
  · rw [World.cell?_setCell_other _ _ _ _ (ne _ _ (by omega)), World.cell?_setCell_other _ _ _ _ (ne _ _ (by omega))]
    exact World.cell?_setCell_same _ _ _ ((World.cell?_setCell_other _ _ _ _ (ne _ _ (by omega))).trans ((World.cell?_setCell_other _ _ _ _ (ne _ _ (by omega))).trans h2))
  · rw [World.cell?_setCell_other _ _ _ _ (ne _ _ (by omega))]
    exact World.cell?_setCell_same _ _ _ ((World.cell?_setCell_other _ _ _ _ (ne _ _ (by omega))).trans ((World.cell?_setCell_other _ _ _ _ (ne _ _ (by omega))).trans ((World.cell?_setCell_other _ _ _ _ (ne _ _ (by omega))).trans h3)))
  · exact World.cell?_setCell_same _ _ _ ((World.cell?_setCell_other _ _ _ _ (ne _ _ (by omega))).trans ((World.cell?_setCell_other _ _ _ _ (ne _ _ (by omega))).trans ((World.cell?_setCell_other _ _ _ _ (ne _ _ (by omega))).trans ((World.cell?_setCell_other _ _ _ _ (ne _ _ (by omega))).trans h4))))
theorem set5_grown (w : World) (x o : Nat) (a b c d e : Value) : w.grownBy (set5 w x o a b c d e) (some x) :=
  grown_trans (grown_trans (grown_trans (grown_trans (grown_setCell _ _ _ _) (grown_setCell _ _ _ _) (Or.inl rfl)) (grown_setCell _ _ _ _) (Or.inl rfl)) (grown_setCell _ _ _ _) (Or.inl rfl)) (grown_setCell _ _ _ _) (Or.inl rfl)
theorem set5_frozen (w : World) (x o : Nat) (a b c d e : Value) (q : Addr) : (set5 w x o a b c d e).frozen? q = w.frozen? q := by
  unfold set5
  rw [World.frozen?_setCell, World.frozen?_setCell, World.frozen?_setCell, World.frozen?_setCell, World.frozen?_setCell]
/-- A level more. -/
theorem XOut.step {w wr : World} {x n r last : Nat} {Z F : List Nat} {N4 : Value} {p a : Nat → Value} {P : Nat → List UInt8} {pm am : Value} {M : List UInt8} {k : Nat} (h : XOut w wr x n r last Z F N4 p a P pm am M k) (hk : k < 8) (hx : w.heap.size ≤ x) : XOut w (set5 wr x (3 + k * 5) (.int .i64 ((Z[k]?).getD 0 : Nat)) (p k) (a k) (.int .i64 (n : Int)) (.int .u16 (Rot.os (P k) n : Nat))) x n r last Z F N4 p a P pm am M (k + 1) := by
  have far := set5_far wr x (3 + k * 5) (.int .i64 ((Z[k]?).getD 0 : Nat)) (p k) (a k) (.int .i64 (n : Int)) (.int .u16 (Rot.os (P k) n : Nat))
  obtain ⟨i0, i1, i2, i3, i4⟩ := set5_in wr x (3 + k * 5) (.int .i64 ((Z[k]?).getD 0 : Nat)) (p k) (a k) (.int .i64 (n : Int)) (.int .u16 (Rot.os (P k) n : Nat)) (fun j hj => h.some _ (by omega))
  refine ⟨(far 0 (by omega)).trans h.len, (far 1 (by omega)).trans h.rate, (far 2 (by omega)).trans h.last, ?_, fun c hc => (far _ (by omega)).trans (h.first c hc), (far _ (by omega)).trans h.m0, (far _ (by omega)).trans h.m1, (far _ (by omega)).trans h.m2, (far _ (by omega)).trans h.m3, (far _ (by omega)).trans h.places, ?_, fun j => (set5_frozen _ _ _ _ _ _ _ _ _).trans (h.free j), grown_trans h.grown (set5_grown _ _ _ _ _ _ _ _) (Or.inr ⟨x, rfl, hx⟩)⟩
  · intro i hi
    by_cases e : i = k
    · subst e
      exact ⟨i0, i1, i2, i3, i4⟩
    · obtain ⟨t0, t1, t2, t3, t4⟩ := h.tree i (by omega)
      exact ⟨(far _ (by omega)).trans t0, (far _ (by omega)).trans t1, (far _ (by omega)).trans t2, (far _ (by omega)).trans t3, (far _ (by omega)).trans t4⟩
  · intro j hj
    by_cases e : j < 3 + k * 5 ∨ 3 + k * 5 + 4 < j
    · rw [far j e]
      exact h.some j hj
    · obtain ⟨d, hd, rfl⟩ : ∃ d, d < 5 ∧ j = 3 + k * 5 + d := ⟨j - (3 + k * 5), by omega, by omega⟩
      match d, hd with
      | 0, _ => rw [Nat.add_zero, i0]; rfl
      | 1, _ => rw [i1]; rfl
      | 2, _ => rw [i2]; rfl
      | 3, _ => rw [i3]; rfl
      | 4, _ => rw [i4]; rfl
theorem XOut.drew {w wr : World} {x n r last : Nat} {Z F : List Nat} {N4 : Value} {p a : Nat → Value} {P : Nat → List UInt8} {pm am : Value} {M : List UInt8} {k : Nat} (h : XOut w wr x n r last Z F N4 p a P pm am M k) : XOut w wr.drew x n r last Z F N4 p a P pm am M k :=
  ⟨h.len, h.rate, h.last, h.tree, h.first, h.m0, h.m1, h.m2, h.m3, h.places, h.some, h.free, ⟨h.grown.os, h.grown.tape, h.grown.output, h.grown.size, h.grown.block⟩⟩
end Go.Proofs.YthlincikgdblfaaGreat
