import Derived.Test.YthlincikgdblfaaGreatZ12
import Derived.Test.YthlincikgdblfaaGreatZ41
import Derived.Test.YthlincikgdblfaaGreatRows
import Derived.WalkKit
import Derived.ProofKit
import Derived.OpenShut
import Derived.ShutString
import Derived.ChangeOld
import Derived.ChangeSlices
import Derived.SizedLaws
import Derived.Below
namespace Go.Proofs.YthlincikgdblfaaGreat
set_option linter.unusedVariables false
open Go.RowKit

theorem Ints.below {w w' : World} {v : Value} {zs : List Int} {B : Nat} (h : Ints w v zs) (H : Below B w w') (hb : ∀ a n c, v = .slice (some a) n c → a.block < B ∨ zs = []) : Ints w' v zs := by
  obtain ⟨h1, h2, a, c, h3, h4⟩ := h
  refine ⟨h1, h2, a, c, h3, ?_⟩
  rcases h4 with h4 | ⟨b, off, h5, h6⟩
  · exact Or.inl h4
  · refine Or.inr ⟨b, off, h5, fun i hi => ?_⟩
    have hlt : b < B := by
      subst h5
      rcases hb _ _ _ h3 with h | h
      · exact h
      · rw [h] at hi
        simp at hi
    rw [H.cell (p := ⟨b, off + i, none⟩) hlt]
    exact h6 i hi
theorem ints_nil (w : World) : Ints w (.slice none 0 0) [] := ⟨by simp, by simp, none, 0, rfl, Or.inl rfl⟩
theorem ints_of_is {w : World} {B : Nat} {v : Value} {l : List Nat} (h : Is w B v l) (hb : ∀ x ∈ l, x ≤ 1000) (hl : l.length ≤ 9223372036854775807) : Ints w v (l.map fun (n : Nat) => (n : Int)) := by
  refine ⟨?_, by simpa using hl, ?_⟩
  · intro z hz
    obtain ⟨x, hx, rfl⟩ := List.mem_map.1 hz
    have := hb x hx
    omega
  rcases h.form with ⟨rfl, rfl⟩ | ⟨g, cap, rfl, _, _, _⟩
  · exact ⟨none, 0, rfl, Or.inl rfl⟩
  · refine ⟨some ⟨g, 0, none⟩, cap, by simp, Or.inr ⟨g, 0, rfl, fun i hi => ?_⟩⟩
    have hi2 : i < l.length := by simpa using hi
    rw [Nat.zero_add, Is.cell h i hi2]
    simp
theorem is_low {w : World} {B : Nat} {v : Value} {l : List Nat} (h : Is w B v l) : ∀ a n c, v = .slice (some a) n c → a.block < w.heap.size := by
  intro a n c e
  rcases h.form with ⟨rfl, _⟩ | ⟨g, cap, rfl, _, h2, _⟩
  · cases e
  · cases e
    exact h2
theorem is_shape {w : World} {B : Nat} {v : Value} {l : List Nat} (h : Is w B v l) : ∃ a n c, v = .slice a n c := by
  rcases h.form with ⟨rfl, _⟩ | ⟨g, cap, rfl, _⟩
  · exact ⟨_, _, _, rfl⟩
  · exact ⟨_, _, _, rfl⟩
/-- A source, just made. -/
theorem src_new (w : World) (S : ByteArray) (v : Value) (sz : List Int) (h : Ints w v sz) (hlt : ∀ a n c, v = .slice (some a) n c → a.block < w.heap.size) : Src (w.alloc (.cells #[.string S, v, .int .i64 0] 37)) w.heap.size S v sz 0 := by
  refine ⟨?_, ?_, ?_, ?_, fun a n c e => by have := hlt a n c e; omega, h.kept (World.grownBy_alloc w _ none)⟩
  all_goals go_simp
theorem slow_bound (zs : List Int) : ∀ x ∈ slowOf zs, x ≤ 1000 := by
  intro x hx
  obtain ⟨z, _, rfl⟩ := List.mem_map.1 hx
  have := pick_lt z 70 (by decide)
  omega
theorem slow_pos (zs : List Int) : ∀ z ∈ (slowOf zs).map (fun (n : Nat) => (n : Int)), 1 ≤ z := by
  intro z hz
  obtain ⟨x, hx, rfl⟩ := List.mem_map.1 hz
  obtain ⟨y, _, rfl⟩ := List.mem_map.1 hx
  omega
/-- LOAD, of a file whose reads give something each. -/
theorem load_file (b : Nat) (S : ByteArray) (vs : Value) (sz : List Int) (t : List UInt8) (r : Nat) (w : World) (h : Src w b S vs sz 0) (hlow : ∀ a n c, vs = .slice (some a) n c → a.block < w.heap.size) (hf : Rot.IsFile S.data.toList t r) (hp : ∀ z ∈ sz, 1 ≤ z) :
    Calls Tryz.prog 15 #[.pointer (some ⟨b, 0, none⟩)] w fun e w' => ∃ p k, e = .returned (.tuple #[.pointer (some ⟨p, 0, none⟩), .int .i64 0]) ∧ Src w' b S vs sz k ∧ w.grownBy w' (some b) ∧ Idx w.heap.size w' p S.data.toList t r := by
  have hs : S.size ≤ 4000 := by
    have := hf.size.2.2
    have e : S.data.toList.length = S.size := by simp
    omega
  refine (load_is b S vs sz w h hs hlow).mono ?_
  rintro e w' ⟨k, h1, h2, (⟨h3, h4⟩ | ⟨h3, h4, h5⟩ | ⟨p, t', r', h3, h4, h5⟩)⟩
  · have := Rot.reads_pos hp h4
    cases this
  · exact absurd ⟨t, r, hf⟩ h5
  · obtain ⟨rfl, rfl⟩ := IsFile_same hf h5.1
    exact ⟨p, k, h3, h1, h2, h5⟩
/-- LOAD, of bytes whose reads give something each. -/
theorem load_bytes (b : Nat) (S : ByteArray) (vs : Value) (sz : List Int) (w : World) (h : Src w b S vs sz 0) (hs : S.size ≤ 4000) (hlow : ∀ a n c, vs = .slice (some a) n c → a.block < w.heap.size) (hp : ∀ z ∈ sz, 1 ≤ z) :
    Calls Tryz.prog 15 #[.pointer (some ⟨b, 0, none⟩)] w fun e w' => w.grownBy w' (some b) ∧ ((e = .returned (.tuple #[.pointer none, .int .i64 4]) ∧ ¬ ∃ t r, Rot.IsFile S.data.toList t r) ∨ (∃ p t r, e = .returned (.tuple #[.pointer (some ⟨p, 0, none⟩), .int .i64 0]) ∧ Idx w.heap.size w' p S.data.toList t r)) := by
  refine (load_is b S vs sz w h hs hlow).mono ?_
  rintro e w' ⟨k, h1, h2, (⟨h3, h4⟩ | ⟨h3, h4, h5⟩ | ⟨p, t', r', h3, h4, h5⟩)⟩
  · have := Rot.reads_pos hp h4
    cases this
  · exact ⟨h2, Or.inl ⟨h3, h5⟩⟩
  · exact ⟨h2, Or.inr ⟨p, t', r', h3, h5⟩⟩
/-- The file that was built is a file. -/
theorem built_file {s : ByteArray} {r : Nat} {rows : List Nat} (hs : s.size ≤ 250) (h : isRate (r : Int) = true) (hR : Rot.IsRows s.data.toList rows) : Rot.IsFile (⟨(Rot.fileOf s.data.toList rows r).toArray⟩ : ByteArray).data.toList s.data.toList r := ⟨by simpa using hs, h, rows, hR, by simp⟩
theorem len_idx (B p : Nat) (s t : List UInt8) (r : Nat) (w : World) (h : Idx B w p s t r) : Calls Tryz.prog 17 #[.pointer (some ⟨p, 0, none⟩)] w fun e w' => e = .returned (.int .i64 (t.length : Int)) ∧ w' = w := by
  obtain ⟨_, _, x, _, hx⟩ := h
  obtain ⟨c0, X⟩ := hx w (Stay.refl _ _)
  exact len_some p x t.length w c0 X.len
theorem rate_idx (B p : Nat) (s t : List UInt8) (r : Nat) (w : World) (h : Idx B w p s t r) : Calls Tryz.prog 18 #[.pointer (some ⟨p, 0, none⟩)] w fun e w' => e = .returned (.int .i64 (r : Int)) ∧ w' = w := by
  obtain ⟨_, _, x, _, hx⟩ := h
  obtain ⟨c0, X⟩ := hx w (Stay.refl _ _)
  exact rate_some p x r w c0 X.rate
theorem sb_piece (t : ByteArray) (a b : Nat) : Sb ((t.data.toList.drop a).take (b - a)) = t.extract a b := by
  apply ByteArray.ext
  rw [ByteArray.data_extract]
  apply Array.ext'
  simp [Sb]
theorem sb_whole (t : ByteArray) : Sb ((t.data.toList.drop 0).take (t.size - 0)) = t := by
  rw [sb_piece]
  simp
theorem Idx.grown {B : Nat} {w w' : World} {p : Nat} {s t : List UInt8} {r : Nat} (h : Idx B w p s t r) (G : w.grownBy w' none) : Idx B w' p s t r := h.stay (Stay.of G (fun _ e => by simp at e))
theorem below_on {B : Nat} {a w w' : World} (h : Below B a w) (G : w.grownBy w' none) (hB : B ≤ a.heap.size) : Below B a w' := h.grown G (Nat.le_trans hB h.size) (fun _ e => by simp at e)
end Go.Proofs.YthlincikgdblfaaGreat

namespace Go.Proofs.YthlincikgdblfaaGreat
open Go.ChangeShapes Go.WideShapes Go.ChangeAt Go.RowKit
set_option linter.unusedVariables false

theorem own0 : ownKnob Tryz.prog.godebug = none := by kernel_rfl
theorem laidOut0 : laidOutB Tryz.prog = true := by kernel_rfl
theorem cells_int : Tryz.prog.cellsOf 3 = 1 := by kernel_rfl
theorem bytes_int : Tryz.prog.bytesOf 3 = 8 := by kernel_rfl
/-- A list of numbers that came in. -/
theorem open_list {H : Type} {enc : TypeId × Value → H} {W : World} {v : Value} {d : DataW H} {ps : List MemPlace} {spare : Nat → Bool} {held : Bool} {a : Option Addr} {len cap : Nat} (hv : v = .slice a len cap) {fuel : Nat} (h : DataW.trod enc Tryz.prog W 0 spare held fuel 25 v.cells.toList = some (d, ps)) :
    ∃ zs : List Int, Ints W v zs ∧ (∀ a n c, v = .slice (some a) n c → a.block < W.heap.size ∨ zs = []) ∧ (zs = [] ∨ ∃ e s, d = .slice e s ∧ e.length = zs.length) := by
  subst hv
  rcases open_ints Tryz.underlying25 Tryz.underlying3 cells_int h with ⟨hcs, hx⟩ | ⟨ad, l, c, zs, hcs, _, hl, hm, hz, hx, hcell, hwz⟩
  · simp [Value.cells] at hcs
    obtain ⟨rfl, rfl, rfl⟩ := hcs
    exact ⟨[], ints_nil W, fun _ _ _ e => (by cases e), Or.inl rfl⟩
  simp [Value.cells] at hcs
  obtain ⟨rfl, rfl, rfl⟩ := hcs
  simp only [Prod.mk.injEq] at hx
  obtain ⟨rfl, rfl⟩ := hx
  have hlz : len ≤ zs.length := by rw [hz]; split <;> omega
  have htl : (zs.take len).length = len := by simp; omega
  by_cases h0 : len = 0
  · subst h0
    refine ⟨[], ⟨by simp, by simp, some ad, cap, by simp, Or.inl rfl⟩, fun _ _ _ _ => Or.inr rfl, Or.inl rfl⟩
  have hsp : ad.spot = none := by
    have := World.cell?_spot (hcell 0 (by omega))
    simpa [Addr.add] using this
  obtain ⟨b, off, spot⟩ := ad
  simp only [] at hsp
  subst hsp
  have hcell2 : ∀ i (hi : i < (zs.take len).length), W.cell? ⟨b, off + i, none⟩ = some (.int .i64 ((zs.take len)[i]'hi)) := by
    intro i hi
    have hi2 : i < zs.length := by omega
    have := hcell i hi2
    rw [show (⟨b, off, none⟩ : Addr).add i = ⟨b, off + i, none⟩ from add_plain b off i] at this
    rw [this]
    simp [List.getD, List.getElem?_eq_getElem hi2]
  refine ⟨zs.take len, ⟨?_, by unfold maxLen at hm; omega, some ⟨b, off, none⟩, cap, by rw [htl], Or.inr ⟨b, off, rfl, hcell2⟩⟩, ?_, Or.inr ⟨_, _, rfl, by simp [lits]⟩⟩
  · intro z hzm
    exact bounds_i64 (hwz z (List.mem_of_mem_take hzm))
  · intro a n c e
    cases e
    left
    exact World.block_lt_of_cell? W _ (hcell2 0 (by omega))
end Go.Proofs.YthlincikgdblfaaGreat
