import Derived.Test.YthlincikgdblfaaN1
namespace Go.Proofs.Ythlincikgdblfaa.names
open Go.ChangeShapes Go.WideShapes Go.ChangeAt Go.RowKit
set_option linter.unusedVariables false

/-- A source in memory: its bytes, its sizes (three of them), how many reads there were. -/
structure Src (W : World) (calls : Nat) (w : World) : Prop where
  c0 : w.cell? ⟨W.heap.size + 1, 0, none⟩ = some (.string ⟨#[48, 49, 50, 51, 52, 53, 54, 55, 56, 57]⟩)
  c1 : w.cell? ⟨W.heap.size + 1, 1, none⟩ = some (.slice (some ⟨W.heap.size, 0, none⟩) 3 3)
  c2 : w.cell? ⟨W.heap.size + 1, 2, none⟩ = some (.int .i64 calls)
  z0 : w.cell? ⟨W.heap.size, 0, none⟩ = some (.int .i64 3)
  z1 : w.cell? ⟨W.heap.size, 1, none⟩ = some (.int .i64 0)
  z2 : w.cell? ⟨W.heap.size, 2, none⟩ = some (.int .i64 (-1))
  fz : w.frozen? ⟨W.heap.size + 1, 2, none⟩ = false
  grown : Grown W w

theorem Src.next {W w w' : World} {calls : Nat} (h : Src W calls w) (r : Rd (W.heap.size + 1) calls w w') : Src W (calls + 1) w' := by
  refine ⟨?_, ?_, ?_, ?_, ?_, ?_, ?_, ?_⟩
  · rw [r.other _ (by simp)]; exact h.c0
  · rw [r.other _ (by simp)]; exact h.c1
  · rw [r.cell]; simp
  · rw [r.other _ (by simp)]; exact h.z0
  · rw [r.other _ (by simp)]; exact h.z1
  · rw [r.other _ (by simp)]; exact h.z2
  · rw [r.frozen]; exact h.fz
  · exact r.grown W (by omega) h.grown

theorem Src.start (W : World) : Src W 0 ((W.alloc (.cells #[.int .i64 3, .int .i64 0, .int .i64 (-1)] 3)).alloc (.cells #[.string ⟨#[48, 49, 50, 51, 52, 53, 54, 55, 56, 57]⟩, .slice (some ⟨W.heap.size, 0, none⟩) 3 3, .int .i64 0] 35)) := by
  refine ⟨?_, ?_, ?_, ?_, ?_, ?_, ?_, ?_⟩
  all_goals first | (go_simp; done) | exact Grown.alloc (Grown.alloc (Grown.refl _) _ _) _ _

theorem x1 : ByteArray.extract (⟨#[48, 49, 50, 51, 52, 53, 54, 55, 56, 57]⟩ : ByteArray) 0 (0 + 3) = ⟨#[48, 49, 50]⟩ := rfl
theorem x2 : ByteArray.extract (⟨#[48, 49, 50, 51, 52, 53, 54, 55, 56, 57]⟩ : ByteArray) 3 (3 + 0) = ⟨#[]⟩ := rfl
theorem x3 : ByteArray.extract (⟨#[48, 49, 50, 51, 52, 53, 54, 55, 56, 57]⟩ : ByteArray) 3 (3 + 5) = ⟨#[51, 52, 53, 54, 55]⟩ := rfl
theorem x4 : ByteArray.extract (⟨#[48, 49, 50, 51, 52, 53, 54, 55, 56, 57]⟩ : ByteArray) 8 (8 + 2) = ⟨#[56, 57]⟩ := rfl

set_option maxHeartbeats 1000000 in
theorem src (w : World) :
    Calls Try.prog 7 #[] w fun e w' => e = .returned (.bool true) ∧ Grown w w' := by
  have S0 := Src.start w
  go_enter Try.func7, Try.ntmps7
  go_wp2_with fail
  refine (read_in (w.heap.size + 1) _ w.heap.size 0 3 3 0 0 5 3 3 _ S0.c0 S0.c1 S0.c2 S0.z0 S0.fz (by decide) (by decide) (by decide) (by decide) (by decide) (by decide) (by decide) (by decide)).mono ?_
  rw [x1]
  rintro e w1 ⟨rfl, r1⟩
  have S1 := S0.next r1
  clear r1 S0
  go_wp2_with fail
  refine (read_in (w.heap.size + 1) _ w.heap.size 0 3 3 1 3 5 0 0 _ S1.c0 S1.c1 S1.c2 S1.z1 S1.fz (by decide) (by decide) (by decide) (by decide) (by decide) (by decide) (by decide) (by decide)).mono ?_
  rw [x2]
  rintro e w2 ⟨rfl, r2⟩
  have S2 := S1.next r2
  clear r2 S1
  go_wp2_with fail
  refine (read_fails (w.heap.size + 1) ⟨#[]⟩ w.heap.size 0 3 3 2 3 5 (-1) _ S2.c1 S2.c2 S2.z2 S2.fz (by decide) (by decide) (by decide)).mono ?_
  rintro e w3 ⟨rfl, r3⟩
  have S3 := S2.next r3
  clear r3 S2
  go_wp2_with fail
  refine (read_past (w.heap.size + 1) _ _ 3 3 3 3 5 5 _ S3.c0 S3.c1 S3.c2 S3.fz (by decide) (by decide) (by decide) (by decide) (by decide) (by decide)).mono ?_
  rw [x3]
  rintro e w4 ⟨rfl, r4⟩
  have S4 := S3.next r4
  clear r4 S3
  go_wp2_with fail
  refine (read_past (w.heap.size + 1) _ _ 3 3 4 8 5 2 _ S4.c0 S4.c1 S4.c2 S4.fz (by decide) (by decide) (by decide) (by decide) (by decide) (by decide)).mono ?_
  rw [x4]
  rintro e w5 ⟨rfl, r5⟩
  have S5 := S4.next r5
  clear r5 S4
  go_wp2_with fail
  refine (read_out (w.heap.size + 1) _ _ 3 3 5 11 1 _ S5.c0 S5.c1 S5.c2 S5.fz (by decide) (by decide) (by decide) (by decide) (by decide)).mono ?_
  rintro e w6 ⟨rfl, r6⟩
  have S6 := S5.next r6
  clear r6 S5
  have q0 := S6.c0
  have q2 := S6.c2
  have qg := S6.grown
  clear S6
  go_wp2
  all_goals (go_ret; exact ⟨rfl, qg⟩)
end Go.Proofs.Ythlincikgdblfaa.names
