import Derived.Test.YthlincikgdblfaaGreatB0
import Derived.Test.YthlincikgdblfaaGreatA16
import Derived.Test.YthlincikgdblfaaGreatA18
import Derived.Test.YthlincikgdblfaaGreatK1
namespace Go.Proofs.YthlincikgdblfaaGreat
open Go.RowKit
set_option linter.unusedVariables false

theorem rbuild_no (s : ByteArray) (r : Int) (w : World) (hs : s.size ≤ maxLen) (h : ¬ (s.size ≤ 250 ∧ isRate r = true)) :
    Calls Tryz.prog 38 #[.string s, .int .i64 r] w fun e w' => e = .returned (.tuple #[.string ⟨#[]⟩, .int .i64 1]) ∧ w' = w := by
  unfold maxLen at hs
  by_cases h1 : s.size ≤ 250
  · have h2 : isRate r = false := by
      cases hr : isRate r with
      | true => exact absurd ⟨h1, hr⟩ h
      | false => rfl
    go_enter Tryz.func38, Tryz.ntmps38
    go_wp2_with fail
    refine (rrate_any r _).mono ?_
    rw [h2]
    rintro e w1 ⟨rfl, hw⟩
    subst hw
    go_wp2_with fail
    all_goals go_ret2
    all_goals exact ⟨rfl, rfl⟩
  · have hd : decide (250 < (s.size : Int)) = true := by simp; omega
    go_enter Tryz.func38, Tryz.ntmps38
    go_wp2_with fail
    refine (rrate_any r _).mono ?_
    rintro e w1 ⟨rfl, hw⟩
    subst hw
    go_wp2_with fail
    all_goals go_ret2
    all_goals exact ⟨rfl, rfl⟩

theorem cells_new8 (w : World) (l : List Value) (ty : Nat) (j : Nat) (hj : j < l.length) : (w.alloc (.cells l.toArray ty)).cell? ⟨w.heap.size, j, none⟩ = some (l[j]'hj) := by
  have := cell_of_row (w.alloc (.cells l.toArray ty)) w.heap.size j _ _ _ (heap_alloc_new _ _)
  rw [this]
  simp [hj]
theorem num_any (e : Int) (w : World) (h0 : 0 ≤ e) (h1 : e ≤ 4) : Calls Tryz.prog 39 #[.int .i64 e] w fun en w' => en = .returned (.int .i64 e) ∧ w' = w := by
  go_enter Tryz.func39, Tryz.ntmps39
  go_wp2_with fail
  go_ret
  exact ⟨rfl, rfl⟩

theorem looks_any (g : Nat) (w : World) (hl : w.cell? ⟨g, 1, none⟩ = some (.slice none 0 0)) : Calls Tryz.prog 25 #[.pointer (some ⟨g, 0, none⟩)] w fun en w' => en = .returned (.bool true) ∧ w' = w := by
  go_enter Tryz.func25, Tryz.ntmps25
  go_wp2_with fail
  refine wp_loop_rounds 1 ?_
  rw [rounds_succ]
  go_wp2_with fail
  go_ret
  exact ⟨rfl, rfl⟩

set_option maxRecDepth 100000 in
set_option maxHeartbeats 1000000 in
theorem step_build (x s : ByteArray) (e a k b : Int) (lv : Value) (g : Nat) (he : 0 ≤ e) (he2 : e ≤ 4)
    (hB : ∀ w, Calls Tryz.prog 21 #[.string s, .int .i64 a] w fun en w' => en = .returned (.tuple #[.string x, .int .i64 e]) ∧ Below w.heap.size w w')
    (hR : ∀ w, Calls Tryz.prog 38 #[.string s, .int .i64 a] w fun en w' => en = .returned (.tuple #[.string x, .int .i64 e]) ∧ Below w.heap.size w w') (w : World) :
    Calls Tryz.prog 24 #[.pointer (some ⟨g, 0, none⟩), .agg #[.int .i64 1, .int .i64 k, .string s, .int .i64 a, .int .i64 b, lv]] w fun en w' => en = .returned (.bool true) ∧ Below w.heap.size w w' := by
  go_enter Tryz.func24, Tryz.ntmps24
  go_wp2_with fail
  refine (hB _).mono ?_
  rintro en w1 ⟨rfl, B1⟩
  have c2 : w1.cell? ⟨w.heap.size, 2, none⟩ = some (.string s) := (B1.cell (by simp)).trans (cells_new8 w _ _ 2 (by simp))
  have c3 : w1.cell? ⟨w.heap.size, 3, none⟩ = some (.int .i64 a) := (B1.cell (by simp)).trans (cells_new8 w _ _ 3 (by simp))
  have hz : w.heap.size ≤ w1.heap.size := by have := B1.size; simp at this; omega
  have HB1 : Hid (Below w.heap.size w w1) := ((Below.refl _ _).alloc (Nat.le_refl _) _).trans (B1.mono (by simp))
  clear B1
  go_wp2_with fail
  refine (hR _).mono ?_
  rintro en w2 ⟨rfl, B2⟩
  have HB2 : Hid (Below w.heap.size w w2) := (unhide HB1).trans (B2.mono hz)
  clear B2 HB1 c2 c3 hB hR
  go_wp2_with fail
  refine (num_any e _ he he2).mono ?_
  rintro en w3 ⟨rfl, hw⟩
  subst hw
  go_wp2_with fail
  refine (num_any e _ he he2).mono ?_
  rintro en w4 ⟨rfl, hw⟩
  subst hw
  go_wp2_with fail
  go_ret
  exact ⟨by simp, unhide HB2⟩

set_option maxRecDepth 100000 in
set_option maxHeartbeats 1000000 in
theorem step_idle (s : ByteArray) (kd a k b : Int) (lv : Value) (g : Nat) (hk : kd < 1) (w : World) (hi : w.cell? ⟨g, 0, none⟩ = some (.slice none 0 0)) :
    Calls Tryz.prog 24 #[.pointer (some ⟨g, 0, none⟩), .agg #[.int .i64 kd, .int .i64 k, .string s, .int .i64 a, .int .i64 b, lv]] w fun en w' => en = .returned (.bool true) ∧ Below w.heap.size w w' := by
  have hi2 : ∀ o, (w.alloc o).cell? ⟨g, 0, none⟩ = some (.slice none 0 0) := fun o => by
    rw [World.cell?_alloc_lt _ _ _ (World.block_lt_of_cell? w _ hi)]; exact hi
  have e1 : (kd == 1) = false := by simp; omega
  have e2 : (kd == 2) = false := by simp; omega
  have e3 : (kd == 3) = false := by simp; omega
  have e4 : (kd == 4) = false := by simp; omega
  go_enter Tryz.func24, Tryz.ntmps24
  go_wp2_with fail
  go_ret
  exact ⟨rfl, Below.alloc0 _⟩
end Go.Proofs.YthlincikgdblfaaGreat
