import Derived.Test.YthlincikgdblfaaGreatB9
import Derived.Test.YthlincikgdblfaaGreatRows
import Derived.Deep.Slices
import Derived.ProofKit
import Derived.OpenShut
import Derived.ShutString
import Derived.ChangeOld
import Derived.Below
namespace Go.Proofs.YthlincikgdblfaaGreat
open Go.RowKit
set_option linter.unusedVariables false

theorem builds_walk (hS : ∀ (s : ByteArray) (a : Int), s.size ≤ maxLen → Same s a) (a0 : Option Addr) (len cap : Nat) (w : World) (hA : IsScript w a0 len) :
    Calls Tryz.prog 3 #[.slice a0 len cap] w fun e w' => e = .returned (.bool true) ∧ Below w.heap.size w w' := by
  go_enter Tryz.func3, Tryz.ntmps3
  go_wp2_with fail
  refine (played_any hS a0 len cap w hA).mono ?_
  rintro e w1 ⟨rfl, B1⟩
  go_wp2_with fail
  go_ret
  exact ⟨rfl, B1⟩

open Go.ChangeShapes Go.WideShapes Go.ChangeAt Go.Deep
set_option maxRecDepth 100000 in
/-- A script that came in. -/
theorem open_script {H : Type} {enc : TypeId × Value → H} {w : World} {spare : Nat → Bool} {held : Bool} {fuel : Nat} {a0 : Option Addr} {len cap : Nat} {x : DataW H × List MemPlace}
    (h : DataW.trod enc Tryz.prog w 0 spare held fuel 22 [.slice a0 len cap] = some x) : IsScript w a0 len := by
  rcases open_slice Tryz.underlying22 h with ⟨h0, _⟩ | ⟨ad, l, c, m, n, D, Pl, hcs, hb, hl, hm, hmm, _, hx⟩
  · simp at h0
    exact Or.inl h0.2.1
  · simp at hcs
    obtain ⟨rfl, rfl, rfl⟩ := hcs
    by_cases h0 : len = 0
    · exact Or.inl h0
    have hlm : len ≤ m := by rw [hmm]; split <;> omega
    have c6 : Tryz.prog.cellsOf 58 = 6 := by kernel_rfl
    have each : ∀ i, i < len → ∃ kd x s a y lv, -9223372036854775808 ≤ kd ∧ kd ≤ 9223372036854775807 ∧ s.size ≤ maxLen ∧
        w.cell? (ad.add (i * 6)) = some (.int .i64 kd) ∧ w.cell? (ad.add (i * 6 + 1)) = some (.int .i64 x) ∧ w.cell? (ad.add (i * 6 + 2)) = some (.string s) ∧ w.cell? (ad.add (i * 6 + 3)) = some (.int .i64 a) ∧ w.cell? (ad.add (i * 6 + 4)) = some (.int .i64 y) ∧ w.cell? (ad.add (i * 6 + 5)) = some lv := by
      intro i hi
      obtain ⟨cs', h1, h2⟩ := hx i (by omega)
      rw [c6] at h1
      obtain ⟨_, hlen, hcell⟩ := World.cells?_some h1
      obtain ⟨xs, k, hk, hxy, _, hxl, hf⟩ := DataW.trod_struct Tryz.underlying58 h2
      have hxl6 : xs.length = 6 := hxl
      have hlen6 : cs'.length = 6 := hlen
      clear hxl hlen
      match xs, hxl6, cs', hlen6 with
      | [y0, y1, y2, y3, y4, y5], _, [v0, v1, v2, v3, v4, v5], _ =>
        have g0 := hf 0 _ rfl
        have g1 := hf 1 _ rfl
        have g2 := hf 2 _ rfl
        have g3 := hf 3 _ rfl
        have g4 := hf 4 _ rfl
        have ci : Tryz.prog.cellsOf 3 = 1 := by kernel_rfl
        have cst : Tryz.prog.cellsOf 9 = 1 := by kernel_rfl
        simp [ci, cst] at g0 g1 g2 g3 g4
        obtain ⟨n0, e0, _, f0⟩ := DataW.trod_int Tryz.underlying3 g0
        obtain ⟨n1, e1, _, f1⟩ := DataW.trod_int Tryz.underlying3 g1
        obtain ⟨s2, e2, _, f2⟩ := DataW.trod_string Tryz.underlying9 g2
        obtain ⟨n3, e3, _, f3⟩ := DataW.trod_int Tryz.underlying3 g3
        obtain ⟨n4, e4, _, f4⟩ := DataW.trod_int Tryz.underlying3 g4
        simp at e0 e1 e2 e3 e4
        subst e0 e1 e2 e3 e4
        have d0 := hcell 0 (by omega)
        have d1 := hcell 1 (by omega)
        have d2 := hcell 2 (by omega)
        have d3 := hcell 3 (by omega)
        have d4 := hcell 4 (by omega)
        have d5 := hcell 5 (by omega)
        rw [add_add] at d0 d1 d2 d3 d4 d5
        have b0 := bounds_i64 f0
        exact ⟨n0, n1, s2, n3, n4, v5, b0.1, b0.2, f2, by simpa using d0, by simpa using d1, by simpa using d2, by simpa using d3, by simpa using d4, by simpa using d5⟩
    obtain ⟨b, off, spot⟩ := ad
    have hspot : spot = none := by
      obtain ⟨kd, x, s, a, y, lv, _, _, _, q, _⟩ := each 0 (by omega)
      simpa [Addr.add] using World.cell?_spot q
    subst hspot
    refine Or.inr ⟨b, off, rfl, by unfold maxLen at hm ⊢; omega, ?_⟩
    intro i hi
    obtain ⟨kd, x, s, a, y, lv, k1, k2, hs, q0, q1, q2, q3, q4, q5⟩ := each i hi
    have ea : ∀ j, (⟨b, off, none⟩ : Addr).add j = ⟨b, off + j, none⟩ := fun j => add_plain b off j
    rw [ea] at q0 q1 q2 q3 q4 q5
    exact ⟨kd, x, s, a, y, lv, k1, k2, hs, q0, by simpa [Nat.add_assoc] using q1, by simpa [Nat.add_assoc] using q2, by simpa [Nat.add_assoc] using q3, by simpa [Nat.add_assoc] using q4, by simpa [Nat.add_assoc] using q5⟩
end Go.Proofs.YthlincikgdblfaaGreat
