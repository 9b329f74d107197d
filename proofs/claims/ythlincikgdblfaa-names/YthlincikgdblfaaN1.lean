import Derived.Test.YthlincikgdblfaaRows
import Derived.WalkKit
import Derived.ProofKit
import Derived.OpenShut
import Derived.Deep.QuietTactic
import Derived.BigQuiet
import Derived.WalkLawsBesides
import Derived.WalkSpells
namespace Go.Proofs.Ythlincikgdblfaa.names
open Go.ChangeShapes Go.WideShapes Go.ChangeAt Go.RowKit
set_option linter.unusedVariables false

/-- What a read leaves: the count of calls alone has turned, by one. -/
structure Rd (b : Nat) (calls : Int) (w w' : World) : Prop where
  cell : w'.cell? ⟨b, 2, none⟩ = some (.int .i64 (calls + 1))
  other : ∀ p : Addr, p ≠ ⟨b, 2, none⟩ → w'.cell? p = w.cell? p
  frozen : ∀ p, w'.frozen? p = w.frozen? p
  size : w'.heap.size = w.heap.size
  grown : ∀ W : World, W.heap.size ≤ b → Grown W w → Grown W w'

theorem Grown.drewN {W w' : World} (h : Grown W w') (k : Nat) : Grown W (w'.drewN k) := h

theorem Rd.mk' {b : Nat} {calls : Int} {w : World} (k l : Nat) (v : Value) (h : w.cell? ⟨b, 2, none⟩ = some v) : Rd b calls w (((w.drewN k).setCell ⟨b, 2, none⟩ (.int .i64 (calls + 1))).drewN l) := by
  have h' : (w.drewN k).cell? ⟨b, 2, none⟩ = some v := h
  refine ⟨?_, ?_, ?_, ?_, ?_⟩
  · exact World.cell?_setCell_same _ _ _ h'
  · intro p hp
    exact World.cell?_setCell_other (w.drewN k) _ _ _ (fun e => hp (Eq.symm e))
  · intro p; go_simp
  · go_simp
  · intro W hW hg
    exact Grown.drewN ((Grown.drewN hg k).setCell hW _) l

/-- How many bytes a read gives. -/
def got (s : ByteArray) (at' : Nat) (n z : Int) : Int := if (s.size : Int) - at' < (if n < z then n else z) then (s.size : Int) - at' else (if n < z then n else z)

set_option maxHeartbeats 400000 in
theorem read_in (b : Nat) (s : ByteArray) (ab ao : Nat) (len cap : Nat) (calls : Nat) (at' n : Nat) (z : Int) (m : Nat) (w : World)
    (h1 : w.cell? ⟨b, 0, none⟩ = some (.string s)) (h2 : w.cell? ⟨b, 1, none⟩ = some (.slice (some ⟨ab, ao, none⟩) len cap)) (h3 : w.cell? ⟨b, 2, none⟩ = some (.int .i64 calls))
    (h4 : w.cell? ⟨ab, ao + calls, none⟩ = some (.int .i64 z))
    (hf : w.frozen? ⟨b, 2, none⟩ = false) (hs : s.size ≤ 4611686018427387904)
    (c1 : (calls : Int) < len) (c2 : calls < 4611686018427387904) (a1 : at' ≤ s.size) (n1 : n ≤ 4611686018427387904) (z0 : 0 ≤ z) (z1 : z ≤ 9223372036854775807) 
    (hm : got s at' n z = m) :
    Calls Try.prog 11 #[.pointer (some ⟨b, 0, none⟩), .int .i64 at', .int .i64 n] w fun e w' => e = .returned (.tuple #[.string (s.extract at' (at' + m)), .bool true]) ∧ Rd b calls w w' := by
  have hb : at' + m ≤ s.size := by unfold got at hm; split at hm <;> (try split at hm) <;> omega
  have hsl : ∀ w, (Instr.slice 9 (.string s) (some (.int .i64 (at' : Int))) (some (.int .i64 ((at' : Int) + (if (s.size : Int) - at' < (if (n : Int) < z then (n : Int) else z) then (s.size : Int) - at' else (if (n : Int) < z then (n : Int) else z))))) none).run Try.prog w = .ok (.string (s.extract at' (at' + m))) w := by
    intro w
    have := run_slice_string (P := Try.prog) w 9 s .i64 .i64 (at' : Int) ((at' : Int) + (m : Int)) Try.underlying9 (by omega) (by omega) (by omega)
    unfold got at hm
    rw [hm]
    rw [this]
    congr 3
  clear hb
  have HM : Hid (got s at' n z = m) := hm
  clear hm
  have d1 : decide ((calls : Int) < (len : Int)) = true := by simp; omega
  have d2 : decide (z < 0) = false := by simp; omega
  have d4 : decide (s.size < at') = false := by simp; omega
  go_enter Try.func11, Try.ntmps11
  go_wp2
  go_quiet (fail)
  go_wp2
  go_quiet (fail)
  go_wp2
  go_quiet (fail)
  go_wp2
  all_goals (go_ret2; exact ⟨rfl, Rd.mk' _ _ _ h3⟩)
set_option maxHeartbeats 400000 in
theorem read_past (b : Nat) (s : ByteArray) (a : Option Addr) (len cap : Nat) (calls : Nat) (at' n : Nat) (m : Nat) (w : World)
    (h1 : w.cell? ⟨b, 0, none⟩ = some (.string s)) (h2 : w.cell? ⟨b, 1, none⟩ = some (.slice a len cap)) (h3 : w.cell? ⟨b, 2, none⟩ = some (.int .i64 calls))
    (hf : w.frozen? ⟨b, 2, none⟩ = false) (hs : s.size ≤ 4611686018427387904)
    (c1 : (len : Int) ≤ calls) (c2 : calls < 4611686018427387904) (a1 : at' ≤ s.size) (n1 : n ≤ 4611686018427387904) 
    (hm : got s at' n n = m) :
    Calls Try.prog 11 #[.pointer (some ⟨b, 0, none⟩), .int .i64 at', .int .i64 n] w fun e w' => e = .returned (.tuple #[.string (s.extract at' (at' + m)), .bool true]) ∧ Rd b calls w w' := by
  have hb : at' + m ≤ s.size := by unfold got at hm; split at hm <;> (try split at hm) <;> omega
  have hsl : ∀ w, (Instr.slice 9 (.string s) (some (.int .i64 (at' : Int))) (some (.int .i64 ((at' : Int) + (if (s.size : Int) - at' < (n : Int) then (s.size : Int) - at' else (n : Int))))) none).run Try.prog w = .ok (.string (s.extract at' (at' + m))) w := by
    intro w
    have := run_slice_string (P := Try.prog) w 9 s .i64 .i64 (at' : Int) ((at' : Int) + (m : Int)) Try.underlying9 (by omega) (by omega) (by omega)
    have hm2 : (if (s.size : Int) - at' < (n : Int) then (s.size : Int) - at' else (n : Int)) = m := by unfold got at hm; simpa using hm
    rw [hm2]
    rw [this]
    congr 3
  clear hb
  have HM : Hid (got s at' n n = m) := hm
  clear hm
  have d1 : decide ((calls : Int) < (len : Int)) = false := by simp; omega
  have d2 : decide ((n : Int) < 0) = false := by simp
  have d4 : decide (s.size < at') = false := by simp; omega
  go_enter Try.func11, Try.ntmps11
  go_wp2
  go_quiet (fail)
  go_wp2
  go_quiet (fail)
  go_wp2
  all_goals (go_ret2; exact ⟨rfl, Rd.mk' _ _ _ h3⟩)

set_option maxHeartbeats 400000 in
theorem read_fails (b : Nat) (s : ByteArray) (ab ao : Nat) (len cap : Nat) (calls : Nat) (at' n : Nat) (z : Int) (w : World)
    (h2 : w.cell? ⟨b, 1, none⟩ = some (.slice (some ⟨ab, ao, none⟩) len cap)) (h3 : w.cell? ⟨b, 2, none⟩ = some (.int .i64 calls))
    (h4 : w.cell? ⟨ab, ao + calls, none⟩ = some (.int .i64 z))
    (hf : w.frozen? ⟨b, 2, none⟩ = false)
    (c1 : (calls : Int) < len) (c2 : calls < 4611686018427387904) (z0 : z < 0) :
    Calls Try.prog 11 #[.pointer (some ⟨b, 0, none⟩), .int .i64 at', .int .i64 n] w fun e w' => e = .returned (.tuple #[.string ⟨#[]⟩, .bool false]) ∧ Rd b calls w w' := by
  have d1 : decide ((calls : Int) < (len : Int)) = true := by simp; omega
  have d2 : decide (z < 0) = true := by simp; omega
  go_enter Try.func11, Try.ntmps11
  go_wp2
  go_quiet (fail)
  go_wp2
  go_quiet (fail)
  go_wp2
  go_ret2
  exact ⟨rfl, Rd.mk' _ 0 _ h3⟩

set_option maxHeartbeats 400000 in
theorem read_out (b : Nat) (s : ByteArray) (a : Option Addr) (len cap : Nat) (calls : Nat) (at' n : Nat) (w : World)
    (h1 : w.cell? ⟨b, 0, none⟩ = some (.string s)) (h2 : w.cell? ⟨b, 1, none⟩ = some (.slice a len cap)) (h3 : w.cell? ⟨b, 2, none⟩ = some (.int .i64 calls))
    (hf : w.frozen? ⟨b, 2, none⟩ = false) (hs : s.size ≤ 4611686018427387904)
    (c1 : (len : Int) ≤ calls) (c2 : calls < 4611686018427387904) (a1 : s.size < at') (n1 : n ≤ 4611686018427387904) :
    Calls Try.prog 11 #[.pointer (some ⟨b, 0, none⟩), .int .i64 at', .int .i64 n] w fun e w' => e = .returned (.tuple #[.string ⟨#[]⟩, .bool false]) ∧ Rd b calls w w' := by
  have d1 : decide ((calls : Int) < (len : Int)) = false := by simp; omega
  have d2 : decide ((n : Int) < 0) = false := by simp
  have d4 : decide (s.size < at') = true := by simp; omega
  go_enter Try.func11, Try.ntmps11
  go_wp2
  go_quiet (fail)
  go_wp2
  go_ret2
  exact ⟨rfl, Rd.mk' _ 0 _ h3⟩
end Go.Proofs.Ythlincikgdblfaa.names
