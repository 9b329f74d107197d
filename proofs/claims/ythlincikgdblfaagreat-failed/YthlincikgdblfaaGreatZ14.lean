import Derived.Test.YthlincikgdblfaaGreatZ13
import Derived.Defers
import Derived.Recover
import Derived.Laws.Pointers
import Derived.Test.YthlincikgdblfaaGreatZ02
import Derived.Test.YthlincikgdblfaaGreatZ12
namespace Go.Proofs.YthlincikgdblfaaGreat
open Go.RowKit
set_option linter.unusedVariables false

set_option maxRecDepth 100000 in
theorem why_gu (n : Int) (w : World) : Calls Tryz.prog 28 #[.iface 93 (.agg #[.int .i64 n])] w fun e w' => e = .returned (.int .i64 n) ∧ w' = w.alloc (.cells #[.int .i64 n] 93) := by
  have hta : ∀ T w, (Instr.typeAssert (.iface 93 (.agg #[.int .i64 n])) T 93 true).run Tryz.prog w = .ok (.tuple #[.agg #[.int .i64 n], .bool true]) w := fun T w => by
    simp [Instr.typeAssert, run_underlying Tryz.underlying93]
  go_enter Tryz.func28, Tryz.ntmps28
  go_wp2
  go_ret
  exact ⟨rfl, rfl⟩
theorem catch_idle (px pe : Addr) (w : World) :
    CallsD Tryz.prog 27 #[.pointer (some px), .pointer (some pe)] .returning w fun e u' w' => e = .returned (.tuple #[]) ∧ u' = .returning ∧ w' = w := by
  refine callsD_of_wpS Tryz.func27 rfl fun c₀ cs hu => ?_
  apply wpS_seq
  apply wpS_region
  simp [wpOpsS, go_sem, recoverD, hu, Tryz.ntmps27, Exit.thenS]
  refine wpS_of_wp ?_
  change Code.wp Tryz.prog _ _ { tmps := #[.pointer (some px), .pointer (some pe), .nilIface, .nilIface, undef, undef, undef, undef], defers := [] } w
  go_wp2_with fail
  cases c₀
  simp_all [bodyPostS, results, Tryz.results27]
theorem catch_panicking (px pe : Addr) (vx ve : Value) (n : Int) (w : World) (hx : w.cell? px = some vx) (he : w.cell? pe = some ve) (fx : w.frozen? px = false) (fe : w.frozen? pe = false) (hne : px ≠ pe) (lx : px.block < w.heap.size) (le : pe.block < w.heap.size) :
    CallsD Tryz.prog 27 #[.pointer (some px), .pointer (some pe)] (.panicking (gu n)) w fun e u' w' => e = .returned (.tuple #[]) ∧ u' = .panicking [{ v := .iface 93 (.agg #[.int .i64 n]), recovered := true }] ∧ w' = (((w.alloc (.cells #[.int .i64 n] 93)).setCell px (.pointer none)).setCell pe (.int .i64 n)) := by
  refine callsD_of_wpS Tryz.func27 rfl fun c₀ cs hu => ?_
  unfold gu at hu
  apply wpS_seq
  apply wpS_region
  simp [wpOpsS, go_sem, recoverD, hu, Tryz.ntmps27, Exit.thenS]
  refine wpS_of_wp ?_
  change Code.wp Tryz.prog _ _ { tmps := #[.pointer (some px), .pointer (some pe), .iface 93 (.agg #[.int .i64 n]), .iface 93 (.agg #[.int .i64 n]), undef, undef, undef, undef], defers := [] } w
  have G := World.grownBy_alloc w (.cells #[.int .i64 n] 93) none
  have hx1 : (w.alloc (.cells #[.int .i64 n] 93)).cell? px = some vx := G.cell hx (by simp)
  have he1 : (w.alloc (.cells #[.int .i64 n] 93)).cell? pe = some ve := G.cell he (by simp)
  have fx1 : (w.alloc (.cells #[.int .i64 n] 93)).frozen? px = false := (World.frozen?_of_block (a := px) (G.block _ lx (by simp))).trans fx
  have fe1 : (w.alloc (.cells #[.int .i64 n] 93)).frozen? pe = false := (World.frozen?_of_block (a := pe) (G.block _ le (by simp))).trans fe
  have hcw := why_gu n w
  generalize w.alloc (.cells #[.int .i64 n] 93) = w1 at hx1 he1 fx1 fe1 hcw ⊢
  clear G hx he fx fe
  go_wp2_with fail
  refine hcw.mono ?_
  rintro e w2 ⟨rfl, hw2⟩
  subst hw2
  clear hcw
  have he2 : (w2.setCell px (.pointer none)).cell? pe = some ve := (World.cell?_setCell_other _ _ _ _ hne).trans he1
  go_wp2_with fail
  cases c₀
  simp_all [bodyPostS, results, Tryz.results27]
end Go.Proofs.YthlincikgdblfaaGreat

namespace Go.Proofs.YthlincikgdblfaaGreat
open Go.RowKit
set_option linter.unusedVariables false

theorem load_nil (w : World) : Calls Tryz.prog 15 #[.pointer none] w fun e w' => e = .returned (.tuple #[.pointer none, .int .i64 1]) ∧ w.grownBy w' none := by
  have hmf : ∀ (fn : Fn) (first cap : Array Value) (w : World), (Instr.makeFunc fn first cap).run Tryz.prog w = .ok (.func fn first cap) w := fun _ _ _ _ => rfl
  go_enter_defers Tryz.func15, Tryz.ntmps15
  go_wp2
  refine ⟨_, ?_, rfl, ?_⟩
  · simp [results, Tryz.results15, go_sem]
  · exact grown_trans (World.grownBy_alloc w _ _) (World.grownBy_alloc _ _ _) (Or.inl rfl)
end Go.Proofs.YthlincikgdblfaaGreat

namespace Go.Proofs.YthlincikgdblfaaGreat
open Go.RowKit
set_option linter.unusedVariables false

/-- The first bytes of a piece, as cells. -/
theorem Vw.at0 {w : World} {g : Nat} {v : Value} {l : List UInt8} (h : Vw w g v l) : ∃ off cap, v = .slice (some ⟨g, off, none⟩) l.length cap ∧ l.length ≤ cap ∧ l.length ≤ 100000 ∧ ∀ j (b : UInt8), l[j]? = some b → w.cell? ⟨g, off + j, none⟩ = some (.int .u8 (b.toNat : Int)) := by
  obtain ⟨off, cap, h1, h2, h3, h4⟩ := h
  refine ⟨off, cap, h1, h2, h3, fun j b hb => ?_⟩
  obtain ⟨hj, rfl⟩ := List.getElem?_eq_some_iff.1 hb
  exact h4 j hj
theorem shl64 (a k : Nat) (ha : a < 256) (hk : k < 32) : (((a : Int) * 2 ^ k)) % 18446744073709551616 = ((a * 2 ^ k : Nat) : Int) := by
  have h1 : a * 2 ^ k < 256 * 2 ^ 32 := Nat.mul_lt_mul_of_lt_of_le' ha (Nat.pow_le_pow_right (by decide) (by omega)) (Nat.pos_of_ne_zero (by simp))
  have h2 : (((a : Int) * 2 ^ k)) = ((a * 2 ^ k : Nat) : Int) := by simp
  rw [h2]
  omega
theorem or_first (a : Nat) (ha : a < 256) : bits BinOp.or IntKind.u64 0 (a : Int) = (a : Int) := by
  have := u64_or_nat 0 a (by decide) (by omega)
  rw [Nat.zero_or] at this
  exact this
theorem or_next (x b k : Nat) (hx : x < 2 ^ k) (hb : b < 256) (hk : k ≤ 24) : bits BinOp.or IntKind.u64 (x : Int) ((b * 2 ^ k : Nat) : Int) = ((x + b * 2 ^ k : Nat) : Int) := by
  have h1 : b * 2 ^ k < 256 * 2 ^ 24 := Nat.lt_of_lt_of_le (Nat.mul_lt_mul_of_pos_right hb (Nat.two_pow_pos k)) (Nat.mul_le_mul_left 256 (Nat.pow_le_pow_right (by decide) hk))
  have h2 : x < 2 ^ 24 := Nat.lt_of_lt_of_le hx (Nat.pow_le_pow_right (by decide) hk)
  rw [u64_or_nat _ _ (by omega) (by omega), Nat.or_comm, nat_join k (b * 2 ^ k) x (Nat.mul_mod_left _ _) hx, Nat.add_comm]
set_option maxHeartbeats 1000000 in
theorem read8_any (g : Nat) (v : Value) (a : UInt8) (l : List UInt8) (w : World) (h : Vw w g v (a :: l)) :
    Calls Tryz.prog 111 #[v] w fun e w' => e = .returned (.int .u8 ((a.toNat : Nat) : Int)) ∧ w' = w := by
  obtain ⟨off, cap, rfl, h2, h3, hc⟩ := h.at0
  have c0 := hc 0 a rfl
  rw [Nat.add_zero] at c0
  have hn2 : 1 ≤ (a :: l).length := by simp
  generalize (a :: l).length = n at h2 h3 hn2
  clear h hc
  have ha : a.toNat < 256 := a.toNat_lt
  have o0 := or_first a.toNat ha
  go_enter Tryz.func111, Tryz.ntmps111
  go_wp2_with fail
  refine (width8 _).mono ?_
  rintro e w0 ⟨rfl, hw0⟩
  subst hw0
  go_wp2_with fail
  refine wp_loop_rounds 2 ?_
  rw [rounds_succ]
  go_wp2_with fail
  rw [rounds_succ]
  go_wp2_with fail
  go_ret
  exact ⟨ret_int (by omega), rfl⟩
set_option maxHeartbeats 1000000 in
theorem read16_any (g : Nat) (v : Value) (a b : UInt8) (l : List UInt8) (w : World) (h : Vw w g v (a :: b :: l)) :
    Calls Tryz.prog 110 #[v] w fun e w' => e = .returned (.int .u16 ((a.toNat + 256 * b.toNat : Nat) : Int)) ∧ w' = w := by
  obtain ⟨off, cap, rfl, h2, h3, hc⟩ := h.at0
  have c0 := hc 0 a rfl
  have c1 := hc 1 b rfl
  rw [Nat.add_zero] at c0
  have hn2 : 2 ≤ (a :: b :: l).length := by simp
  generalize (a :: b :: l).length = n at h2 h3 hn2
  clear h hc
  have ha : a.toNat < 256 := a.toNat_lt
  have hb : b.toNat < 256 := b.toNat_lt
  have o0 := or_first a.toNat ha
  obtain ⟨X1, hX1⟩ : ∃ X1 : Nat, X1 = a.toNat + b.toNat * 2 ^ 8 := ⟨_, rfl⟩
  have o1 : bits BinOp.or IntKind.u64 (a.toNat : Int) ((b.toNat : Int) * 256) = (X1 : Int) := by
    have := or_next a.toNat b.toNat 8 (by omega) hb (by omega)
    rw [← hX1] at this
    rw [← this]
    congr 1
  have HX1 := hide hX1
  have hX1b : X1 < 65536 := by omega
  clear hX1
  go_enter Tryz.func110, Tryz.ntmps110
  go_wp2_with fail
  refine (width16 _).mono ?_
  rintro e w0 ⟨rfl, hw0⟩
  subst hw0
  go_wp2_with fail
  refine wp_loop_rounds 3 ?_
  rw [rounds_succ]
  go_wp2_with fail
  rw [rounds_succ]
  go_wp2_with fail
  rw [rounds_succ]
  go_wp2_with fail
  go_ret
  have := unhide HX1
  exact ⟨ret_int (by omega), rfl⟩
set_option maxHeartbeats 1000000 in
theorem read32_any (g : Nat) (v : Value) (a b c d : UInt8) (l : List UInt8) (w : World) (h : Vw w g v (a :: b :: c :: d :: l)) :
    Calls Tryz.prog 113 #[v] w fun e w' => e = .returned (.int .u32 ((a.toNat + 256 * b.toNat + 65536 * c.toNat + 16777216 * d.toNat : Nat) : Int)) ∧ w' = w := by
  obtain ⟨off, cap, rfl, h2, h3, hc⟩ := h.at0
  have c0 := hc 0 a rfl
  have c1 := hc 1 b rfl
  have c2 := hc 2 c rfl
  have c3 := hc 3 d rfl
  rw [Nat.add_zero] at c0
  have hn2 : 4 ≤ (a :: b :: c :: d :: l).length := by simp
  generalize (a :: b :: c :: d :: l).length = n at h2 h3 hn2
  clear h hc
  have ha : a.toNat < 256 := a.toNat_lt
  have hb : b.toNat < 256 := b.toNat_lt
  have hcc : c.toNat < 256 := c.toNat_lt
  have hd : d.toNat < 256 := d.toNat_lt
  have o0 := or_first a.toNat ha
  obtain ⟨X1, hX1⟩ : ∃ X1 : Nat, X1 = a.toNat + b.toNat * 2 ^ 8 := ⟨_, rfl⟩
  obtain ⟨X2, hX2⟩ : ∃ X2 : Nat, X2 = X1 + c.toNat * 2 ^ 16 := ⟨_, rfl⟩
  obtain ⟨X3, hX3⟩ : ∃ X3 : Nat, X3 = X2 + d.toNat * 2 ^ 24 := ⟨_, rfl⟩
  have o1 : bits BinOp.or IntKind.u64 (a.toNat : Int) ((b.toNat : Int) * 256) = (X1 : Int) := by
    have := or_next a.toNat b.toNat 8 (by omega) hb (by omega)
    rw [← hX1] at this
    rw [← this]
    congr 1
  have o2 : bits BinOp.or IntKind.u64 (X1 : Int) ((c.toNat : Int) * 65536) = (X2 : Int) := by
    have := or_next X1 c.toNat 16 (by omega) hcc (by omega)
    rw [← hX2] at this
    rw [← this]
    congr 1
  have o3 : bits BinOp.or IntKind.u64 (X2 : Int) ((d.toNat : Int) * 16777216) = (X3 : Int) := by
    have := or_next X2 d.toNat 24 (by omega) hd (by omega)
    rw [← hX3] at this
    rw [← this]
    congr 1
  have hX3b : X3 < 4294967296 := by omega
  have HX : Hid (X3 = a.toNat + 256 * b.toNat + 65536 * c.toNat + 16777216 * d.toNat) := hide (by omega)
  clear hX1 hX2 hX3
  go_enter Tryz.func113, Tryz.ntmps113
  go_wp2_with fail
  refine (width32 _).mono ?_
  rintro e w0 ⟨rfl, hw0⟩
  subst hw0
  go_wp2_with fail
  refine wp_loop_rounds 5 ?_
  rw [rounds_succ]
  go_wp2_with fail
  rw [rounds_succ]
  go_wp2_with fail
  rw [rounds_succ]
  go_wp2_with fail
  rw [rounds_succ]
  go_wp2_with fail
  rw [rounds_succ]
  go_wp2_with fail
  go_ret
  have := unhide HX
  exact ⟨ret_int (by omega), rfl⟩
end Go.Proofs.YthlincikgdblfaaGreat
