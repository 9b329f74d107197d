import Derived.Test.YthlincikgdblfaaGreatA4
import Derived.Lib.AppendZeros
namespace Go.Proofs.YthlincikgdblfaaGreat
open Go.RowKit
set_option linter.unusedVariables false

set_option maxRecDepth 100000 in
set_option maxHeartbeats 1000000 in
theorem grow_any (n : Nat) (w : World) (hn : n < 100000) :
    Calls Tryz.prog 149 #[.slice none 0 0, .int .i64 n] w fun e w' => ∃ v', e = .returned v' ∧ Bs w' w.heap.size v' [] ∧ w.grownBy w' none := by
  obtain ⟨i0, hi, hz0, hz1, hz2⟩ := info_parts info8
  by_cases h0 : n = 0
  · subst h0
    go_enter Tryz.func149, Tryz.ntmps149
    go_wp2_with fail
    go_ret
    exact ⟨_, rfl, Bs.nil _ _, World.grownBy.refl _ _⟩
  · have hpos : 0 < n := by omega
    have hrun := fun ty => Lib.run_append_nil_zeros (P := Tryz.prog) w 45 3 ty 5 i0 (.int .u8 0) .i64 .i64 Tryz.underlying45 Tryz.underlying3 hi hz0 n hpos (by rw [hz1]; decide) (by omega) (by rw [hz2]; omega)
    have HR := hide hrun
    clear hrun
    go_enter Tryz.func149, Tryz.ntmps149
    go_wp2_with (at_builtin; refine Lib.wpList_append_run _ rfl (.tmp 20) (.tmp 21) _ _ rfl _ _ rfl rfl _ _ (unhide HR _) ?_)
    go_ret
    refine ⟨_, rfl, ?_, ?_⟩
    · have hge := grownCap_ge w n 0 5
      have hle := grownCap_le_maxLen w n 0 5 (by unfold maxLen; omega)
      refine ⟨rfl, .inr ⟨w.heap.size, grownCap w n 0 5, _, rfl, Nat.le_refl _, heap_alloc_new _ _, Nat.zero_le _, hle, ?_, by simp [by8]⟩⟩
      simp only [Array.size_append, size_zeroCells]
      show n * 1 + (_ - n) * 1 = _ * 1
      omega
    · exact ⟨rfl, rfl, rfl, by simp, fun k hk _ => Below.heap_alloc w.drew _ k hk⟩

set_option maxRecDepth 100000 in
set_option maxHeartbeats 1000000 in
theorem concat_any (B b : Nat) (z o : Value) (lz lo : List UInt8) (w : World) (hb : b < w.heap.size) (h0 : w.cell? ⟨b, 0, none⟩ = some z) (h1 : w.cell? ⟨b, 1, none⟩ = some o) (hz : Bs w B z lz) (ho : Bs w B o lo) (hl : lz.length < 1000) (hl2 : lo.length < 1000) :
    Calls Tryz.prog 127 #[.slice (some ⟨b, 0, none⟩) 2 2] w fun e w' => ∃ v', e = .returned v' ∧ Bs w' w.heap.size v' (lz ++ lo) ∧ w.grownBy w' none := by
  obtain ⟨az, cz, rfl⟩ := hz.shape
  obtain ⟨ao, co, rfl⟩ := ho.shape
  have HZ := hide hz
  have HO := hide ho
  have H0 := hide h0
  have H1 := hide h1
  clear hz ho
  go_enter Tryz.func127, Tryz.ntmps127
  go_wp2_with fail
  refine wp_loop_rounds 3 ?_
  rw [rounds_succ]
  go_wp2_with fail
  rw [rounds_succ]
  go_wp2_with fail
  rw [rounds_succ]
  go_wp2_with fail
  have hn : ((lz.length : Int) + (lo.length : Int)) = ((lz.length + lo.length : Nat) : Int) := by omega
  rw [hn]
  refine (grow_any (lz.length + lo.length) _ (by omega)).mono ?_
  rintro e w1 ⟨u1, rfl, A1, G1⟩
  clear hn h0 h1
  have q0 : w1.cell? ⟨b, 0, none⟩ = some (.slice az lz.length cz) := G1.cell (unhide H0) (by simp)
  have q1 : w1.cell? ⟨b, 1, none⟩ = some (.slice ao lo.length co) := G1.cell (unhide H1) (by simp)
  have Z1 := hide (Bs.kept0 (unhide HZ) G1)
  have hsz := G1.size
  go_wp2_with fail
  refine wp_loop_rounds 3 ?_
  rw [rounds_succ]
  go_wp2_with (at_builtin; refine wp_appBs _ rfl (.tmp 31) (.tmp 32) rfl w.heap.size _ [] rfl A1 _ B lz rfl (unhide Z1) ?c1 hsz ?_)
  case c1 => simp only [List.length_nil]; omega
  intro u2 w2 A2
  have G2 := A2.fresh G1 A1
  have B2 := A2.own
  try rw [List.nil_append] at B2
  have q1 : w2.cell? ⟨b, 1, none⟩ = some (.slice ao lo.length co) := G2.cell (unhide H1) (by simp)
  have O2 := hide (Bs.kept0 (unhide HO) G2)
  have hsz2 := G2.size
  clear A1 A2 G1 q0 Z1 hsz
  go_wp2_with fail
  rw [rounds_succ]
  go_wp2_with (at_builtin; refine wp_appBs _ rfl (.tmp 31) (.tmp 32) rfl w.heap.size _ lz rfl B2 _ B lo rfl (unhide O2) ?c1 hsz2 ?_)
  case c1 => omega
  intro u3 w3 A3
  have G3 := A3.fresh G2 B2
  have B3 := A3.own
  clear A3 G2 B2 O2 hsz2
  go_wp2_with fail
  rw [rounds_succ]
  go_wp2_with fail
  go_ret
  exact ⟨_, rfl, B3, G3⟩
end Go.Proofs.YthlincikgdblfaaGreat
