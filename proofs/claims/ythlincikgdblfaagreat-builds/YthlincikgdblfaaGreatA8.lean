import Derived.Test.YthlincikgdblfaaGreatA3
import Derived.Test.YthlincikgdblfaaGreatA5
import Derived.Test.YthlincikgdblfaaGreatA7b
import Derived.Deep.RegionLaw
namespace Go.Proofs.YthlincikgdblfaaGreat
open Go.RowKit
set_option linter.unusedVariables false

/-- APPEND OF BYTES, as one step of a region that draws. -/
theorem step_appBs {ops : Array Oper} {o : Oper} {a : Act} {w : World} {K : Act → World → Prop} {Q : Exit → Act → World → Prop} {E : Prop}
    (hg : o.guard = none) (s x : Operand) (hop : o.op = Op.call { callee := Callee.builtin Builtin.append, args := #[s, x], argTypes := #[45, 45] })
    (B : Nat) (v : Value) (l : List UInt8) (hs : a.eval s = v) {W : World} (hw : w = W) (hown : Bs W B v l) (v2 : Value) (B2 : Nat) (m : List UInt8) (hx : a.eval x = v2) (hm : Bs W B2 v2 m)
    (hl : l.length + m.length < 1000000) (hB : B ≤ W.heap.size)
    (hK : ∀ v' w', Apx W w' B v v' (l ++ m) → K (a.put o.dst v') w') :
    if Region.wanted o (yielded ops a.tmps) = true then Oper.wp Tryz.prog o a w K Q else E := by
  have hwt : Region.wanted o (yielded ops a.tmps) = true := by simp [Region.wanted, hg]
  rw [if_pos hwt]
  subst hw
  obtain ⟨i0, hi, hz0, hz1, hz2⟩ := info_parts info8
  have hml : (by8 m).length = m.length * 1 := by rw [by8_length]; omega
  rcases hm.form with ⟨rfl, rfl⟩ | ⟨g, cap, rfl, hg1, hg2, hg3⟩
  · have hrun := run_append_owned_none (P := Tryz.prog) (w := w) B 45 o.type 5 i0 1 Tryz.underlying45 hi v l.length (by8 l) hown
    unfold Oper.wp
    simp [execOp, hop, resolve, invoke, builtin, hs, hx, hrun, Result.andThen]
    refine hK v w ⟨?_, World.grownBy.refl _ _, At.refl _ _⟩
    rw [List.append_nil]
    exact hown
  · obtain ⟨v', w', hr, h1, h2, h3, h4⟩ := run_append_own_at (P := Tryz.prog) w B 45 o.type 5 i0 (.int .u8 0) 1 1 Tryz.underlying45 hi hz0 hz1 hz2 rfl (by decide) v l.length (by8 l) hown ⟨g, 0, none⟩ m.length cap (by8 m) hml (World.ownsRow.cells hm (g := g) rfl) (by8_one m) (by unfold maxLen; omega) (by omega) hB
    unfold Oper.wp
    simp [execOp, hop, resolve, invoke, builtin, hs, hx, hr, Result.andThen]
    refine hK v' w' ⟨?_, h2, ?_⟩
    · unfold Bs; rw [by8_append, List.length_append]; exact h1
    · rcases h4 with h4 | h4
      · exact Or.inl h4
      · exact Or.inr ⟨_, h4, Nat.le_refl _⟩

set_option maxRecDepth 100000 in
set_option maxHeartbeats 1000000 in
/-- AppendTo, of bits of the call's own (from block B on), behind bytes that lie below or apart. -/
theorem appendTo_any (B C b : Nat) (p a v : Value) (r : Rot.Row) (l : List UInt8) (w : World) (h : Bit w B b p a r) (hC : C ≤ w.heap.size) (hv : Bs w C v l) (hpv : Apart p v) (hav : Apart a v) (hvb : v.ownBlock ≠ some b)
    (hl : l.length + r.packed.length + 2 * r.ahead.length < 100000) (hd : ∀ x ∈ r.ahead, x < 65536) :
    Calls Tryz.prog 129 #[.pointer (some ⟨b, 0, none⟩), v] w fun e w' => ∃ v', e = .returned v' ∧ Apx w w' C v v' (l ++ r.bytes) := by
  have g0 := h.c0
  have g1 := h.c1
  have H := hide h
  clear h
  go_enter Tryz.func129, Tryz.ntmps129
  go_wp2_with fail
  have hlt := (unhide H).lt
  have hll : l.length + r.packed.length < 1000000 := by omega
  have Hd := hide hd
  clear hd
  have P0 := (unhide H).drew.packed
  have hll2 : ∀ x : List UInt8, x.length = l.length + r.packed.length → x.length + 2 * r.ahead.length < 900000 := by intro x hx; omega
  go_region_law (first
    | (refine step_appBs rfl (.tmp 5) (.tmp 9) rfl C _ l rfl (W := w.drew) rfl hv _ B r.packed rfl P0 hll hC ?_; intro v1 w1 A1; obtain ⟨d0, d1, _, _, _, _, _, _⟩ := (unhide H).drew.cells A1.grown hvb; have U1 : Us w1 B a r.ahead := World.ownsRow.kept (unhide H).drew.ahead A1.grown hav.kept; have AP1 : Apart a v1 := (hav.symm.step A1.at' (fun k hk => (World.ownsRow.lt (unhide H).ahead k hk).2)).symm)
    | (go_simp; refine (appendAll_any C B _ _ _ r.ahead _ (Nat.le_trans hC A1.size) A1.own U1 AP1 (hll2 _ (by simp)) (unhide Hd)).mono ?_; rintro e w2 ⟨v2, rfl, A2⟩))
  all_goals
    go_wp2
    go_ret
    refine ⟨_, rfl, ?_⟩
    have A3 := A1.trans A2
    rw [List.append_assoc] at A3
    exact ⟨A3.own, ⟨A3.grown.os, A3.grown.tape, A3.grown.output, A3.grown.size, A3.grown.block⟩, A3.at'⟩
end Go.Proofs.YthlincikgdblfaaGreat
