import Derived.Test.YthlincikgdblfaaGreatA3
import Derived.Laws.BitsAllLaws
namespace Go.Proofs.YthlincikgdblfaaGreat
open Go.RowKit
set_option linter.unusedVariables false

theorem and8 (c m : UInt8) : bits BinOp.and IntKind.u8 (c.toNat : Int) (m.toNat : Int) = ((c &&& m).toNat : Int) := by
  rw [UInt8.toNat_and, u8_and_nat _ _ c.toNat_lt m.toNat_lt]
theorem or8 (c m : UInt8) : bits BinOp.or IntKind.u8 (c.toNat : Int) (m.toNat : Int) = ((c ||| m).toNat : Int) := by
  rw [UInt8.toNat_or, u8_or_nat _ _ c.toNat_lt m.toNat_lt]

set_option maxHeartbeats 1000000 in
theorem split_any (B : Nat) (v : Value) (l : List UInt8) (m : UInt8) (w : World) (h : Bs w B v l) (hl : l.length < 1000) :
    Calls Tryz.prog 125 #[v, .int .u8 m.toNat] w fun e w' => ∃ z o, e = .returned (.tuple #[z, o]) ∧ Bs w' w.heap.size z (Rot.zerosOf m l) ∧ Bs w' w.heap.size o (Rot.onesOf m l) ∧ Apart z o ∧ w.grownBy w' none := by
  rcases h.form with ⟨rfl, rfl⟩ | ⟨g, cap, rfl, hg1, hg2, hg3⟩
  · go_enter Tryz.func125, Tryz.ntmps125
    go_wp2_with fail
    refine wp_loop_rounds 1 ?_
    rw [rounds_succ]
    go_wp2_with fail
    go_ret2
    exact ⟨_, _, rfl, Bs.nil _ _, Bs.nil _ _, Apart.nil _, World.grownBy.refl _ _⟩
  · have HU := hide h
    clear h
    go_enter Tryz.func125, Tryz.ntmps125
    go_wp2_with fail
    go_loopw [4, 5, 10] (fun z o i wr => ∃ k : Nat, k ≤ l.length ∧ i = .int .i64 k ∧ Bs wr w.heap.size z (Rot.zerosOf m (l.take k)) ∧ Bs wr w.heap.size o (Rot.onesOf m (l.take k)) ∧ Apart z o ∧ w.grownBy wr none) (fun _ _ i _ => l.length - (intOf i).toNat)
    case atStart => exact ⟨0, Nat.zero_le _, rfl, Bs.nil _ _, Bs.nil _ _, Apart.nil _, World.grownBy.refl _ _⟩
    case round =>
      obtain ⟨k, hk, rfl, Z, O, AP, G⟩ := hrel
      by_cases hlt : k < l.length
      · have hck := Bs.cell (Bs.kept0 (unhide HU) G) k hlt
        have hz1 : (Rot.zerosOf m (l.take k)).length < 1000000 := by
          have := List.length_filter_le (fun c : UInt8 => c &&& m == 0) (l.take k)
          rw [List.length_take] at this
          unfold Rot.zerosOf
          omega
        have ho1 : (Rot.onesOf m (l.take k)).length < 1000000 := by
          have := List.length_filter_le (fun c : UInt8 => !(c &&& m == 0)) (l.take k)
          rw [List.length_take] at this
          unfold Rot.onesOf
          omega
        have hsz := G.size
        have HZ := hide (take_filter_snoc (fun c : UInt8 => c &&& m == 0) l k hlt)
        have HO := hide (take_filter_snoc (fun c : UInt8 => !(c &&& m == 0)) l k hlt)
        generalize hcc : l[k]'hlt = c at hck HZ HO
        clear hcc
        cases hm : c &&& m == 0 with
        | true =>
          have hm2 : (bits BinOp.and IntKind.u8 (c.toNat : Int) (m.toNat : Int) == 0) = true := by
            have : c &&& m = 0 := by simpa using hm
            rw [and8, this]; rfl
          go_wp2_with (at_builtin; refine wp_app1 _ rfl (.tmp 18) (.tmp 20) rfl w.heap.size _ (Rot.zerosOf m (l.take k)) rfl wr _ rfl rfl Z c ?b0 hz1 hsz ?_)
          case b0 => rfl
          intro z' w1 A1
          have G1 := A1.fresh G Z
          have B1 := A1.own
          have O1 := O.kept A1.grown AP.symm.kept
          have AP1 := AP.step A1.at' (fun k hk => (O.lt hk).2)
          have e2 : Rot.zerosOf m (l.take k) ++ [c] = Rot.zerosOf m (l.take (k + 1)) := by
            unfold Rot.zerosOf
            rw [unhide HZ, hm]; simp
          have e3 : Rot.onesOf m (l.take k) = Rot.onesOf m (l.take (k + 1)) := by
            unfold Rot.onesOf
            rw [unhide HO, hm]; simp
          rw [e2] at B1
          rw [e3] at O1
          have HB1 := hide B1
          have HO1 := hide O1
          have HAP := hide AP1
          clear Z O A1 B1 O1 G hck hz1 ho1 e2 e3 AP AP1 hm hm2
          go_wp2_with fail
          go_roundw
          case rel => exact ⟨k + 1, by omega, by go_num, unhide HB1, unhide HO1, unhide HAP, G1⟩
          case measure => simp [intOf]; omega
        | false =>
          have hm2 : (bits BinOp.and IntKind.u8 (c.toNat : Int) (m.toNat : Int) == 0) = false := by
            rw [and8]
            have h0 : ¬ c &&& m = 0 := by simpa using hm
            have h1 : ¬ (c &&& m).toNat = 0 := fun e => h0 (UInt8.toNat_inj.1 e)
            simp only [beq_eq_false_iff_ne, ne_eq]
            omega
          go_wp2_with (at_builtin; refine wp_app1 _ rfl (.tmp 22) (.tmp 24) rfl w.heap.size _ (Rot.onesOf m (l.take k)) rfl wr _ rfl rfl O c ?b0 ho1 hsz ?_)
          case b0 => rfl
          intro o' w1 A1
          have G1 := A1.fresh G O
          have B1 := A1.own
          have Z1 := Z.kept A1.grown AP.kept
          have AP1 := (AP.symm.step A1.at' (fun k hk => (Z.lt hk).2)).symm
          have e2 : Rot.onesOf m (l.take k) ++ [c] = Rot.onesOf m (l.take (k + 1)) := by
            unfold Rot.onesOf
            rw [unhide HO, hm]; simp
          have e3 : Rot.zerosOf m (l.take k) = Rot.zerosOf m (l.take (k + 1)) := by
            unfold Rot.zerosOf
            rw [unhide HZ, hm]; simp
          rw [e2] at B1
          rw [e3] at Z1
          have HB1 := hide B1
          have HO1 := hide Z1
          have HAP := hide AP1
          clear Z O A1 B1 Z1 G hck hz1 ho1 e2 e3 AP AP1 hm hm2
          go_wp2_with fail
          go_roundw
          case rel => exact ⟨k + 1, by omega, by go_num, unhide HO1, unhide HB1, unhide HAP, G1⟩
          case measure => simp [intOf]; omega
      · have hk' : k = l.length := by omega
        subst hk'
        rw [List.take_length] at Z O
        go_wp2
        go_ret2
        exact ⟨_, _, rfl, Z, O, AP, G⟩
end Go.Proofs.YthlincikgdblfaaGreat
