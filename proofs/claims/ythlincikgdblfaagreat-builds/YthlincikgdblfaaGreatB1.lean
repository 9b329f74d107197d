import Derived.Test.YthlincikgdblfaaGreatB0
import Derived.Test.YthlincikgdblfaaGreatA9
namespace Go.Proofs.YthlincikgdblfaaGreat
open Go.RowKit
set_option linter.unusedVariables false

theorem below_snoc (s : ByteArray) (c k : Nat) (hk : k < s.size) : Rot.belowOf (s.data.toList.take (k + 1)) c = Rot.belowOf (s.data.toList.take k) c + if (s[k]'hk).toNat < c then 1 else 0 := by
  rw [take_snoc' s k hk]
  unfold Rot.belowOf
  rw [List.filter_append, List.length_append]
  by_cases h : (s[k]'hk).toNat < c <;> simp [h] <;> omega

set_option maxRecDepth 100000 in
set_option maxHeartbeats 1000000 in
theorem rfirst_any (s : ByteArray) (w : World) (hs : s.size ≤ 250) :
    Calls Tryz.prog 106 #[.string s] w fun e w' => e = .returned (.string (Sb (Rot.firstOf s.data.toList))) ∧ w.grownBy w' none := by
  go_enter Tryz.func106, Tryz.ntmps106
  go_wp2_with fail
  go_loopw [3, 4, 5, 6] (fun o c _n _i wr => ∃ k : Nat, k ≤ 256 ∧ c = .int .i64 k ∧ o = .string (Sb ((List.range k).flatMap fun c => Rot.le16 (Rot.belowOf s.data.toList c))) ∧ w.grownBy wr none) (fun _ c _ _ _ => 256 - (intOf c).toNat)
  case atStart => exact ⟨0, Nat.zero_le _, rfl, rfl, World.grownBy.refl _ _⟩
  case round =>
    obtain ⟨c, hc, rfl, rfl, G⟩ := hrel
    by_cases hlt : c < 256
    · have HG := hide G
      clear G
      obtain ⟨wo, hwo⟩ : ∃ wo : World, wo = wr := ⟨_, rfl⟩
      rw [← hwo] at HG ⊢
      clear hwo
      go_wp2_with fail
      go_loop [5, 6] (fun n i => ∃ k : Nat, k ≤ s.size ∧ i = .int .i64 k ∧ n = .int .i64 (Rot.belowOf (s.data.toList.take k) c : Int)) (fun _ i => s.size - (intOf i).toNat)
      case atStart => exact ⟨0, Nat.zero_le _, rfl, rfl⟩
      case round =>
        obtain ⟨k, hk, rfl, rfl⟩ := hrel
        have hl : s.data.toList.length = s.size := by simp
        have hbl := belowOf_le (s.data.toList.take k) c
        rw [List.length_take] at hbl
        by_cases hk2 : k < s.size
        · have HB := hide (below_snoc s c k hk2)
          have hbt := (s[k]'hk2).toNat_lt
          clear hl
          by_cases ht : (s[k]'hk2).toNat < c
          · have HT := hide ht
            have ht2 : ((s[k]'hk2).toNat : Int) < (c : Int) := by omega
            go_wp2
            go_round
            case rel => exact ⟨k + 1, by omega, by go_num, num_eq (by rw [unhide HB, if_pos (unhide HT)]; omega)⟩
            case measure => simp [intOf]; omega
          · have HT := hide ht
            have ht2 : (c : Int) ≤ ((s[k]'hk2).toNat : Int) := by omega
            go_wp2
            go_round
            case rel => exact ⟨k + 1, by omega, by go_num, num_eq (by rw [unhide HB, if_neg (unhide HT)]; omega)⟩
            case measure => simp [intOf]; omega
        · have e : s.data.toList.take k = s.data.toList := List.take_of_length_le (by omega)
          rw [e]
          have hbl2 := belowOf_le s.data.toList c
          clear hbl e
          go_wp2_with fail
          refine (two_any (Rot.belowOf s.data.toList c) _ (by omega)).mono ?_
          rintro e w1 ⟨rfl, G1⟩
          have HG1 := hide (grown_trans (unhide HG) G1 (Or.inl rfl))
          have HE := hide (Sb_append ((List.range c).flatMap fun c => Rot.le16 (Rot.belowOf s.data.toList c)) (Rot.le16 (Rot.belowOf s.data.toList c)))
          have z1 := Sb_two (Rot.belowOf s.data.toList c)
          have z2 : (Sb ((List.range c).flatMap fun c => Rot.le16 (Rot.belowOf s.data.toList c))).size ≤ 1000 := Sb_le (by rw [← List.flatMap_map (f := Rot.belowOf s.data.toList) (g := Rot.le16), flat_len]; simp; omega)
          clear G1 hl hbl2
          go_wp2_with fail
          go_roundw
          case rel =>
            refine ⟨c + 1, by omega, by go_num, ?_, unhide HG1⟩
            rw [unhide HE, List.range_succ, List.flatMap_append]
            simp
          case measure => simp [intOf]; omega
    · have hk' : c = 256 := by omega
      subst hk'
      go_wp2_with fail
      go_ret
      exact ⟨rfl, G⟩
end Go.Proofs.YthlincikgdblfaaGreat
