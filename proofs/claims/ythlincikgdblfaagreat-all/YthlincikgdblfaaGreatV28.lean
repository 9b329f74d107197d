import Derived.Test.YthlincikgdblfaaGreatV13
import Derived.Test.YthlincikgdblfaaGreatV08
import Derived.Test.YthlincikgdblfaaGreatV07
import Derived.Test.YthlincikgdblfaaGreatV05
import Derived.Test.YthlincikgdblfaaGreatV12
import Derived.Test.YthlincikgdblfaaGreatV09
namespace Go.Proofs.YthlincikgdblfaaGreat
set_option linter.unusedVariables false
namespace Rot
def lowerTo (col : List UInt8) (j q : Nat) : Nat := (List.range q).countP fun k => ahead col k j
theorem lowerTo_succ (col : List UInt8) (j q : Nat) : lowerTo col j (q + 1) = lowerTo col j q + if ahead col q j = true then 1 else 0 := by
  unfold lowerTo
  rw [List.range_succ, List.countP_append]
  simp [List.countP_cons]
theorem lowerTo_le (col : List UInt8) (j q : Nat) : lowerTo col j q ≤ q := by
  unfold lowerTo
  have := List.countP_le_length (p := fun k => ahead col k j) (l := List.range q)
  simpa using this
end Rot
open Go.RowKit
theorem at_byte (s : ByteArray) (k : Nat) (hk : k < s.size) : Rot.at' s.data.toList k = s[k]'hk := byte_at s k hk

/-- Behind k steps. -/
def TxV (w : World) (col : List UInt8) (last : Nat) (t row : Value) (wr : World) : Prop := ∃ k r : Nat, k ≤ col.length ∧ t = .string (Sb (Rot.spell col last k)) ∧ row = .int .i64 (r : Int) ∧ r ≤ col.length ∧ Hid (r = Rot.walk col last k ∧ ∀ j, j < k → Rot.walk col last j ≠ last) ∧ w.grownBy wr none
theorem TxV.mk {w : World} {col : List UInt8} {last : Nat} {t row : Value} {wr : World} (k r : Nat) (h1 : k ≤ col.length) (h2 : t = .string (Sb (Rot.spell col last k))) (h3 : row = .int .i64 (r : Int)) (h4 : r ≤ col.length) (h5 : r = Rot.walk col last k) (h6 : ∀ j, j < k → Rot.walk col last j ≠ last) (h7 : w.grownBy wr none) : TxV w col last t row wr := ⟨k, r, h1, h2, h3, h4, ⟨h5, h6⟩, h7⟩
/-- Behind q places. -/
def LeV (w : World) (col : List UInt8) (j : Nat) (le k : Value) (wr : World) : Prop := ∃ q v m : Nat, q ≤ col.length ∧ k = .int .i64 (q : Int) ∧ le = .int .i64 (v : Int) ∧ v ≤ q + 1 ∧ Hid (v = 1 + Rot.lowerTo col j q) ∧ wr = w.drewN m
theorem LeV.mk {w : World} {col : List UInt8} {j : Nat} {le k : Value} {wr : World} (q v m : Nat) (h1 : q ≤ col.length) (h2 : k = .int .i64 (q : Int)) (h3 : le = .int .i64 (v : Int)) (h4 : v ≤ q + 1) (h5 : v = 1 + Rot.lowerTo col j q) (h6 : wr = w.drewN m) : LeV w col j le k wr := ⟨q, v, m, h1, h2, h3, h4, h5, h6⟩

set_option maxRecDepth 100000 in
set_option maxHeartbeats 2000000 in
theorem rtext_any (s : ByteArray) (last : Nat) (w : World) (hs : s.size ≤ 250) (hl : last ≤ 65535) :
    Calls Tryz.prog 142 #[.string s, .int .i64 last] w fun e w' => (∃ x, e = .returned (.tuple #[.string x, .bool false]) ∧ ¬ Rot.Whole s.data.toList last ∧ w.grownBy w' none) ∨ (e = .returned (.tuple #[.string (Sb (Rot.spell s.data.toList last s.size)), .bool true]) ∧ Rot.Whole s.data.toList last ∧ w.grownBy w' none) := by
  have hcl : s.data.toList.length = s.size := by simp
  by_cases hle : last ≤ s.size
  · have hd : decide ((s.size : Int) < (last : Int)) = false := by simp; omega
    go_enter Tryz.func142, Tryz.ntmps142
    go_wp2_with fail
    go_loopw [6, 7] (fun t row wr => TxV w s.data.toList last t row wr) (fun t _ _ => s.size - (match t with | .string x => x.size | _ => 0))
    case atStart => exact TxV.mk 0 0 (Nat.zero_le _) rfl rfl (Nat.zero_le _) rfl (fun j h => absurd h (Nat.not_lt_zero _)) (World.grownBy.refl _ _)
    case round =>
      obtain ⟨k, r, hk, rfl, rfl, hr, HR, G⟩ := hrel
      have zt : (Sb (Rot.spell s.data.toList last k)).size = k := by rw [Sb_size, Rot.spell_len]
      have HG := hide G
      clear G
      by_cases hkn : k < s.size
      · by_cases hrl : r = last
        · have hbe : ((r : Int) == (last : Int)) = true := by simp; omega
          have HX : Hid (¬ Rot.Whole s.data.toList last) := by
            intro H
            exact H.on k (by omega) (by rw [← (unhide HR).1]; exact hrl)
          go_wp2_with fail
          go_ret2
          left
          exact ⟨_, rfl, unhide HX, unhide HG⟩
        have hbe : ((r : Int) == (last : Int)) = false := by simp; omega
        obtain ⟨wo, hwo⟩ : ∃ wo : World, wo = wr := ⟨_, rfl⟩
        rw [← hwo] at HG ⊢
        clear hwo
        by_cases hrg : last < r
        · obtain ⟨J, hJe⟩ : ∃ J : Nat, J = r - 1 := ⟨_, rfl⟩
          have hJ : J < s.size := by omega
          have hJi : (r : Int) - 1 = (J : Int) := by omega
          have HJ : Hid (Rot.placeOf last r = J) := by
            refine hide ?_
            unfold Rot.placeOf
            rw [if_pos hrg]; exact hJe.symm
          have hdg : decide ((last : Int) < (r : Int)) = true := by simp; omega
          clear hJe
          go_wp2_with fail
          go_loopw [9, 10] (fun le k wi => LeV wo s.data.toList J le k wi) (fun _ k _ => s.size - (intOf k).toNat)
          case atStart => exact LeV.mk 0 1 0 (Nat.zero_le _) rfl rfl (by omega) rfl rfl
          case round =>
            obtain ⟨q, v, m, hq, rfl, rfl, hv, HV, rfl⟩ := hrel
            rw [hcl] at hq
            by_cases hqn : q < s.size
            · have hb1 := (s[q]'hqn).toNat_lt
              have hb2 := (s[J]'hJ).toNat_lt
              have i1 := idx_str s q hqn (q : Int) rfl
              have i2 := idx_str s J hJ (J : Int) rfl
              have hah : Rot.ahead s.data.toList q J = (decide ((s[q]'hqn).toNat < (s[J]'hJ).toNat) || (decide ((s[q]'hqn).toNat = (s[J]'hJ).toNat) && decide (q < J))) := by
                unfold Rot.ahead
                rw [at_byte s q hqn, at_byte s J hJ]
                congr 1
                congr 1
                rw [Bool.eq_iff_iff, beq_iff_eq, decide_eq_true_eq]
                exact UInt8.toNat_inj.symm
              have hsu := Rot.lowerTo_succ s.data.toList J q
              rw [hah] at hsu
              have HSU := hide hsu
              clear hah hsu
              generalize (s[q]'hqn).toNat = x at hb1 i1 HSU
              generalize (s[J]'hJ).toNat = y at hb2 i2 HSU
              by_cases c1 : x < y
              · have d1 : decide ((x : Int) < (y : Int)) = true := by simp; omega
                have HV2 : Hid (v + 1 = 1 + Rot.lowerTo s.data.toList J (q + 1)) := by
                  refine hide ?_
                  rw [unhide HSU, unhide HV]; simp [c1]; omega
                go_wp2_with fail
                go_quiet (fail)
                go_wp2_with fail
                go_roundw
                case rel =>
                  first | exact LeV.mk (q + 1) (v + 1) _ (by omega) (by go_num) (by go_num) (by omega) (unhide HV2) rfl | (repeat apply Exists.intro; refine ⟨?_, rfl⟩; exact LeV.mk (q + 1) (v + 1) _ (by omega) (by go_num) (by go_num) (by omega) (unhide HV2) rfl)
                case measure => simp [intOf]; omega
              · have d1 : decide ((x : Int) < (y : Int)) = false := by simp; omega
                by_cases c2 : x = y
                · have d2 : ((x : Int) == (y : Int)) = true := by simp; omega
                  by_cases c3 : q < J
                  · have d3 : decide ((q : Int) < (J : Int)) = true := by simp; omega
                    have HV2 : Hid (v + 1 = 1 + Rot.lowerTo s.data.toList J (q + 1)) := by
                      refine hide ?_
                      rw [unhide HSU, unhide HV]; simp [c2, c3]; omega
                    go_wp2_with fail
                    go_quiet (fail)
                    go_wp2_with fail
                    go_roundw
                    case rel =>
                      first | exact LeV.mk (q + 1) (v + 1) _ (by omega) (by go_num) (by go_num) (by omega) (unhide HV2) rfl | (repeat apply Exists.intro; refine ⟨?_, rfl⟩; exact LeV.mk (q + 1) (v + 1) _ (by omega) (by go_num) (by go_num) (by omega) (unhide HV2) rfl)
                    case measure => simp [intOf]; omega
                  · have d3 : decide ((q : Int) < (J : Int)) = false := by simp; omega
                    have HV2 : Hid (v = 1 + Rot.lowerTo s.data.toList J (q + 1)) := by
                      refine hide ?_
                      rw [unhide HSU, unhide HV]; simp [c2, c3]
                    go_wp2_with fail
                    go_quiet (fail)
                    go_wp2_with fail
                    go_roundw
                    case rel =>
                      first | exact LeV.mk (q + 1) v _ (by omega) (by go_num) (by go_num) (by omega) (unhide HV2) rfl | (repeat apply Exists.intro; refine ⟨?_, rfl⟩; exact LeV.mk (q + 1) v _ (by omega) (by go_num) (by go_num) (by omega) (unhide HV2) rfl)
                    case measure => simp [intOf]; omega
                · have d2 : ((x : Int) == (y : Int)) = false := by simp; omega
                  have HV2 : Hid (v = 1 + Rot.lowerTo s.data.toList J (q + 1)) := by
                    refine hide ?_
                    rw [unhide HSU, unhide HV]; simp [c1, c2]
                  go_wp2_with fail
                  go_quiet (fail)
                  go_wp2_with fail
                  go_roundw
                  case rel =>
                    first | exact LeV.mk (q + 1) v _ (by omega) (by go_num) (by go_num) (by omega) (unhide HV2) rfl | (repeat apply Exists.intro; refine ⟨?_, rfl⟩; exact LeV.mk (q + 1) v _ (by omega) (by go_num) (by go_num) (by omega) (unhide HV2) rfl)
                  case measure => simp [intOf]; omega
            · have eq : q = s.size := by omega
              subst eq
              have HV2 : Hid (v = Rot.walk s.data.toList last (k + 1)) := by
                refine hide ?_
                rw [unhide HV]
                show _ = 1 + Rot.lower s.data.toList (Rot.placeOf last (Rot.walk s.data.toList last k))
                rw [← (unhide HR).1, unhide HJ]
                unfold Rot.lowerTo Rot.lower
                rw [hcl]
              have hvn : v ≤ s.size := by
                have h1 := Rot.lower_bound (col := s.data.toList) (j := J) (by omega)
                have h2 := unhide HV
                unfold Rot.lowerTo at h2
                unfold Rot.lower at h1
                rw [hcl] at h1
                omega
              have hex := extract_one s J hJ
              have z3 : (Sb [s[J]'hJ]).size ≤ 1 := Sb_le (by simp)
              have HSP : Hid (Sb [s[J]'hJ] ++ Sb (Rot.spell s.data.toList last k) = Sb (Rot.spell s.data.toList last (k + 1))) := by
                refine hide ?_
                rw [Sb_append]
                show Sb (s[J] :: Rot.spell s.data.toList last k) = Sb (Rot.at' s.data.toList (Rot.placeOf last (Rot.walk s.data.toList last k)) :: _)
                rw [← (unhide HR).1, unhide HJ, at_byte s J hJ]
              have HON : Hid (∀ j, j < k + 1 → Rot.walk s.data.toList last j ≠ last) := by
                intro j hj
                by_cases e : j = k
                · subst e; rw [← (unhide HR).1]; exact hrl
                · exact (unhide HR).2 j (by omega)
              clear HV
              go_wp2_with fail
              go_roundw
              case rel =>
                first | exact TxV.mk (k + 1) v (by omega) (by rw [← unhide HSP]) rfl (by omega) (unhide HV2) (unhide HON) (grown_drewN (unhide HG) _) | (repeat apply Exists.intro; refine ⟨?_, rfl⟩; exact TxV.mk (k + 1) v (by omega) (by rw [← unhide HSP]) rfl (by omega) (unhide HV2) (unhide HON) (grown_drewN (unhide HG) _))
              case measure =>
                have e1 : (Sb [s[J]'hJ] ++ Sb (Rot.spell s.data.toList last k)).size = k + 1 := by rw [unhide HSP, Sb_size, Rot.spell_len]
                show s.size - (Sb [s[J]'hJ] ++ Sb (Rot.spell s.data.toList last k)).size < s.size - (Sb (Rot.spell s.data.toList last k)).size
                rw [e1, zt]
                omega
        · obtain ⟨J, hJe⟩ : ∃ J : Nat, J = r := ⟨_, rfl⟩
          have hJ : J < s.size := by omega
          have hrl2 : r ≤ s.size := by omega
          have HJ : Hid (Rot.placeOf last r = J) := by
            refine hide ?_
            unfold Rot.placeOf
            rw [if_neg hrg]; exact hJe.symm
          have hdg : decide ((last : Int) < (r : Int)) = false := by simp; omega
          subst hJe
          go_wp2_with fail
          go_loopw [9, 10] (fun le k wi => LeV wo s.data.toList J le k wi) (fun _ k _ => s.size - (intOf k).toNat)
          case atStart => exact LeV.mk 0 1 0 (Nat.zero_le _) rfl rfl (by omega) rfl rfl
          case round =>
            obtain ⟨q, v, m, hq, rfl, rfl, hv, HV, rfl⟩ := hrel
            rw [hcl] at hq
            by_cases hqn : q < s.size
            · have hb1 := (s[q]'hqn).toNat_lt
              have hb2 := (s[J]'hJ).toNat_lt
              have i1 := idx_str s q hqn (q : Int) rfl
              have i2 := idx_str s J hJ (J : Int) rfl
              have hah : Rot.ahead s.data.toList q J = (decide ((s[q]'hqn).toNat < (s[J]'hJ).toNat) || (decide ((s[q]'hqn).toNat = (s[J]'hJ).toNat) && decide (q < J))) := by
                unfold Rot.ahead
                rw [at_byte s q hqn, at_byte s J hJ]
                congr 1
                congr 1
                rw [Bool.eq_iff_iff, beq_iff_eq, decide_eq_true_eq]
                exact UInt8.toNat_inj.symm
              have hsu := Rot.lowerTo_succ s.data.toList J q
              rw [hah] at hsu
              have HSU := hide hsu
              clear hah hsu
              generalize (s[q]'hqn).toNat = x at hb1 i1 HSU
              generalize (s[J]'hJ).toNat = y at hb2 i2 HSU
              by_cases c1 : x < y
              · have d1 : decide ((x : Int) < (y : Int)) = true := by simp; omega
                have HV2 : Hid (v + 1 = 1 + Rot.lowerTo s.data.toList J (q + 1)) := by
                  refine hide ?_
                  rw [unhide HSU, unhide HV]; simp [c1]; omega
                go_wp2_with fail
                go_quiet (fail)
                go_wp2_with fail
                go_roundw
                case rel =>
                  first | exact LeV.mk (q + 1) (v + 1) _ (by omega) (by go_num) (by go_num) (by omega) (unhide HV2) rfl | (repeat apply Exists.intro; refine ⟨?_, rfl⟩; exact LeV.mk (q + 1) (v + 1) _ (by omega) (by go_num) (by go_num) (by omega) (unhide HV2) rfl)
                case measure => simp [intOf]; omega
              · have d1 : decide ((x : Int) < (y : Int)) = false := by simp; omega
                by_cases c2 : x = y
                · have d2 : ((x : Int) == (y : Int)) = true := by simp; omega
                  by_cases c3 : q < J
                  · have d3 : decide ((q : Int) < (J : Int)) = true := by simp; omega
                    have HV2 : Hid (v + 1 = 1 + Rot.lowerTo s.data.toList J (q + 1)) := by
                      refine hide ?_
                      rw [unhide HSU, unhide HV]; simp [c2, c3]; omega
                    go_wp2_with fail
                    go_quiet (fail)
                    go_wp2_with fail
                    go_roundw
                    case rel =>
                      first | exact LeV.mk (q + 1) (v + 1) _ (by omega) (by go_num) (by go_num) (by omega) (unhide HV2) rfl | (repeat apply Exists.intro; refine ⟨?_, rfl⟩; exact LeV.mk (q + 1) (v + 1) _ (by omega) (by go_num) (by go_num) (by omega) (unhide HV2) rfl)
                    case measure => simp [intOf]; omega
                  · have d3 : decide ((q : Int) < (J : Int)) = false := by simp; omega
                    have HV2 : Hid (v = 1 + Rot.lowerTo s.data.toList J (q + 1)) := by
                      refine hide ?_
                      rw [unhide HSU, unhide HV]; simp [c2, c3]
                    go_wp2_with fail
                    go_quiet (fail)
                    go_wp2_with fail
                    go_roundw
                    case rel =>
                      first | exact LeV.mk (q + 1) v _ (by omega) (by go_num) (by go_num) (by omega) (unhide HV2) rfl | (repeat apply Exists.intro; refine ⟨?_, rfl⟩; exact LeV.mk (q + 1) v _ (by omega) (by go_num) (by go_num) (by omega) (unhide HV2) rfl)
                    case measure => simp [intOf]; omega
                · have d2 : ((x : Int) == (y : Int)) = false := by simp; omega
                  have HV2 : Hid (v = 1 + Rot.lowerTo s.data.toList J (q + 1)) := by
                    refine hide ?_
                    rw [unhide HSU, unhide HV]; simp [c1, c2]
                  go_wp2_with fail
                  go_quiet (fail)
                  go_wp2_with fail
                  go_roundw
                  case rel =>
                    first | exact LeV.mk (q + 1) v _ (by omega) (by go_num) (by go_num) (by omega) (unhide HV2) rfl | (repeat apply Exists.intro; refine ⟨?_, rfl⟩; exact LeV.mk (q + 1) v _ (by omega) (by go_num) (by go_num) (by omega) (unhide HV2) rfl)
                  case measure => simp [intOf]; omega
            · have eq : q = s.size := by omega
              subst eq
              have HV2 : Hid (v = Rot.walk s.data.toList last (k + 1)) := by
                refine hide ?_
                rw [unhide HV]
                show _ = 1 + Rot.lower s.data.toList (Rot.placeOf last (Rot.walk s.data.toList last k))
                rw [← (unhide HR).1, unhide HJ]
                unfold Rot.lowerTo Rot.lower
                rw [hcl]
              have hvn : v ≤ s.size := by
                have h1 := Rot.lower_bound (col := s.data.toList) (j := J) (by omega)
                have h2 := unhide HV
                unfold Rot.lowerTo at h2
                unfold Rot.lower at h1
                rw [hcl] at h1
                omega
              have hex := extract_one s J hJ
              have z3 : (Sb [s[J]'hJ]).size ≤ 1 := Sb_le (by simp)
              have HSP : Hid (Sb [s[J]'hJ] ++ Sb (Rot.spell s.data.toList last k) = Sb (Rot.spell s.data.toList last (k + 1))) := by
                refine hide ?_
                rw [Sb_append]
                show Sb (s[J] :: Rot.spell s.data.toList last k) = Sb (Rot.at' s.data.toList (Rot.placeOf last (Rot.walk s.data.toList last k)) :: _)
                rw [← (unhide HR).1, unhide HJ, at_byte s J hJ]
              have HON : Hid (∀ j, j < k + 1 → Rot.walk s.data.toList last j ≠ last) := by
                intro j hj
                by_cases e : j = k
                · subst e; rw [← (unhide HR).1]; exact hrl
                · exact (unhide HR).2 j (by omega)
              clear HV
              go_wp2_with fail
              go_roundw
              case rel =>
                first | exact TxV.mk (k + 1) v (by omega) (by rw [← unhide HSP]) rfl (by omega) (unhide HV2) (unhide HON) (grown_drewN (unhide HG) _) | (repeat apply Exists.intro; refine ⟨?_, rfl⟩; exact TxV.mk (k + 1) v (by omega) (by rw [← unhide HSP]) rfl (by omega) (unhide HV2) (unhide HON) (grown_drewN (unhide HG) _))
              case measure =>
                have e1 : (Sb [s[J]'hJ] ++ Sb (Rot.spell s.data.toList last k)).size = k + 1 := by rw [unhide HSP, Sb_size, Rot.spell_len]
                show s.size - (Sb [s[J]'hJ] ++ Sb (Rot.spell s.data.toList last k)).size < s.size - (Sb (Rot.spell s.data.toList last k)).size
                rw [e1, zt]
                omega
      · have ek : k = s.size := by omega
        subst ek
        by_cases hrl : r = last
        · have hbe : ((r : Int) == (last : Int)) = true := by simp; omega
          have HX : Hid (Rot.Whole s.data.toList last) := ⟨by omega, fun j hj => (unhide HR).2 j (by omega), by rw [hcl, ← (unhide HR).1]; exact hrl⟩
          go_wp2_with fail
          go_ret2
          right
          exact ⟨by simp, unhide HX, unhide HG⟩
        · have hbe : ((r : Int) == (last : Int)) = false := by simp; omega
          have HX : Hid (¬ Rot.Whole s.data.toList last) := by
            intro H
            have := H.fin
            rw [hcl, ← (unhide HR).1] at this
            exact hrl this
          go_wp2_with fail
          go_ret2
          left
          exact ⟨Sb (Rot.spell s.data.toList last s.size), by simp, unhide HX, unhide HG⟩
  · have hd : decide ((s.size : Int) < (last : Int)) = true := by simp; omega
    go_enter Tryz.func142, Tryz.ntmps142
    go_wp2_with fail
    go_ret2
    left
    refine ⟨_, rfl, ?_, World.grownBy.refl _ _⟩
    intro H
    have := H.le
    omega
end Go.Proofs.YthlincikgdblfaaGreat

namespace Go.Proofs.YthlincikgdblfaaGreat
open Go.RowKit
set_option linter.unusedVariables false

theorem rbuild_no (s : ByteArray) (r : Int) (w : World) (hs : s.size ≤ maxLen) (h : ¬ (s.size ≤ 250 ∧ isRate r = true)) :
    Calls Tryz.prog 38 #[.string s, .int .i64 r] w fun e w' => e = .returned (.tuple #[.string ⟨#[]⟩, .int .i64 1]) ∧ w' = w := by
  unfold maxLen at hs
  by_cases h1 : s.size ≤ 250
  · have h2 : isRate r = false := by
      cases hr : isRate r with
      | true => exact absurd ⟨h1, hr⟩ h
      | false => rfl
    go_enter Tryz.func38, Tryz.ntmps38
    go_wp2_with fail
    refine (rrate_any r _).mono ?_
    rw [h2]
    rintro e w1 ⟨rfl, hw⟩
    subst hw
    go_wp2_with fail
    all_goals go_ret2
    all_goals exact ⟨rfl, rfl⟩
  · have hd : decide (250 < (s.size : Int)) = true := by simp; omega
    go_enter Tryz.func38, Tryz.ntmps38
    go_wp2_with fail
    refine (rrate_any r _).mono ?_
    rintro e w1 ⟨rfl, hw⟩
    subst hw
    go_wp2_with fail
    all_goals go_ret2
    all_goals exact ⟨rfl, rfl⟩

theorem cells_new8 (w : World) (l : List Value) (ty : Nat) (j : Nat) (hj : j < l.length) : (w.alloc (.cells l.toArray ty)).cell? ⟨w.heap.size, j, none⟩ = some (l[j]'hj) := by
  have := cell_of_row (w.alloc (.cells l.toArray ty)) w.heap.size j _ _ _ (heap_alloc_new _ _)
  rw [this]
  simp [hj]
theorem num_any (e : Int) (w : World) (h0 : 0 ≤ e) (h1 : e ≤ 4) : Calls Tryz.prog 39 #[.int .i64 e] w fun en w' => en = .returned (.int .i64 e) ∧ w' = w := by
  go_enter Tryz.func39, Tryz.ntmps39
  go_wp2_with fail
  go_ret
  exact ⟨rfl, rfl⟩

theorem looks_any (g : Nat) (w : World) (hl : w.cell? ⟨g, 1, none⟩ = some (.slice none 0 0)) : Calls Tryz.prog 25 #[.pointer (some ⟨g, 0, none⟩)] w fun en w' => en = .returned (.bool true) ∧ w' = w := by
  go_enter Tryz.func25, Tryz.ntmps25
  go_wp2_with fail
  refine wp_loop_rounds 1 ?_
  rw [rounds_succ]
  go_wp2_with fail
  go_ret
  exact ⟨rfl, rfl⟩

set_option maxRecDepth 100000 in
set_option maxHeartbeats 1000000 in
theorem step_build (x s : ByteArray) (e a k b : Int) (lv : Value) (g : Nat) (he : 0 ≤ e) (he2 : e ≤ 4)
    (hB : ∀ w, Calls Tryz.prog 21 #[.string s, .int .i64 a] w fun en w' => en = .returned (.tuple #[.string x, .int .i64 e]) ∧ Below w.heap.size w w')
    (hR : ∀ w, Calls Tryz.prog 38 #[.string s, .int .i64 a] w fun en w' => en = .returned (.tuple #[.string x, .int .i64 e]) ∧ Below w.heap.size w w') (w : World) :
    Calls Tryz.prog 24 #[.pointer (some ⟨g, 0, none⟩), .agg #[.int .i64 1, .int .i64 k, .string s, .int .i64 a, .int .i64 b, lv]] w fun en w' => en = .returned (.bool true) ∧ Below w.heap.size w w' := by
  go_enter Tryz.func24, Tryz.ntmps24
  go_wp2_with fail
  refine (hB _).mono ?_
  rintro en w1 ⟨rfl, B1⟩
  have c2 : w1.cell? ⟨w.heap.size, 2, none⟩ = some (.string s) := (B1.cell (by simp)).trans (cells_new8 w _ _ 2 (by simp))
  have c3 : w1.cell? ⟨w.heap.size, 3, none⟩ = some (.int .i64 a) := (B1.cell (by simp)).trans (cells_new8 w _ _ 3 (by simp))
  have hz : w.heap.size ≤ w1.heap.size := by have := B1.size; simp at this; omega
  have HB1 : Hid (Below w.heap.size w w1) := ((Below.refl _ _).alloc (Nat.le_refl _) _).trans (B1.mono (by simp))
  clear B1
  go_wp2_with fail
  refine (hR _).mono ?_
  rintro en w2 ⟨rfl, B2⟩
  have HB2 : Hid (Below w.heap.size w w2) := (unhide HB1).trans (B2.mono hz)
  clear B2 HB1 c2 c3 hB hR
  go_wp2_with fail
  refine (num_any e _ he he2).mono ?_
  rintro en w3 ⟨rfl, hw⟩
  subst hw
  go_wp2_with fail
  refine (num_any e _ he he2).mono ?_
  rintro en w4 ⟨rfl, hw⟩
  subst hw
  go_wp2_with fail
  go_ret
  exact ⟨by simp, unhide HB2⟩

set_option maxRecDepth 100000 in
set_option maxHeartbeats 1000000 in
theorem step_idle (s : ByteArray) (kd a k b : Int) (lv : Value) (g : Nat) (hk : kd < 1) (w : World) (hi : w.cell? ⟨g, 0, none⟩ = some (.slice none 0 0)) :
    Calls Tryz.prog 24 #[.pointer (some ⟨g, 0, none⟩), .agg #[.int .i64 kd, .int .i64 k, .string s, .int .i64 a, .int .i64 b, lv]] w fun en w' => en = .returned (.bool true) ∧ Below w.heap.size w w' := by
  have hi2 : ∀ o, (w.alloc o).cell? ⟨g, 0, none⟩ = some (.slice none 0 0) := fun o => by
    rw [World.cell?_alloc_lt _ _ _ (World.block_lt_of_cell? w _ hi)]; exact hi
  have e1 : (kd == 1) = false := by simp; omega
  have e2 : (kd == 2) = false := by simp; omega
  have e3 : (kd == 3) = false := by simp; omega
  have e4 : (kd == 4) = false := by simp; omega
  go_enter Tryz.func24, Tryz.ntmps24
  go_wp2_with fail
  go_ret
  exact ⟨rfl, Below.alloc0 _⟩
end Go.Proofs.YthlincikgdblfaaGreat

namespace Go.Proofs.YthlincikgdblfaaGreat
open Go.RowKit
set_option linter.unusedVariables false

theorem below_snoc (s : ByteArray) (c k : Nat) (hk : k < s.size) : Rot.belowOf (s.data.toList.take (k + 1)) c = Rot.belowOf (s.data.toList.take k) c + if (s[k]'hk).toNat < c then 1 else 0 := by
  rw [take_snoc' s k hk]
  unfold Rot.belowOf
  rw [List.filter_append, List.length_append]
  by_cases h : (s[k]'hk).toNat < c <;> simp [h] <;> omega

set_option maxRecDepth 100000 in
set_option maxHeartbeats 1000000 in
theorem rfirst_any (s : ByteArray) (w : World) (hs : s.size ≤ 250) :
    Calls Tryz.prog 106 #[.string s] w fun e w' => e = .returned (.string (Sb (Rot.firstOf s.data.toList))) ∧ w.grownBy w' none := by
  go_enter Tryz.func106, Tryz.ntmps106
  go_wp2_with fail
  go_loopw [3, 4, 5, 6] (fun o c _n _i wr => ∃ k : Nat, k ≤ 256 ∧ c = .int .i64 k ∧ o = .string (Sb ((List.range k).flatMap fun c => Rot.le16 (Rot.belowOf s.data.toList c))) ∧ w.grownBy wr none) (fun _ c _ _ _ => 256 - (intOf c).toNat)
  case atStart => exact ⟨0, Nat.zero_le _, rfl, rfl, World.grownBy.refl _ _⟩
  case round =>
    obtain ⟨c, hc, rfl, rfl, G⟩ := hrel
    by_cases hlt : c < 256
    · have HG := hide G
      clear G
      obtain ⟨wo, hwo⟩ : ∃ wo : World, wo = wr := ⟨_, rfl⟩
      rw [← hwo] at HG ⊢
      clear hwo
      go_wp2_with fail
      go_loop [5, 6] (fun n i => ∃ k : Nat, k ≤ s.size ∧ i = .int .i64 k ∧ n = .int .i64 (Rot.belowOf (s.data.toList.take k) c : Int)) (fun _ i => s.size - (intOf i).toNat)
      case atStart => exact ⟨0, Nat.zero_le _, rfl, rfl⟩
      case round =>
        obtain ⟨k, hk, rfl, rfl⟩ := hrel
        have hl : s.data.toList.length = s.size := by simp
        have hbl := belowOf_le (s.data.toList.take k) c
        rw [List.length_take] at hbl
        by_cases hk2 : k < s.size
        · have HB := hide (below_snoc s c k hk2)
          have hbt := (s[k]'hk2).toNat_lt
          clear hl
          by_cases ht : (s[k]'hk2).toNat < c
          · have HT := hide ht
            have ht2 : ((s[k]'hk2).toNat : Int) < (c : Int) := by omega
            go_wp2
            go_round
            case rel => exact ⟨k + 1, by omega, by go_num, num_eq (by rw [unhide HB, if_pos (unhide HT)]; omega)⟩
            case measure => simp [intOf]; omega
          · have HT := hide ht
            have ht2 : (c : Int) ≤ ((s[k]'hk2).toNat : Int) := by omega
            go_wp2
            go_round
            case rel => exact ⟨k + 1, by omega, by go_num, num_eq (by rw [unhide HB, if_neg (unhide HT)]; omega)⟩
            case measure => simp [intOf]; omega
        · have e : s.data.toList.take k = s.data.toList := List.take_of_length_le (by omega)
          rw [e]
          have hbl2 := belowOf_le s.data.toList c
          clear hbl e
          go_wp2_with fail
          refine (two_any (Rot.belowOf s.data.toList c) _ (by omega)).mono ?_
          rintro e w1 ⟨rfl, G1⟩
          have HG1 := hide (grown_trans (unhide HG) G1 (Or.inl rfl))
          have HE := hide (Sb_append ((List.range c).flatMap fun c => Rot.le16 (Rot.belowOf s.data.toList c)) (Rot.le16 (Rot.belowOf s.data.toList c)))
          have z1 := Sb_two (Rot.belowOf s.data.toList c)
          have z2 : (Sb ((List.range c).flatMap fun c => Rot.le16 (Rot.belowOf s.data.toList c))).size ≤ 1000 := Sb_le (by rw [← List.flatMap_map (f := Rot.belowOf s.data.toList) (g := Rot.le16), flat_len]; simp; omega)
          clear G1 hl hbl2
          go_wp2_with fail
          go_roundw
          case rel =>
            refine ⟨c + 1, by omega, by go_num, ?_, unhide HG1⟩
            rw [unhide HE, List.range_succ, List.flatMap_append]
            simp
          case measure => simp [intOf]; omega
    · have hk' : c = 256 := by omega
      subst hk'
      go_wp2_with fail
      go_ret
      exact ⟨rfl, G⟩
end Go.Proofs.YthlincikgdblfaaGreat

namespace Go.Proofs.YthlincikgdblfaaGreat
open Go.RowKit
set_option linter.unusedVariables false

def lastTo (rows : List Nat) (k : Nat) : List UInt8 := if rows.idxOf 0 < k then Rot.le16 (rows.idxOf 0) else []
theorem lastTo_len (rows : List Nat) (k : Nat) : (lastTo rows k).length ≤ 2 := by
  unfold lastTo
  by_cases h : rows.idxOf 0 < k
  · rw [if_pos h]; exact Nat.le_refl _
  · rw [if_neg h]; exact Nat.zero_le _
theorem lastTo_yes {rows : List Nat} (hn : rows.Nodup) (k : Nat) (hk : k < rows.length) (h0 : rows[k]'hk = 0) : lastTo rows (k + 1) = Rot.le16 k := by
  have e : rows.idxOf 0 = k := by
    have := hn.idxOf_getElem k hk
    rw [h0] at this
    exact this
  unfold lastTo
  rw [e, if_pos (Nat.lt_succ_self _)]
theorem lastTo_no {rows : List Nat} (k : Nat) (hk : k < rows.length) (h0 : rows[k]'hk ≠ 0) : lastTo rows (k + 1) = lastTo rows k := by
  have e : rows.idxOf 0 ≠ k := by
    intro e
    apply h0
    have h1 : rows.idxOf 0 < rows.length := by omega
    have := List.getElem_idxOf h1
    simp only [e] at this
    exact this
  unfold lastTo
  by_cases h : rows.idxOf 0 < k
  · rw [if_pos h, if_pos (by omega)]
  · rw [if_neg h, if_neg (by omega)]
theorem lastTo_end {rows : List Nat} (h : 0 ∈ rows) : lastTo rows rows.length = Rot.lastOf rows := by
  unfold lastTo
  rw [if_pos (List.idxOf_lt_length_of_mem h)]
  rfl
theorem places_snoc (rows : List Nat) (r k : Nat) (hk : k < rows.length) : Rot.placesOf (rows.take (k + 1)) r = Rot.placesOf (rows.take k) r ++ if Rot.isMarked r (rows[k]'hk) then Rot.le16 (rows[k]'hk) else [] := by
  unfold Rot.placesOf
  rw [take_filter_snoc _ _ _ hk, List.flatMap_append]
  cases Rot.isMarked r (rows[k]'hk) <;> simp
theorem extract_back (s : ByteArray) (y : Nat) (h : 0 < y) (hy : y ≤ s.size) : s.extract (y - 1) y = Sb [(s.data.toList[y - 1]?).getD 0] := by
  have hb := byte_at s (y - 1) (by omega)
  have := extract_one s (y - 1) (by omega)
  rw [show y - 1 + 1 = y by omega] at this
  rw [this, hb]

theorem cells_new (w : World) (l : List Value) (ty : Nat) (j : Nat) (hj : j < l.length) : (w.alloc (.cells l.toArray ty)).cell? ⟨w.heap.size, j, none⟩ = some (l[j]'hj) := by
  have := cell_of_row (w.alloc (.cells l.toArray ty)) w.heap.size j _ _ _ (heap_alloc_new _ _)
  rw [this]
  simp [hj]
/-- Behind k rows. -/
def SecV (w1 : World) (s : ByteArray) (rows : List Nat) (r : Nat) (la co ma pl i : Value) (wr : World) : Prop := ∃ k : Nat, k ≤ rows.length ∧ i = .int .i64 (k : Int) ∧ la = .string (Sb (lastTo rows k)) ∧ co = .string (Sb (Rot.columnOf s.data.toList (rows.take k))) ∧ pl = .string (Sb (Rot.placesOf (rows.take k) r)) ∧ Bo wr w1.heap.size ma ((rows.take k).map (Rot.isMarked r)) ∧ w1.grownBy wr none
theorem SecV.mk {w1 : World} {s : ByteArray} {rows : List Nat} {r : Nat} {la co ma pl i : Value} {wr : World} (k : Nat) (h1 : k ≤ rows.length) (h2 : i = .int .i64 (k : Int)) (h3 : la = .string (Sb (lastTo rows k))) (h4 : co = .string (Sb (Rot.columnOf s.data.toList (rows.take k)))) (h5 : pl = .string (Sb (Rot.placesOf (rows.take k) r))) (h6 : Bo wr w1.heap.size ma ((rows.take k).map (Rot.isMarked r))) (h7 : w1.grownBy wr none) : SecV w1 s rows r la co ma pl i wr := ⟨k, h1, h2, h3, h4, h5, h6, h7⟩
/-- Behind k levels. -/
def TreeV (w2 : World) (col : List UInt8) (co tr va : Value) (wr : World) : Prop := ∃ k v : Nat, k ≤ 8 ∧ (v = 2 ^ (7 - k) ∧ k < 8 ∨ v = 0 ∧ k = 8) ∧ va = .int .i64 (v : Int) ∧ co = .string (Sb (Rot.treeTo col k).2) ∧ tr = .string (Sb (Rot.treeTo col k).1) ∧ w2.grownBy wr none
theorem TreeV.mk {w2 : World} {col : List UInt8} {co tr va : Value} {wr : World} (k v : Nat) (h1 : k ≤ 8) (h2 : v = 2 ^ (7 - k) ∧ k < 8 ∨ v = 0 ∧ k = 8) (h3 : va = .int .i64 (v : Int)) (h4 : co = .string (Sb (Rot.treeTo col k).2)) (h5 : tr = .string (Sb (Rot.treeTo col k).1)) (h6 : w2.grownBy wr none) : TreeV w2 col co tr va wr := ⟨k, v, h1, h2, h3, h4, h5, h6⟩

set_option maxRecDepth 100000 in
set_option maxHeartbeats 2000000 in
theorem rsections_any (s : ByteArray) (r : Nat) (w : World) (hs : s.size ≤ 250) (hr1 : 1 ≤ r) (hr2 : r ≤ 8) :
    Calls Tryz.prog 70 #[.string s, .int .i64 r] w fun e w' => ∃ rows g, e = .returned (.slice (some ⟨g, 0, none⟩) 5 5) ∧ Rot.IsRows s.data.toList rows ∧ (∀ j (hj : j < (Rot.sectionsOf s.data.toList rows r).length), w'.cell? ⟨g, j, none⟩ = some (.string (Sb ((Rot.sectionsOf s.data.toList rows r)[j]'hj)))) ∧ w.grownBy w' none := by
  have hsl : s.data.toList.length = s.size := by simp
  have hr0 : ((r : Int) == 0) = false := by simp; omega
  go_enter Tryz.func70, Tryz.ntmps70
  go_wp2_with fail
  refine (rrows_any s _ hs).mono ?_
  rintro e w1 ⟨g, cap, rows, rfl, hR, hrl, I, G1⟩
  have hle : ∀ x ∈ rows, x ≤ s.size := fun x hx => by have := rows_lt hR x hx; omega
  have HL := hide hle
  have HR := hide hR
  have HI := hide I
  have HG1 := hide G1
  have HN := hide (Rot.rows_nodup hR)
  have H0 := hide (rows_zero hR)
  have hrl2 : rows.length ≤ 251 := by omega
  rw [← hrl]
  rw [← hrl] at HI
  clear hle hR I G1 hrl
  go_wp2_with fail
  go_loopw [6, 7, 8, 9, 10] (fun la co ma pl i wr => SecV w1 s rows r la co ma pl i wr) (fun _ _ _ _ i _ => rows.length - (intOf i).toNat)
  case atStart => exact SecV.mk 0 (Nat.zero_le _) rfl (by unfold lastTo; rw [if_neg (Nat.not_lt_zero _)]; rfl) rfl rfl (World.ownsRow_nil _ _ _ _) (World.grownBy.refl _ _)
  case round =>
    obtain ⟨k, hk, rfl, rfl, rfl, rfl, M, G⟩ := hrel
    have z1 : (Sb (lastTo rows k)).size ≤ 1000 := Sb_le (by have := lastTo_len rows k; omega)
    have z2 : (Sb (Rot.columnOf s.data.toList (rows.take k))).size ≤ 1000 := Sb_le (by have := column_len s.data.toList (rows.take k); rw [List.length_take] at this; omega)
    have z3 : (Sb (Rot.placesOf (rows.take k) r)).size ≤ 1000 := Sb_le (by
      rw [places_len]
      have := List.length_filter_le (Rot.isMarked r) (rows.take k)
      rw [List.length_take] at this
      omega)
    by_cases hlt : k < rows.length
    · have hck := Is.cell (ownsRow_kept0 (unhide HI) G) k hlt
      have hx : rows[k]'hlt ≤ s.size := unhide HL _ (List.getElem_mem hlt)
      have hsz := G.size
      have HF := hide (map_snoc (Rot.isMarked r) rows k hlt)
      have HP := hide (places_snoc rows r k hlt)
      have HCo := hide (column_snoc s.data.toList rows k hlt)
      by_cases hy : rows[k]'hlt = 0
      · have HLa := hide (lastTo_yes (unhide HN) k hlt hy)
        rw [if_neg (by omega), List.append_nil] at HCo
        have hl1 : ((rows.take k).map (Rot.isMarked r)).length < 1000000 := by rw [List.length_map, List.length_take]; omega
        generalize hyy : rows[k]'hlt = y at hck hx HF HP hy
        have HY := hide hyy
        clear hyy HCo
        have HCo := hide (show Rot.columnOf s.data.toList (rows.take (k + 1)) = Rot.columnOf s.data.toList (rows.take k) by rw [column_snoc _ _ _ hlt, unhide HY, hy]; simp)
        have hb : Rot.isMarked r y = true := by rw [hy]; simp [Rot.isMarked]
        rw [hb, if_pos rfl] at HP
        have HB := hide hb
        have hyi : ((y : Int) == 0) = true := by simp; omega
        have hmod : ((y : Int) % (r : Int) == 0) = true := by rw [hy]; simp
        clear hb
        have HM0 := hide M
        have HG0 := hide G
        clear M G
        go_wp2_with fail
        refine (two_any k _ (by omega)).mono ?_
        rintro e w2 ⟨rfl, g2⟩
        have HM : Hid (Bo w2 w1.heap.size u8 ((rows.take k).map (Rot.isMarked r))) := ownsRow_kept0 (unhide HM0) g2
        have HG := hide (grown_trans (unhide HG0) g2 (Or.inl rfl))
        have hsz := (unhide HG).size
        have hck := Is.cell (ownsRow_kept0 (unhide HI) (unhide HG)) k hlt
        rw [unhide HY] at hck
        clear g2 HM0 HG0
        go_wp2_with (at_builtin; refine wp_appBo _ rfl (.tmp 43) (.tmp 51) rfl w1.heap.size _ ((rows.take k).map (Rot.isMarked r)) rfl w2 true rfl rfl (unhide HM) hl1 hsz ?_)
        intro v1 w3 L1 g1
        have HG3 := hide (Bo.fresh (w := w1) (wr := w2) (unhide HM) (unhide HG) g1)
        have HL3 : Hid (Bo w3 w1.heap.size v1 ((rows.take (k + 1)).map (Rot.isMarked r))) := by
          rw [unhide HF, unhide HB]
          try rw [← List.map_take] at L1
          exact L1
        have hck3 := Is.cell (ownsRow_kept0 (unhide HI) (unhide HG3)) k hlt
        rw [unhide HY] at hck3
        clear L1 g1
        go_wp2_with fail
        refine (two_any 0 _ (by omega)).mono ?_
        rintro e w4 ⟨rfl, g4⟩
        have HL4 : Hid (Bo w4 w1.heap.size v1 ((rows.take (k + 1)).map (Rot.isMarked r))) := ownsRow_kept0 (unhide HL3) g4
        have HG4 := hide (grown_trans (unhide HG3) g4 (Or.inl rfl))
        have z4 := Sb_two 0
        have HA := hide (Sb_append (Rot.placesOf (rows.take k) r) (Rot.le16 0))
        clear g4
        go_wp2_with fail
        go_roundw
        case rel =>
          first | exact SecV.mk (k + 1) (by omega) (by go_num) (by rw [unhide HLa]) (by rw [unhide HCo]) (by rw [unhide HP, hy, ← unhide HA]) (unhide HL4) (unhide HG4) | (repeat apply Exists.intro; refine ⟨?_, rfl⟩; exact SecV.mk (k + 1) (by omega) (by go_num) (by rw [unhide HLa]) (by rw [unhide HCo]) (by rw [unhide HP, hy, ← unhide HA]) (unhide HL4) (unhide HG4))
        case measure => simp [intOf]; omega
      · have HLa := hide (lastTo_no k hlt hy)
        have hy0 : 0 < rows[k]'hlt := by omega
        rw [if_pos hy0] at HCo
        have HE := hide (extract_back s _ hy0 hx)
        have hl1 : ((rows.take k).map (Rot.isMarked r)).length < 1000000 := by rw [List.length_map, List.length_take]; omega
        generalize hyy : rows[k]'hlt = y at hck hx HF HP HCo HE hy0 hy
        have hyi : ((y : Int) == 0) = false := by simp; omega
        have HY := hide hyy
        clear hyy
        have HM := hide M
        have HG := hide G
        clear M G
        have HC2 := hide (Sb_append (Rot.columnOf s.data.toList (rows.take k)) [(s.data.toList[y - 1]?).getD 0])
        cases hb : Rot.isMarked r y with
        | false =>
          have hmod : ((y : Int) % (r : Int) == 0) = false := by
            unfold Rot.isMarked at hb
            simp at hb
            simp
            omega
          rw [hb] at HP
          simp only [Bool.false_eq_true, if_false, List.append_nil] at HP
          have HB := hide hb
          clear hb
          go_wp2_with fail
          go_quiet (fail)
          go_wp2_with (at_builtin; refine wp_appBo _ rfl (.tmp 43) (.tmp 51) rfl w1.heap.size _ ((rows.take k).map (Rot.isMarked r)) rfl (wr.drewN nq) false rfl rfl (unhide HM) hl1 hsz ?_)
          intro v1 w3 L1 g1
          have HG3 := hide (Bo.fresh (w := w1) (wr := (wr.drewN nq)) (unhide HM) (grown_drewN (unhide HG) nq) g1)
          have HL3 : Hid (Bo w3 w1.heap.size v1 ((rows.take (k + 1)).map (Rot.isMarked r))) := by
            rw [unhide HF, unhide HB]
            try rw [← List.map_take] at L1
            exact L1
          have hck3 := Is.cell (ownsRow_kept0 (unhide HI) (unhide HG3)) k hlt
          rw [unhide HY] at hck3
          clear L1 g1
          have HL4 := HL3
          have HG4 := HG3
          go_wp2_with fail
          go_roundw
          case rel =>
            first | exact SecV.mk (k + 1) (by omega) (by go_num) (by rw [unhide HLa]) (by rw [unhide HCo, ← unhide HC2, ← unhide HE]) (by rw [unhide HP]) (unhide HL4) (unhide HG4) | (repeat apply Exists.intro; refine ⟨?_, rfl⟩; exact SecV.mk (k + 1) (by omega) (by go_num) (by rw [unhide HLa]) (by rw [unhide HCo, ← unhide HC2, ← unhide HE]) (by rw [unhide HP]) (unhide HL4) (unhide HG4))
          case measure => simp [intOf]; omega
        | true =>
          have hmod : ((y : Int) % (r : Int) == 0) = true := by
            unfold Rot.isMarked at hb
            simp at hb
            simp
            omega
          rw [hb, if_pos rfl] at HP
          have HB := hide hb
          clear hb
          go_wp2_with fail
          go_quiet (fail)
          go_wp2_with (at_builtin; refine wp_appBo _ rfl (.tmp 43) (.tmp 51) rfl w1.heap.size _ ((rows.take k).map (Rot.isMarked r)) rfl (wr.drewN nq) true rfl rfl (unhide HM) hl1 hsz ?_)
          intro v1 w3 L1 g1
          have HG3 := hide (Bo.fresh (w := w1) (wr := (wr.drewN nq)) (unhide HM) (grown_drewN (unhide HG) nq) g1)
          have HL3 : Hid (Bo w3 w1.heap.size v1 ((rows.take (k + 1)).map (Rot.isMarked r))) := by
            rw [unhide HF, unhide HB]
            try rw [← List.map_take] at L1
            exact L1
          have hck3 := Is.cell (ownsRow_kept0 (unhide HI) (unhide HG3)) k hlt
          rw [unhide HY] at hck3
          clear L1 g1
          go_wp2_with fail
          refine (two_any y _ (by omega)).mono ?_
          rintro e w4 ⟨rfl, g4⟩
          have HL4 : Hid (Bo w4 w1.heap.size v1 ((rows.take (k + 1)).map (Rot.isMarked r))) := ownsRow_kept0 (unhide HL3) g4
          have HG4 := hide (grown_trans (unhide HG3) g4 (Or.inl rfl))
          have z4 := Sb_two y
          have HA := hide (Sb_append (Rot.placesOf (rows.take k) r) (Rot.le16 y))
          clear g4
          go_wp2_with fail
          go_roundw
          case rel =>
            first | exact SecV.mk (k + 1) (by omega) (by go_num) (by rw [unhide HLa]) (by rw [unhide HCo, ← unhide HC2, ← unhide HE]) (by rw [unhide HP, ← unhide HA]) (unhide HL4) (unhide HG4) | (repeat apply Exists.intro; refine ⟨?_, rfl⟩; exact SecV.mk (k + 1) (by omega) (by go_num) (by rw [unhide HLa]) (by rw [unhide HCo, ← unhide HC2, ← unhide HE]) (by rw [unhide HP, ← unhide HA]) (unhide HL4) (unhide HG4))
          case measure => simp [intOf]; omega
    · have ek : k = rows.length := by omega
      subst ek
      rw [List.take_length] at M z2 z3 ⊢
      have hlast := lastTo_end (unhide H0)
      rw [hlast] at z1 ⊢
      have HM : Hid (Bo wr w1.heap.size u8 (rows.map (Rot.isMarked r))) := M
      have HG := hide G
      have hcl : (Rot.columnOf s.data.toList rows).length ≤ 250 := by rw [column_length (unhide HR)]; omega
      clear M G hlast
      obtain ⟨la, hla⟩ : ∃ la, la = Rot.lastOf rows := ⟨_, rfl⟩
      obtain ⟨pl, hpl⟩ : ∃ pl, pl = Rot.placesOf rows r := ⟨_, rfl⟩
      obtain ⟨col, hcol⟩ : ∃ col, col = Rot.columnOf s.data.toList rows := ⟨_, rfl⟩
      rw [← hla] at z1 ⊢
      rw [← hpl] at z3 ⊢
      rw [← hcol] at z2 hcl ⊢
      have HLa := hide hla
      have HPl := hide hpl
      have HCol := hide hcol
      clear hla hpl hcol
      obtain ⟨wo, hwo⟩ : ∃ wo : World, wo = wr := ⟨_, rfl⟩
      rw [← hwo] at HM HG ⊢
      clear hwo
      go_wp2_with fail
      go_loopw [7, 11, 12] (fun co tr va wi => TreeV wo col co tr va wi) (fun _ _ va _ => (intOf va).toNat)
      case atStart => exact TreeV.mk 0 128 (Nat.zero_le _) (Or.inl ⟨rfl, by omega⟩) rfl rfl rfl (World.grownBy.refl _ _)
      case round =>
        obtain ⟨k, v, hk, hv, rfl, rfl, rfl, G⟩ := hrel
        obtain ⟨l1, l2⟩ := tree_len col k
        have ht1 : (Rot.treeTo col k).1.length ≤ 40000 := by
          rw [l2]
          have hc : 2 + (col.length + 7) / 8 + 2 * ((col.length + 15) / 16) ≤ 100 := by omega
          exact Nat.le_trans (Nat.mul_le_mul hk hc) (by decide)
        have ht2 : (Rot.treeTo col k).2.length ≤ 250 := by rw [l1]; exact hcl
        clear l1 l2
        rcases hv with ⟨hv, hk8⟩ | ⟨rfl, rfl⟩
        · have HN2 : Hid (Rot.treeTo col (k + 1) = ((Rot.treeTo col k).1 ++ Rot.levelOf (UInt8.ofNat (2 ^ (7 - k))) (Rot.treeTo col k).2, Rot.nextOf (UInt8.ofNat (2 ^ (7 - k))) (Rot.treeTo col k).2)) := rfl
          generalize (Rot.treeTo col k).1 = T at ht1 HN2 ⊢
          generalize (Rot.treeTo col k).2 = cc at ht2 HN2 ⊢
          have hlv := fun w' => rlevel_any (Sb cc) (7 - k) v (UInt8.ofNat (2 ^ (7 - k))) w' (by omega) hv (by rw [hv]) (by rw [Sb_size]; exact ht2)
          rw [Sb_toList] at hlv
          have HLV := hide hlv
          have hvn : (v / 2 = 2 ^ (7 - (k + 1)) ∧ k + 1 < 8 ∨ v / 2 = 0 ∧ k + 1 = 8) := by
            by_cases h7 : k = 7
            · subst h7
              right
              exact ⟨by rw [hv], rfl⟩
            · left
              refine ⟨?_, by omega⟩
              rw [hv, show 7 - k = (7 - (k + 1)) + 1 by omega, Nat.pow_succ]
              omega
          have HVN := hide hvn
          have hv1 : 1 ≤ v := by rw [hv]; exact Nat.two_pow_pos _
          have hv2 : v ≤ 128 := by
            have h8 : 2 ^ (7 - k) ≤ 2 ^ 7 := Nat.pow_le_pow_right (by decide) (by omega)
            rw [hv]; exact h8
          have HG2 := hide G
          have hz1 : (Sb T).size ≤ 40000 := Sb_le ht1
          have hz2 : (Sb cc).size ≤ 250 := Sb_le ht2
          generalize hm : UInt8.ofNat (2 ^ (7 - k)) = m at HLV HN2
          have hz3 : (Sb (Rot.levelOf m cc)).size ≤ 1000 := Sb_le (by rw [level_len]; omega)
          have hz4 : (Sb (Rot.nextOf m cc)).size ≤ 1000 := Sb_le (by rw [next_len]; omega)
          have HA := hide (Sb_append T (Rot.levelOf m cc))
          clear hm hlv hvn hv G
          go_wp2_with fail
          refine (unhide HLV _).mono ?_
          rintro e w2 ⟨rfl, g2⟩
          have HG3 := hide (grown_trans (unhide HG2) g2 (Or.inl rfl))
          clear g2 HLV HG2
          go_wp2_with fail
          go_roundw
          case rel =>
            have q1 : Value.string (Sb (Rot.nextOf m cc)) = .string (Sb (Rot.treeTo col (k + 1)).2) := by rw [unhide HN2]
            have q2 : Value.string (Sb T ++ Sb (Rot.levelOf m cc)) = .string (Sb (Rot.treeTo col (k + 1)).1) := by rw [unhide HN2, unhide HA]
            first | exact TreeV.mk (k + 1) (v / 2) (by omega) (unhide HVN) (by go_num) q1 q2 (unhide HG3) | (repeat apply Exists.intro; refine ⟨?_, rfl⟩; exact TreeV.mk (k + 1) (v / 2) (by omega) (unhide HVN) (by go_num) q1 q2 (unhide HG3))
          case measure => simp [intOf]; omega
        · have HT : Hid (Rot.treeOf col = (Rot.treeTo col 8).1) := rfl
          generalize (Rot.treeTo col 8).1 = T at ht1 HT ⊢
          generalize (Rot.treeTo col 8).2 = cc at ht2 ⊢
          have HM2 : Hid (Bo wr w1.heap.size u8 (rows.map (Rot.isMarked r))) := ownsRow_kept0 (unhide HM) G
          have HG2 := hide (grown_trans (unhide HG) G (Or.inl rfl))
          clear G HM HG
          go_wp2_with fail
          refine (rfirst_any s _ hs).mono ?_
          rintro e w2 ⟨rfl, g2⟩
          have HM3 : Hid (Bo w2 w1.heap.size u8 (rows.map (Rot.isMarked r))) := ownsRow_kept0 (unhide HM2) g2
          have HG3 := hide (grown_trans (unhide HG2) g2 (Or.inl rfl))
          clear g2 HM2 HG2
          go_wp2_with fail
          refine (rbits_any w1.heap.size _ _ _ (unhide HM3) (by rw [List.length_map]; omega)).mono ?_
          rintro e w3 ⟨rfl, g3⟩
          have HG4 := hide (grown_trans (unhide HG3) g3 (Or.inl rfl))
          clear g3 HM3 HG3
          go_wp2_with fail
          go_ret
          refine ⟨rows, w3.heap.size, rfl, unhide HR, ?_, grown_alloc (grown_trans (unhide HG1) (unhide HG4) (Or.inl rfl)) _⟩
          have eS : Rot.sectionsOf s.data.toList rows r = [la, T, Rot.firstOf s.data.toList, Rot.bitsOf (rows.map (Rot.isMarked r)), pl] := by
            rw [unhide HLa, unhide HPl, ← unhide HT, unhide HCol]
            rfl
          intro j hj
          have hj2 := hj
          rw [eS] at hj2
          simp only [eS]
          rw [cells_new w3 [.string (Sb la), .string (Sb T), .string (Sb (Rot.firstOf s.data.toList)), .string (Sb (Rot.bitsOf (rows.map (Rot.isMarked r)))), .string (Sb pl)] 9 j hj2]
          have := List.getElem_map (fun l => Value.string (Sb l)) (l := [la, T, Rot.firstOf s.data.toList, Rot.bitsOf (rows.map (Rot.isMarked r)), pl]) (i := j) (h := hj2)
          exact congrArg some this
end Go.Proofs.YthlincikgdblfaaGreat
