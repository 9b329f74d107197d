import Derived.Test.YthlincikgdblfaaGreatZ16
import Derived.Test.YthlincikgdblfaaGreatZ17
import Derived.Test.YthlincikgdblfaaGreatZ10
import Derived.Test.YthlincikgdblfaaGreatZ08
import Derived.Test.YthlincikgdblfaaGreatZ09
import Derived.Test.YthlincikgdblfaaGreatZ11
namespace Go.Proofs.YthlincikgdblfaaGreat
set_option linter.unusedVariables false
open Go.RowKit

/-- Behind j bytes of the column. -/
def ColV (w : World) (s : List UInt8) (at' n : Nat) (o j : Value) (wr : World) : Prop := ∃ q : Nat, q ≤ n ∧ j = .int .i64 (q : Int) ∧ o = .string (Sb ((Rot.colRead s at' n).take q)) ∧ w.grownBy wr none
theorem ColV.mk {w : World} {s : List UInt8} {at' n : Nat} {o j : Value} {wr : World} (q : Nat) (h1 : q ≤ n) (h2 : j = .int .i64 (q : Int)) (h3 : o = .string (Sb ((Rot.colRead s at' n).take q))) (h4 : w.grownBy wr none) : ColV w s at' n o j wr := ⟨q, h1, h2, h3, h4⟩
/-- Behind l levels. -/
def LvV (s : List UInt8) (at' n j : Nat) (c k l : Value) : Prop := ∃ q cv kv : Nat, q ≤ 8 ∧ l = .int .i64 (q : Int) ∧ c = .int .i64 (cv : Int) ∧ k = .int .i64 (kv : Int) ∧ cv ≤ 255 ∧ kv < n ∧ Hid (cv = Rot.code s at' n j q ∧ kv = Rot.posn s at' n j q)
theorem LvV.mk {s : List UInt8} {at' n j : Nat} {c k l : Value} (q cv kv : Nat) (h1 : q ≤ 8) (h2 : l = .int .i64 (q : Int)) (h3 : c = .int .i64 (cv : Int)) (h4 : k = .int .i64 (kv : Int)) (h5 : cv ≤ 255) (h6 : kv < n) (h7 : cv = Rot.code s at' n j q) (h8 : kv = Rot.posn s at' n j q) : LvV s at' n j c k l := ⟨q, cv, kv, h1, h2, h3, h4, h5, h6, h7, h8⟩
/-- Behind i bits. -/
def BiV (s : List UInt8) (f n k : Nat) (z a i : Value) : Prop := ∃ q zv av : Nat, q ≤ n ∧ i = .int .i64 (q : Int) ∧ z = .int .i64 (zv : Int) ∧ a = .int .i64 (av : Int) ∧ zv ≤ q ∧ av ≤ q ∧ Hid (zv = Rot.zs s f q ∧ av = Rot.zs s f (min q k))
theorem BiV.mk {s : List UInt8} {f n k : Nat} {z a i : Value} (q zv av : Nat) (h1 : q ≤ n) (h2 : i = .int .i64 (q : Int)) (h3 : z = .int .i64 (zv : Int)) (h4 : a = .int .i64 (av : Int)) (h5 : zv ≤ q) (h6 : av ≤ q) (h7 : zv = Rot.zs s f q) (h8 : av = Rot.zs s f (min q k)) : BiV s f n k z a i := ⟨q, zv, av, h1, h2, h3, h4, h5, h6, h7, h8⟩

set_option maxRecDepth 100000 in
set_option maxHeartbeats 2000000 in
theorem rcolumn_any (s : ByteArray) (at' n W : Nat) (w : World) (hW : W = 2 + (n + 7) / 8 + 2 * ((n + 15) / 16)) (hn : n ≤ 250) (hs : s.size ≤ 4000) (hlen : at' + 8 * W ≤ s.size) :
    Calls Tryz.prog 143 #[.string s, .int .i64 at', .int .i64 n] w fun e w' => e = .returned (.string (Sb (Rot.colRead s.data.toList at' n))) ∧ w.grownBy w' none := by
  have hcl : (Rot.colRead s.data.toList at' n).length = n := by simp [Rot.colRead]
  have hWi : (2 + ((n : Int) + 7) / 8 + 2 * (((n : Int) + 15) / 16)) = (W : Int) := by omega
  have hW2 : W ≤ 100 := by omega
  have hn8 : (n + 7) / 8 + 2 ≤ W := by omega
  have HW := hide hW
  clear hW
  go_enter Tryz.func143, Tryz.ntmps143
  go_wp2_with fail
  go_loopw [8, 9] (fun o j wr => ColV w s.data.toList at' n o j wr) (fun _ j _ => n - (intOf j).toNat)
  case atStart => exact ColV.mk 0 (Nat.zero_le _) rfl rfl (World.grownBy.refl _ _)
  case round =>
    obtain ⟨j, hj, rfl, rfl, G⟩ := hrel
    have zo : (Sb ((Rot.colRead s.data.toList at' n).take j)).size ≤ 250 := Sb_le (by rw [List.length_take]; omega)
    have HG := hide G
    clear G
    by_cases hjn : j < n
    · obtain ⟨wo, hwo⟩ : ∃ wo : World, wo = wr := ⟨_, rfl⟩
      rw [← hwo] at HG ⊢
      clear hwo
      go_wp2_with fail
      go_loop [10, 11, 12] (fun c k l => LvV s.data.toList at' n j c k l) (fun _ _ l => 8 - (intOf l).toNat)
      case atStart => exact LvV.mk 0 0 j (Nat.zero_le _) rfl rfl rfl (by omega) hjn rfl rfl
      case round =>
        obtain ⟨l, c, k, hl, rfl, rfl, rfl, hc, hk, HL⟩ := hrel
        by_cases hl8 : l < 8
        · obtain ⟨M, hM⟩ : ∃ M : Nat, M = l * W := ⟨_, rfl⟩
          have hMi : (l : Int) * (W : Int) = (M : Int) := by rw [hM]; simp
          have hM2 : M + W ≤ 8 * W := by
            have := Nat.mul_le_mul_right W (show l + 1 ≤ 8 by omega)
            rw [Nat.succ_mul] at this
            omega
          obtain ⟨F, hF⟩ : ∃ F : Nat, F = at' + M + 2 := ⟨_, rfl⟩
          have hFi : (at' : Int) + (M : Int) + 2 = (F : Int) := by omega
          have hF2 : F + (n + 7) / 8 ≤ s.size := by omega
          have HM := hide hM
          have HFq := hide hF
          clear hM hF
          have hbit := fun (q : Nat) (hq : q < n) (w' : World) => rbit_any s F q w' (by omega) hs
          have HBIT := hide hbit
          clear hbit
          go_wp2_with fail
          go_loop [14, 15, 16] (fun z a i => BiV s.data.toList F n k z a i) (fun _ _ i => n - (intOf i).toNat)
          case atStart => exact BiV.mk 0 0 0 (Nat.zero_le _) rfl rfl rfl (by omega) (by omega) rfl rfl
          case round =>
            obtain ⟨q, z, a, hq, rfl, rfl, rfl, hz, ha, HZ⟩ := hrel
            by_cases hqn : q < n
            · have hb2 := Rot.bitAt_lt s.data.toList F q
              have HZ2 : Hid (∀ b, b = Rot.bitAt s.data.toList F q → z + 1 - b = Rot.zs s.data.toList F (q + 1) ∧ (q < k → a + 1 - b = Rot.zs s.data.toList F (min (q + 1) k)) ∧ (¬ q < k → a = Rot.zs s.data.toList F (min (q + 1) k))) := by
                intro b hb
                obtain ⟨e1, e2⟩ := unhide HZ
                refine ⟨?_, ?_, ?_⟩
                · simp only [Rot.zs]; omega
                · intro hqk
                  rw [show min (q + 1) k = q + 1 by omega]
                  rw [show min q k = q by omega] at e2
                  simp only [Rot.zs]; omega
                · intro hqk
                  rw [e2, show min (q + 1) k = k by omega, show min q k = k by omega]
              go_wp2_with fail
              refine (unhide HBIT q hqn _).mono ?_
              generalize hbq : Rot.bitAt s.data.toList F q = b at hb2 HZ2 ⊢
              have HBQ := hide hbq
              clear hbq
              rintro e w1 ⟨rfl, hw1⟩
              subst hw1
              by_cases hqk : q < k
              · go_wp2_with fail
                go_round
                case rel =>
                  obtain ⟨f1, f2, f3⟩ := unhide HZ2 b rfl
                  exact BiV.mk (q + 1) (z + 1 - b) (a + 1 - b) (by omega) (by go_num) (by go_num) (by go_num) (by omega) (by omega) f1 (f2 hqk)
                case measure => simp [intOf]; omega
              · go_wp2_with fail
                go_round
                case rel =>
                  obtain ⟨f1, f2, f3⟩ := unhide HZ2 b rfl
                  exact BiV.mk (q + 1) (z + 1 - b) a (by omega) (by go_num) (by go_num) rfl (by omega) (by omega) f1 (f3 hqk)
                case measure => simp [intOf]; omega
            · have eq : q = n := by omega
              subst eq
              have hb2 := Rot.bitAt_lt s.data.toList F k
              have HS : Hid (∀ b, b = Rot.bitAt s.data.toList F k → 2 * c + b = Rot.code s.data.toList at' q j (l + 1) ∧ 2 * c + b ≤ 255 ∧ (b = 0 → a = Rot.posn s.data.toList at' q j (l + 1)) ∧ (¬ b = 0 → z + k - a = Rot.posn s.data.toList at' q j (l + 1))) := by
                intro b hb
                obtain ⟨e1, e2⟩ := unhide HZ
                obtain ⟨e3, e4⟩ := unhide HL
                have hFe : at' + l * (2 + (q + 7) / 8 + 2 * ((q + 15) / 16)) + 2 = F := by rw [unhide HFq, unhide HM, unhide HW]
                have ecode : Rot.code s.data.toList at' q j (l + 1) = 2 * c + b := by
                  simp only [Rot.code]
                  rw [hFe, ← e3, ← e4, hb]
                have epos : Rot.posn s.data.toList at' q j (l + 1) = Rot.nxt s.data.toList F q k := by
                  simp only [Rot.posn]
                  rw [hFe, ← e4]
                have hcl8 := Rot.code_lt s.data.toList at' q j (l + 1)
                have hp8 : 2 ^ (l + 1) ≤ 2 ^ 8 := Nat.pow_le_pow_right (by decide) (by omega)
                rw [show min q k = k by omega] at e2
                refine ⟨ecode.symm, by rw [ecode] at hcl8; omega, ?_, ?_⟩
                · intro hb0
                  rw [epos]; unfold Rot.nxt
                  rw [if_pos (by omega)]; exact e2
                · intro hb0
                  rw [epos]; unfold Rot.nxt
                  rw [if_neg (by omega), e1, e2]
              have hak : a ≤ k ∧ z ≤ q := by
                obtain ⟨e1, e2⟩ := unhide HZ
                rw [show min q k = k by omega] at e2
                have := Rot.zs_le s.data.toList F k
                omega
              have HPL := hide (Rot.posn_lt s.data.toList at' q j hjn (l + 1))
              obtain ⟨hak, hzq⟩ := hak
              go_wp2_with fail
              refine (unhide HBIT k hk _).mono ?_
              generalize hbq : Rot.bitAt s.data.toList F k = b at hb2 HS ⊢
              clear hbq
              rintro e w1 ⟨rfl, hw1⟩
              subst hw1
              by_cases hb0 : b = 0
              · have hbb : ((b : Int) == 0) = true := by simp; omega
                go_wp2_with fail
                go_round
                case rel =>
                  obtain ⟨f1, f2, f3, f4⟩ := unhide HS b rfl
                  have hpl := unhide HPL
                  rw [← f3 hb0] at hpl
                  exact LvV.mk (l + 1) (2 * c + b) a (by omega) (by go_num) (by go_num) rfl f2 hpl f1 (f3 hb0)
                case measure => simp [intOf]; omega
              · have hbb : ((b : Int) == 0) = false := by simp; omega
                go_wp2_with fail
                go_round
                case rel =>
                  obtain ⟨f1, f2, f3, f4⟩ := unhide HS b rfl
                  have hpl := unhide HPL
                  rw [← f4 hb0] at hpl
                  exact LvV.mk (l + 1) (2 * c + b) (z + k - a) (by omega) (by go_num) (by go_num) (by go_num) f2 hpl f1 (f4 hb0)
                case measure => simp [intOf]; omega
        · have el : l = 8 := by omega
          subst el
          have HC : Hid ((Rot.colRead s.data.toList at' n).take (j + 1) = (Rot.colRead s.data.toList at' n).take j ++ [UInt8.ofNat c]) := by
            refine hide ?_
            rw [List.take_succ_eq_append_getElem (by omega)]
            congr 2
            simp only [Rot.colRead, List.getElem_map, List.getElem_range]
            rw [← (unhide HL).1]
          have hcv := conv_one (c : Int) (UInt8.ofNat c) (by have : (UInt8.ofNat c).toNat = c := by simp; omega
                                                             rw [this])
          have HA := hide (Sb_append ((Rot.colRead s.data.toList at' n).take j) [UInt8.ofNat c])
          have z3 : (Sb [UInt8.ofNat c]).size ≤ 1 := Sb_le (by simp)
          go_wp2_with fail
          go_roundw
          case rel =>
            have q1 : Value.string (Sb ((Rot.colRead s.data.toList at' n).take j) ++ Sb [UInt8.ofNat c]) = .string (Sb ((Rot.colRead s.data.toList at' n).take (j + 1))) := by rw [unhide HC, unhide HA]
            first | exact ColV.mk (j + 1) (by omega) (by go_num) q1 (grown_alloc (unhide HG) _) | (repeat apply Exists.intro; refine ⟨?_, rfl⟩; exact ColV.mk (j + 1) (by omega) (by go_num) q1 (grown_alloc (unhide HG) _))
          case measure => simp [intOf]; omega
    · have e : (Rot.colRead s.data.toList at' n).take j = Rot.colRead s.data.toList at' n := List.take_of_length_le (by omega)
      rw [e] at zo ⊢
      clear e
      go_wp2_with fail
      go_ret
      exact ⟨rfl, unhide HG⟩
end Go.Proofs.YthlincikgdblfaaGreat

namespace Go.Proofs.YthlincikgdblfaaGreat
set_option linter.unusedVariables false
namespace Rot
def lowerTo (col : List UInt8) (j q : Nat) : Nat := (List.range q).countP fun k => ahead col k j
theorem lowerTo_succ (col : List UInt8) (j q : Nat) : lowerTo col j (q + 1) = lowerTo col j q + if ahead col q j = true then 1 else 0 := by
  unfold lowerTo
  rw [List.range_succ, List.countP_append]
  simp [List.countP_cons]
theorem lowerTo_le (col : List UInt8) (j q : Nat) : lowerTo col j q ≤ q := by
  unfold lowerTo
  have := List.countP_le_length (p := fun k => ahead col k j) (l := List.range q)
  simpa using this
end Rot
open Go.RowKit
theorem at_byte (s : ByteArray) (k : Nat) (hk : k < s.size) : Rot.at' s.data.toList k = s[k]'hk := byte_at s k hk

/-- Behind k steps. -/
def TxV (w : World) (col : List UInt8) (last : Nat) (t row : Value) (wr : World) : Prop := ∃ k r : Nat, k ≤ col.length ∧ t = .string (Sb (Rot.spell col last k)) ∧ row = .int .i64 (r : Int) ∧ r ≤ col.length ∧ Hid (r = Rot.walk col last k ∧ ∀ j, j < k → Rot.walk col last j ≠ last) ∧ w.grownBy wr none
theorem TxV.mk {w : World} {col : List UInt8} {last : Nat} {t row : Value} {wr : World} (k r : Nat) (h1 : k ≤ col.length) (h2 : t = .string (Sb (Rot.spell col last k))) (h3 : row = .int .i64 (r : Int)) (h4 : r ≤ col.length) (h5 : r = Rot.walk col last k) (h6 : ∀ j, j < k → Rot.walk col last j ≠ last) (h7 : w.grownBy wr none) : TxV w col last t row wr := ⟨k, r, h1, h2, h3, h4, ⟨h5, h6⟩, h7⟩
/-- Behind q places. -/
def LeV (w : World) (col : List UInt8) (j : Nat) (le k : Value) (wr : World) : Prop := ∃ q v m : Nat, q ≤ col.length ∧ k = .int .i64 (q : Int) ∧ le = .int .i64 (v : Int) ∧ v ≤ q + 1 ∧ Hid (v = 1 + Rot.lowerTo col j q) ∧ wr = w.drewN m
theorem LeV.mk {w : World} {col : List UInt8} {j : Nat} {le k : Value} {wr : World} (q v m : Nat) (h1 : q ≤ col.length) (h2 : k = .int .i64 (q : Int)) (h3 : le = .int .i64 (v : Int)) (h4 : v ≤ q + 1) (h5 : v = 1 + Rot.lowerTo col j q) (h6 : wr = w.drewN m) : LeV w col j le k wr := ⟨q, v, m, h1, h2, h3, h4, h5, h6⟩

set_option maxRecDepth 100000 in
set_option maxHeartbeats 2000000 in
theorem rtext_any (s : ByteArray) (last : Nat) (w : World) (hs : s.size ≤ 250) (hl : last ≤ 65535) :
    Calls Tryz.prog 142 #[.string s, .int .i64 last] w fun e w' => (∃ x, e = .returned (.tuple #[.string x, .bool false]) ∧ ¬ Rot.Whole s.data.toList last ∧ w.grownBy w' none) ∨ (e = .returned (.tuple #[.string (Sb (Rot.spell s.data.toList last s.size)), .bool true]) ∧ Rot.Whole s.data.toList last ∧ w.grownBy w' none) := by
  have hcl : s.data.toList.length = s.size := by simp
  by_cases hle : last ≤ s.size
  · have hd : decide ((s.size : Int) < (last : Int)) = false := by simp; omega
    go_enter Tryz.func142, Tryz.ntmps142
    go_wp2_with fail
    go_loopw [6, 7] (fun t row wr => TxV w s.data.toList last t row wr) (fun t _ _ => s.size - (match t with | .string x => x.size | _ => 0))
    case atStart => exact TxV.mk 0 0 (Nat.zero_le _) rfl rfl (Nat.zero_le _) rfl (fun j h => absurd h (Nat.not_lt_zero _)) (World.grownBy.refl _ _)
    case round =>
      obtain ⟨k, r, hk, rfl, rfl, hr, HR, G⟩ := hrel
      have zt : (Sb (Rot.spell s.data.toList last k)).size = k := by rw [Sb_size, Rot.spell_len]
      have HG := hide G
      clear G
      by_cases hkn : k < s.size
      · by_cases hrl : r = last
        · have hbe : ((r : Int) == (last : Int)) = true := by simp; omega
          have HX : Hid (¬ Rot.Whole s.data.toList last) := by
            intro H
            exact H.on k (by omega) (by rw [← (unhide HR).1]; exact hrl)
          go_wp2_with fail
          go_ret2
          left
          exact ⟨_, rfl, unhide HX, unhide HG⟩
        have hbe : ((r : Int) == (last : Int)) = false := by simp; omega
        obtain ⟨wo, hwo⟩ : ∃ wo : World, wo = wr := ⟨_, rfl⟩
        rw [← hwo] at HG ⊢
        clear hwo
        by_cases hrg : last < r
        · obtain ⟨J, hJe⟩ : ∃ J : Nat, J = r - 1 := ⟨_, rfl⟩
          have hJ : J < s.size := by omega
          have hJi : (r : Int) - 1 = (J : Int) := by omega
          have HJ : Hid (Rot.placeOf last r = J) := by
            refine hide ?_
            unfold Rot.placeOf
            rw [if_pos hrg]; exact hJe.symm
          have hdg : decide ((last : Int) < (r : Int)) = true := by simp; omega
          clear hJe
          go_wp2_with fail
          go_loopw [9, 10] (fun le k wi => LeV wo s.data.toList J le k wi) (fun _ k _ => s.size - (intOf k).toNat)
          case atStart => exact LeV.mk 0 1 0 (Nat.zero_le _) rfl rfl (by omega) rfl rfl
          case round =>
            obtain ⟨q, v, m, hq, rfl, rfl, hv, HV, rfl⟩ := hrel
            rw [hcl] at hq
            by_cases hqn : q < s.size
            · have hb1 := (s[q]'hqn).toNat_lt
              have hb2 := (s[J]'hJ).toNat_lt
              have i1 := idx_str s q hqn (q : Int) rfl
              have i2 := idx_str s J hJ (J : Int) rfl
              have hah : Rot.ahead s.data.toList q J = (decide ((s[q]'hqn).toNat < (s[J]'hJ).toNat) || (decide ((s[q]'hqn).toNat = (s[J]'hJ).toNat) && decide (q < J))) := by
                unfold Rot.ahead
                rw [at_byte s q hqn, at_byte s J hJ]
                congr 1
                congr 1
                rw [Bool.eq_iff_iff, beq_iff_eq, decide_eq_true_eq]
                exact UInt8.toNat_inj.symm
              have hsu := Rot.lowerTo_succ s.data.toList J q
              rw [hah] at hsu
              have HSU := hide hsu
              clear hah hsu
              generalize (s[q]'hqn).toNat = x at hb1 i1 HSU
              generalize (s[J]'hJ).toNat = y at hb2 i2 HSU
              by_cases c1 : x < y
              · have d1 : decide ((x : Int) < (y : Int)) = true := by simp; omega
                have HV2 : Hid (v + 1 = 1 + Rot.lowerTo s.data.toList J (q + 1)) := by
                  refine hide ?_
                  rw [unhide HSU, unhide HV]; simp [c1]; omega
                go_wp2_with fail
                go_quiet (fail)
                go_wp2_with fail
                go_roundw
                case rel =>
                  first | exact LeV.mk (q + 1) (v + 1) _ (by omega) (by go_num) (by go_num) (by omega) (unhide HV2) rfl | (repeat apply Exists.intro; refine ⟨?_, rfl⟩; exact LeV.mk (q + 1) (v + 1) _ (by omega) (by go_num) (by go_num) (by omega) (unhide HV2) rfl)
                case measure => simp [intOf]; omega
              · have d1 : decide ((x : Int) < (y : Int)) = false := by simp; omega
                by_cases c2 : x = y
                · have d2 : ((x : Int) == (y : Int)) = true := by simp; omega
                  by_cases c3 : q < J
                  · have d3 : decide ((q : Int) < (J : Int)) = true := by simp; omega
                    have HV2 : Hid (v + 1 = 1 + Rot.lowerTo s.data.toList J (q + 1)) := by
                      refine hide ?_
                      rw [unhide HSU, unhide HV]; simp [c2, c3]; omega
                    go_wp2_with fail
                    go_quiet (fail)
                    go_wp2_with fail
                    go_roundw
                    case rel =>
                      first | exact LeV.mk (q + 1) (v + 1) _ (by omega) (by go_num) (by go_num) (by omega) (unhide HV2) rfl | (repeat apply Exists.intro; refine ⟨?_, rfl⟩; exact LeV.mk (q + 1) (v + 1) _ (by omega) (by go_num) (by go_num) (by omega) (unhide HV2) rfl)
                    case measure => simp [intOf]; omega
                  · have d3 : decide ((q : Int) < (J : Int)) = false := by simp; omega
                    have HV2 : Hid (v = 1 + Rot.lowerTo s.data.toList J (q + 1)) := by
                      refine hide ?_
                      rw [unhide HSU, unhide HV]; simp [c2, c3]
                    go_wp2_with fail
                    go_quiet (fail)
                    go_wp2_with fail
                    go_roundw
                    case rel =>
                      first | exact LeV.mk (q + 1) v _ (by omega) (by go_num) (by go_num) (by omega) (unhide HV2) rfl | (repeat apply Exists.intro; refine ⟨?_, rfl⟩; exact LeV.mk (q + 1) v _ (by omega) (by go_num) (by go_num) (by omega) (unhide HV2) rfl)
                    case measure => simp [intOf]; omega
                · have d2 : ((x : Int) == (y : Int)) = false := by simp; omega
                  have HV2 : Hid (v = 1 + Rot.lowerTo s.data.toList J (q + 1)) := by
                    refine hide ?_
                    rw [unhide HSU, unhide HV]; simp [c1, c2]
                  go_wp2_with fail
                  go_quiet (fail)
                  go_wp2_with fail
                  go_roundw
                  case rel =>
                    first | exact LeV.mk (q + 1) v _ (by omega) (by go_num) (by go_num) (by omega) (unhide HV2) rfl | (repeat apply Exists.intro; refine ⟨?_, rfl⟩; exact LeV.mk (q + 1) v _ (by omega) (by go_num) (by go_num) (by omega) (unhide HV2) rfl)
                  case measure => simp [intOf]; omega
            · have eq : q = s.size := by omega
              subst eq
              have HV2 : Hid (v = Rot.walk s.data.toList last (k + 1)) := by
                refine hide ?_
                rw [unhide HV]
                show _ = 1 + Rot.lower s.data.toList (Rot.placeOf last (Rot.walk s.data.toList last k))
                rw [← (unhide HR).1, unhide HJ]
                unfold Rot.lowerTo Rot.lower
                rw [hcl]
              have hvn : v ≤ s.size := by
                have h1 := Rot.lower_bound (col := s.data.toList) (j := J) (by omega)
                have h2 := unhide HV
                unfold Rot.lowerTo at h2
                unfold Rot.lower at h1
                rw [hcl] at h1
                omega
              have hex := extract_one s J hJ
              have z3 : (Sb [s[J]'hJ]).size ≤ 1 := Sb_le (by simp)
              have HSP : Hid (Sb [s[J]'hJ] ++ Sb (Rot.spell s.data.toList last k) = Sb (Rot.spell s.data.toList last (k + 1))) := by
                refine hide ?_
                rw [Sb_append]
                show Sb (s[J] :: Rot.spell s.data.toList last k) = Sb (Rot.at' s.data.toList (Rot.placeOf last (Rot.walk s.data.toList last k)) :: _)
                rw [← (unhide HR).1, unhide HJ, at_byte s J hJ]
              have HON : Hid (∀ j, j < k + 1 → Rot.walk s.data.toList last j ≠ last) := by
                intro j hj
                by_cases e : j = k
                · subst e; rw [← (unhide HR).1]; exact hrl
                · exact (unhide HR).2 j (by omega)
              clear HV
              go_wp2_with fail
              go_roundw
              case rel =>
                first | exact TxV.mk (k + 1) v (by omega) (by rw [← unhide HSP]) rfl (by omega) (unhide HV2) (unhide HON) (grown_drewN (unhide HG) _) | (repeat apply Exists.intro; refine ⟨?_, rfl⟩; exact TxV.mk (k + 1) v (by omega) (by rw [← unhide HSP]) rfl (by omega) (unhide HV2) (unhide HON) (grown_drewN (unhide HG) _))
              case measure =>
                have e1 : (Sb [s[J]'hJ] ++ Sb (Rot.spell s.data.toList last k)).size = k + 1 := by rw [unhide HSP, Sb_size, Rot.spell_len]
                show s.size - (Sb [s[J]'hJ] ++ Sb (Rot.spell s.data.toList last k)).size < s.size - (Sb (Rot.spell s.data.toList last k)).size
                rw [e1, zt]
                omega
        · obtain ⟨J, hJe⟩ : ∃ J : Nat, J = r := ⟨_, rfl⟩
          have hJ : J < s.size := by omega
          have hrl2 : r ≤ s.size := by omega
          have HJ : Hid (Rot.placeOf last r = J) := by
            refine hide ?_
            unfold Rot.placeOf
            rw [if_neg hrg]; exact hJe.symm
          have hdg : decide ((last : Int) < (r : Int)) = false := by simp; omega
          subst hJe
          go_wp2_with fail
          go_loopw [9, 10] (fun le k wi => LeV wo s.data.toList J le k wi) (fun _ k _ => s.size - (intOf k).toNat)
          case atStart => exact LeV.mk 0 1 0 (Nat.zero_le _) rfl rfl (by omega) rfl rfl
          case round =>
            obtain ⟨q, v, m, hq, rfl, rfl, hv, HV, rfl⟩ := hrel
            rw [hcl] at hq
            by_cases hqn : q < s.size
            · have hb1 := (s[q]'hqn).toNat_lt
              have hb2 := (s[J]'hJ).toNat_lt
              have i1 := idx_str s q hqn (q : Int) rfl
              have i2 := idx_str s J hJ (J : Int) rfl
              have hah : Rot.ahead s.data.toList q J = (decide ((s[q]'hqn).toNat < (s[J]'hJ).toNat) || (decide ((s[q]'hqn).toNat = (s[J]'hJ).toNat) && decide (q < J))) := by
                unfold Rot.ahead
                rw [at_byte s q hqn, at_byte s J hJ]
                congr 1
                congr 1
                rw [Bool.eq_iff_iff, beq_iff_eq, decide_eq_true_eq]
                exact UInt8.toNat_inj.symm
              have hsu := Rot.lowerTo_succ s.data.toList J q
              rw [hah] at hsu
              have HSU := hide hsu
              clear hah hsu
              generalize (s[q]'hqn).toNat = x at hb1 i1 HSU
              generalize (s[J]'hJ).toNat = y at hb2 i2 HSU
              by_cases c1 : x < y
              · have d1 : decide ((x : Int) < (y : Int)) = true := by simp; omega
                have HV2 : Hid (v + 1 = 1 + Rot.lowerTo s.data.toList J (q + 1)) := by
                  refine hide ?_
                  rw [unhide HSU, unhide HV]; simp [c1]; omega
                go_wp2_with fail
                go_quiet (fail)
                go_wp2_with fail
                go_roundw
                case rel =>
                  first | exact LeV.mk (q + 1) (v + 1) _ (by omega) (by go_num) (by go_num) (by omega) (unhide HV2) rfl | (repeat apply Exists.intro; refine ⟨?_, rfl⟩; exact LeV.mk (q + 1) (v + 1) _ (by omega) (by go_num) (by go_num) (by omega) (unhide HV2) rfl)
                case measure => simp [intOf]; omega
              · have d1 : decide ((x : Int) < (y : Int)) = false := by simp; omega
                by_cases c2 : x = y
                · have d2 : ((x : Int) == (y : Int)) = true := by simp; omega
                  by_cases c3 : q < J
                  · have d3 : decide ((q : Int) < (J : Int)) = true := by simp; omega
                    have HV2 : Hid (v + 1 = 1 + Rot.lowerTo s.data.toList J (q + 1)) := by
                      refine hide ?_
                      rw [unhide HSU, unhide HV]; simp [c2, c3]; omega
                    go_wp2_with fail
                    go_quiet (fail)
                    go_wp2_with fail
                    go_roundw
                    case rel =>
                      first | exact LeV.mk (q + 1) (v + 1) _ (by omega) (by go_num) (by go_num) (by omega) (unhide HV2) rfl | (repeat apply Exists.intro; refine ⟨?_, rfl⟩; exact LeV.mk (q + 1) (v + 1) _ (by omega) (by go_num) (by go_num) (by omega) (unhide HV2) rfl)
                    case measure => simp [intOf]; omega
                  · have d3 : decide ((q : Int) < (J : Int)) = false := by simp; omega
                    have HV2 : Hid (v = 1 + Rot.lowerTo s.data.toList J (q + 1)) := by
                      refine hide ?_
                      rw [unhide HSU, unhide HV]; simp [c2, c3]
                    go_wp2_with fail
                    go_quiet (fail)
                    go_wp2_with fail
                    go_roundw
                    case rel =>
                      first | exact LeV.mk (q + 1) v _ (by omega) (by go_num) (by go_num) (by omega) (unhide HV2) rfl | (repeat apply Exists.intro; refine ⟨?_, rfl⟩; exact LeV.mk (q + 1) v _ (by omega) (by go_num) (by go_num) (by omega) (unhide HV2) rfl)
                    case measure => simp [intOf]; omega
                · have d2 : ((x : Int) == (y : Int)) = false := by simp; omega
                  have HV2 : Hid (v = 1 + Rot.lowerTo s.data.toList J (q + 1)) := by
                    refine hide ?_
                    rw [unhide HSU, unhide HV]; simp [c1, c2]
                  go_wp2_with fail
                  go_quiet (fail)
                  go_wp2_with fail
                  go_roundw
                  case rel =>
                    first | exact LeV.mk (q + 1) v _ (by omega) (by go_num) (by go_num) (by omega) (unhide HV2) rfl | (repeat apply Exists.intro; refine ⟨?_, rfl⟩; exact LeV.mk (q + 1) v _ (by omega) (by go_num) (by go_num) (by omega) (unhide HV2) rfl)
                  case measure => simp [intOf]; omega
            · have eq : q = s.size := by omega
              subst eq
              have HV2 : Hid (v = Rot.walk s.data.toList last (k + 1)) := by
                refine hide ?_
                rw [unhide HV]
                show _ = 1 + Rot.lower s.data.toList (Rot.placeOf last (Rot.walk s.data.toList last k))
                rw [← (unhide HR).1, unhide HJ]
                unfold Rot.lowerTo Rot.lower
                rw [hcl]
              have hvn : v ≤ s.size := by
                have h1 := Rot.lower_bound (col := s.data.toList) (j := J) (by omega)
                have h2 := unhide HV
                unfold Rot.lowerTo at h2
                unfold Rot.lower at h1
                rw [hcl] at h1
                omega
              have hex := extract_one s J hJ
              have z3 : (Sb [s[J]'hJ]).size ≤ 1 := Sb_le (by simp)
              have HSP : Hid (Sb [s[J]'hJ] ++ Sb (Rot.spell s.data.toList last k) = Sb (Rot.spell s.data.toList last (k + 1))) := by
                refine hide ?_
                rw [Sb_append]
                show Sb (s[J] :: Rot.spell s.data.toList last k) = Sb (Rot.at' s.data.toList (Rot.placeOf last (Rot.walk s.data.toList last k)) :: _)
                rw [← (unhide HR).1, unhide HJ, at_byte s J hJ]
              have HON : Hid (∀ j, j < k + 1 → Rot.walk s.data.toList last j ≠ last) := by
                intro j hj
                by_cases e : j = k
                · subst e; rw [← (unhide HR).1]; exact hrl
                · exact (unhide HR).2 j (by omega)
              clear HV
              go_wp2_with fail
              go_roundw
              case rel =>
                first | exact TxV.mk (k + 1) v (by omega) (by rw [← unhide HSP]) rfl (by omega) (unhide HV2) (unhide HON) (grown_drewN (unhide HG) _) | (repeat apply Exists.intro; refine ⟨?_, rfl⟩; exact TxV.mk (k + 1) v (by omega) (by rw [← unhide HSP]) rfl (by omega) (unhide HV2) (unhide HON) (grown_drewN (unhide HG) _))
              case measure =>
                have e1 : (Sb [s[J]'hJ] ++ Sb (Rot.spell s.data.toList last k)).size = k + 1 := by rw [unhide HSP, Sb_size, Rot.spell_len]
                show s.size - (Sb [s[J]'hJ] ++ Sb (Rot.spell s.data.toList last k)).size < s.size - (Sb (Rot.spell s.data.toList last k)).size
                rw [e1, zt]
                omega
      · have ek : k = s.size := by omega
        subst ek
        by_cases hrl : r = last
        · have hbe : ((r : Int) == (last : Int)) = true := by simp; omega
          have HX : Hid (Rot.Whole s.data.toList last) := ⟨by omega, fun j hj => (unhide HR).2 j (by omega), by rw [hcl, ← (unhide HR).1]; exact hrl⟩
          go_wp2_with fail
          go_ret2
          right
          exact ⟨by simp, unhide HX, unhide HG⟩
        · have hbe : ((r : Int) == (last : Int)) = false := by simp; omega
          have HX : Hid (¬ Rot.Whole s.data.toList last) := by
            intro H
            have := H.fin
            rw [hcl, ← (unhide HR).1] at this
            exact hrl this
          go_wp2_with fail
          go_ret2
          left
          exact ⟨Sb (Rot.spell s.data.toList last s.size), by simp, unhide HX, unhide HG⟩
  · have hd : decide ((s.size : Int) < (last : Int)) = true := by simp; omega
    go_enter Tryz.func142, Tryz.ntmps142
    go_wp2_with fail
    go_ret2
    left
    refine ⟨_, rfl, ?_, World.grownBy.refl _ _⟩
    intro H
    have := H.le
    omega
end Go.Proofs.YthlincikgdblfaaGreat

namespace Go.Proofs.YthlincikgdblfaaGreat
open Go.RowKit
set_option linter.unusedVariables false

theorem rbuild_no (s : ByteArray) (r : Int) (w : World) (hs : s.size ≤ maxLen) (h : ¬ (s.size ≤ 250 ∧ isRate r = true)) :
    Calls Tryz.prog 38 #[.string s, .int .i64 r] w fun e w' => e = .returned (.tuple #[.string ⟨#[]⟩, .int .i64 1]) ∧ w' = w := by
  unfold maxLen at hs
  by_cases h1 : s.size ≤ 250
  · have h2 : isRate r = false := by
      cases hr : isRate r with
      | true => exact absurd ⟨h1, hr⟩ h
      | false => rfl
    go_enter Tryz.func38, Tryz.ntmps38
    go_wp2_with fail
    refine (rrate_any r _).mono ?_
    rw [h2]
    rintro e w1 ⟨rfl, hw⟩
    subst hw
    go_wp2_with fail
    all_goals go_ret2
    all_goals exact ⟨rfl, rfl⟩
  · have hd : decide (250 < (s.size : Int)) = true := by simp; omega
    go_enter Tryz.func38, Tryz.ntmps38
    go_wp2_with fail
    refine (rrate_any r _).mono ?_
    rintro e w1 ⟨rfl, hw⟩
    subst hw
    go_wp2_with fail
    all_goals go_ret2
    all_goals exact ⟨rfl, rfl⟩

theorem cells_new8 (w : World) (l : List Value) (ty : Nat) (j : Nat) (hj : j < l.length) : (w.alloc (.cells l.toArray ty)).cell? ⟨w.heap.size, j, none⟩ = some (l[j]'hj) := by
  have := cell_of_row (w.alloc (.cells l.toArray ty)) w.heap.size j _ _ _ (heap_alloc_new _ _)
  rw [this]
  simp [hj]
theorem num_any (e : Int) (w : World) (h0 : 0 ≤ e) (h1 : e ≤ 4) : Calls Tryz.prog 39 #[.int .i64 e] w fun en w' => en = .returned (.int .i64 e) ∧ w' = w := by
  go_enter Tryz.func39, Tryz.ntmps39
  go_wp2_with fail
  go_ret
  exact ⟨rfl, rfl⟩

theorem looks_any (g : Nat) (w : World) (hl : w.cell? ⟨g, 1, none⟩ = some (.slice none 0 0)) : Calls Tryz.prog 25 #[.pointer (some ⟨g, 0, none⟩)] w fun en w' => en = .returned (.bool true) ∧ w' = w := by
  go_enter Tryz.func25, Tryz.ntmps25
  go_wp2_with fail
  refine wp_loop_rounds 1 ?_
  rw [rounds_succ]
  go_wp2_with fail
  go_ret
  exact ⟨rfl, rfl⟩

set_option maxRecDepth 100000 in
set_option maxHeartbeats 1000000 in
theorem step_build (x s : ByteArray) (e a k b : Int) (lv : Value) (g : Nat) (he : 0 ≤ e) (he2 : e ≤ 4)
    (hB : ∀ w, Calls Tryz.prog 21 #[.string s, .int .i64 a] w fun en w' => en = .returned (.tuple #[.string x, .int .i64 e]) ∧ Below w.heap.size w w')
    (hR : ∀ w, Calls Tryz.prog 38 #[.string s, .int .i64 a] w fun en w' => en = .returned (.tuple #[.string x, .int .i64 e]) ∧ Below w.heap.size w w') (w : World) :
    Calls Tryz.prog 24 #[.pointer (some ⟨g, 0, none⟩), .agg #[.int .i64 1, .int .i64 k, .string s, .int .i64 a, .int .i64 b, lv]] w fun en w' => en = .returned (.bool true) ∧ Below w.heap.size w w' := by
  go_enter Tryz.func24, Tryz.ntmps24
  go_wp2_with fail
  refine (hB _).mono ?_
  rintro en w1 ⟨rfl, B1⟩
  have c2 : w1.cell? ⟨w.heap.size, 2, none⟩ = some (.string s) := (B1.cell (by simp)).trans (cells_new8 w _ _ 2 (by simp))
  have c3 : w1.cell? ⟨w.heap.size, 3, none⟩ = some (.int .i64 a) := (B1.cell (by simp)).trans (cells_new8 w _ _ 3 (by simp))
  have hz : w.heap.size ≤ w1.heap.size := by have := B1.size; simp at this; omega
  have HB1 : Hid (Below w.heap.size w w1) := ((Below.refl _ _).alloc (Nat.le_refl _) _).trans (B1.mono (by simp))
  clear B1
  go_wp2_with fail
  refine (hR _).mono ?_
  rintro en w2 ⟨rfl, B2⟩
  have HB2 : Hid (Below w.heap.size w w2) := (unhide HB1).trans (B2.mono hz)
  clear B2 HB1 c2 c3 hB hR
  go_wp2_with fail
  refine (num_any e _ he he2).mono ?_
  rintro en w3 ⟨rfl, hw⟩
  subst hw
  go_wp2_with fail
  refine (num_any e _ he he2).mono ?_
  rintro en w4 ⟨rfl, hw⟩
  subst hw
  go_wp2_with fail
  go_ret
  exact ⟨by simp, unhide HB2⟩

set_option maxRecDepth 100000 in
set_option maxHeartbeats 1000000 in
theorem step_idle (s : ByteArray) (kd a k b : Int) (lv : Value) (g : Nat) (hk : kd < 1) (w : World) (hi : w.cell? ⟨g, 0, none⟩ = some (.slice none 0 0)) :
    Calls Tryz.prog 24 #[.pointer (some ⟨g, 0, none⟩), .agg #[.int .i64 kd, .int .i64 k, .string s, .int .i64 a, .int .i64 b, lv]] w fun en w' => en = .returned (.bool true) ∧ Below w.heap.size w w' := by
  have hi2 : ∀ o, (w.alloc o).cell? ⟨g, 0, none⟩ = some (.slice none 0 0) := fun o => by
    rw [World.cell?_alloc_lt _ _ _ (World.block_lt_of_cell? w _ hi)]; exact hi
  have e1 : (kd == 1) = false := by simp; omega
  have e2 : (kd == 2) = false := by simp; omega
  have e3 : (kd == 3) = false := by simp; omega
  have e4 : (kd == 4) = false := by simp; omega
  go_enter Tryz.func24, Tryz.ntmps24
  go_wp2_with fail
  go_ret
  exact ⟨rfl, Below.alloc0 _⟩
end Go.Proofs.YthlincikgdblfaaGreat
