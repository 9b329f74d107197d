import Derived.Test.YthlincikgdblfaaA19
import Derived.Test.YthlincikgdblfaaK3
namespace Go.Proofs.Ythlincikgdblfaa
open Go.RowKit
set_option linter.unusedVariables false

theorem bytes_inj (F G : List UInt8) : ((⟨F.toArray⟩ : ByteArray).toList == (⟨G.toArray⟩ : ByteArray).toList) = (F == G) := by
  simp [ByteArray.toList_eq]
theorem text_eq (t u : ByteArray) : (t.toList == u.toList) = (t.data.toList == u.data.toList) := by
  simp [ByteArray.toList_eq]

set_option maxRecDepth 100000 in
set_option maxHeartbeats 2000000 in
theorem told_walk (a0 a1 : ByteArray) (a2 a3 : Int) (h0 : a0.size ≤ maxLen) (h1 : a1.size ≤ maxLen) (h2 : -9223372036854775808 ≤ a2 ∧ a2 ≤ 9223372036854775807) (h3 : -9223372036854775808 ≤ a3 ∧ a3 ≤ 9223372036854775807) (w : World) :
    Calls Try.prog 5 #[.string a0, .string a1, .int .i64 a2, .int .i64 a3] w fun e w' => e = .returned (.bool true) ∧ Below w.heap.size w w' := by
  have hr := rate_is a2
  have hs := rate_is a3
  have hc0 := cut_size a0
  have hc1 := cut_size a1
  have k0 := fun W => cut_any a0 W h0
  have k1 := fun W => cut_any a1 W h1
  have k2 := fun W => krate_any a2 W h2.1 h2.2
  have k3 := fun W => krate_any a3 W h3.1 h3.2
  have k4 := fun W => built_any (cutOf a0) (rateOf a2) W hc0 (isRate_rateOf a2)
  have k5 := fun W => built_any (cutOf a1) (rateOf a3) W hc1 (isRate_rateOf a3)
  generalize cutOf a0 = t at hc0 k0 k4
  generalize cutOf a1 = u at hc1 k1 k5
  generalize rateOf a2 = r at hr k2 k4
  generalize rateOf a3 = s at hs k3 k5
  have K0 := hide k0
  have K1 := hide k1
  have K2 := hide k2
  have K3 := hide k3
  have K4 := hide k4
  have K5 := hide k5
  clear k0 k1 k2 k3 k4 k5
  go_enter Try.func5, Try.ntmps5
  go_wp2_with fail
  refine (unhide K0 _).mono ?_
  rintro e w1 ⟨rfl, hw⟩
  subst hw
  go_wp2_with fail
  refine (unhide K1 _).mono ?_
  rintro e w1 ⟨rfl, hw⟩
  subst hw
  go_wp2_with fail
  refine (unhide K2 _).mono ?_
  rintro e w1 ⟨rfl, hw⟩
  subst hw
  go_wp2_with fail
  refine (unhide K4 _).mono ?_
  rintro e w2 ⟨ra, hR, rfl, hB⟩
  go_wp2_with fail
  refine (unhide K3 _).mono ?_
  rintro e w3 ⟨rfl, hw⟩
  subst hw
  go_wp2_with fail
  refine (unhide K5 _).mono ?_
  rintro e w4 ⟨rb, hS, rfl, hB2⟩
  have HBB := hide (hB.trans (hB2.mono hB.size))
  have hsame : (Rot.fileOf t.data.toList ra r == Rot.fileOf u.data.toList rb s) = ((t.data.toList == u.data.toList) && ((r : Int) == (s : Int))) := by
    rw [Bool.eq_iff_iff, beq_iff_eq, Bool.and_eq_true, beq_iff_eq, beq_iff_eq]
    constructor
    · intro h
      obtain ⟨e1, e2⟩ := Rot.file_inj hR hS (by simpa using hc0) (by simpa using hc1) (by omega) (by omega) h
      exact ⟨e1, by rw [e2]⟩
    · rintro ⟨e1, e2⟩
      have e3 : r = s := by omega
      subst e3
      rw [e1] at hR ⊢
      rw [Rot.rows_unique hR hS]
  rw [← bytes_inj, ← text_eq] at hsame
  have HS := hide hsame
  clear hB hB2 hsame hR hS hr hs
  generalize (⟨(Rot.fileOf t.data.toList ra r).toArray⟩ : ByteArray) = X at HS ⊢
  generalize (⟨(Rot.fileOf u.data.toList rb s).toArray⟩ : ByteArray) = Y at HS ⊢
  cases htu : (t.toList == u.toList) with
  | true =>
    rw [htu] at HS
    go_wp2_with fail
    refine (unhide K2 _).mono ?_
    rintro e w5 ⟨rfl, hw⟩
    subst hw
    go_wp2_with fail
    refine (unhide K3 _).mono ?_
    rintro e w5 ⟨rfl, hw⟩
    subst hw
    go_wp2_with fail
    go_ret
    refine ⟨ret_bool ?_, unhide HBB⟩
    rw [unhide HS]
    simp
  | false =>
    rw [htu] at HS
    go_wp2_with fail
    go_ret
    refine ⟨ret_bool ?_, unhide HBB⟩
    rw [unhide HS]
    simp
end Go.Proofs.Ythlincikgdblfaa
