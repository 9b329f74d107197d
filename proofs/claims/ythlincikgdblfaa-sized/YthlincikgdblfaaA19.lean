import Derived.Test.YthlincikgdblfaaA18
import Derived.Test.YthlincikgdblfaaK0
namespace Go.Proofs.Ythlincikgdblfaa
open Go.RowKit
set_option linter.unusedVariables false

/-- Which of n things a raw number speaks of. -/
def pickOf (c : Int) (n : Nat) : Nat := (if c < 0 then -(c + 1) else c).toNat % n
theorem kpick_any (c : Int) (n : Nat) (w : World) (h1 : -9223372036854775808 ≤ c) (h2 : c ≤ 9223372036854775807) (hn : 1 ≤ n) (hn2 : n ≤ 1000000) :
    Calls Try.prog 13 #[.int .i64 c, .int .i64 n] w fun e w' => e = .returned (.int .i64 (pickOf c n : Int)) ∧ w' = w := by
  have hz : ((n : Int) == 0) = false := by simp; omega
  by_cases hc : c < 0
  · go_enter Try.func13, Try.ntmps13
    go_wp2
    go_ret
    refine ⟨ret_int ?_, rfl⟩
    unfold pickOf
    rw [if_pos hc, Int.natCast_emod, Int.toNat_of_nonneg (by omega), ← Int.neg_tmod, Int.tmod_eq_emod_of_nonneg (by omega)]
  · go_enter Try.func13, Try.ntmps13
    go_wp2
    go_ret
    refine ⟨ret_int ?_, rfl⟩
    unfold pickOf
    rw [if_neg (by omega), Int.natCast_emod, Int.toNat_of_nonneg (by omega)]
theorem pick_lt (c : Int) (n : Nat) (hn : 1 ≤ n) : pickOf c n < n := Nat.mod_lt _ hn

/-- One of the four rates. -/
def rateOf (c : Int) : Nat := 2 ^ pickOf c 4
theorem rate_is (c : Int) : rateOf c = 1 ∨ rateOf c = 2 ∨ rateOf c = 4 ∨ rateOf c = 8 := by
  have h := pick_lt c 4 (by decide)
  unfold rateOf
  generalize pickOf c 4 = k at h
  match k, h with
  | 0, _ => simp
  | 1, _ => simp
  | 2, _ => simp
  | 3, _ => simp
theorem isRate_rateOf (c : Int) : isRate (rateOf c : Int) = true := by
  rcases rate_is c with h | h | h | h <;> rw [h] <;> rfl
theorem krate_any (c : Int) (w : World) (h1 : -9223372036854775808 ≤ c) (h2 : c ≤ 9223372036854775807) :
    Calls Try.prog 9 #[.int .i64 c] w fun e w' => e = .returned (.int .i64 (rateOf c : Int)) ∧ w' = w := by
  have hk := pick_lt c 4 (by decide)
  have hcon := fun W => kpick_any c 4 W h1 h2 (by decide) (by decide)
  unfold rateOf
  generalize pickOf c 4 = k at hk hcon
  have h4 : k = 0 ∨ k = 1 ∨ k = 2 ∨ k = 3 := by omega
  rcases h4 with rfl | rfl | rfl | rfl
  all_goals
    go_enter Try.func9, Try.ntmps9
    go_wp2_with fail
    refine (hcon _).mono ?_
    rintro e w1 ⟨rfl, hw⟩
    subst hw
    clear hcon
    go_wp2
    go_ret
    exact ⟨rfl, rfl⟩

/-- A text of at most 250 bytes. -/
def cutOf (s : ByteArray) : ByteArray := if 250 < s.size then s.extract 0 250 else s
theorem cut_size (s : ByteArray) : (cutOf s).size ≤ 250 := by
  unfold cutOf
  split
  · simp [ByteArray.size_extract]; omega
  · omega
theorem cut_any (s : ByteArray) (w : World) (hs : s.size ≤ maxLen) :
    Calls Try.prog 8 #[.string s] w fun e w' => e = .returned (.string (cutOf s)) ∧ w' = w := by
  unfold maxLen at hs
  unfold cutOf
  by_cases h : 250 < s.size
  · rw [if_pos h]
    go_enter Try.func8, Try.ntmps8
    go_wp2
    go_ret
    exact ⟨rfl, rfl⟩
  · rw [if_neg h]
    go_enter Try.func8, Try.ntmps8
    go_wp2
    go_ret
    exact ⟨rfl, rfl⟩

theorem built_any (s : ByteArray) (r : Nat) (w : World) (hs : s.size ≤ 250) (h : isRate r = true) :
    Calls Try.prog 10 #[.string s, .int .i64 r] w fun e w' => ∃ rows, Rot.IsRows s.data.toList rows ∧ e = .returned (.tuple #[.string ⟨(Rot.fileOf s.data.toList rows r).toArray⟩, .bool true]) ∧ Below w.heap.size w w' := by
  have hr : 1 ≤ r ∧ r ≤ 8 := by
    unfold isRate at h
    simp at h
    omega
  go_enter Try.func10, Try.ntmps10
  go_wp2_with fail
  refine (build_yes s r _ hs h).mono ?_
  rintro e w1 ⟨rows, hR, rfl, hB⟩
  have hl := (Rot.file_size hR r (by omega)).1
  have hsz := Rot.size_le s.data.toList.length r (by simpa using hs)
  have hsize : (⟨(Rot.fileOf s.data.toList rows r).toArray⟩ : ByteArray).size = (Rot.fileOf s.data.toList rows r).length := by simp [ByteArray.size]
  have hbig : 42 < (⟨(Rot.fileOf s.data.toList rows r).toArray⟩ : ByteArray).size := by omega
  have hsmall : (⟨(Rot.fileOf s.data.toList rows r).toArray⟩ : ByteArray).size ≤ 2000 := by omega
  have HR := hide hR
  have HB := hide hB
  have HX : Hid (∃ x : ByteArray, x = ⟨(Rot.fileOf s.data.toList rows r).toArray⟩) := ⟨_, rfl⟩
  generalize hx : (⟨(Rot.fileOf s.data.toList rows r).toArray⟩ : ByteArray) = x at hbig hsmall ⊢
  have HXX := hide hx
  have hdd : decide ((42 : Int) < (x.size : Int)) = true := by simp; omega
  clear hl hsz hsize hR hB HX hx
  go_wp2_with fail
  go_ret2
  refine ⟨rows, unhide HR, ?_, unhide HB⟩
  cases unhide HXX
  rfl
end Go.Proofs.Ythlincikgdblfaa
