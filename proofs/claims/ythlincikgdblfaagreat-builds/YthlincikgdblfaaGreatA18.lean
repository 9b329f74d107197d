import Derived.Test.YthlincikgdblfaaGreatA17
namespace Go.Proofs.YthlincikgdblfaaGreat
open Go.RowKit
set_option linter.unusedVariables false

/-- Build refuses what is no text, or no rate. -/
theorem build_no (s : ByteArray) (r : Int) (w : World) (hs : s.size ≤ maxLen) (h : ¬ (s.size ≤ 250 ∧ isRate r = true)) :
    Calls Tryz.prog 21 #[.string s, .int .i64 r] w fun e w' => e = .returned (.tuple #[.string ⟨#[]⟩, .int .i64 1]) ∧ w' = w := by
  by_cases h1 : s.size ≤ 250
  · have h2 : isRate r = false := by
      cases hr : isRate r with
      | true => exact absurd ⟨h1, hr⟩ h
      | false => rfl
    have hd : decide (s.size ≤ 250) = true := by simpa using h1
    go_enter Tryz.func21, Tryz.ntmps21
    go_wp2_with fail
    refine (isText_any _ _ hs).mono ?_
    rw [hd]
    rintro e w1 ⟨rfl, hw⟩
    subst hw
    go_wp2_with fail
    refine (isRate_any _ _).mono ?_
    rw [h2]
    rintro e w1 ⟨rfl, hw⟩
    subst hw
    go_wp2_with fail
    go_ret2
    exact ⟨rfl, rfl⟩
  · have hd : decide (s.size ≤ 250) = false := by simpa using h1
    go_enter Tryz.func21, Tryz.ntmps21
    go_wp2_with fail
    refine (isText_any _ _ hs).mono ?_
    rw [hd]
    rintro e w1 ⟨rfl, hw⟩
    subst hw
    go_wp2_with fail
    go_ret2
    exact ⟨rfl, rfl⟩

/-- Build makes the file of a text by a rate. -/
theorem build_yes (s : ByteArray) (r : Nat) (w : World) (hs : s.size ≤ 250) (h : isRate r = true) :
    Calls Tryz.prog 21 #[.string s, .int .i64 r] w fun e w' => ∃ rows, Rot.IsRows s.data.toList rows ∧ e = .returned (.tuple #[.string ⟨(Rot.fileOf s.data.toList rows r).toArray⟩, .int .i64 0]) ∧ Below w.heap.size w w' := by
  have hr : 1 ≤ r ∧ r ≤ 8 := by
    unfold isRate at h
    simp at h
    omega
  have hd : decide (s.size ≤ 250) = true := by simpa using hs
  go_enter Tryz.func21, Tryz.ntmps21
  go_wp2_with fail
  refine (isText_any _ _ (by unfold maxLen; omega)).mono ?_
  rw [hd]
  rintro e w1 ⟨rfl, hw⟩
  subst hw
  go_wp2_with fail
  refine (isRate_any _ _).mono ?_
  rw [h]
  rintro e w1 ⟨rfl, hw⟩
  subst hw
  go_wp2_with fail
  refine (file_any s r _ hs hr.1 hr.2).mono ?_
  rintro e w2 ⟨rows, hR, rfl, hB⟩
  go_wp2_with fail
  go_ret2
  exact ⟨rows, hR, rfl, hB⟩
end Go.Proofs.YthlincikgdblfaaGreat
