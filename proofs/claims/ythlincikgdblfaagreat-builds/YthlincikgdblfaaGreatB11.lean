import Derived.Test.YthlincikgdblfaaGreatB7
import Derived.Test.YthlincikgdblfaaGreatB9
namespace Go.Proofs.YthlincikgdblfaaGreat
open Go.RowKit
set_option linter.unusedVariables false

/-- The program's file and the document's are the same. -/
theorem same_any (s : ByteArray) (a : Int) (hs : s.size ≤ maxLen) : Same s a := by
  by_cases h : s.size ≤ 250 ∧ isRate a = true
  · obtain ⟨h1, h2⟩ := h
    obtain ⟨r, rfl⟩ : ∃ r : Nat, a = (r : Int) := by
      refine ⟨a.toNat, ?_⟩
      have : a = 1 ∨ a = 2 ∨ a = 4 ∨ a = 8 := by
        unfold isRate at h2
        simp at h2
        omega
      omega
    by_cases hex : ∃ rows, Rot.IsRows s.data.toList rows
    · obtain ⟨rows, hR⟩ := hex
      refine ⟨Sb (Rot.fileOf s.data.toList rows r), 0, by omega, by omega, fun w => ?_, fun w => ?_⟩
      · refine (build_yes s r w h1 h2).mono ?_
        rintro e w' ⟨rows', hR', rfl, hB⟩
        rw [Rot.rows_unique hR' hR]
        exact ⟨rfl, hB⟩
      · refine (rbuild_yes s r w h1 h2).mono ?_
        rintro e w' ⟨rows', rfl, hR', g⟩
        rw [Rot.rows_unique hR' hR]
        exact ⟨rfl, Below.of_grown g⟩
    · refine ⟨⟨#[]⟩, 0, by omega, by omega, fun w => ?_, fun w => ?_⟩
      · refine (build_yes s r w h1 h2).mono ?_
        rintro e w' ⟨rows', hR', _⟩
        exact absurd ⟨rows', hR'⟩ hex
      · refine (rbuild_yes s r w h1 h2).mono ?_
        rintro e w' ⟨rows', _, hR', _⟩
        exact absurd ⟨rows', hR'⟩ hex
  · refine ⟨⟨#[]⟩, 1, by omega, by omega, fun w => ?_, fun w => ?_⟩
    · refine (build_no s a w hs h).mono ?_
      rintro e w' ⟨rfl, rfl⟩
      exact ⟨rfl, Below.refl _ _⟩
    · refine (rbuild_no s a w hs h).mono ?_
      rintro e w' ⟨rfl, rfl⟩
      exact ⟨rfl, Below.refl _ _⟩
end Go.Proofs.YthlincikgdblfaaGreat
