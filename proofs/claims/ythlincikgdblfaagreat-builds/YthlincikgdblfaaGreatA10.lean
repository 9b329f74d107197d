import Derived.Test.YthlincikgdblfaaGreatA6
import Derived.Sort.OwnSorted
namespace Go.Proofs.YthlincikgdblfaaGreat
open Go.RowKit
set_option linter.unusedVariables false

namespace Rot
/-- One end comes ahead of another. -/
def less : List UInt8 → List UInt8 → Bool
  | [], [] => false
  | [], _ :: _ => true
  | _ :: _, [] => false
  | a :: xs, b :: ys => if a < b then true else if b < a then false else less xs ys
theorem less_irrefl (a : List UInt8) : less a a = false := by
  induction a with
  | nil => rfl
  | cons x a ih => simp [less, ih]
theorem less_trans : ∀ a b c : List UInt8, less a b = true → less b c = true → less a c = true
  | [], [], c, h, _ => by simp [less] at h
  | [], _ :: _, [], _, h => by simp [less] at h
  | [], _ :: _, _ :: _, _, _ => rfl
  | _ :: _, [], _, h, _ => by simp [less] at h
  | _ :: _, _ :: _, [], _, h => by simp [less] at h
  | x :: a, y :: b, z :: c, h1, h2 => by
    have ih := less_trans a b c
    simp only [less] at h1 h2 ⊢
    by_cases xy : x < y
    · by_cases yz : y < z
      · rw [if_pos (UInt8.lt_trans xy yz)]
      · rw [if_neg yz] at h2
        by_cases zy : z < y
        · rw [if_pos zy] at h2; cases h2
        · have e : y = z := by
            apply UInt8.toNat_inj.1
            rw [UInt8.lt_iff_toNat_lt] at yz zy
            omega
          subst e
          rw [if_pos xy]
    · rw [if_neg xy] at h1
      by_cases yx : y < x
      · rw [if_pos yx] at h1; cases h1
      · rw [if_neg yx] at h1
        have e : x = y := by
          apply UInt8.toNat_inj.1
          rw [UInt8.lt_iff_toNat_lt] at xy yx
          omega
        subst e
        by_cases yz : x < z
        · rw [if_pos yz]
        · rw [if_neg yz] at h2 ⊢
          by_cases zy : z < x
          · rw [if_pos zy] at h2; cases h2
          · rw [if_neg zy] at h2 ⊢
            exact ih h1 h2
theorem less_total : ∀ a b : List UInt8, less a b = false → less b a = false → a = b
  | [], [], _, _ => rfl
  | [], _ :: _, h, _ => by simp [less] at h
  | _ :: _, [], _, h => by simp [less] at h
  | x :: a, y :: b, h1, h2 => by
    have ih := less_total a b
    simp only [less] at h1 h2
    by_cases xy : x < y
    · rw [if_pos xy] at h1; cases h1
    · by_cases yx : y < x
      · rw [if_pos yx] at h2; cases h2
      · rw [if_neg xy, if_neg yx] at h1
        rw [if_neg yx, if_neg xy] at h2
        have e : x = y := by
          apply UInt8.toNat_inj.1
          rw [UInt8.lt_iff_toNat_lt] at xy yx
          omega
        subst e
        rw [ih h1 h2]
theorem less_ntrans (a b c : List UInt8) (h1 : less a b = false) (h2 : less b c = false) : less a c = false := by
  cases h : less a c with
  | false => rfl
  | true =>
    exfalso
    cases hb : less b a with
    | true =>
      have := less_trans b a c hb h
      rw [this] at h2; cases h2
    | false =>
      have e := less_total a b h1 hb
      subst e
      rw [h] at h2; cases h2
/-- The rows of a text: where its ends, in order, begin. -/
structure IsRows (t : List UInt8) (rows : List Nat) : Prop where
  perm : rows.Perm (List.range (t.length + 1))
  order : rows.Pairwise fun p q => less (t.drop p) (t.drop q) = true
end Rot

theorem compare_less : ∀ a b : List UInt8, decide (Lib.compareBytes a b < 0) = Rot.less a b
  | [], [] => by simp [Lib.compareBytes, Rot.less]
  | [], _ :: _ => by simp [Lib.compareBytes, Rot.less]
  | _ :: _, [] => by simp [Lib.compareBytes, Rot.less]
  | x :: a, y :: b => by
    have ih := compare_less a b
    simp only [Lib.compareBytes, Rot.less]
    by_cases xy : x < y
    · simp [xy]
    · by_cases yx : y < x
      · simp [xy, yx]
      · simp only [xy, yx, if_false]
        exact ih
theorem infoI : (Tryz.prog.info? 3).map (fun i => (i.zero, i.size, i.bytes)) = some (some (.int .i64 0), 1, 8) := by kernel_rfl

/-- The closure: two ends of the text, compared. -/
theorem cmp_any (b : Nat) (s : ByteArray) (x y : Nat) (w : World) (hb : w.cell? ⟨b, 0, none⟩ = some (.string s)) (hx : x ≤ s.size) (hy : y ≤ s.size) (hs : s.size ≤ 250) :
    Calls Tryz.prog 122 #[.int .i64 x, .int .i64 y, .pointer (some ⟨b, 0, none⟩)] w fun e w' => e = .returned (.int .i64 (Lib.compareBytes (s.data.toList.drop x) (s.data.toList.drop y))) ∧ ∃ q, w' = w.drewN q := by
  have e1 : (s.extract x s.size).data.toList = s.data.toList.drop x := by
    rw [ByteArray.data_extract]
    simp
    exact List.take_of_length_le (by simp)
  have e2 : (s.extract y s.size).data.toList = s.data.toList.drop y := by
    rw [ByteArray.data_extract]
    simp
    exact List.take_of_length_le (by simp)
  have hcon := fun W => Tryz.strings_Compare (s.extract x s.size) (s.extract y s.size) W
  rw [← e1, ← e2]
  clear e1 e2
  generalize Lib.compareBytes (s.extract x s.size).data.toList (s.extract y s.size).data.toList = rr at hcon ⊢
  go_enter Tryz.func122, Tryz.ntmps122
  go_wp2_with fail
  go_quiet ((go_at_call 123; exact Calls.quiet_of_same (hcon _)))
  go_wp2
  go_ret
  exact ⟨rfl, _, rfl⟩

end Go.Proofs.YthlincikgdblfaaGreat
