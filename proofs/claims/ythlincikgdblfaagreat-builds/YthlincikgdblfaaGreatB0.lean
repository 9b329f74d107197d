import Derived.Test.YthlincikgdblfaaGreatA18
namespace Go.Proofs.YthlincikgdblfaaGreat
open Go.RowKit
set_option linter.unusedVariables false

/-- A string of bytes. -/
def Sb (l : List UInt8) : ByteArray := ⟨l.toArray⟩
theorem Sb_append (a b : List UInt8) : Sb a ++ Sb b = Sb (a ++ b) := by
  apply ByteArray.ext
  simp [Sb]
theorem Sb_size (l : List UInt8) : (Sb l).size = l.length := by simp [Sb, ByteArray.size]
theorem Sb_le {l : List UInt8} {n : Nat} (h : l.length ≤ n) : (Sb l).size ≤ n := by rw [Sb_size]; exact h
theorem Sb_two (n : Nat) : (Sb (Rot.le16 n)).size ≤ 4 := by rw [Sb_size]; simp [Rot.le16]
theorem Sb_four (n : Nat) : (Sb (Rot.le32 n)).size ≤ 4 := by rw [Sb_size]; simp [Rot.le32]
theorem Sb_nil : (⟨#[]⟩ : ByteArray) = Sb [] := rfl
theorem Sb_of (s : ByteArray) : s = Sb s.data.toList := by
  apply ByteArray.ext
  simp [Sb]
theorem Sb_toList (l : List UInt8) : (Sb l).data.toList = l := by simp [Sb]

/-- A literal slice of bytes as a string. -/
theorem conv_lit (w : World) (l : List UInt8) (cs : Array Value) (hc : cs.toList = by8 l) (hl : l.length < 100) :
    (convert 45 9 (.slice (some ⟨w.heap.size, 0, none⟩) l.length l.length)).run Tryz.prog (w.alloc (.cells cs 5)) = .ok (.string (Sb l)) (w.alloc (.cells cs 5)) := by
  have hs : cs.size = l.length := by rw [← Array.length_toList, hc, by8_length]
  have := World.ownsRow_lit (base := 0) (e := 5) (size := 1) w cs l.length (Nat.zero_le _) (by unfold maxLen; omega) (by omega)
  rw [hc] at this
  exact conv_str (B := 0) this

theorem grown_alloc1 (w : World) (o : Obj) : w.grownBy (w.alloc o) none := World.grownBy_alloc w o none
set_option maxRecDepth 100000 in
theorem two_any (n : Nat) (w : World) (hn : n < 65536) :
    Calls Tryz.prog 71 #[.int .i64 n] w fun e w' => e = .returned (.string (Sb (Rot.le16 n))) ∧ w.grownBy w' none := by
  have hcv : ∀ w : World, (convert 45 9 (.slice (some ⟨w.heap.size, 0, none⟩) 2 2)).run Tryz.prog (w.alloc (.cells #[.int .u8 ((n : Int) % 256), .int .u8 ((n : Int) / 256)] 5)) = .ok (.string (Sb (Rot.le16 n))) (w.alloc (.cells #[.int .u8 ((n : Int) % 256), .int .u8 ((n : Int) / 256)] 5)) := fun w =>
    conv_lit w (Rot.le16 n) _ (by
      have e1 := byte_of n
      have e2 := byte_of (n / 256)
      have e3 : ((n : Int) / 256) = ((n / 256 : Nat) : Int) % 256 := by omega
      simp only [by8, Rot.le16, List.map_cons, List.map_nil]
      rw [e1, e3, e2]) (by simp [Rot.le16])
  go_enter Tryz.func71, Tryz.ntmps71
  go_wp2_with fail
  go_ret
  exact ⟨rfl, grown_alloc1 _ _⟩
set_option maxRecDepth 100000 in
theorem four_any (n : Nat) (w : World) (hn : n < 4294967296) :
    Calls Tryz.prog 72 #[.int .u32 n] w fun e w' => e = .returned (.string (Sb (Rot.le32 n))) ∧ w.grownBy w' none := by
  have hcv : ∀ w : World, (convert 45 9 (.slice (some ⟨w.heap.size, 0, none⟩) 4 4)).run Tryz.prog (w.alloc (.cells #[.int .u8 ((n : Int) % 256), .int .u8 ((n : Int) / 256 % 256), .int .u8 ((n : Int) / 65536 % 256), .int .u8 ((n : Int) / 16777216)] 5)) = .ok (.string (Sb (Rot.le32 n))) (w.alloc (.cells #[.int .u8 ((n : Int) % 256), .int .u8 ((n : Int) / 256 % 256), .int .u8 ((n : Int) / 65536 % 256), .int .u8 ((n : Int) / 16777216)] 5)) := fun w =>
    conv_lit w (Rot.le32 n) _ (by
      have e1 := byte_of n
      have e2 := byte_of (n / 256)
      have e3 := byte_of (n / 65536)
      have e4 := byte_of (n / 16777216)
      have f2 : ((n : Int) / 256 % 256) = ((n / 256 : Nat) : Int) % 256 := by omega
      have f3 : ((n : Int) / 65536 % 256) = ((n / 65536 : Nat) : Int) % 256 := by omega
      have f4 : ((n : Int) / 16777216) = ((n / 16777216 : Nat) : Int) % 256 := by omega
      simp only [by8, Rot.le32, List.map_cons, List.map_nil]
      rw [e1, f2, e2, f3, e3, f4, e4]) (by simp [Rot.le32])
  go_enter Tryz.func72, Tryz.ntmps72
  go_wp2_with fail
  go_ret
  exact ⟨rfl, grown_alloc1 _ _⟩

set_option maxHeartbeats 400000 in
theorem rsum_any (s : ByteArray) (w : World) (hs : s.size < 900000) :
    Calls Tryz.prog 73 #[.string s] w fun e w' => e = .returned (.int .u32 (Rot.sumOf s.data.toList)) ∧ w' = w := by
  go_enter Tryz.func73, Tryz.ntmps73
  go_wp2_with fail
  go_loop [3, 4] (fun t i => ∃ k : Nat, k ≤ s.size ∧ i = .int .i64 k ∧ t = .int .u32 (Rot.sumOf (s.data.toList.take k))) (fun _ i => s.size - (intOf i).toNat)
  case atStart => exact ⟨0, Nat.zero_le _, rfl, rfl⟩
  case round =>
    obtain ⟨k, hk, rfl, rfl⟩ := hrel
    have hl : s.data.toList.length = s.size := by simp
    by_cases hlt : k < s.size
    · have hbl := (s[k]'hlt).toNat_lt
      have hsl := sum_lt (s.data.toList.take k)
      have HS : Hid (Rot.sumOf (s.data.toList.take (k + 1)) = Rot.sumStep (Rot.sumOf (s.data.toList.take k)) (s[k]'hlt)) := sum_snoc s.data.toList k (by omega)
      clear hl
      go_wp2
      go_round
      case rel =>
        refine ⟨k + 1, by omega, by go_num, ?_⟩
        rw [HS.out]
        unfold Rot.sumStep
        exact num_eq (by omega)
      case measure => simp [intOf]; omega
    · have e : s.data.toList.take k = s.data.toList := List.take_of_length_le (by omega)
      have HE := hide e
      clear hl e
      go_wp2
      go_ret
      exact ⟨ret_int (by rw [unhide HE]), rfl⟩

theorem rrate_any (r : Int) (w : World) : Calls Tryz.prog 69 #[.int .i64 r] w fun e w' => e = .returned (.bool (isRate r)) ∧ w' = w := by
  unfold isRate
  by_cases h1 : r = 1
  · subst h1
    go_enter Tryz.func69, Tryz.ntmps69
    go_wp2
    go_ret
    exact ⟨rfl, rfl⟩
  have e1 : (r == 1) = false := by simp [h1]
  by_cases h2 : r = 2
  · subst h2
    go_enter Tryz.func69, Tryz.ntmps69
    go_wp2
    go_ret
    exact ⟨rfl, rfl⟩
  have e2 : (r == 2) = false := by simp [h2]
  by_cases h4 : r = 4
  · subst h4
    go_enter Tryz.func69, Tryz.ntmps69
    go_wp2
    go_ret
    exact ⟨rfl, rfl⟩
  have e4 : (r == 4) = false := by simp [h4]
  by_cases h8 : r = 8
  · subst h8
    go_enter Tryz.func69, Tryz.ntmps69
    go_wp2
    go_ret
    exact ⟨rfl, rfl⟩
  have e8 : (r == 8) = false := by simp [h8]
  go_enter Tryz.func69, Tryz.ntmps69
  go_wp2
  go_ret
  exact ⟨by simp [e1, e2, e4, e8], rfl⟩
end Go.Proofs.YthlincikgdblfaaGreat
