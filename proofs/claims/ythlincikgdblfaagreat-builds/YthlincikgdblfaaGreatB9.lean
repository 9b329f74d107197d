import Derived.Test.YthlincikgdblfaaGreatB8
namespace Go.Proofs.YthlincikgdblfaaGreat
open Go.RowKit
set_option linter.unusedVariables false

def Same (s : ByteArray) (a : Int) : Prop := ∃ (x : ByteArray) (e : Int), 0 ≤ e ∧ e ≤ 4 ∧
    (∀ w, Calls Tryz.prog 21 #[.string s, .int .i64 a] w fun en w' => en = .returned (.tuple #[.string x, .int .i64 e]) ∧ Below w.heap.size w w') ∧
    (∀ w, Calls Tryz.prog 38 #[.string s, .int .i64 a] w fun en w' => en = .returned (.tuple #[.string x, .int .i64 e]) ∧ Below w.heap.size w w')

theorem step_any (s : ByteArray) (kd a k b : Int) (lv : Value) (g : Nat) (hk : kd ≤ 1) (hS : Same s a) (w : World) (hi : w.cell? ⟨g, 0, none⟩ = some (.slice none 0 0)) :
    Calls Tryz.prog 24 #[.pointer (some ⟨g, 0, none⟩), .agg #[.int .i64 kd, .int .i64 k, .string s, .int .i64 a, .int .i64 b, lv]] w fun en w' => en = .returned (.bool true) ∧ Below w.heap.size w w' := by
  by_cases h1 : kd = 1
  · subst h1
    obtain ⟨x, e, h0, h4, hB, hR⟩ := hS
    exact step_build x s e a k b lv g h0 h4 hB hR w
  · exact step_idle s kd a k b lv g (by omega) w hi

/-- Step i of a script. -/
def IsOp (w : World) (b off i : Nat) : Prop := ∃ (kd x : Int) (s : ByteArray) (a y : Int) (lv : Value), -9223372036854775808 ≤ kd ∧ kd ≤ 9223372036854775807 ∧ s.size ≤ maxLen ∧
  w.cell? ⟨b, off + i * 6, none⟩ = some (.int .i64 kd) ∧ w.cell? ⟨b, off + i * 6 + 1, none⟩ = some (.int .i64 x) ∧ w.cell? ⟨b, off + i * 6 + 2, none⟩ = some (.string s) ∧ w.cell? ⟨b, off + i * 6 + 3, none⟩ = some (.int .i64 a) ∧ w.cell? ⟨b, off + i * 6 + 4, none⟩ = some (.int .i64 y) ∧ w.cell? ⟨b, off + i * 6 + 5, none⟩ = some lv
def IsScript (w : World) (a : Option Addr) (len : Nat) : Prop := len = 0 ∨ ∃ b off, a = some ⟨b, off, none⟩ ∧ len ≤ maxLen ∧ ∀ i, i < len → IsOp w b off i

/-- Behind k steps. -/
def PlV (w : World) (len : Nat) (ok i : Value) (wr : World) : Prop := ∃ k : Nat, k ≤ len ∧ ok = .bool true ∧ i = .int .i64 (k : Int) ∧ Below w.heap.size w wr ∧ w.heap.size < wr.heap.size ∧ wr.cell? ⟨w.heap.size, 0, none⟩ = some (.slice none 0 0) ∧ wr.cell? ⟨w.heap.size, 1, none⟩ = some (.slice none 0 0)
theorem PlV.mk {w : World} {len : Nat} {ok i : Value} {wr : World} (k : Nat) (h1 : k ≤ len) (h2 : ok = .bool true) (h3 : i = .int .i64 (k : Int)) (h4 : Below w.heap.size w wr) (h5 : w.heap.size < wr.heap.size) (h6 : wr.cell? ⟨w.heap.size, 0, none⟩ = some (.slice none 0 0)) (h7 : wr.cell? ⟨w.heap.size, 1, none⟩ = some (.slice none 0 0)) : PlV w len ok i wr := ⟨k, h1, h2, h3, h4, h5, h6, h7⟩

set_option maxRecDepth 100000 in
set_option maxHeartbeats 2000000 in
theorem played_any (hS : ∀ (s : ByteArray) (a : Int), s.size ≤ maxLen → Same s a) (a0 : Option Addr) (len cap : Nat) (w : World) (hA : IsScript w a0 len) :
    Calls Tryz.prog 11 #[.slice a0 len cap, .int .i64 1] w fun e w' => e = .returned (.bool true) ∧ Below w.heap.size w w' := by
  have HS := hide hS
  clear hS
  rcases hA with rfl | ⟨b, off, rfl, hlen, hop⟩
  · go_enter Tryz.func11, Tryz.ntmps11
    go_wp2_with fail
    refine (step_any _ 1 2 0 0 _ w.heap.size (Int.le_refl _) (unhide HS _ 2 (by decide)) _ (cells_new8 w _ _ 0 (by simp))).mono ?_
    rintro e w1 ⟨rfl, B1⟩
    have c0 : w1.cell? ⟨w.heap.size, 0, none⟩ = some (.slice none 0 0) := (B1.cell (by simp)).trans (cells_new8 w _ _ 0 (by simp))
    have c1 : w1.cell? ⟨w.heap.size, 1, none⟩ = some (.slice none 0 0) := (B1.cell (by simp)).trans (cells_new8 w _ _ 1 (by simp))
    have hz : w.heap.size < w1.heap.size := by have := B1.size; simp at this; omega
    have HB1 : Hid (Below w.heap.size w w1) := ((Below.refl _ _).alloc (Nat.le_refl _) _).trans (B1.mono (by simp))
    clear B1
    go_wp2_with fail
    refine wp_loop_rounds 1 ?_
    rw [rounds_succ]
    go_wp2_with fail
    go_ret
    exact ⟨rfl, unhide HB1⟩
  · have HOP := hide hop
    clear hop
    unfold maxLen at hlen
    go_enter Tryz.func11, Tryz.ntmps11
    go_wp2_with fail
    refine (step_any _ 1 2 0 0 _ w.heap.size (Int.le_refl _) (unhide HS _ 2 (by decide)) _ (cells_new8 w _ _ 0 (by simp))).mono ?_
    rintro e w1 ⟨rfl, B1⟩
    have c0 : w1.cell? ⟨w.heap.size, 0, none⟩ = some (.slice none 0 0) := (B1.cell (by simp)).trans (cells_new8 w _ _ 0 (by simp))
    have c1 : w1.cell? ⟨w.heap.size, 1, none⟩ = some (.slice none 0 0) := (B1.cell (by simp)).trans (cells_new8 w _ _ 1 (by simp))
    have hz : w.heap.size < w1.heap.size := by have := B1.size; simp at this; omega
    have HB1 : Hid (Below w.heap.size w w1) := ((Below.refl _ _).alloc (Nat.le_refl _) _).trans (B1.mono (by simp))
    clear B1
    go_wp2_with fail
    go_loopw [6, 7] (fun ok i wr => PlV w len ok i wr) (fun _ i _ => len - (intOf i).toNat)
    case atStart => exact PlV.mk 0 (Nat.zero_le _) rfl rfl (unhide HB1) hz c0 c1
    case round =>
      clear HB1 hz c0 c1
      obtain ⟨k, hk, rfl, rfl, B2, hz, c0, c1⟩ := hrel
      by_cases hlt : k < len
      · obtain ⟨kd, x, s, a, y, lv, k1, k2, hs, q0, q1, q2, q3, q4, q5⟩ := unhide HOP k hlt
        have hb : b < w.heap.size := World.block_lt_of_cell? w _ q0
        have q0 := (B2.cell (p := ⟨b, off + k * 6, none⟩) hb).trans q0
        have q1 := (B2.cell (p := ⟨b, off + k * 6 + 1, none⟩) hb).trans q1
        have q2 := (B2.cell (p := ⟨b, off + k * 6 + 2, none⟩) hb).trans q2
        have q3 := (B2.cell (p := ⟨b, off + k * 6 + 3, none⟩) hb).trans q3
        have q4 := (B2.cell (p := ⟨b, off + k * 6 + 4, none⟩) hb).trans q4
        have q5 := (B2.cell (p := ⟨b, off + k * 6 + 5, none⟩) hb).trans q5
        have HB2 := hide B2
        clear B2
        by_cases hkd : kd ≤ 1
        · have hst := step_any s kd a x y lv w.heap.size hkd (unhide HS s a hs) wr c0
          have HST := hide hst
          clear hst
          have hdk : decide (kd ≤ 1) = true := by simpa using hkd
          go_wp2_with fail
          refine (unhide HST).mono ?_
          rintro e w2 ⟨rfl, B3⟩
          have d0 := (B3.cell (p := ⟨w.heap.size, 0, none⟩) hz).trans c0
          have d1 := (B3.cell (p := ⟨w.heap.size, 1, none⟩) hz).trans c1
          have hz2 : w.heap.size < w2.heap.size := by have := B3.size; omega
          have HB3 := hide ((unhide HB2).trans (B3.mono (by omega)))
          clear B3 HST c0 c1 q0 q1 q2 q3 q4 q5 HB2
          go_wp2_with fail
          refine (looks_any w.heap.size _ d1).mono ?_
          rintro e w3 ⟨rfl, hw3⟩
          subst hw3
          go_wp2_with fail
          go_roundw
          case rel =>
            first | exact PlV.mk (k + 1) (by omega) rfl (by go_num) (unhide HB3) hz2 d0 d1 | (repeat apply Exists.intro; refine ⟨?_, rfl⟩; exact PlV.mk (k + 1) (by omega) rfl (by go_num) (unhide HB3) hz2 d0 d1)
          case measure => simp [intOf]; omega
        · have hdk : decide (kd ≤ 1) = false := by simpa using hkd
          go_wp2_with fail
          refine (looks_any w.heap.size _ c1).mono ?_
          rintro e w3 ⟨rfl, hw3⟩
          subst hw3
          clear q0 q1 q2 q3 q4 q5
          go_wp2_with fail
          go_roundw
          case rel =>
            first | exact PlV.mk (k + 1) (by omega) rfl (by go_num) (unhide HB2) hz c0 c1 | (repeat apply Exists.intro; refine ⟨?_, rfl⟩; exact PlV.mk (k + 1) (by omega) rfl (by go_num) (unhide HB2) hz c0 c1)
          case measure => simp [intOf]; omega
      · have ek : k = len := by omega
        subst ek
        have HB2 := hide B2
        clear B2
        go_wp2_with fail
        go_ret
        exact ⟨rfl, unhide HB2⟩
end Go.Proofs.YthlincikgdblfaaGreat
