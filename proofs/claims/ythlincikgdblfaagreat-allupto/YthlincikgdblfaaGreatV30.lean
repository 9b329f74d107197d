import Derived.Test.YthlincikgdblfaaGreatV28
import Derived.Test.YthlincikgdblfaaGreatV29
import Derived.Test.YthlincikgdblfaaGreatV27
import Derived.Test.YthlincikgdblfaaGreatV14
import Derived.OwnWalk
import Derived.Test.YthlincikgdblfaaGreatV25
namespace Go.Proofs.YthlincikgdblfaaGreat
open Go.RowKit
set_option linter.unusedVariables false

def Same (s : ByteArray) (a : Int) : Prop := ∃ (x : ByteArray) (e : Int), 0 ≤ e ∧ e ≤ 4 ∧
    (∀ w, Calls Tryz.prog 21 #[.string s, .int .i64 a] w fun en w' => en = .returned (.tuple #[.string x, .int .i64 e]) ∧ Below w.heap.size w w') ∧
    (∀ w, Calls Tryz.prog 38 #[.string s, .int .i64 a] w fun en w' => en = .returned (.tuple #[.string x, .int .i64 e]) ∧ Below w.heap.size w w')

theorem step_any (s : ByteArray) (kd a k b : Int) (lv : Value) (g : Nat) (hk : kd ≤ 1) (hS : Same s a) (w : World) (hi : w.cell? ⟨g, 0, none⟩ = some (.slice none 0 0)) :
    Calls Tryz.prog 24 #[.pointer (some ⟨g, 0, none⟩), .agg #[.int .i64 kd, .int .i64 k, .string s, .int .i64 a, .int .i64 b, lv]] w fun en w' => en = .returned (.bool true) ∧ Below w.heap.size w w' := by
  by_cases h1 : kd = 1
  · subst h1
    obtain ⟨x, e, h0, h4, hB, hR⟩ := hS
    exact step_build x s e a k b lv g h0 h4 hB hR w
  · exact step_idle s kd a k b lv g (by omega) w hi

/-- Step i of a script. -/
def IsOp (w : World) (b off i : Nat) : Prop := ∃ (kd x : Int) (s : ByteArray) (a y : Int) (lv : Value), -9223372036854775808 ≤ kd ∧ kd ≤ 9223372036854775807 ∧ s.size ≤ maxLen ∧
  w.cell? ⟨b, off + i * 6, none⟩ = some (.int .i64 kd) ∧ w.cell? ⟨b, off + i * 6 + 1, none⟩ = some (.int .i64 x) ∧ w.cell? ⟨b, off + i * 6 + 2, none⟩ = some (.string s) ∧ w.cell? ⟨b, off + i * 6 + 3, none⟩ = some (.int .i64 a) ∧ w.cell? ⟨b, off + i * 6 + 4, none⟩ = some (.int .i64 y) ∧ w.cell? ⟨b, off + i * 6 + 5, none⟩ = some lv
def IsScript (w : World) (a : Option Addr) (len : Nat) : Prop := len = 0 ∨ ∃ b off, a = some ⟨b, off, none⟩ ∧ len ≤ maxLen ∧ ∀ i, i < len → IsOp w b off i

/-- Behind k steps. -/
def PlV (w : World) (len : Nat) (ok i : Value) (wr : World) : Prop := ∃ k : Nat, k ≤ len ∧ ok = .bool true ∧ i = .int .i64 (k : Int) ∧ Below w.heap.size w wr ∧ w.heap.size < wr.heap.size ∧ wr.cell? ⟨w.heap.size, 0, none⟩ = some (.slice none 0 0) ∧ wr.cell? ⟨w.heap.size, 1, none⟩ = some (.slice none 0 0)
theorem PlV.mk {w : World} {len : Nat} {ok i : Value} {wr : World} (k : Nat) (h1 : k ≤ len) (h2 : ok = .bool true) (h3 : i = .int .i64 (k : Int)) (h4 : Below w.heap.size w wr) (h5 : w.heap.size < wr.heap.size) (h6 : wr.cell? ⟨w.heap.size, 0, none⟩ = some (.slice none 0 0)) (h7 : wr.cell? ⟨w.heap.size, 1, none⟩ = some (.slice none 0 0)) : PlV w len ok i wr := ⟨k, h1, h2, h3, h4, h5, h6, h7⟩

set_option maxRecDepth 100000 in
set_option maxHeartbeats 2000000 in
theorem played_any (hS : ∀ (s : ByteArray) (a : Int), s.size ≤ maxLen → Same s a) (a0 : Option Addr) (len cap : Nat) (w : World) (hA : IsScript w a0 len) :
    Calls Tryz.prog 11 #[.slice a0 len cap, .int .i64 1] w fun e w' => e = .returned (.bool true) ∧ Below w.heap.size w w' := by
  have HS := hide hS
  clear hS
  rcases hA with rfl | ⟨b, off, rfl, hlen, hop⟩
  · go_enter Tryz.func11, Tryz.ntmps11
    go_wp2_with fail
    refine (step_any _ 1 2 0 0 _ w.heap.size (Int.le_refl _) (unhide HS _ 2 (by decide)) _ (cells_new8 w _ _ 0 (by simp))).mono ?_
    rintro e w1 ⟨rfl, B1⟩
    have c0 : w1.cell? ⟨w.heap.size, 0, none⟩ = some (.slice none 0 0) := (B1.cell (by simp)).trans (cells_new8 w _ _ 0 (by simp))
    have c1 : w1.cell? ⟨w.heap.size, 1, none⟩ = some (.slice none 0 0) := (B1.cell (by simp)).trans (cells_new8 w _ _ 1 (by simp))
    have hz : w.heap.size < w1.heap.size := by have := B1.size; simp at this; omega
    have HB1 : Hid (Below w.heap.size w w1) := ((Below.refl _ _).alloc (Nat.le_refl _) _).trans (B1.mono (by simp))
    clear B1
    go_wp2_with fail
    refine wp_loop_rounds 1 ?_
    rw [rounds_succ]
    go_wp2_with fail
    go_ret
    exact ⟨rfl, unhide HB1⟩
  · have HOP := hide hop
    clear hop
    unfold maxLen at hlen
    go_enter Tryz.func11, Tryz.ntmps11
    go_wp2_with fail
    refine (step_any _ 1 2 0 0 _ w.heap.size (Int.le_refl _) (unhide HS _ 2 (by decide)) _ (cells_new8 w _ _ 0 (by simp))).mono ?_
    rintro e w1 ⟨rfl, B1⟩
    have c0 : w1.cell? ⟨w.heap.size, 0, none⟩ = some (.slice none 0 0) := (B1.cell (by simp)).trans (cells_new8 w _ _ 0 (by simp))
    have c1 : w1.cell? ⟨w.heap.size, 1, none⟩ = some (.slice none 0 0) := (B1.cell (by simp)).trans (cells_new8 w _ _ 1 (by simp))
    have hz : w.heap.size < w1.heap.size := by have := B1.size; simp at this; omega
    have HB1 : Hid (Below w.heap.size w w1) := ((Below.refl _ _).alloc (Nat.le_refl _) _).trans (B1.mono (by simp))
    clear B1
    go_wp2_with fail
    go_loopw [6, 7] (fun ok i wr => PlV w len ok i wr) (fun _ i _ => len - (intOf i).toNat)
    case atStart => exact PlV.mk 0 (Nat.zero_le _) rfl rfl (unhide HB1) hz c0 c1
    case round =>
      clear HB1 hz c0 c1
      obtain ⟨k, hk, rfl, rfl, B2, hz, c0, c1⟩ := hrel
      by_cases hlt : k < len
      · obtain ⟨kd, x, s, a, y, lv, k1, k2, hs, q0, q1, q2, q3, q4, q5⟩ := unhide HOP k hlt
        have hb : b < w.heap.size := World.block_lt_of_cell? w _ q0
        have q0 := (B2.cell (p := ⟨b, off + k * 6, none⟩) hb).trans q0
        have q1 := (B2.cell (p := ⟨b, off + k * 6 + 1, none⟩) hb).trans q1
        have q2 := (B2.cell (p := ⟨b, off + k * 6 + 2, none⟩) hb).trans q2
        have q3 := (B2.cell (p := ⟨b, off + k * 6 + 3, none⟩) hb).trans q3
        have q4 := (B2.cell (p := ⟨b, off + k * 6 + 4, none⟩) hb).trans q4
        have q5 := (B2.cell (p := ⟨b, off + k * 6 + 5, none⟩) hb).trans q5
        have HB2 := hide B2
        clear B2
        by_cases hkd : kd ≤ 1
        · have hst := step_any s kd a x y lv w.heap.size hkd (unhide HS s a hs) wr c0
          have HST := hide hst
          clear hst
          have hdk : decide (kd ≤ 1) = true := by simpa using hkd
          go_wp2_with fail
          refine (unhide HST).mono ?_
          rintro e w2 ⟨rfl, B3⟩
          have d0 := (B3.cell (p := ⟨w.heap.size, 0, none⟩) hz).trans c0
          have d1 := (B3.cell (p := ⟨w.heap.size, 1, none⟩) hz).trans c1
          have hz2 : w.heap.size < w2.heap.size := by have := B3.size; omega
          have HB3 := hide ((unhide HB2).trans (B3.mono (by omega)))
          clear B3 HST c0 c1 q0 q1 q2 q3 q4 q5 HB2
          go_wp2_with fail
          refine (looks_any w.heap.size _ d1).mono ?_
          rintro e w3 ⟨rfl, hw3⟩
          subst hw3
          go_wp2_with fail
          go_roundw
          case rel =>
            first | exact PlV.mk (k + 1) (by omega) rfl (by go_num) (unhide HB3) hz2 d0 d1 | (repeat apply Exists.intro; refine ⟨?_, rfl⟩; exact PlV.mk (k + 1) (by omega) rfl (by go_num) (unhide HB3) hz2 d0 d1)
          case measure => simp [intOf]; omega
        · have hdk : decide (kd ≤ 1) = false := by simpa using hkd
          go_wp2_with fail
          refine (looks_any w.heap.size _ c1).mono ?_
          rintro e w3 ⟨rfl, hw3⟩
          subst hw3
          clear q0 q1 q2 q3 q4 q5
          go_wp2_with fail
          go_roundw
          case rel =>
            first | exact PlV.mk (k + 1) (by omega) rfl (by go_num) (unhide HB2) hz c0 c1 | (repeat apply Exists.intro; refine ⟨?_, rfl⟩; exact PlV.mk (k + 1) (by omega) rfl (by go_num) (unhide HB2) hz c0 c1)
          case measure => simp [intOf]; omega
      · have ek : k = len := by omega
        subst ek
        have HB2 := hide B2
        clear B2
        go_wp2_with fail
        go_ret
        exact ⟨rfl, unhide HB2⟩
end Go.Proofs.YthlincikgdblfaaGreat

namespace Go.Proofs.YthlincikgdblfaaGreat
open Go.RowKit
set_option linter.unusedVariables false

/-- The program's file and the document's are the same. -/
theorem same_any (s : ByteArray) (a : Int) (hs : s.size ≤ maxLen) : Same s a := by
  by_cases h : s.size ≤ 250 ∧ isRate a = true
  · obtain ⟨h1, h2⟩ := h
    obtain ⟨r, rfl⟩ : ∃ r : Nat, a = (r : Int) := by
      refine ⟨a.toNat, ?_⟩
      have : a = 1 ∨ a = 2 ∨ a = 4 ∨ a = 8 := by
        unfold isRate at h2
        simp at h2
        omega
      omega
    by_cases hex : ∃ rows, Rot.IsRows s.data.toList rows
    · obtain ⟨rows, hR⟩ := hex
      refine ⟨Sb (Rot.fileOf s.data.toList rows r), 0, by omega, by omega, fun w => ?_, fun w => ?_⟩
      · refine (build_yes s r w h1 h2).mono ?_
        rintro e w' ⟨rows', hR', rfl, hB⟩
        rw [Rot.rows_unique hR' hR]
        exact ⟨rfl, hB⟩
      · refine (rbuild_yes s r w h1 h2).mono ?_
        rintro e w' ⟨rows', rfl, hR', g⟩
        rw [Rot.rows_unique hR' hR]
        exact ⟨rfl, Below.of_grown g⟩
    · refine ⟨⟨#[]⟩, 0, by omega, by omega, fun w => ?_, fun w => ?_⟩
      · refine (build_yes s r w h1 h2).mono ?_
        rintro e w' ⟨rows', hR', _⟩
        exact absurd ⟨rows', hR'⟩ hex
      · refine (rbuild_yes s r w h1 h2).mono ?_
        rintro e w' ⟨rows', _, hR', _⟩
        exact absurd ⟨rows', hR'⟩ hex
  · refine ⟨⟨#[]⟩, 1, by omega, by omega, fun w => ?_, fun w => ?_⟩
    · refine (build_no s a w hs h).mono ?_
      rintro e w' ⟨rfl, rfl⟩
      exact ⟨rfl, Below.refl _ _⟩
    · refine (rbuild_no s a w hs h).mono ?_
      rintro e w' ⟨rfl, rfl⟩
      exact ⟨rfl, Below.refl _ _⟩
end Go.Proofs.YthlincikgdblfaaGreat

namespace Go.Proofs.YthlincikgdblfaaGreat
set_option linter.unusedVariables false
namespace Rot
/-- Bytes that are the file of a text by a rate. -/
def IsFile (b t : List UInt8) (r : Nat) : Prop := t.length ≤ 250 ∧ isRate (r : Int) = true ∧ ∃ rows, IsRows t rows ∧ b = fileOf t rows r
theorem rate_le {r : Nat} (h : isRate (r : Int) = true) : 1 ≤ r ∧ r ≤ 8 := by
  unfold isRate at h
  simp at h
  omega
theorem IsFile.size {b t : List UInt8} {r : Nat} (h : IsFile b t r) : b.length = sizeOf t.length r ∧ 577 ≤ b.length ∧ b.length ≤ 2000 := by
  obtain ⟨ht, hr, rows, hR, rfl⟩ := h
  have h1 := (file_size hR r (by have := rate_le hr; omega)).1
  have h2 := size_le t.length r ht
  omega
theorem file_head {t : List UInt8} {rows : List Nat} (r : Nat) (k : Nat) (hk : k < 12) : (fileOf t rows r)[k]? = (headOf t.length r (12 + (tableOf (sectionsOf t rows r)).length + (bodyOf (sectionsOf t rows r)).length))[k]? := by
  unfold fileOf
  rw [List.append_assoc, List.getElem?_append_left (by rw [head_len]; exact hk)]
theorem le16_back (n : Nat) (hn : n < 65536) : (UInt8.ofNat n).toNat + 256 * (UInt8.ofNat (n / 256)).toNat = n := by
  simp
  omega
theorem file_n {t : List UInt8} {rows : List Nat} (r : Nat) : ((fileOf t rows r)[4]?).getD 0 = UInt8.ofNat t.length ∧ ((fileOf t rows r)[5]?).getD 0 = UInt8.ofNat (t.length / 256) ∧ ((fileOf t rows r)[6]?).getD 0 = UInt8.ofNat r := by
  rw [file_head r 4 (by omega), file_head r 5 (by omega), file_head r 6 (by omega)]
  exact ⟨rfl, rfl, rfl⟩
theorem file_last {t : List UInt8} {rows : List Nat} (r : Nat) : ((fileOf t rows r)[42]?).getD 0 = UInt8.ofNat (rows.idxOf 0) ∧ ((fileOf t rows r)[43]?).getD 0 = UInt8.ofNat (rows.idxOf 0 / 256) := by
  have e : fileOf t rows r = (headOf t.length r (12 + (tableOf (sectionsOf t rows r)).length + (bodyOf (sectionsOf t rows r)).length) ++ tableOf (sectionsOf t rows r)) ++ (lastOf rows ++ (treeOf (columnOf t rows) ++ firstOf t ++ marksOf rows r ++ placesOf rows r)) := by
    unfold fileOf
    simp only [bodyOf, sectionsOf, List.flatMap_cons, List.flatMap_nil, id, List.append_assoc, List.append_nil]
  have e2 : (headOf t.length r (12 + (tableOf (sectionsOf t rows r)).length + (bodyOf (sectionsOf t rows r)).length) ++ tableOf (sectionsOf t rows r)).length = 42 := by
    rw [List.length_append, head_len, table_len]
    rfl
  rw [e]
  generalize headOf t.length r (12 + (tableOf (sectionsOf t rows r)).length + (bodyOf (sectionsOf t rows r)).length) ++ tableOf (sectionsOf t rows r) = pre at e2 ⊢
  have g0 := getD_append pre (lastOf rows ++ (treeOf (columnOf t rows) ++ firstOf t ++ marksOf rows r ++ placesOf rows r)) 0
  have g1 := getD_append pre (lastOf rows ++ (treeOf (columnOf t rows) ++ firstOf t ++ marksOf rows r ++ placesOf rows r)) 1
  rw [e2] at g0 g1
  rw [g0, g1]
  exact ⟨rfl, rfl⟩
/-- What a file says of itself. -/
theorem IsFile.says {b t : List UInt8} {r : Nat} (h : IsFile b t r) : ((b[4]?).getD 0).toNat + 256 * ((b[5]?).getD 0).toNat = t.length ∧ ((b[6]?).getD 0).toNat = r ∧
    Whole (colRead b 44 t.length) (((b[42]?).getD 0).toNat + 256 * ((b[43]?).getD 0).toNat) ∧ spell (colRead b 44 t.length) (((b[42]?).getD 0).toNat + 256 * ((b[43]?).getD 0).toNat) t.length = t := by
  obtain ⟨ht, hr, rows, hR, rfl⟩ := h
  have hr8 := rate_le hr
  obtain ⟨e4, e5, e6⟩ := file_n (t := t) (rows := rows) r
  obtain ⟨e42, e43⟩ := file_last (t := t) (rows := rows) r
  have hl := last_le hR
  rw [e4, e5, e6, e42, e43, le16_back _ (by omega), le16_back _ (by omega), file_column hR]
  refine ⟨rfl, by simp; omega, rows_whole hR, ?_⟩
  have := spell_text hR
  rw [column_length hR] at this
  exact this
end Rot
open Go.RowKit
theorem bytes_inj {a b : ByteArray} (h : a.toList = b.toList) : a = b := by
  rw [ByteArray.toList_eq, ByteArray.toList_eq] at h
  exact ByteArray.ext (Array.toList_inj.1 h)

set_option maxRecDepth 100000 in
set_option maxHeartbeats 2000000 in
theorem guess_any (s : ByteArray) (w : World) (hs : s.size ≤ 4000) :
    Calls Tryz.prog 109 #[.string s] w fun e w' => ((∃ (t : List UInt8) (r : Nat), e = .returned (.tuple #[.string (Sb t), .int .i64 r, .bool true]) ∧ Rot.IsFile s.data.toList t r) ∨ (∃ x r, e = .returned (.tuple #[.string x, .int .i64 r, .bool false]) ∧ ¬ ∃ t r, Rot.IsFile s.data.toList t r)) ∧ w.grownBy w' none := by
  have hcl : s.data.toList.length = s.size := by simp
  by_cases h44 : s.size < 44
  · go_enter Tryz.func109, Tryz.ntmps109
    go_wp2_with fail
    go_ret3
    refine ⟨Or.inr ⟨_, _, rfl, ?_⟩, World.grownBy.refl _ _⟩
    rintro ⟨t, r, h⟩
    have := h.size
    omega
  · obtain ⟨n, hn⟩ : ∃ n : Nat, n = (s[4]'(by omega)).toNat + 256 * (s[5]'(by omega)).toNat := ⟨_, rfl⟩
    obtain ⟨r, hr⟩ : ∃ r : Nat, r = (s[6]'(by omega)).toNat := ⟨_, rfl⟩
    obtain ⟨last, hlast⟩ : ∃ l : Nat, l = (s[42]'(by omega)).toNat + 256 * (s[43]'(by omega)).toNat := ⟨_, rfl⟩
    have hn2 : n ≤ 65535 := by have h1 := (s[4]'(by omega)).toNat_lt; have h2 := (s[5]'(by omega)).toNat_lt; omega
    have hl2 : last ≤ 65535 := by have h1 := (s[42]'(by omega)).toNat_lt; have h2 := (s[43]'(by omega)).toNat_lt; omega
    have hr2 : r ≤ 255 := by have h1 := (s[6]'(by omega)).toNat_lt; omega
    have hnum4 := fun w => rnumber_any s 4 w (by omega) hs
    have hnum42 := fun w => rnumber_any s 42 w (by omega) hs
    rw [← hn] at hnum4
    rw [← hlast] at hnum42
    have i6 := idx_str s 6 (by omega) 6 rfl
    rw [← hr] at i6
    have HS : Hid (∀ t r', Rot.IsFile s.data.toList t r' → t.length = n ∧ r' = r ∧ n ≤ 250 ∧ isRate (r : Int) = true ∧ 44 + 8 * (2 + (n + 7) / 8 + 2 * ((n + 15) / 16)) ≤ s.size ∧ Rot.Whole (Rot.colRead s.data.toList 44 n) last ∧ Rot.spell (Rot.colRead s.data.toList 44 n) last n = t) := by
      intro t r' h
      obtain ⟨e1, e2, e3, e4⟩ := h.says
      have hsz := h.size.1
      rw [toList_at s 4 (by omega), toList_at s 5 (by omega), ← hn] at e1
      rw [toList_at s 6 (by omega), ← hr] at e2
      rw [toList_at s 42 (by omega), toList_at s 43 (by omega), ← hlast, ← e1] at e3 e4
      rw [hcl] at hsz
      refine ⟨e1.symm, e2.symm, by rw [e1]; exact h.1, by rw [e2]; exact h.2.1, ?_, e3, e4⟩
      rw [e1, hsz]
      unfold Rot.sizeOf
      omega
    have H42 := hide hnum42
    clear hn hr hlast hnum42
    obtain ⟨W, hW⟩ : ∃ W : Nat, W = 2 + (n + 7) / 8 + 2 * ((n + 15) / 16) := ⟨_, rfl⟩
    have hWi : (2 + ((n : Int) + 7) / 8 + 2 * (((n : Int) + 15) / 16)) = (W : Int) := by omega
    have hW2 : W ≤ 100000 := by omega
    rw [← hW] at HS
    have hrate := fun w => rrate_any (r : Int) w
    cases hir : isRate (r : Int) with
    | false =>
      rw [hir] at hrate
      have HNF : Hid (¬ ∃ t r, Rot.IsFile s.data.toList t r) := by
        rintro ⟨t, r', h⟩
        have := (unhide HS t r' h).2.2.2.1
        rw [hir] at this
        cases this
      have HWq := hide hW
      clear hW
      go_enter Tryz.func109, Tryz.ntmps109
      go_wp2_with fail
      refine (hnum4 _).mono ?_
      rintro e w1 ⟨rfl, m1, rfl⟩
      go_wp2_with fail
      refine (hrate _).mono ?_
      rintro e w2 ⟨rfl, hw2⟩
      subst hw2
      go_wp2_with fail
      all_goals (go_ret3; exact ⟨Or.inr ⟨_, _, rfl, unhide HNF⟩, grown_drewN (World.grownBy.refl _ _) _⟩)
    | true =>
      rw [hir] at hrate
      by_cases hnn : n ≤ 250 ∧ 44 + 8 * W ≤ s.size
      · obtain ⟨hn250, hlen⟩ := hnn
        have d1 : decide (250 < (n : Int)) = false := by simp; omega
        have d2 : decide ((s.size : Int) < 44 + 8 * (W : Int)) = false := by simp; omega
        have hcol := fun w => rcolumn_any s 44 n W w hW hn250 hs hlen
        have hcs : (Sb (Rot.colRead s.data.toList 44 n)).size = n := by rw [Sb_size]; simp [Rot.colRead]
        have htx := fun w => rtext_any (Sb (Rot.colRead s.data.toList 44 n)) last w (by omega) hl2
        rw [Sb_toList, hcs] at htx
        have HTX := hide htx
        have HCOL := hide hcol
        have HWq := hide hW
        clear hW htx hcol hcs
        go_enter Tryz.func109, Tryz.ntmps109
        go_wp2_with fail
        refine (hnum4 _).mono ?_
        rintro e w1 ⟨rfl, m1, rfl⟩
        go_wp2_with fail
        refine (hrate _).mono ?_
        rintro e w2 ⟨rfl, hw2⟩
        subst hw2
        go_wp2_with fail
        refine (unhide HCOL _).mono ?_
        rintro e w3 ⟨rfl, g3⟩
        have HG3 : Hid (w.grownBy w3 none) := ⟨g3.os, g3.tape, g3.output, g3.size, g3.block⟩
        clear g3
        go_wp2_with fail
        refine (unhide H42 _).mono ?_
        rintro e w4 ⟨rfl, m4, rfl⟩
        go_wp2_with fail
        refine (unhide HTX _).mono ?_
        rintro e w5 (⟨x, rfl, hnw, g5⟩ | ⟨rfl, hw, g5⟩)
        · have HG5 := hide (grown_trans (grown_drewN (unhide HG3) m4) g5 (Or.inl rfl))
          have HNF : Hid (¬ ∃ t r, Rot.IsFile s.data.toList t r) := by
            rintro ⟨t, r', h⟩
            exact hnw (unhide HS t r' h).2.2.2.2.2.1
          clear g5 hnw
          go_wp2_with fail
          go_ret3
          exact ⟨Or.inr ⟨_, _, rfl, unhide HNF⟩, unhide HG5⟩
        · have HG5 := hide (grown_trans (grown_drewN (unhide HG3) m4) g5 (Or.inl rfl))
          have htl : (Rot.spell (Rot.colRead s.data.toList 44 n) last n).length = n := Rot.spell_len _ _ _
          have hbl := fun w => rbuild_yes (Sb (Rot.spell (Rot.colRead s.data.toList 44 n) last n)) r w (by rw [Sb_size, htl]; exact hn250) hir
          rw [Sb_toList] at hbl
          have HT : Hid (∀ t r', Rot.IsFile s.data.toList t r' → t = Rot.spell (Rot.colRead s.data.toList 44 n) last n ∧ r' = r) := fun t r' h => by
            have := unhide HS t r' h
            exact ⟨this.2.2.2.2.2.2.symm, this.2.1⟩
          have HBL := hide hbl
          clear g5 hbl HS hw
          generalize Rot.spell (Rot.colRead s.data.toList 44 n) last n = t at htl HBL HT ⊢
          go_wp2_with fail
          refine (unhide HBL _).mono ?_
          rintro e w6 ⟨rows, rfl, hR, g6⟩
          have HG6 := hide (grown_trans (unhide HG5) g6 (Or.inl rfl))
          have HR := hide hR
          clear g6 hR HBL
          by_cases hsame : Sb (Rot.fileOf t rows r) = s
          · have HF : Hid (Rot.IsFile s.data.toList t r) := ⟨by omega, hir, rows, unhide HR, by rw [← hsame, Sb_toList]⟩
            have HBE : Hid (((Sb (Rot.fileOf t rows r)).toList == s.toList) = true) := by rw [hsame]; exact hide (by simp)
            generalize Sb (Rot.fileOf t rows r) = own at HBE
            clear hsame
            go_wp2_with fail
            go_ret3
            refine ⟨Or.inl ⟨t, r, ?_, unhide HF⟩, unhide HG6⟩
            show Ending.returned (.tuple #[.string (Sb t), .int .i64 r, .bool (own.toList == s.toList)]) = _
            rw [unhide HBE]
          · have HNF : Hid (¬ ∃ t r, Rot.IsFile s.data.toList t r) := by
              rintro ⟨t', r', h⟩
              obtain ⟨rfl, rfl⟩ := unhide HT t' r' h
              obtain ⟨_, _, rows', hR', e⟩ := h
              rw [Rot.rows_unique hR' (unhide HR)] at e
              apply hsame
              rw [← e, ← Sb_of]
            have HBE : Hid (((Sb (Rot.fileOf t rows r)).toList == s.toList) = false) := by
              refine hide ?_
              rw [beq_eq_false_iff_ne]
              intro e
              exact hsame (bytes_inj e)
            generalize Sb (Rot.fileOf t rows r) = own at HBE
            clear hsame
            go_wp2_with fail
            go_ret3
            refine ⟨Or.inr ⟨Sb t, r, ?_, unhide HNF⟩, unhide HG6⟩
            show Ending.returned (.tuple #[.string (Sb t), .int .i64 r, .bool (own.toList == s.toList)]) = _
            rw [unhide HBE]
      · have HNF : Hid (¬ ∃ t r, Rot.IsFile s.data.toList t r) := by
          rintro ⟨t, r', h⟩
          have := unhide HS t r' h
          exact hnn ⟨this.2.2.1, this.2.2.2.2.1⟩
        have HWq := hide hW
        clear hW
        by_cases hn250 : n ≤ 250
        · have d1 : decide (250 < (n : Int)) = false := by simp; omega
          have d2 : decide ((s.size : Int) < 44 + 8 * (W : Int)) = true := by simp; omega
          clear hnn
          go_enter Tryz.func109, Tryz.ntmps109
          go_wp2_with fail
          refine (hnum4 _).mono ?_
          rintro e w1 ⟨rfl, m1, rfl⟩
          go_wp2_with fail
          refine (hrate _).mono ?_
          rintro e w2 ⟨rfl, hw2⟩
          subst hw2
          go_wp2_with fail
          all_goals (go_ret3; exact ⟨Or.inr ⟨_, _, rfl, unhide HNF⟩, grown_drewN (World.grownBy.refl _ _) _⟩)
        · have d1 : decide (250 < (n : Int)) = true := by simp; omega
          clear hnn
          go_enter Tryz.func109, Tryz.ntmps109
          go_wp2_with fail
          refine (hnum4 _).mono ?_
          rintro e w1 ⟨rfl, m1, rfl⟩
          go_wp2_with fail
          refine (hrate _).mono ?_
          rintro e w2 ⟨rfl, hw2⟩
          subst hw2
          go_wp2_with fail
          all_goals (go_ret3; exact ⟨Or.inr ⟨_, _, rfl, unhide HNF⟩, grown_drewN (World.grownBy.refl _ _) _⟩)
end Go.Proofs.YthlincikgdblfaaGreat

namespace Go.Proofs.YthlincikgdblfaaGreat
set_option linter.unusedVariables false

theorem rs_split (s : List UInt8) (k : Nat) : rs s k = dd s k ++ rs s (k + 1) := (List.take_append_drop _ _).symm
theorem body_split {s : List UInt8} (h : rs s 5 = []) : rs s 0 = dd s 0 ++ (dd s 1 ++ (dd s 2 ++ (dd s 3 ++ dd s 4))) := by
  rw [rs_split s 0, rs_split s 1, rs_split s 2, rs_split s 3, rs_split s 4, h, List.append_nil]
/-- What is marked, in its order. -/
theorem filter_take {M : List UInt8} {Q rows : List Nat} {p : Nat → Bool} (hb : ∀ i (hi : i < rows.length), (Rot.bitAt M 0 i == 1) = p (rows[i]'hi)) (hQ : ∀ i (hi : i < rows.length), Rot.bitAt M 0 i = 1 → Q[Rot.os M i]? = some (rows[i]'hi)) : ∀ i, i ≤ rows.length → (rows.take i).filter p = Q.take (Rot.os M i)
  | 0, _ => by
    have : Rot.os M 0 = 0 := rfl
    rw [this]
    simp
  | i + 1, h => by
    have hi : i < rows.length := by omega
    rw [List.take_succ_eq_append_getElem hi, List.filter_append, filter_take hb hQ i (by omega), Rot.os_succ]
    have hlt := Rot.bitAt_lt M 0 i
    by_cases e : Rot.bitAt M 0 i = 1
    · have h1 := hQ i hi e
      have h2 : p (rows[i]'hi) = true := by rw [← hb i hi, e]; rfl
      obtain ⟨h3, h4⟩ := List.getElem?_eq_some_iff.1 h1
      rw [e, List.take_succ_eq_append_getElem h3, h4]
      simp [h2]
    · have e0 : Rot.bitAt M 0 i = 0 := by omega
      have h2 : p (rows[i]'hi) = false := by rw [← hb i hi, e0]; rfl
      rw [e0]
      simp [h2]
theorem le32_num (a b c d : UInt8) : Rot.le32 (a.toNat + 256 * b.toNat + 65536 * c.toNat + 16777216 * d.toNat) = [a, b, c, d] := by
  have ha : a.toNat < 256 := a.toNat_lt
  have hb : b.toNat < 256 := b.toNat_lt
  have hc : c.toNat < 256 := c.toNat_lt
  have hd : d.toNat < 256 := d.toNat_lt
  unfold Rot.le32
  congr 1
  · apply UInt8.toNat_inj.1
    rw [UInt8.toNat_ofNat']
    omega
  congr 1
  · apply UInt8.toNat_inj.1
    rw [UInt8.toNat_ofNat']
    omega
  congr 1
  · apply UInt8.toNat_inj.1
    rw [UInt8.toNat_ofNat']
    omega
  congr 1
  · apply UInt8.toNat_inj.1
    rw [UInt8.toNat_ofNat']
    omega
/-- A row of the table. -/
theorem row_is {t : List UInt8} {k : Nat} (h : 6 * k + 6 ≤ t.length) : t.drop (6 * k) = Rot.le16 (szAt t k) ++ Rot.le32 (smAt t k) ++ t.drop (6 * (k + 1)) := by
  obtain ⟨a, b, c, d, e, f, h1, h2, h3⟩ := row6 h
  rw [← h2, ← h3, Rot.le16_num, le32_num, h1]
  rfl
theorem table_is {t : List UInt8} (h : 30 ≤ t.length) : t = (Rot.le16 (szAt t 0) ++ Rot.le32 (smAt t 0)) ++ ((Rot.le16 (szAt t 1) ++ Rot.le32 (smAt t 1)) ++ ((Rot.le16 (szAt t 2) ++ Rot.le32 (smAt t 2)) ++ ((Rot.le16 (szAt t 3) ++ Rot.le32 (smAt t 3)) ++ ((Rot.le16 (szAt t 4) ++ Rot.le32 (smAt t 4)) ++ t.drop 30)))) := by
  have h0 := row_is (t := t) (k := 0) (by omega)
  have h1 := row_is (t := t) (k := 1) (by omega)
  have h2 := row_is (t := t) (k := 2) (by omega)
  have h3 := row_is (t := t) (k := 3) (by omega)
  have h4 := row_is (t := t) (k := 4) (by omega)
  have e : t.drop (6 * 0) = t := rfl
  rw [e] at h0
  conv => lhs; rw [h0, h1, h2, h3, h4]
theorem head_is {s : List UInt8} (h : headOk s) : s = Rot.headOf (nn s) (rr s) s.length ++ tb s := by
  obtain ⟨a4, a5, a6, a8, a9, a10, a11, rest, h1, h2, h3, h4⟩ := h
  have hn : nn s = a4.toNat + 256 * a5.toNat := by rw [h1]; rfl
  have hr : rr s = a6.toNat := by rw [h1]; rfl
  have ht : tb s = rest := by rw [h1]; rfl
  have h6 : UInt8.ofNat a6.toNat = a6 := by simp
  unfold Rot.headOf
  rw [hn, hr, ht, ← h4, Rot.le16_num, le32_num, h6, h1]
  rfl
/-- A piece of the tree's section is what the bits say. -/
theorem level_is {d : List UInt8} {n k : Nat} (hl : 8 * Wd n ≤ d.length) (hk : k < 8) (hz : (zerosTo d n 8)[k]? = some (n - Rot.os (pc d n k) n)) (ha : agrees (pc d n k) (dc d n k) n) : (d.drop (k * Wd n)).take (Wd n) = Rot.le16 (n - Rot.os (pc d n k) n) ++ Rot.bitsOf (Rot.levelBits (pc d n k) 0 n) := by
  have hle : (k + 1) * Wd n ≤ 8 * Wd n := Nat.mul_le_mul_right _ (by omega)
  rw [Nat.add_mul] at hle
  have hz2 : zAt d n k = n - Rot.os (pc d n k) n := by
    unfold zerosTo at hz
    rw [List.getElem?_map, List.getElem?_range hk] at hz
    simpa using hz
  have hW : Wd n = 2 + ((n + 7) / 8 + 2 * ((n + 15) / 16)) := by unfold Wd; omega
  have e1 := Rot.nums_bytes (d.drop (k * Wd n)) 1 (by rw [List.length_drop]; omega)
  have hn1 : (Rot.nums (d.drop (k * Wd n)) 1).flatMap Rot.le16 = Rot.le16 (zAt d n k) := by
    show [Rot.numAt (d.drop (k * Wd n)) 0].flatMap Rot.le16 = _
    simp [zAt]
  have e2 := Rot.nums_bytes ((d.drop (k * Wd n + 2)).drop ((n + 7) / 8)) ((n + 15) / 16) (by rw [List.length_drop, List.length_drop]; omega)
  have hb : Rot.bitsOf (Rot.levelBits (pc d n k) 0 n) = pc d n k ++ (dc d n k).flatMap Rot.le16 := by
    unfold Rot.bitsOf Rot.Row.bytes
    rw [← ha.1, ← ha.2]
  rw [hb, ← hz2, ← hn1, e1]
  unfold dc
  rw [e2]
  unfold pc
  rw [hW, List.take_add, List.take_add, List.drop_drop, List.drop_drop]
end Go.Proofs.YthlincikgdblfaaGreat
