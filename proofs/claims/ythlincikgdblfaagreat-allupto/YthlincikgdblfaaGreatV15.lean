import Derived.Test.YthlincikgdblfaaGreatV13
import Derived.Test.YthlincikgdblfaaGreatV05
import Derived.Test.YthlincikgdblfaaGreatV14
import Derived.Test.YthlincikgdblfaaGreatShelf2
namespace Go.Proofs.YthlincikgdblfaaGreat
open Go.RowKit
set_option linter.unusedVariables false

theorem Us.shape {w : World} {base : Nat} {v : Value} {l : List Nat} (h : Us w base v l) : ∃ az cz, v = .slice az l.length cz := by
  rcases h.form with ⟨rfl, rfl⟩ | ⟨g, cap, rfl, _⟩
  · exact ⟨none, 0, rfl⟩
  · exact ⟨_, _, rfl⟩
theorem zeros_any (b o : Nat) (p a : Value) (P : List UInt8) (D : List Nat) (n m : Nat) (w : World) (h : Bv w b o p a P D n m) (hm : m ≤ n) (hn : n ≤ 1000) :
    Calls Tryz.prog 117 #[.pointer (some ⟨b, o, none⟩)] w fun e w' => e = .returned (.int .i64 ((n - m : Nat) : Int)) ∧ ∃ k, w' = w.drewN k := by
  have c2 := h.c2
  have c3 := h.c3
  clear h
  go_enter Tryz.func117, Tryz.ntmps117
  go_wp2_with fail
  go_quiet (fail)
  go_wp2_with fail
  go_ret
  exact ⟨ret_int (by omega), _, rfl⟩

/-- Behind k cells that are the same. -/
def Eq8 (l1 l2 : List UInt8) (w : World) (i : Value) (wr : World) : Prop := ∃ k m : Nat, k ≤ l1.length ∧ i = .int .i64 (k : Int) ∧ wr = w.drewN m ∧ Hid (l1.take k = l2.take k)
theorem Eq8.mk {l1 l2 : List UInt8} {w wr : World} {i : Value} (k m : Nat) (h1 : k ≤ l1.length) (h2 : i = .int .i64 (k : Int)) (h3 : wr = w.drewN m) (h4 : l1.take k = l2.take k) : Eq8 l1 l2 w i wr := ⟨k, m, h1, h2, h3, h4⟩
set_option maxHeartbeats 1000000 in
theorem equal8_any (B1 B2 : Nat) (v1 v2 : Value) (l1 l2 : List UInt8) (w : World) (h1 : Bs w B1 v1 l1) (h2 : Bs w B2 v2 l2) (hl1 : l1.length < 100000) (hl2 : l2.length < 100000) :
    Calls Tryz.prog 145 #[v1, v2] w fun e w' => e = .returned (.bool (decide (l1 = l2))) ∧ ∃ m, w' = w.drewN m := by
  by_cases hlen : l1.length = l2.length
  case neg =>
    have HD := hide (show decide (l1 = l2) = false by simp; intro e; rw [e] at hlen; exact hlen rfl)
    obtain ⟨a1, c1, rfl⟩ := Bs.shape h1
    obtain ⟨a2, c2, rfl⟩ := Bs.shape h2
    have hb : ((l1.length : Int) != (l2.length : Int)) = true := by simp; omega
    clear h1 h2
    go_enter Tryz.func145, Tryz.ntmps145
    go_wp2_with fail
    go_ret
    exact ⟨ret_bool (unhide HD).symm, 0, rfl⟩
  by_cases hz : l1.length = 0
  · have e1 : l1 = [] := List.eq_nil_of_length_eq_zero hz
    have e2 : l2 = [] := List.eq_nil_of_length_eq_zero (by omega)
    subst e1 e2
    obtain ⟨a1, c1, rfl⟩ := Bs.shape h1
    obtain ⟨a2, c2, rfl⟩ := Bs.shape h2
    clear h1 h2
    go_enter Tryz.func145, Tryz.ntmps145
    go_wp2_with fail
    refine wp_loop_rounds 1 ?_
    rw [rounds_succ]
    go_wp2_with fail
    go_ret
    exact ⟨rfl, 0, rfl⟩
  obtain ⟨g1, c1, rfl, hc1, hx1⟩ := Bs.slice h1 (by omega)
  obtain ⟨g2, c2, rfl, hc2, hx2⟩ := Bs.slice h2 (by omega)
  have HX1 := hide hx1
  have HX2 := hide hx2
  clear hx1 hx2 h1 h2
  have hb : ((l1.length : Int) != (l2.length : Int)) = false := by simp; omega
  have HL := hide hlen
  clear hlen
  go_enter Tryz.func145, Tryz.ntmps145
  go_wp2_with fail
  go_loopw [13] (fun i wr => Eq8 l1 l2 w i wr) (fun i _ => l1.length - (intOf i).toNat)
  case atStart => exact Eq8.mk 0 0 (Nat.zero_le _) rfl rfl (by simp)
  case round =>
    obtain ⟨k, m, hk, rfl, rfl, HE⟩ := hrel
    by_cases hlt : k < l1.length
    · have x1 := unhide HX1 k hlt
      have hlt2 : k < l2.length := by have := unhide HL; omega
      have x2 := unhide HX2 k hlt2
      have HT : Hid (l1[k]'hlt = l2[k]'hlt2 → l1.take (k + 1) = l2.take (k + 1)) := by
        intro e
        rw [List.take_succ_eq_append_getElem hlt, List.take_succ_eq_append_getElem hlt2, unhide HE, e]
      have HN : Hid (l1[k]'hlt ≠ l2[k]'hlt2 → decide (l1 = l2) = false) := by
        intro e
        simp
        intro e2
        apply e
        simp only [e2]
      generalize l1[k]'hlt = y1 at x1 HT HN
      generalize l2[k]'hlt2 = y2 at x2 HT HN
      by_cases hy : y1 = y2
      · have HT2 := hide (unhide HT hy)
        subst hy
        clear HT HN
        have hne : ((y1.toNat : Int) != (y1.toNat : Int)) = false := by simp
        go_wp2_with fail
        go_quiet (fail)
        go_wp2_with fail
        go_roundw
        case rel => first | exact Eq8.mk (k + 1) _ (by omega) (by go_num) rfl (unhide HT2) | exact Eq8.mk (k + 1) (m + 1) (by omega) (by go_num) rfl (unhide HT2)
        case measure => simp [intOf]; omega
      · have HN2 := hide (unhide HN hy)
        clear HT HN
        have hne : ((y1.toNat : Int) != (y2.toNat : Int)) = true := by
          simp
          exact fun e => hy (UInt8.toNat_inj.1 (by omega))
        go_wp2_with fail
        go_quiet (fail)
        go_wp2_with fail
        go_ret
        exact ⟨ret_bool (unhide HN2).symm, _, World.drewN_drewN _ _ _⟩
    · have hk' : k = l1.length := by omega
      subst hk'
      have he : l1 = l2 := by
        have := unhide HE
        rw [List.take_length, unhide HL, List.take_length] at this
        exact this
      have HD := hide (show decide (l1 = l2) = true by simp [he])
      clear HE he
      go_wp2_with fail
      go_ret
      exact ⟨ret_bool (unhide HD).symm, _, rfl⟩

/-- Behind k cells that are the same. -/
def Eq16 (l1 l2 : List Nat) (w : World) (i : Value) (wr : World) : Prop := ∃ k m : Nat, k ≤ l1.length ∧ i = .int .i64 (k : Int) ∧ wr = w.drewN m ∧ Hid (l1.take k = l2.take k)
theorem Eq16.mk {l1 l2 : List Nat} {w wr : World} {i : Value} (k m : Nat) (h1 : k ≤ l1.length) (h2 : i = .int .i64 (k : Int)) (h3 : wr = w.drewN m) (h4 : l1.take k = l2.take k) : Eq16 l1 l2 w i wr := ⟨k, m, h1, h2, h3, h4⟩
set_option maxHeartbeats 1000000 in
theorem equal16_any (B1 B2 : Nat) (v1 v2 : Value) (l1 l2 : List Nat) (w : World) (h1 : Us w B1 v1 l1) (h2 : Us w B2 v2 l2) (hl1 : l1.length < 100000) (hl2 : l2.length < 100000) :
    Calls Tryz.prog 146 #[v1, v2] w fun e w' => e = .returned (.bool (decide (l1 = l2))) ∧ ∃ m, w' = w.drewN m := by
  by_cases hlen : l1.length = l2.length
  case neg =>
    have HD := hide (show decide (l1 = l2) = false by simp; intro e; rw [e] at hlen; exact hlen rfl)
    obtain ⟨a1, c1, rfl⟩ := Us.shape h1
    obtain ⟨a2, c2, rfl⟩ := Us.shape h2
    have hb : ((l1.length : Int) != (l2.length : Int)) = true := by simp; omega
    clear h1 h2
    go_enter Tryz.func146, Tryz.ntmps146
    go_wp2_with fail
    go_ret
    exact ⟨ret_bool (unhide HD).symm, 0, rfl⟩
  by_cases hz : l1.length = 0
  · have e1 : l1 = [] := List.eq_nil_of_length_eq_zero hz
    have e2 : l2 = [] := List.eq_nil_of_length_eq_zero (by omega)
    subst e1 e2
    obtain ⟨a1, c1, rfl⟩ := Us.shape h1
    obtain ⟨a2, c2, rfl⟩ := Us.shape h2
    clear h1 h2
    go_enter Tryz.func146, Tryz.ntmps146
    go_wp2_with fail
    refine wp_loop_rounds 1 ?_
    rw [rounds_succ]
    go_wp2_with fail
    go_ret
    exact ⟨rfl, 0, rfl⟩
  obtain ⟨g1, c1, rfl, hc1, hx1⟩ := Us.slice h1 (by omega)
  obtain ⟨g2, c2, rfl, hc2, hx2⟩ := Us.slice h2 (by omega)
  have HX1 := hide hx1
  have HX2 := hide hx2
  clear hx1 hx2 h1 h2
  have hb : ((l1.length : Int) != (l2.length : Int)) = false := by simp; omega
  have HL := hide hlen
  clear hlen
  go_enter Tryz.func146, Tryz.ntmps146
  go_wp2_with fail
  go_loopw [13] (fun i wr => Eq16 l1 l2 w i wr) (fun i _ => l1.length - (intOf i).toNat)
  case atStart => exact Eq16.mk 0 0 (Nat.zero_le _) rfl rfl (by simp)
  case round =>
    obtain ⟨k, m, hk, rfl, rfl, HE⟩ := hrel
    by_cases hlt : k < l1.length
    · have x1 := unhide HX1 k hlt
      have hlt2 : k < l2.length := by have := unhide HL; omega
      have x2 := unhide HX2 k hlt2
      have HT : Hid (l1[k]'hlt = l2[k]'hlt2 → l1.take (k + 1) = l2.take (k + 1)) := by
        intro e
        rw [List.take_succ_eq_append_getElem hlt, List.take_succ_eq_append_getElem hlt2, unhide HE, e]
      have HN : Hid (l1[k]'hlt ≠ l2[k]'hlt2 → decide (l1 = l2) = false) := by
        intro e
        simp
        intro e2
        apply e
        simp only [e2]
      generalize l1[k]'hlt = y1 at x1 HT HN
      generalize l2[k]'hlt2 = y2 at x2 HT HN
      by_cases hy : y1 = y2
      · have HT2 := hide (unhide HT hy)
        subst hy
        clear HT HN
        have hne : ((y1 : Int) != (y1 : Int)) = false := by simp
        go_wp2_with fail
        go_quiet (fail)
        go_wp2_with fail
        go_roundw
        case rel => first | exact Eq16.mk (k + 1) _ (by omega) (by go_num) rfl (unhide HT2) | exact Eq16.mk (k + 1) (m + 1) (by omega) (by go_num) rfl (unhide HT2)
        case measure => simp [intOf]; omega
      · have HN2 := hide (unhide HN hy)
        clear HT HN
        have hne : ((y1 : Int) != (y2 : Int)) = true := by
          simp
          omega
        go_wp2_with fail
        go_quiet (fail)
        go_wp2_with fail
        go_ret
        exact ⟨ret_bool (unhide HN2).symm, _, World.drewN_drewN _ _ _⟩
    · have hk' : k = l1.length := by omega
      subst hk'
      have he : l1 = l2 := by
        have := unhide HE
        rw [List.take_length, unhide HL, List.take_length] at this
        exact this
      have HD := hide (show decide (l1 = l2) = true by simp [he])
      clear HE he
      go_wp2_with fail
      go_ret
      exact ⟨ret_bool (unhide HD).symm, _, rfl⟩

end Go.Proofs.YthlincikgdblfaaGreat

namespace Go.Proofs.YthlincikgdblfaaGreat
open Go.RowKit
set_option linter.unusedVariables false

theorem levelBits_len (P : List UInt8) (n : Nat) : (Rot.levelBits P 0 n).length = n := by simp [Rot.levelBits]
theorem levelBits_snoc (P : List UInt8) (k : Nat) : Rot.levelBits P 0 (k + 1) = Rot.levelBits P 0 k ++ [Rot.bitAt P 0 k == 1] := by
  unfold Rot.levelBits
  rw [List.range_succ, List.map_append]
  rfl
/-- Do the bits behind the last one say 0, and the directory what the bits say? -/
def agrees (P : List UInt8) (D : List Nat) (n : Nat) : Prop := P = (Rot.rowOf (Rot.levelBits P 0 n)).packed ∧ D = (Rot.rowOf (Rot.levelBits P 0 n)).ahead
set_option maxHeartbeats 1000000 in
theorem agree_any (b o : Nat) (p a : Value) (P : List UInt8) (D : List Nat) (n m : Nat) (w : World) (h : Bv w b o p a P D n m) (hn : n ≤ 300) (hP : P.length = (n + 7) / 8) (hD : D.length = (n + 15) / 16) :
    Calls Tryz.prog 118 #[.pointer (some ⟨b, o, none⟩)] w fun e w' => ((e = .returned (.bool true) ∧ agrees P D n) ∨ (e = .returned (.bool false) ∧ ¬ agrees P D n)) ∧ w.grownBy w' none := by
  have B0 := hide (Bit.start w)
  have HB := hide h
  have hbl : b < w.heap.size := World.block_lt_of_cell? w ⟨b, o, none⟩ h.c0
  have c2 := h.c2
  clear h
  have HPl := hide hP
  have HDl := hide hD
  clear hP hD
  go_enter Tryz.func118, Tryz.ntmps118
  go_wp2_with fail
  go_loopw [9] (fun i wr => ∃ k : Nat, k ≤ n ∧ i = .int .i64 k ∧ ∃ p a, Bit wr w.heap.size w.heap.size p a (Rot.rowOf (Rot.levelBits P 0 k)) ∧ Below w.heap.size w wr) (fun i _ => n - (intOf i).toNat)
  case atStart => exact ⟨0, Nat.zero_le _, rfl, _, _, unhide B0, Below.alloc0 _⟩
  case round =>
    obtain ⟨k, hk, rfl, p2, a2, T, W⟩ := hrel
    clear B0
    by_cases hlt : k < n
    · have hcon := bit_any b o p a P D n m k wr ((unhide HB).kept0 (grown_of_below W)) (by have := unhide HPl; omega) (by have := unhide HPl; omega)
      have hcnt : (Rot.rowOf (Rot.levelBits P 0 k)).count < 1000 := by rw [row_count, levelBits_len]; omega
      have hfit := row_fits (Rot.levelBits P 0 k)
      have HF := hide (levelBits_snoc P k)
      have HT := hide T
      have HW := hide W
      clear T W
      generalize hbt : (Rot.bitAt P 0 k == 1) = bt at hcon HF
      clear hbt
      go_wp2_with fail
      refine hcon.mono ?_
      rintro e w1 ⟨rfl, hw1⟩
      subst hw1
      clear hcon
      go_wp2_with fail
      refine (add_any w.heap.size w.heap.size p2 a2 _ bt _ (unhide HT) hcnt hfit).mono ?_
      rintro e w2 ⟨rfl, p', a', T2, W2⟩
      rw [← rowOf_snoc, ← unhide HF] at T2
      have HT2 := hide T2
      have HW2 := hide ((unhide HW).trans W2)
      clear T2 W2 hcnt hfit
      go_wp2_with fail
      go_roundw
      case rel => exact ⟨k + 1, by omega, by go_num, p', a', unhide HT2, unhide HW2⟩
      case measure => simp [intOf]; omega
    · have hk' : k = n := by omega
      subst hk'
      have hB := (unhide HB).kept0 (grown_of_below W)
      have hfit := row_fits (Rot.levelBits P 0 k)
      have hc := row_count (Rot.levelBits P 0 k)
      rw [levelBits_len] at hc
      have f1 := hfit.packed
      have f2 := hfit.ahead
      have h8 : ∀ m, Calls Tryz.prog 145 #[p, p2] (wr.drewN m) fun e w' => e = .returned (.bool (decide (P = (Rot.rowOf (Rot.levelBits P 0 k)).packed))) ∧ ∃ j, w' = (wr.drewN m).drewN j := fun m => equal8_any 0 w.heap.size p p2 P _ (wr.drewN m) hB.packed T.packed (by have := unhide HPl; omega) (by omega)
      have h16 : ∀ m, Calls Tryz.prog 146 #[a, a2] (wr.drewN m) fun e w' => e = .returned (.bool (decide (D = (Rot.rowOf (Rot.levelBits P 0 k)).ahead))) ∧ ∃ j, w' = (wr.drewN m).drewN j := fun m => equal16_any 0 w.heap.size a a2 D _ (wr.drewN m) hB.ahead T.ahead (by have := unhide HDl; omega) (by omega)
      have c0 := hB.c0
      have c1 := hB.c1
      have d0 := T.c0
      have d1 := T.c1
      have HG := hide (grown_of_below W)
      have HAG : Hid (agrees P D k ↔ P = (Rot.rowOf (Rot.levelBits P 0 k)).packed ∧ D = (Rot.rowOf (Rot.levelBits P 0 k)).ahead) := Iff.rfl
      clear hB T W hfit f1 f2 hc
      generalize (Rot.rowOf (Rot.levelBits P 0 k)).packed = PP at h8 HAG
      generalize (Rot.rowOf (Rot.levelBits P 0 k)).ahead = DD at h16 HAG
      by_cases e1 : P = PP
      · rw [decide_eq_true e1] at h8
        by_cases e2 : D = DD
        · rw [decide_eq_true e2] at h16
          have HY := hide ((unhide HAG).2 ⟨e1, e2⟩)
          clear HAG e1 e2
          go_wp2_with fail
          go_quiet (first | (go_at_call 145; exact Calls.quiet_of (h8 _)) | (go_at_call 146; exact Calls.quiet_of (h16 _)))
          go_wp2_with fail
          go_ret
          exact ⟨Or.inl ⟨rfl, unhide HY⟩, grown_drewN (unhide HG) _⟩
        · rw [decide_eq_false e2] at h16
          have HY := hide (fun h => e2 ((unhide HAG).1 h).2)
          clear HAG e1 e2
          go_wp2_with fail
          go_quiet (first | (go_at_call 145; exact Calls.quiet_of (h8 _)) | (go_at_call 146; exact Calls.quiet_of (h16 _)))
          go_wp2_with fail
          go_ret
          exact ⟨Or.inr ⟨rfl, unhide HY⟩, grown_drewN (unhide HG) _⟩
      · rw [decide_eq_false e1] at h8
        have HY := hide (fun h => e1 ((unhide HAG).1 h).1)
        clear HAG e1
        go_wp2_with fail
        go_quiet (first | (go_at_call 145; exact Calls.quiet_of (h8 _)) | (go_at_call 146; exact Calls.quiet_of (h16 _)))
        go_wp2_with fail
        go_ret
        exact ⟨Or.inr ⟨rfl, unhide HY⟩, grown_drewN (unhide HG) _⟩
end Go.Proofs.YthlincikgdblfaaGreat

namespace Go.Proofs.YthlincikgdblfaaGreat
open Go.RowKit
set_option linter.unusedVariables false
namespace Rot
/-- How many of the low r bits of a byte are 1. -/
def cnt (x : Nat) : Nat → Nat
  | 0 => 0
  | r + 1 => cnt x r + x / 2 ^ r % 2
theorem cnt_le (x : Nat) : ∀ r, cnt x r ≤ r
  | 0 => Nat.le_refl _
  | r + 1 => by have := cnt_le x r; simp only [cnt]; omega
theorem ones_cnt : ∀ (x : Fin 256) (r : Fin 9), Lib.onesCount (x.val &&& (2 ^ r.val - 1)) = cnt x.val r.val := by decide +kernel
theorem ones_fin : ∀ x : Fin 256, Lib.onesCount x.val = cnt x.val 8 := by decide +kernel
theorem ones_all (x : Nat) (hx : x < 256) : Lib.onesCount x = cnt x 8 := ones_fin ⟨x, hx⟩
theorem ones_some (x r : Nat) (hx : x < 256) (hr : r ≤ 8) : Lib.onesCount (x &&& (2 ^ r - 1)) = cnt x r := ones_cnt ⟨x, hx⟩ ⟨r, by omega⟩
theorem os_byte (P : List UInt8) (q : Nat) (hq : q < P.length) : ∀ r, r ≤ 8 → os P (8 * q + r) = os P (8 * q) + cnt (P[q]'hq).toNat r
  | 0, _ => rfl
  | r + 1, h => by
    have ih := os_byte P q hq r (by omega)
    rw [← Nat.add_assoc, os_succ, ih]
    simp only [cnt]
    unfold bitAt
    rw [show 0 + (8 * q + r) / 8 = q by omega, show (8 * q + r) % 8 = r by omega, List.getElem?_eq_getElem hq]
    simp only [Option.getD_some]
    omega
end Rot
theorem onesCount8_any (x : Nat) (w : World) (hx : x < 256) : Calls Tryz.prog 116 #[.int .u8 x] w fun e w' => e = .returned (.int .i64 (Lib.onesCount x : Nat)) ∧ w' = w := by
  have h := Tryz.bits_OnesCount8 (x : Int) w (by omega) (by omega)
  rw [Int.toNat_natCast] at h
  exact h
theorem slice_mid (g n cap l h : Nat) (h1 : l ≤ h) (h2 : h ≤ cap) (h3 : l < cap) (w : World) : (Instr.sliceAt 45 (.slice (some ⟨g, 0, none⟩) n cap) (some (.int .i64 (l : Int))) (some (.int .i64 (h : Int))) none).run Tryz.prog w = .ok (.slice (some ⟨g, l, none⟩) (h - l) (cap - l)) w := by
  have a3 : ¬ cap = l := by omega
  simp [go_sem, Tryz.underlying45, h1, h2, a3]
/-- The directory of bits says what they say. -/
def Dir (P : List UInt8) (D : List Nat) (n : Nat) : Prop := P.length = (n + 7) / 8 ∧ D.length = (n + 15) / 16 ∧ ∀ i (hi : i < D.length), D[i]'hi = Rot.os P (16 * i)
set_option maxHeartbeats 1000000 in
theorem ones_any (b o : Nat) (p a : Value) (P : List UInt8) (D : List Nat) (n k : Nat) (w : World) (h : Bv w b o p a P D n (Rot.os P n)) (hn : n ≤ 300) (hd : k ≠ n → Dir P D n) (hk : k ≤ n) :
    Calls Tryz.prog 83 #[.pointer (some ⟨b, o, none⟩), .int .i64 k] w fun e w' => e = .returned (.int .i64 (Rot.os P k : Nat)) ∧ ∃ j, w' = w.drewN j := by
  have c0 := h.c0
  have c1 := h.c1
  have c2 := h.c2
  have c3 := h.c3
  by_cases hkn : k = n
  · subst hkn
    have := Rot.os_le P k
    clear h hd
    go_enter Tryz.func83, Tryz.ntmps83
    go_wp2_with fail
    go_ret
    exact ⟨rfl, 0, rfl⟩
  obtain ⟨hP, hDl, hD⟩ := hd hkn
  obtain ⟨g, cap, rfl, hcap, hcell⟩ := h.packed.slice (by omega)
  obtain ⟨ga, ca, rfl, hca, hcella⟩ := h.ahead.slice (by omega)
  have hq : k / 8 < P.length := by omega
  have hbl : k / 16 < D.length := by omega
  have cq := hcell (k / 8) hq
  have cb := hcella (k / 16) hbl
  rw [hD _ hbl] at cb
  have hx : (P[k / 8]'hq).toNat < 256 := (P[k / 8]'hq).toNat_lt
  have HB := hide (Rot.os_byte P (k / 8) hq (k % 8) (by omega))
  have HC := hide (Rot.ones_some (P[k / 8]'hq).toNat (k % 8) hx (by omega))
  have hcle := Rot.cnt_le (P[k / 8]'hq).toNat (k % 8)
  rw [show 8 * (k / 8) + k % 8 = k by omega] at HB
  obtain ⟨x, hxe⟩ : ∃ x : Nat, x = (P[k / 8]'hq).toNat := ⟨_, rfl⟩
  rw [← hxe] at cq hx HB HC hcle
  have hne : ((k : Int) == (n : Int)) = false := by simp; omega
  obtain ⟨q, hqe⟩ : ∃ q : Nat, q = k / 8 := ⟨_, rfl⟩
  obtain ⟨r, hre⟩ : ∃ r : Nat, r = k % 8 := ⟨_, rfl⟩
  obtain ⟨bl, hble⟩ : ∃ bl : Nat, bl = k / 16 := ⟨_, rfl⟩
  obtain ⟨b2, hb2⟩ : ∃ b2 : Nat, b2 = 2 * bl := ⟨_, rfl⟩
  have i8 : ((k : Int) / 8) = (q : Int) := by omega
  have i16 : ((k : Int) / 16) = (bl : Int) := by omega
  have ir : ((k : Int) % 8) = (r : Int) := by omega
  have ib : ((bl : Int) * 16) / 8 = (b2 : Int) := by omega
  have hr8 : r < 8 := by omega
  have hbl2 : bl < D.length := by omega
  have hDb : D.length ≤ 20 := by omega
  have hq2 : q < P.length := by omega
  have hPb : P.length ≤ 40 := by omega
  have s3 := slice_mid g P.length cap b2 q (by omega) (by omega) (by omega)
  have hos := Rot.os_le P (16 * (k / 16))
  rw [← hqe] at cq HB
  rw [← hre] at HB HC hcle
  rw [← hble] at cb hos
  have hsh : (2 : Nat) ^ r ≤ 128 := by
    have : 2 ^ r ≤ 2 ^ 7 := Nat.pow_le_pow_right (by decide) (by omega)
    simpa using this
  have hsh1 : 1 ≤ (2 : Nat) ^ r := Nat.one_le_two_pow
  obtain ⟨y, hy⟩ : ∃ y : Nat, y = x &&& (2 ^ r - 1) := ⟨_, rfl⟩
  have hy2 : y < 256 := by rw [hy]; exact Nat.lt_of_le_of_lt Nat.and_le_left hx
  rw [← hy] at HC
  have hocc := onesCount8_any y
  rw [unhide HC] at hocc
  have hand : bits BinOp.and IntKind.u8 (x : Int) (((2 : Int) ^ r - 1) % 256) = (y : Int) := by
    have e := u8_and_nat x (2 ^ r - 1) hx (by omega)
    rw [← hy] at e
    have e0 : (((2 ^ r - 1 : Nat)) : Int) = (2 : Int) ^ r - 1 := by
      rw [Int.natCast_sub hsh1]
      simp
    have e1 : ((2 : Int) ^ r - 1) % 256 = (2 : Int) ^ r - 1 := by rw [← e0]; omega
    rw [e1, ← e0]
    exact e
  by_cases hev : q = b2
  · have HE : Hid (Rot.os P k = Rot.os P (16 * bl) + Rot.cnt x r) := hide (by rw [unhide HB, show 8 * q = 16 * bl by omega])
    have hlen : q - b2 = 0 := by omega
    rw [hlen] at s3
    clear hcell hcella hD HB HC hy hxe hqe hre hble hb2 hev h hd hP hDl hlen hkn
    generalize Rot.cnt x r = cn at hocc hcle HE
    generalize Rot.os P (16 * bl) = o1 at cb hos HE
    have hoc : ∀ w : World, Calls Tryz.prog 116 #[.int .u8 (y : Int)] w fun e w' => e = .returned (.int .i64 (cn : Int)) ∧ w' = w := fun w => hocc w hy2
    clear hocc
    go_enter Tryz.func83, Tryz.ntmps83
    go_wp2_with fail
    refine wp_loop_rounds 1 ?_
    rw [rounds_succ]
    go_wp2_with fail
    go_quiet ((go_at_call 116; exact Calls.quiet_of_same (hoc _)))
    go_wp2_with fail
    go_ret
    exact ⟨ret_int (by rw [unhide HE]; omega), _, rfl⟩
  · have hod : q = b2 + 1 := by omega
    have h2q : b2 < P.length := by omega
    have cz := hcell b2 h2q
    have hz : (P[b2]'h2q).toNat < 256 := (P[b2]'h2q).toNat_lt
    have HE : Hid (Rot.os P k = Rot.os P (16 * bl) + Rot.cnt (P[b2]'h2q).toNat 8 + Rot.cnt x r) := hide (by
      have e2 := Rot.os_byte P b2 h2q 8 (by omega)
      rw [show 8 * b2 + 8 = 8 * q by omega, show 8 * b2 = 16 * bl by omega] at e2
      rw [unhide HB, e2])
    have hocz : ∀ w : World, Calls Tryz.prog 116 #[.int .u8 ((P[b2]'h2q).toNat : Int)] w fun e w' => e = .returned (.int .i64 (Rot.cnt (P[b2]'h2q).toNat 8 : Nat)) ∧ w' = w := by
      intro w
      have := onesCount8_any (P[b2]'h2q).toNat w hz
      rw [Rot.ones_all _ hz] at this
      exact this
    have hcz := Rot.cnt_le (P[b2]'h2q).toNat 8
    generalize (P[b2]'h2q).toNat = z at cz hz HE hocz hcz
    have hlen : q - b2 = 1 := by omega
    rw [hlen] at s3
    clear hcell hcella hD HB HC hy hxe hqe hre hble hb2 hev h hd hP hDl hlen hkn hod
    generalize Rot.cnt x r = cn at hocc hcle HE
    generalize Rot.cnt z 8 = cn8 at hocz hcz HE
    generalize Rot.os P (16 * bl) = o1 at cb hos HE
    have hoc : ∀ w : World, Calls Tryz.prog 116 #[.int .u8 (y : Int)] w fun e w' => e = .returned (.int .i64 (cn : Int)) ∧ w' = w := fun w => hocc w hy2
    clear hocc
    go_enter Tryz.func83, Tryz.ntmps83
    go_wp2_with fail
    refine wp_loop_rounds 2 ?_
    rw [rounds_succ]
    go_wp2_with fail
    refine (hocz _).mono ?_
    rintro e w1 ⟨rfl, hw1⟩
    subst hw1
    go_wp2_with fail
    rw [rounds_succ]
    go_wp2_with fail
    go_quiet ((go_at_call 116; exact Calls.quiet_of_same (hoc _)))
    go_wp2_with fail
    go_ret
    exact ⟨ret_int (by rw [unhide HE]; omega), _, rfl⟩
/-- Where what stands at a place of a level goes. -/
theorem next_any (b o : Nat) (p a : Value) (P : List UInt8) (D : List Nat) (n k z : Nat) (bit : Bool) (w : World) (hz : w.cell? ⟨b, o, none⟩ = some (.int .i64 (z : Int))) (h : Bv w b (o + 1) p a P D n (Rot.os P n)) (hn : n ≤ 300) (hzn : z ≤ n) (hd : Dir P D n) (hk : k ≤ n) :
    Calls Tryz.prog 119 #[.pointer (some ⟨b, o, none⟩), .int .i64 k, .bool bit] w fun e w' => e = .returned (.int .i64 ((if bit = true then z + Rot.os P k else k - Rot.os P k : Nat) : Int)) ∧ ∃ j, w' = w.drewN j := by
  have hcon := ones_any b (o + 1) p a P D n k w h hn (fun _ => hd) hk
  have hos := Rot.os_le P k
  clear h hd
  cases bit
  · go_enter Tryz.func119, Tryz.ntmps119
    go_wp2_with fail
    refine hcon.mono ?_
    rintro e w1 ⟨rfl, j, rfl⟩
    clear hcon
    go_wp2_with fail
    go_ret
    exact ⟨ret_int (by omega), _, rfl⟩
  · go_enter Tryz.func119, Tryz.ntmps119
    go_wp2_with fail
    refine hcon.mono ?_
    rintro e w1 ⟨rfl, j, rfl⟩
    clear hcon
    go_wp2_with fail
    go_ret
    exact ⟨ret_int (by first | rfl | omega), _, rfl⟩
end Go.Proofs.YthlincikgdblfaaGreat

namespace Go.Proofs.YthlincikgdblfaaGreat
set_option linter.unusedVariables false
namespace Rot
/-- Where a level's bits stand. -/
def lvl (at' n l : Nat) : Nat := at' + l * (2 + (n + 7) / 8 + 2 * ((n + 15) / 16)) + 2
/-- Where place i of the order would go, of what has that bit. -/
def goes (s : List UInt8) (f n bit i : Nat) : Nat := if bit = 0 then zs s f i else zs s f n + i - zs s f i
theorem goes_le {s : List UInt8} {f n bit i : Nat} (hi : i ≤ n) : goes s f n bit i ≤ n := by
  obtain ⟨d, rfl⟩ : ∃ d, n = i + d := ⟨n - i, by omega⟩
  have h1 := zs_mono s f i d
  have h2 := zs_le s f i
  unfold goes
  split <;> omega
theorem goes_own (s : List UInt8) (f n i : Nat) : goes s f n (bitAt s f i) i = nxt s f n i := rfl
theorem goes_succ {s : List UInt8} {f n bit i : Nat} (hb : bit < 2) (hi : i < n) : goes s f n bit (i + 1) = goes s f n bit i + if bitAt s f i = bit then 1 else 0 := by
  obtain ⟨d, rfl⟩ : ∃ d, n = i + 1 + d := ⟨n - (i + 1), by omega⟩
  have h1 := zs_mono s f (i + 1) d
  have h2 := zs_le s f i
  have h3 : zs s f (i + 1) = zs s f i + (1 - bitAt s f i) := rfl
  have h4 := bitAt_lt s f i
  unfold goes
  by_cases e : bit = 0
  · subst e
    rw [if_pos rfl, if_pos rfl, h3]
    split <;> omega
  · have e1 : bit = 1 := by omega
    subst e1
    rw [if_neg (by decide), if_neg (by decide)]
    split <;> omega
/-- Where place i of the column would stand at level l, were it c's. -/
def rk (s : List UInt8) (at' n c : Nat) : Nat → Nat → Nat
  | 0, i => i
  | l + 1, i => goes s (lvl at' n l) n (c / 2 ^ (7 - l) % 2) (rk s at' n c l i)
theorem rk_le (s : List UInt8) (at' n c : Nat) {i : Nat} (hi : i ≤ n) : ∀ l, rk s at' n c l i ≤ n
  | 0 => hi
  | l + 1 => goes_le (rk_le s at' n c hi l)
theorem rk_succ (s : List UInt8) (at' n c : Nat) {i : Nat} (hi : i < n) : ∀ l, l ≤ 8 → rk s at' n c l (i + 1) = rk s at' n c l i + (if code s at' n i l = c / 2 ^ (8 - l) % 2 ^ l then 1 else 0) ∧ (code s at' n i l = c / 2 ^ (8 - l) % 2 ^ l → posn s at' n i l = rk s at' n c l i)
  | 0, _ => by
    have e : code s at' n i 0 = c / 2 ^ (8 - 0) % 2 ^ 0 := by simp [code, Nat.mod_one]
    rw [if_pos e]
    exact ⟨rfl, fun _ => rfl⟩
  | l + 1, h => by
    obtain ⟨h1, h2⟩ := rk_succ s at' n c hi l (by omega)
    have hb : c / 2 ^ (7 - l) % 2 < 2 := Nat.mod_lt _ (by decide)
    have hc : code s at' n i (l + 1) = 2 * code s at' n i l + bitAt s (lvl at' n l) (posn s at' n i l) := rfl
    have hb2 := bitAt_lt s (lvl at' n l) (posn s at' n i l)
    have hp : c / 2 ^ (8 - (l + 1)) % 2 ^ (l + 1) = 2 * (c / 2 ^ (8 - l) % 2 ^ l) + c / 2 ^ (7 - l) % 2 := by
      have e1 : 8 - (l + 1) = 7 - l := by omega
      have e2 : c / 2 ^ (8 - l) = c / 2 ^ (7 - l) / 2 := by
        rw [Nat.div_div_eq_div_mul, ← Nat.pow_succ]
        congr 2
        omega
      rw [e1, e2]
      generalize c / 2 ^ (7 - l) = y
      rw [Nat.pow_succ]
      have hpos : 0 < 2 ^ l := Nat.two_pow_pos l
      generalize 2 ^ l = m at hpos
      have e3 := Nat.div_add_mod y 2
      have e4 := Nat.div_add_mod (y / 2) m
      have e5 : y / 2 % m < m := Nat.mod_lt _ hpos
      have e6 : y % 2 < 2 := Nat.mod_lt _ (by decide)
      have e7 : y = (m * 2) * (y / 2 / m) + (2 * (y / 2 % m) + y % 2) := by
        have : (m * 2) * (y / 2 / m) = 2 * (m * (y / 2 / m)) := by rw [Nat.mul_comm m 2, Nat.mul_assoc]
        omega
      conv => lhs; rw [e7]
      rw [Nat.mul_add_mod]
      exact Nat.mod_eq_of_lt (by omega)
    show goes s (lvl at' n l) n (c / 2 ^ (7 - l) % 2) (rk s at' n c l (i + 1)) = goes s (lvl at' n l) n (c / 2 ^ (7 - l) % 2) (rk s at' n c l i) + _ ∧ (_ → nxt s (lvl at' n l) n (posn s at' n i l) = goes s (lvl at' n l) n (c / 2 ^ (7 - l) % 2) (rk s at' n c l i))
    rw [hc, hp, h1]
    by_cases e : code s at' n i l = c / 2 ^ (8 - l) % 2 ^ l
    · rw [if_pos e, goes_succ hb (by rw [← h2 e]; exact posn_lt s at' n i hi l), ← h2 e, ← goes_own]
      refine ⟨?_, ?_⟩
      · congr 1
        by_cases e2 : bitAt s (lvl at' n l) (posn s at' n i l) = c / 2 ^ (7 - l) % 2
        · rw [if_pos e2, if_pos (by omega)]
        · rw [if_neg e2, if_neg (by omega)]
      · intro e3
        have e2 : bitAt s (lvl at' n l) (posn s at' n i l) = c / 2 ^ (7 - l) % 2 := by omega
        rw [e2]
    · rw [if_neg e, if_neg (by omega)]
      exact ⟨rfl, fun e3 => absurd e3 (by omega)⟩
/-- How many of the places ahead of i of the column are c. -/
theorem rk_count (s : List UInt8) (at' n : Nat) (c : UInt8) : ∀ i, i ≤ n → rk s at' n c.toNat 8 i = rk s at' n c.toNat 8 0 + ((colRead s at' n).take i).countP (fun x => x == c)
  | 0, _ => by simp
  | i + 1, h => by
    have hc : c.toNat < 256 := c.toNat_lt
    have hlen : i < (colRead s at' n).length := by rw [colRead_len]; omega
    rw [(rk_succ s at' n c.toNat (by omega) 8 (by omega)).1, rk_count s at' n c i (by omega), List.take_succ_eq_append_getElem hlen, List.countP_append, Nat.add_assoc]
    congr 2
    have hg := colRead_get s at' n i hlen
    rw [show 8 - 8 = 0 by omega, Nat.pow_zero, Nat.div_one, Nat.mod_eq_of_lt hc, ← hg]
    simp only [List.countP_cons, List.countP_nil, Nat.zero_add]
    by_cases e : (colRead s at' n)[i]'hlen = c
    · rw [e]; simp
    · have e2 : ¬ ((colRead s at' n)[i]'hlen).toNat = c.toNat := fun h => e (UInt8.toNat_inj.1 h)
      have e3 : ((colRead s at' n)[i]'hlen == c) = false := by simpa using e
      rw [if_neg e2, e3]
      rfl
/-- A column's place, as it is found: where it stands at the end. -/
theorem rk_posn (s : List UInt8) (at' n : Nat) {i : Nat} (hi : i < n) (l : Nat) (hl : l ≤ 8) : posn s at' n i l = rk s at' n (code s at' n i 8) l i := by
  refine (rk_succ s at' n (code s at' n i 8) hi l hl).2 ?_
  have := code_part s at' n i (8 - l) l
  rw [show l + (8 - l) = 8 by omega] at this
  rw [← this]
  exact (Nat.mod_eq_of_lt (code_lt s at' n i l)).symm
/-- A piece of the bytes says what they say there. -/
theorem bit_piece (s : List UInt8) (f m k : Nat) (hk : k / 8 < m) : bitAt ((s.drop f).take m) 0 k = bitAt s f k := by
  unfold bitAt
  rw [Nat.zero_add, List.getElem?_take_of_lt hk, List.getElem?_drop]
theorem zs_piece (s : List UInt8) (f m n : Nat) (hm : (n + 7) / 8 ≤ m) : ∀ k, k ≤ n → zs ((s.drop f).take m) 0 k = zs s f k
  | 0, _ => rfl
  | k + 1, h => by
    show zs ((s.drop f).take m) 0 k + (1 - bitAt ((s.drop f).take m) 0 k) = zs s f k + (1 - bitAt s f k)
    rw [zs_piece s f m n hm k (by omega), bit_piece s f m k (by omega)]
end Rot
end Go.Proofs.YthlincikgdblfaaGreat
