import Derived.Test.YthlincikgdblfaaGreatV19
namespace Go.Proofs.YthlincikgdblfaaGreat
open Go.RowKit
set_option linter.unusedVariables false

/-- The bits of a section that lies at an address. -/
structure Sv (w : World) (b o cnt Bk c : Nat) (p a : Nat → Value) (P : Nat → List UInt8) (D : Nat → List Nat) (n : Nat) : Prop where
  c3 : w.cell? ⟨b, o + 3, none⟩ = some (.slice (some ⟨Bk, 0, none⟩) cnt c)
  bits : ∀ i, i < cnt → Bv w Bk (i * 4) (p i) (a i) (P i) (D i) n (Rot.os (P i) n) ∧ (P i).length = (n + 7) / 8 ∧ (D i).length = (n + 15) / 16
theorem Sv.kept0 {w w' : World} {b o cnt Bk c : Nat} {p a : Nat → Value} {P : Nat → List UInt8} {D : Nat → List Nat} {n : Nat} (h : Sv w b o cnt Bk c p a P D n) (G : w.grownBy w' none) : Sv w' b o cnt Bk c p a P D n :=
  ⟨G.cell h.c3 (by simp), fun i hi => ⟨(h.bits i hi).1.kept0 G, (h.bits i hi).2⟩⟩
theorem Sv.drewN {w : World} {b o cnt Bk c : Nat} {p a : Nat → Value} {P : Nat → List UInt8} {D : Nat → List Nat} {n : Nat} (h : Sv w b o cnt Bk c p a P D n) (j : Nat) : Sv (w.drewN j) b o cnt Bk c p a P D n :=
  ⟨h.c3, fun i hi => ⟨(h.bits i hi).1.drewN j, (h.bits i hi).2⟩⟩
def bitsOk (P : Nat → List UInt8) (D : Nat → List Nat) (n cnt : Nat) : Prop := ∀ i, i < cnt → agrees (P i) (D i) n
set_option maxHeartbeats 1000000 in
theorem lookAtBits_any (b o cnt Bk c : Nat) (p a : Nat → Value) (P : Nat → List UInt8) (D : Nat → List Nat) (n : Nat) (w : World) (h : Sv w b o cnt Bk c p a P D n) (hn : n ≤ 300) (hc : cnt ≤ 8) :
    Calls Tryz.prog 85 #[.pointer (some ⟨b, o, none⟩)] w fun e w' => ((e = .returned (.tuple #[]) ∧ bitsOk P D n cnt) ∨ (e = .panicked (gu 4) ∧ ¬ bitsOk P D n cnt)) ∧ w.grownBy w' none := by
  have c3 := h.c3
  have HS := hide h
  clear h
  go_enter Tryz.func85, Tryz.ntmps85
  go_wp2_with fail
  go_loopw [8] (fun ix wr => ∃ k : Nat, k ≤ cnt ∧ ix = .int .i64 k ∧ Hid (w.grownBy wr none) ∧ Hid (∀ i, i < k → agrees (P i) (D i) n)) (fun ix _ => cnt - (intOf ix).toNat)
  case atStart => exact ⟨0, Nat.zero_le _, rfl, World.grownBy.refl _ _, fun i hi => absurd hi (Nat.not_lt_zero _)⟩
  case round =>
    obtain ⟨k, hk, rfl, HG, HA⟩ := hrel
    by_cases hlt : k < cnt
    · have hS := (unhide HS).kept0 (unhide HG)
      have c3r := hS.c3
      obtain ⟨hb, hP, hD⟩ := hS.bits k hlt
      have hcon := agree_any Bk (k * 4) (p k) (a k) (P k) (D k) n _ wr hb hn hP hD
      clear hS hb hP hD
      go_wp2_with fail
      refine hcon.mono ?_
      rintro e w1 ⟨(⟨rfl, hok⟩ | ⟨rfl, hno⟩), g1⟩
      · have HG1 := hide (grown_trans (unhide HG) g1 (Or.inl rfl))
        have HA1 : Hid (∀ i, i < k + 1 → agrees (P i) (D i) n) := fun i hi => by
          by_cases e : i = k
          · subst e; exact hok
          · exact unhide HA i (by omega)
        clear hcon hok g1 HA
        go_wp2_with fail
        refine (must_yes _).mono ?_
        rintro e w2 ⟨rfl, rfl⟩
        go_wp2_with fail
        go_roundw
        case rel => exact ⟨k + 1, by omega, by go_num, unhide HG1, unhide HA1⟩
        case measure => simp [intOf]; omega
      · have HG1 := hide (grown_trans (unhide HG) g1 (Or.inl rfl))
        have HN : Hid (¬ bitsOk P D n cnt) := fun h => hno (h k hlt)
        clear hcon hno g1 HA
        go_wp2_with fail
        refine (must_no _).mono ?_
        rintro e w2 ⟨rfl, rfl⟩
        go_wp2_with fail
        exact ⟨rfl, Or.inr ⟨rfl, unhide HN⟩, unhide HG1⟩
    · have hk' : k = cnt := by omega
      subst hk'
      go_wp2_with fail
      go_end0
      exact ⟨Or.inl ⟨rfl, unhide HA⟩, unhide HG⟩
def zerosOk (Z : List Nat) (P : Nat → List UInt8) (n cnt : Nat) : Prop := ∀ i, i < cnt → (Z[i]?).getD 0 = n - Rot.os (P i) n
set_option maxRecDepth 100000 in
set_option maxHeartbeats 1000000 in
theorem lookAtZeros_any (b o cnt Bk c : Nat) (p a : Nat → Value) (P : Nat → List UInt8) (D : Nat → List Nat) (n : Nat) (N : Value) (Z : List Nat) (w : World) (h : Sv w b o cnt Bk c p a P D n) (h2 : w.cell? ⟨b, o + 2, none⟩ = some N) (hN : Us w 0 N Z) (hZ : Z.length = cnt) (hZb : ∀ z ∈ Z, z < 65536) (hn : n ≤ 300) (hc : cnt ≤ 8) :
    Calls Tryz.prog 84 #[.pointer (some ⟨b, o, none⟩)] w fun e w' => ((e = .returned (.tuple #[]) ∧ zerosOk Z P n cnt) ∨ (e = .panicked (gu 4) ∧ ¬ zerosOk Z P n cnt)) ∧ ∃ j, w' = w.drewN j := by
  have c3 := h.c3
  have HS := hide h
  have HN := hide hN
  have H2 := hide h2
  have HZb := hide hZb
  clear h hN h2 hZb
  go_enter Tryz.func84, Tryz.ntmps84
  go_wp2_with fail
  go_loopw [8] (fun ix wr => ∃ k j : Nat, k ≤ cnt ∧ ix = .int .i64 k ∧ Hid (wr = w.drewN j) ∧ Hid (∀ i, i < k → (Z[i]?).getD 0 = n - Rot.os (P i) n)) (fun ix _ => cnt - (intOf ix).toNat)
  case atStart => exact ⟨0, 0, Nat.zero_le _, rfl, rfl, fun i hi => absurd hi (Nat.not_lt_zero _)⟩
  case round =>
    obtain ⟨k, j, hk, rfl, HW, HA⟩ := hrel
    by_cases hlt : k < cnt
    · have hS : Sv wr b o cnt Bk c p a P D n := by rw [unhide HW]; exact (unhide HS).drewN j
      have c3r := hS.c3
      have c2r : wr.cell? ⟨b, o + 2, none⟩ = some N := by rw [unhide HW]; exact unhide H2
      have hNr : Us wr 0 N Z := by rw [unhide HW]; exact unhide HN
      obtain ⟨gn, cn, hNe, hcn, hcell⟩ := hNr.slice (by omega)
      subst hNe
      have hkz : k < Z.length := by omega
      have ck := hcell k hkz
      have hzb := unhide HZb _ (List.getElem_mem hkz)
      have hget : (Z[k]?).getD 0 = Z[k]'hkz := by rw [List.getElem?_eq_getElem hkz]; rfl
      have hos := Rot.os_le (P k) n
      have hcon := fun jj => zeros_any Bk (k * 4) (p k) (a k) (P k) (D k) n _ (wr.drewN jj) ((hS.bits k hlt).1.drewN jj) hos (by omega)
      have HA1 : Hid (Z[k]'hkz = n - Rot.os (P k) n → ∀ i, i < k + 1 → (Z[i]?).getD 0 = n - Rot.os (P i) n) := fun e0 i hi => by
        by_cases e : i = k
        · subst e; rw [hget, e0]
        · exact unhide HA i (by omega)
      have HNO : Hid (Z[k]'hkz ≠ n - Rot.os (P k) n → ¬ zerosOk Z P n cnt) := fun e0 h => e0 (by rw [← hget]; exact h k hlt)
      have HLen := hide hZ
      clear hS hNr hcell hget HA
      generalize Z[k]'hkz = z at ck hzb HA1 HNO
      generalize n - Rot.os (P k) n = zz at hcon HA1 HNO
      have hzw : IntKind.i64.wrap (z : Int) = (z : Int) := by rw [IntKind.wrap_i64]; omega
      clear hos
      by_cases he : z = zz
      · have HA2 := hide (unhide HA1 he)
        have hbe : ((z : Int) == (zz : Int)) = true := by simp [he]
        clear HA1 HNO he
        go_wp2_with fail
        go_quiet (first | (go_at_call 117; exact Calls.quiet_of (hcon _)) | (go_at_call 76; exact Calls.quiet_of_same (must_yes _)))
        go_wp2_with fail
        go_roundw
        case rel => exact ⟨k + 1, j + nq, by omega, by go_num, by rw [unhide HW]; exact World.drewN_drewN _ _ _, unhide HA2⟩
        case measure => simp [intOf]; omega
      · have HN2 := hide (unhide HNO he)
        have hbe : ((z : Int) == (zz : Int)) = false := by simp; omega
        clear HA1 HNO he
        go_wp2_with fail
        go_region_dies
        all_goals
          refine (hcon 1).mono ?_
          rintro e w1 ⟨rfl, j1, hw1⟩
          have c2q : w1.cell? ⟨b, o + 2, none⟩ = some (.slice (some ⟨gn, 0, none⟩) Z.length cn) := by rw [hw1]; exact c2r
          have c3q : w1.cell? ⟨b, o + 3, none⟩ = some (.slice (some ⟨Bk, 0, none⟩) cnt c) := by rw [hw1]; exact c3r
          have ckq : w1.cell? ⟨gn, k, none⟩ = some (.int .u16 (z : Int)) := by rw [hw1]; exact ck
          have HW1 := hide hw1
          clear hw1
          simp only []
          rename_i hK
          repeat (refine hK _ _ ?_; clear hK; (first | refine wpAny_ready (rs := [0]) (by decide +kernel) (by simp) ?_ | refine wpAny_ready (rs := [1]) (by decide +kernel) (by simp) ?_ | refine wpAny_ready (rs := [2]) (by decide +kernel) (by simp) ?_ | refine wpAny_ready (rs := [3]) (by decide +kernel) (by simp) ?_ | refine wpAny_ready (rs := [4]) (by decide +kernel) (by simp) ?_ | refine wpAny_ready (rs := [5]) (by decide +kernel) (by simp) ?_ | refine wpAny_ready (rs := [6]) (by decide +kernel) (by simp) ?_ | refine wpAny_ready (rs := [7]) (by decide +kernel) (by simp) ?_ | refine wpAny_ready (rs := [8]) (by decide +kernel) (by simp) ?_ | refine wpAny_ready (rs := [9]) (by decide +kernel) (by simp) ?_ | refine wpAny_ready (rs := [10]) (by decide +kernel) (by simp) ?_ | refine wpAny_ready (rs := [11]) (by decide +kernel) (by simp) ?_ | refine wpAny_ready (rs := [12]) (by decide +kernel) (by simp) ?_ | refine wpAny_ready (rs := [13]) (by decide +kernel) (by simp) ?_ | refine wpAny_ready (rs := [14]) (by decide +kernel) (by simp) ?_ | refine wpAny_ready (rs := [15]) (by decide +kernel) (by simp) ?_ | refine wpAny_ready (rs := [16]) (by decide +kernel) (by simp) ?_); refine AllReady.cons rfl (fun K hK => ?_) AllReady.nil; go_simp)
          refine (must_no _).mono ?_
          rintro e w2 ⟨rfl, rfl⟩
          simp only []
          exact ⟨rfl, Or.inr ⟨rfl, unhide HN2⟩, _, by rw [unhide HW1, unhide HW, World.drewN_drewN, World.drewN_drewN]⟩
    · have hk' : k = cnt := by omega
      subst hk'
      have HY : Hid (zerosOk Z P n k) := unhide HA
      clear HA
      go_wp2_with fail
      go_end0
      exact ⟨Or.inl ⟨rfl, unhide HY⟩, _, unhide HW⟩
end Go.Proofs.YthlincikgdblfaaGreat
