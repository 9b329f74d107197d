import Derived.Test.YthlincikgdblfaaGreatV21
namespace Go.Proofs.YthlincikgdblfaaGreat
open Go.RowKit
set_option linter.unusedVariables false

theorem Vw.drewN {w : World} {g : Nat} {v : Value} {l : List UInt8} (h : Vw w g v l) (j : Nat) : Vw (w.drewN j) g v l := h.kept fun _ => rfl
set_option maxRecDepth 100000 in
set_option maxHeartbeats 600000 in
theorem ftake_places (fb g : Nat) (v : Value) (l : List UInt8) (n : Nat) (C : Nat → Value) (Bk : Nat) (p a : Value) (M : List UInt8) (D : List Nat) (w : World) (h : Vw w g v l) (hg : g < w.heap.size) (hF : Fc w fb C) (hC : C 0 = .int .i64 n) (hC2 : C 27 = .slice (some ⟨Bk, 0, none⟩) 1 1) (hB : Bv w Bk 0 p a M D (n + 1) (Rot.os M (n + 1))) (hn : n ≤ 250) :
    Calls Tryz.prog 50 #[.pointer (some ⟨fb, 0, none⟩), .int .i64 4, v] w fun e w' => (2 * Rot.os M (n + 1) ≤ l.length ∧ ∃ R N, e = .returned (.agg #[v, .pointer (some ⟨R, 0, none⟩), N, .slice none 0 0]) ∧ SecN w w' g R N l (Rot.os M (n + 1))) ∨ (l.length < 2 * Rot.os M (n + 1) ∧ e = .panicked (gu 4) ∧ w.grownBy w' none) := by
  have G0 := World.grownBy_alloc w (.cells #[.slice none 0 0, .pointer none, .slice none 0 0, .slice none 0 0] 101) none
  have hz := cells4 w (.slice none 0 0) (.pointer none) (.slice none 0 0) (.slice none 0 0) 101
  generalize hW0 : w.alloc (.cells #[.slice none 0 0, .pointer none, .slice none 0 0, .slice none 0 0] 101) = w0 at G0 hz
  obtain ⟨hs0, z0, z1, z2, z3, zf⟩ := hz
  obtain ⟨off, cap, rfl, hlen, hcap, _⟩ := id h
  have hco := fun j => ones_any Bk 0 p a M D (n + 1) (n + 1) (w0.drewN j) ((hB.kept0 G0).drewN j) (by omega) (fun h => absurd rfl h) (Nat.le_refl _)
  have hob := Rot.os_le M (n + 1)
  have hcon := fun j => takeNumbers_any g _ l (Rot.os M (n + 1)) (w0.drewN j) ((h.kept0 G0 hg).drewN j) (by show g < w0.heap.size; omega) (by omega)
  generalize Rot.os M (n + 1) = c at hco hob hcon
  obtain ⟨n1, hn1⟩ : ∃ n1 : Nat, n1 = n + 1 := ⟨_, rfl⟩
  have hcoD : Calls Tryz.prog 83 #[.pointer (some ⟨Bk, 0, none⟩), .int .i64 n1] w0.drew fun e w' => e = .returned (.int .i64 (c : Nat)) ∧ ∃ j, w' = w0.drewN j := by
    have h1 := hco 1
    rw [← hn1] at h1
    refine Calls.mono h1 ?_
    rintro e w' ⟨h2, j, h3⟩
    exact ⟨h2, 1 + j, by rw [h3, World.drewN_drewN]⟩
  have hw1 : IntKind.i64.wrap ((n : Int) + 1) = (n1 : Int) := by rw [IntKind.wrap_i64]; omega
  have hcb : c ≤ 300 := by omega
  clear hco hob hn1
  have HG0 := hide G0
  have hF0 := hF.grown G0 (by simp)
  have c0 := hF0.cells 0 (by decide)
  have c27 := hF0.cells 27 (by decide)
  rw [hC] at c0
  rw [hC2] at c27
  clear h G0 hF hF0 hC hC2 hB
  by_cases h2 : 2 * c ≤ l.length
  · have hcon2 : ∀ j, Calls Tryz.prog 80 #[.slice (some ⟨g, off, none⟩) l.length cap, .int .i64 c] (w0.drewN j) fun e w' => ∃ R N, e = .returned (.agg #[.slice (some ⟨g, off, none⟩) l.length cap, .pointer (some ⟨R, 0, none⟩), N, .slice none 0 0]) ∧ Hid (SecN (w0.drewN j) w' g R N l c) := fun j => (hcon j).mono (by
      rintro e w' (⟨_, R, N, h3, h4⟩ | ⟨h3, _⟩)
      · exact ⟨R, N, h3, h4⟩
      · omega)
    clear hcon
    go_enter Tryz.func50, Tryz.ntmps50
    go_wp2_with fail
    clear hW0
    have hlt0 : w.heap.size < w0.heap.size := by omega
    go_region_with (first
      | (go_at_call 83; refine hcoD.mono ?_; rintro e w2 ⟨rfl, j, hw2⟩; subst hw2)
      | (go_at_call 80; refine (hcon2 j).mono ?_; rintro e w3 ⟨R, N, rfl, hout⟩; have g3 := hide (unhide hout).grown; have r0 := (grown_cell (unhide g3) hlt0 (by simp) 0).trans z0; have r1 := (grown_cell (unhide g3) hlt0 (by simp) 1).trans z1; have r2 := (grown_cell (unhide g3) hlt0 (by simp) 2).trans z2; have r3 := (grown_cell (unhide g3) hlt0 (by simp) 3).trans z3; have f0 := (grown_frozen (unhide g3) hlt0 (by simp) 0).trans (zf 0); have f1 := (grown_frozen (unhide g3) hlt0 (by simp) 1).trans (zf 1); have f2 := (grown_frozen (unhide g3) hlt0 (by simp) 2).trans (zf 2); have f3 := (grown_frozen (unhide g3) hlt0 (by simp) 3).trans (zf 3); obtain ⟨na, nn, nc, hNs⟩ := Us.shape3 (unhide hout).num; subst hNs))
    all_goals
      go_wp2_with fail
      refine bodyPost_ret (v := .agg #[.slice (some ⟨g, off, none⟩) l.length cap, .pointer (some ⟨R, 0, none⟩), .slice na nn nc, .slice none 0 0]) (by simp [results, Tryz.results50, go_sem, r0, r1, r2, r3]) rfl (Or.inl ⟨h2, _, _, rfl, ?_⟩)
      exact (unhide hout).up (grown_drewN (unhide HG0) _) hs0 hg (grown4 _ _ _ _ _ _)
  · have hcon2 : ∀ j, Calls Tryz.prog 80 #[.slice (some ⟨g, off, none⟩) l.length cap, .int .i64 c] (w0.drewN j) fun e w' => e = .panicked (gu 4) ∧ (w0.drewN j).grownBy w' none := fun j => (hcon j).mono (by
      rintro e w' (⟨h3, _⟩ | ⟨_, h3, h4⟩)
      · omega
      · exact ⟨h3, h4⟩)
    clear hcon
    go_enter Tryz.func50, Tryz.ntmps50
    go_wp2_with fail
    clear hW0
    go_region_dies
    all_goals
      refine hcoD.mono ?_
      rintro e w2 ⟨rfl, j, hw2⟩
      subst hw2
      simp only []
      rename_i hK
      repeat (refine hK _ _ ?_; clear hK; (first | refine wpAny_ready (rs := [0]) (by decide +kernel) (by simp) ?_ | refine wpAny_ready (rs := [1]) (by decide +kernel) (by simp) ?_ | refine wpAny_ready (rs := [2]) (by decide +kernel) (by simp) ?_ | refine wpAny_ready (rs := [3]) (by decide +kernel) (by simp) ?_ | refine wpAny_ready (rs := [4]) (by decide +kernel) (by simp) ?_ | refine wpAny_ready (rs := [5]) (by decide +kernel) (by simp) ?_ | refine wpAny_ready (rs := [6]) (by decide +kernel) (by simp) ?_ | refine wpAny_ready (rs := [7]) (by decide +kernel) (by simp) ?_ | refine wpAny_ready (rs := [8]) (by decide +kernel) (by simp) ?_ | refine wpAny_ready (rs := [9]) (by decide +kernel) (by simp) ?_ | refine wpAny_ready (rs := [10]) (by decide +kernel) (by simp) ?_ | refine wpAny_ready (rs := [11]) (by decide +kernel) (by simp) ?_ | refine wpAny_ready (rs := [12]) (by decide +kernel) (by simp) ?_ | refine wpAny_ready (rs := [13]) (by decide +kernel) (by simp) ?_ | refine wpAny_ready (rs := [14]) (by decide +kernel) (by simp) ?_ | refine wpAny_ready (rs := [15]) (by decide +kernel) (by simp) ?_); refine AllReady.cons rfl (fun K hK => ?_) AllReady.nil; go_simp)
      refine (hcon2 j).mono ?_
      rintro e w3 ⟨rfl, g3⟩
      simp only []
      exact ⟨rfl, Or.inr ⟨by omega, rfl, grown_trans (grown_drewN (unhide HG0) _) g3 (Or.inl rfl)⟩⟩
end Go.Proofs.YthlincikgdblfaaGreat
