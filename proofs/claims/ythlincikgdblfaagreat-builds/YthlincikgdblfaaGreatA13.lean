import Derived.Test.YthlincikgdblfaaGreatA12
namespace Go.Proofs.YthlincikgdblfaaGreat
open Go.RowKit
set_option linter.unusedVariables false

set_option maxRecDepth 100000 in
set_option maxHeartbeats 1000000 in
theorem rows_any (s : ByteArray) (w : World) (hs : s.size ≤ 250) :
    Calls Tryz.prog 90 #[.string s] w fun e w' => ∃ g cap rows, e = .returned (.slice (some ⟨g, 0, none⟩) (s.size + 1) cap) ∧ Rot.IsRows s.data.toList rows ∧ rows.length = s.size + 1 ∧ Is w' w.heap.size (.slice (some ⟨g, 0, none⟩) (s.size + 1) cap) rows ∧ w.grownBy w' none := by
  obtain ⟨i0, hi, hz0, hz1, hz2⟩ := info_parts infoI
  have hb0 : (w.alloc (.cells #[.string s] 9)).cell? ⟨w.heap.size, 0, none⟩ = some (.string s) := by go_simp
  go_enter Tryz.func90, Tryz.ntmps90
  go_wp2_with (at_make; refine wpList_make_full _ rfl _ _ 25 rfl (w.heap.size + 1) 3 i0 (.int .i64 0) 1 Tryz.underlying25 hi hz0 hz1 .i64 .i64 _ _ (s.size + 1) rfl rfl ?l1 ?l2 ?m1 ?m2 ?m3 ?_)
  case l1 => omega
  case l2 => omega
  case m1 => rw [hz2]; omega
  case m2 => unfold maxLen; omega
  case m3 => simp
  intro w0 O0 G0
  have I0 : Is w0 (w.heap.size + 1) (.slice (some ⟨w.heap.size + 1, 0, none⟩) (s.size + 1) (s.size + 1)) (fillTo (s.size + 1) 0) := by
    unfold Is
    rw [fill_len, fill_none]
    simpa using O0
  clear O0
  go_wp2_with fail
  go_loopw [11] (fun i wr => ∃ k : Nat, k ≤ s.size + 1 ∧ i = .int .i64 k ∧ Is wr (w.heap.size + 1) (.slice (some ⟨w.heap.size + 1, 0, none⟩) (s.size + 1) (s.size + 1)) (fillTo (s.size + 1) k) ∧ (w.alloc (.cells #[.string s] 9)).grownBy wr none) (fun i _ => s.size + 1 - (intOf i).toNat)
  case atStart => exact ⟨0, Nat.zero_le _, rfl, I0, G0⟩
  case round =>
    obtain ⟨k, hk, rfl, I, G⟩ := hrel
    clear I0 G0
    by_cases hlt : k < s.size + 1
    · have hlen : k < (fillTo (s.size + 1) k).length := by rw [fill_len]; omega
      have hc := Is.cell I k hlen
      generalize hzz : (fillTo (s.size + 1) k)[k]'hlen = zz at hc
      clear hzz
      have S : wr.ownsRow (w.heap.size + 1) 3 1 (.slice (some ⟨w.heap.size + 1, 0, none⟩) (s.size + 1) (s.size + 1)) (s.size + 1) (byI (fillTo (s.size + 1) k)) := by
        have := I
        unfold Is at this
        rwa [fill_len] at this
      have hf := World.ownsRow.frozenAt S k
      have HS := hide (World.ownsRow.stored S k (.int .i64 (k : Int)))
      clear S I
      go_wp2
      go_roundw
      case rel =>
        refine ⟨k + 1, by omega, by go_num, ?_, grown_trans G (unhide HS).2 (Or.inr ⟨_, rfl, by simp⟩)⟩
        unfold Is
        rw [fill_len, ← fill_set _ _ hlt, byI_set]
        exact (unhide HS).1
      case measure => simp [intOf]; omega
    · have hk' : k = s.size + 1 := by omega
      subst hk'
      rw [fill_all] at I
      have hb := G.cell hb0 (by simp)
      have hcon := sort_rows s w.heap.size (w.heap.size + 1) (s.size + 1) (w.heap.size + 1) wr hs hb (by omega) I
      go_wp2_with fail
      refine hcon.mono ?_
      rintro e w2 ⟨rfl, rows, hr, I2, hl2, G2⟩
      clear hcon
      go_wp2_with fail
      go_ret
      refine ⟨_, _, rows, rfl, hr, hl2, ?_, ?_⟩
      · exact ⟨I2.1, I2.2.imp id fun ⟨g, cap, cur, a, b, c⟩ => ⟨g, cap, cur, a, by omega, c⟩⟩
      · exact grown_trans (grown_trans (World.grownBy_alloc w _ none) G (Or.inl rfl)) G2 (Or.inr ⟨_, rfl, by omega⟩)
end Go.Proofs.YthlincikgdblfaaGreat
