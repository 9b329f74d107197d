import Derived.Test.YthlincikgdblfaaGreatV03
namespace Go.Proofs.YthlincikgdblfaaGreat
open Go.RowKit
set_option linter.unusedVariables false
set_option linter.unusedSimpArgs false

set_option maxRecDepth 100000 in
set_option maxHeartbeats 1000000 in
theorem add_16f (B b : Nat) (p a : Value) (r : Rot.Row) (w : World) (h : Bit w B b p a r) (hc : r.count < 1000) (ho : r.ones ≤ r.count) (hl : r.packed.length = (r.count + 7) / 8) (hd : r.ahead.length = (r.count + 15) / 16) (h8 : r.count % 8 = 0) (h16 : r.count % 16 = 0) :
    Calls Tryz.prog 128 #[.pointer (some ⟨b, 0, none⟩), .bool false] w fun e w' => e = .returned (.tuple #[]) ∧ Added w w' B b r false := by
  have hBw : B ≤ w.heap.size := Nat.le_trans h.le (Nat.le_of_lt h.lt)
  have t8 : ((r.count : Int) % 8 == 0) = true := by simp; omega
  have t16 : ((r.count : Int) % 16 == 0) = true := by simp; omega
  have HL := hide hl
  have HDL := hide hd
  clear hl hd
  have g0 := h.c0
  have g2 := h.c2
  have H := hide h
  clear h
  go_enter Tryz.func128, Tryz.ntmps128
  go_wp2_with (at_builtin; refine wp_app1 _ rfl (.tmp 14) (.tmp 15) rfl B _ r.packed rfl w _ rfl rfl (unhide H).packed 0 rfl ?l0 hBw ?_)
  case l0 => have := unhide HL; omega
  intro p1 w1 A1
  obtain ⟨gp, cp, rfl⟩ := A1.slice (by simp)
  obtain ⟨c0, c1, c2, c3, f0, f1, f2, f3⟩ := (unhide H).cells A1.grown (unhide H).pb
  have E := (unhide H).app0 A1
  simp only [List.length_append, List.length_cons, List.length_nil, Nat.zero_add] at E
  have EB := hide E.1
  have EW := hide E.2
  clear A1 g0 g2 E H
  go_wp2_with fail
  generalize hw2 : w1.setCell ⟨b, 0, none⟩ (.slice (some ⟨gp, 0, none⟩) (r.packed.length + 1) cp) = w2 at EB EW
  clear hw2 c0 c1 c2 c3 f0 f1 f2 f3
  have q1 := (unhide EB).c1
  have q3 := (unhide EB).c3
  have hdl : r.ahead.length < 1000000 := by have := unhide HDL; omega
  have hs2 : B ≤ w2.drew.heap.size := Nat.le_trans (unhide EB).le (Nat.le_of_lt (unhide EB).lt)
  have hlt2 : b < w2.heap.size := (unhide EB).lt
  go_region_law (refine step_app16 rfl (.tmp 29) (.tmp 34) rfl B _ r.ahead rfl w2.drew r.ones rfl rfl (unhide EB).drew.ahead hdl hs2 ?_; intro ga ca w3 O3 G3 T3; obtain ⟨d0, d1, d2, d3, e0, e1, e2, e3⟩ := (unhide EB).drew.cells G3 (unhide EB).ab; have E2 := hide ((unhide EB).drew.app1 O3 G3 T3); clear O3 G3 T3)
  all_goals
    clear q1 q3
    go_wp2
    go_end0
    exact ⟨rfl, close_false (r1 := ⟨r.packed ++ [0], r.ahead ++ [r.ones], r.count, r.ones⟩) (unhide E2).1 ((unhide EW).trans ((below_drewN (k := 1) (Below.refl _ _)).trans (unhide E2).2)) (by simp [Rot.Row.add, Rot.addBit, Rot.addAhead, h8, h16])⟩

set_option maxRecDepth 100000 in
set_option maxHeartbeats 1000000 in
theorem add_16t (B b : Nat) (p a : Value) (r : Rot.Row) (w : World) (h : Bit w B b p a r) (hc : r.count < 1000) (ho : r.ones ≤ r.count) (hl : r.packed.length = (r.count + 7) / 8) (hd : r.ahead.length = (r.count + 15) / 16) (h8 : r.count % 8 = 0) (h16 : r.count % 16 = 0) :
    Calls Tryz.prog 128 #[.pointer (some ⟨b, 0, none⟩), .bool true] w fun e w' => e = .returned (.tuple #[]) ∧ Added w w' B b r true := by
  have hBw : B ≤ w.heap.size := Nat.le_trans h.le (Nat.le_of_lt h.lt)
  have t8 : ((r.count : Int) % 8 == 0) = true := by simp; omega
  have t16 : ((r.count : Int) % 16 == 0) = true := by simp; omega
  have HL := hide hl
  have HDL := hide hd
  clear hl hd
  have g0 := h.c0
  have g2 := h.c2
  have H := hide h
  clear h
  go_enter Tryz.func128, Tryz.ntmps128
  go_wp2_with (at_builtin; refine wp_app1 _ rfl (.tmp 14) (.tmp 15) rfl B _ r.packed rfl w _ rfl rfl (unhide H).packed 0 rfl ?l0 hBw ?_)
  case l0 => have := unhide HL; omega
  intro p1 w1 A1
  obtain ⟨gp, cp, rfl⟩ := A1.slice (by simp)
  obtain ⟨c0, c1, c2, c3, f0, f1, f2, f3⟩ := (unhide H).cells A1.grown (unhide H).pb
  have E := (unhide H).app0 A1
  simp only [List.length_append, List.length_cons, List.length_nil, Nat.zero_add] at E
  have EB := hide E.1
  have EW := hide E.2
  clear A1 g0 g2 E H
  go_wp2_with fail
  generalize hw2 : w1.setCell ⟨b, 0, none⟩ (.slice (some ⟨gp, 0, none⟩) (r.packed.length + 1) cp) = w2 at EB EW
  clear hw2 c0 c1 c2 c3 f0 f1 f2 f3
  have q1 := (unhide EB).c1
  have q3 := (unhide EB).c3
  have hdl : r.ahead.length < 1000000 := by have := unhide HDL; omega
  have hs2 : B ≤ w2.drew.heap.size := Nat.le_trans (unhide EB).le (Nat.le_of_lt (unhide EB).lt)
  have hlt2 : b < w2.heap.size := (unhide EB).lt
  go_region_law (refine step_app16 rfl (.tmp 29) (.tmp 34) rfl B _ r.ahead rfl w2.drew r.ones rfl rfl (unhide EB).drew.ahead hdl hs2 ?_; intro ga ca w3 O3 G3 T3; obtain ⟨d0, d1, d2, d3, e0, e1, e2, e3⟩ := (unhide EB).drew.cells G3 (unhide EB).ab; have E2 := hide ((unhide EB).drew.app1 O3 G3 T3); clear O3 G3 T3)
  all_goals
    clear q1 q3
    have EB2 := hide (unhide E2).1
    have EW2 := hide ((unhide EW).trans ((below_drewN (k := 1) (Below.refl _ _)).trans (unhide E2).2))
    clear E2 EB EW
    go_wp2_with fail
    generalize hw4 : w3.setCell ⟨b, 1, none⟩ (.slice (some ⟨ga, 0, none⟩) (r.ahead.length + 1) ca) = w4 at EB2 EW2
    clear hw4 d0 d1 d2 d3 e0 e1 e2 e3
    have g0 := (unhide EB2).c0
    have g2 := (unhide EB2).c2
    have g3 := (unhide EB2).c3
    have k2 := (unhide EB2).f2
    have k3 := (unhide EB2).f3
    have hj : r.count / 8 < (r.packed ++ [0]).length := by have := unhide HL; simp; omega
    have hj2 : r.count / 8 < r.packed.length + 1 := by simpa using hj
    have hcp := (unhide EB2).packed.cell (r.count / 8) hj
    have hfp := (unhide EB2).packed.frozen (r.count / 8)
    generalize hcc : (r.packed ++ [0])[r.count / 8]'hj = c at hcp
    have HCC := hide hcc
    clear hcc
    have n1 : ¬ gp = b := fun e => (unhide EB2).pb (by simp [Value.ownBlock, e])
    have n2 : ¬ b = gp := fun e => n1 e.symm
    go_region
    go_wp2
    go_end0
    refine ⟨rfl, close_true (r1 := ⟨r.packed ++ [0], r.ahead ++ [r.ones], r.count, r.ones⟩) (by simpa using unhide EB2) (unhide EW2) c hj (unhide HCC) r.count r.ones _ rfl rfl ?_ (by simp [Rot.Row.add, Rot.addBit, Rot.addAhead, h8, h16, List.getElem?_eq_getElem hj, unhide HCC])⟩
    show _ = ((c ||| UInt8.ofNat (2 ^ (r.count % 8))).toNat : Int)
    rw [h8]
    exact or8 c 1

/-- What the bits of a row are: as many bytes and numbers as its bits want. -/
structure Fits (r : Rot.Row) : Prop where
  ones : r.ones ≤ r.count
  packed : r.packed.length = (r.count + 7) / 8
  ahead : r.ahead.length = (r.count + 15) / 16
theorem Fits.add {r : Rot.Row} (h : Fits r) (b : Bool) : Fits (r.add b) := by
  have h1 := h.ones
  have h2 := h.packed
  have h3 := h.ahead
  refine ⟨?_, ?_, ?_⟩
  · cases b <;> simp [Rot.Row.add] <;> omega
  · by_cases h8 : r.count % 8 = 0 <;> cases b <;> simp [Rot.Row.add, Rot.addBit, h8] <;> omega
  · by_cases h16 : r.count % 16 = 0 <;> simp [Rot.Row.add, Rot.addAhead, h16] <;> omega

theorem add_any (B b : Nat) (p a : Value) (r : Rot.Row) (bit : Bool) (w : World) (h : Bit w B b p a r) (hc : r.count < 1000) (hf : Fits r) :
    Calls Tryz.prog 128 #[.pointer (some ⟨b, 0, none⟩), .bool bit] w fun e w' => e = .returned (.tuple #[]) ∧ Added w w' B b r bit := by
  by_cases h8 : r.count % 8 = 0
  · by_cases h16 : r.count % 16 = 0
    · cases bit
      · exact add_16f B b p a r w h hc hf.ones hf.packed hf.ahead h8 h16
      · exact add_16t B b p a r w h hc hf.ones hf.packed hf.ahead h8 h16
    · cases bit
      · exact add_8f B b p a r w h hc hf.ones hf.packed hf.ahead h8 h16
      · exact add_8t B b p a r w h hc hf.ones hf.packed hf.ahead h8 h16
  · cases bit
    · exact add_0f B b p a r w h hc hf.ones hf.packed hf.ahead h8
    · exact add_0t B b p a r w h hc hf.ones hf.packed hf.ahead h8
end Go.Proofs.YthlincikgdblfaaGreat
