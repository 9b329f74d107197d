import Derived.Test.YthlincikgdblfaaGreatZ26
namespace Go.Proofs.YthlincikgdblfaaGreat
open Go.RowKit
set_option linter.unusedVariables false

theorem Us.low {w : World} {B B' : Nat} {v : Value} {d : List Nat} (h : Us w B v d) (hB : B' ≤ B) : Us w B' v d := ⟨h.1, h.2.imp id fun ⟨g, cap, cur, a, b, c⟩ => ⟨g, cap, cur, a, Nat.le_trans hB b, c⟩⟩
theorem Bs.ge {w w' : World} {B r : Nat} {v : Value} {l : List UInt8} (h : Bs w B v l) (G : w.grownBy w' (some r)) (hr : r < B) : Bs w' B v l := h.kept G (own_ne fun k hk e => by have := (h.lt hk).1; injection e with e; omega)
theorem Us.ge {w w' : World} {B r : Nat} {v : Value} {l : List Nat} (h : Us w B v l) (G : w.grownBy w' (some r)) (hr : r < B) : Us w' B v l := World.ownsRow.kept h G (own_ne fun k hk e => by have := (World.ownsRow.lt h k hk).1; injection e with e; omega)
/-- A variable of the caller's is written behind it. -/
theorem SecN.up {w w0 w3 w4 : World} {g R : Nat} {N : Value} {l : List UInt8} {c : Nat} (h : SecN w0 w3 g R N l c) (G0 : w.grownBy w0 none) (hs : w0.heap.size = w.heap.size + 1) (hg : g < w.heap.size) (G : w3.grownBy w4 (some w.heap.size)) : SecN w w4 g R N l c := by
  obtain ⟨u, hu⟩ := h.rdr
  have hf := h.fresh
  have hsz := h.grown.size
  exact ⟨⟨u, hu.grown G (by intro e; injection e with e; omega) (by intro e; injection e with e; omega) (by omega)⟩, (h.num.ge G (by omega)).low (by omega), by omega, grown_trans (grown_trans G0 h.grown (Or.inl rfl)) G (Or.inr ⟨_, rfl, Nat.le_refl _⟩)⟩
theorem SecM.up {w w0 w3 w4 : World} {g R b : Nat} {p a : Value} {l : List UInt8} {n : Nat} (h : SecM w0 w3 g R b p a l n) (G0 : w.grownBy w0 none) (hs : w0.heap.size = w.heap.size + 1) (hg : g < w.heap.size) (G : w3.grownBy w4 (some w.heap.size)) : SecM w w4 g R b p a l n := by
  obtain ⟨u, hu⟩ := h.rdr
  have hf := h.fresh
  have hfb := h.freshB
  have hsz := h.grown.size
  have hP := h.freshP.ge G (by omega)
  have hA := h.freshA.ge G (by omega)
  have hb := h.bits
  have hbl : b < w3.heap.size := World.block_lt_of_cell? w3 ⟨b, 0, none⟩ hb.c0
  have hc : ∀ j, w4.cell? ⟨b, j, none⟩ = w3.cell? ⟨b, j, none⟩ := grown_cell G hbl (by intro e; injection e with e; omega)
  exact ⟨⟨u, hu.grown G (by intro e; injection e with e; omega) (by intro e; injection e with e; omega) (by omega)⟩, ⟨(hc _).trans hb.c0, (hc _).trans hb.c1, (hc _).trans hb.c2, (hc _).trans hb.c3, hP.mono (Nat.zero_le _), hA.low (Nat.zero_le _)⟩, hP.mono (by omega), hA.low (by omega), by omega, by omega, grown_trans (grown_trans G0 h.grown (Or.inl rfl)) G (Or.inr ⟨_, rfl, Nat.le_refl _⟩)⟩
theorem SecT.up {w w0 w3 w4 : World} {g R b : Nat} {N : Value} {p a : Nat → Value} {l : List UInt8} {n : Nat} (h : SecT w0 w3 g R b N p a l n) (G0 : w.grownBy w0 none) (hs : w0.heap.size = w.heap.size + 1) (hg : g < w.heap.size) (G : w3.grownBy w4 (some w.heap.size)) : SecT w w4 g R b N p a l n := by
  obtain ⟨u, hu⟩ := h.rdr
  have hf := h.fresh
  have hfb := h.freshB
  have hsz := h.grown.size
  refine ⟨⟨u, hu.grown G (by intro e; injection e with e; omega) (by intro e; injection e with e; omega) (by omega)⟩, (h.num.ge G (by omega)).low (by omega), ?_, ?_, by omega, by omega, grown_trans (grown_trans G0 h.grown (Or.inl rfl)) G (Or.inr ⟨_, rfl, Nat.le_refl _⟩)⟩
  · intro i hi
    have hb := h.bits i hi
    have hbl : b < w3.heap.size := World.block_lt_of_cell? w3 ⟨b, i * 4, none⟩ hb.c0
    have hc : ∀ j, w4.cell? ⟨b, j, none⟩ = w3.cell? ⟨b, j, none⟩ := grown_cell G hbl (by intro e; injection e with e; omega)
    exact ⟨(hc _).trans hb.c0, (hc _).trans hb.c1, (hc _).trans hb.c2, (hc _).trans hb.c3, ((h.freshL i hi).1.ge G (by omega)).mono (Nat.zero_le _), ((h.freshL i hi).2.ge G (by omega)).low (Nat.zero_le _)⟩
  · intro i hi
    exact ⟨((h.freshL i hi).1.ge G (by omega)).mono (by omega), ((h.freshL i hi).2.ge G (by omega)).low (by omega)⟩
set_option maxRecDepth 100000 in
set_option maxHeartbeats 1000000 in
theorem ftake_num (fb g : Nat) (v : Value) (l : List UInt8) (kind c : Nat) (w : World) (h : Vw w g v l) (hg : g < w.heap.size) (hk : (kind = 0 ∧ c = 1) ∨ (kind = 2 ∧ c = 256)) :
    Calls Tryz.prog 50 #[.pointer (some ⟨fb, 0, none⟩), .int .i64 kind, v] w fun e w' => (2 * c ≤ l.length ∧ ∃ R N, e = .returned (.agg #[v, .pointer (some ⟨R, 0, none⟩), N, .slice none 0 0]) ∧ SecN w w' g R N l c) ∨ (l.length < 2 * c ∧ e = .panicked (gu 4) ∧ w.grownBy w' none) := by
  have G0 := World.grownBy_alloc w (.cells #[.slice none 0 0, .pointer none, .slice none 0 0, .slice none 0 0] 101) none
  have hz := cells4 w (.slice none 0 0) (.pointer none) (.slice none 0 0) (.slice none 0 0) 101
  generalize hW0 : w.alloc (.cells #[.slice none 0 0, .pointer none, .slice none 0 0, .slice none 0 0] 101) = w0 at G0 hz
  obtain ⟨hs0, z0, z1, z2, z3, zf⟩ := hz
  obtain ⟨off, cap, rfl, hlen, hcap, _⟩ := id h
  have hcon := takeNumbers_any g _ l c w0 (h.kept0 G0 hg) (by omega) (by omega)
  have HG0 := hide G0
  clear h G0
  rcases hk with ⟨rfl, rfl⟩ | ⟨rfl, rfl⟩
  all_goals
    go_enter Tryz.func50, Tryz.ntmps50
    go_wp2_with fail
    clear hW0
    refine hcon.mono ?_
    rintro e w3 (⟨h2, R, N, rfl, hout⟩ | ⟨h2, rfl, g3⟩)
    case inr =>
      have HG := hide (grown_trans (unhide HG0) g3 (Or.inl rfl))
      clear hcon g3
      go_wp2_with fail
      exact ⟨rfl, Or.inr ⟨h2, rfl, unhide HG⟩⟩
    have g3 := hout.grown
    have hs3 := g3.size
    have hlt0 : w.heap.size < w0.heap.size := by omega
    have r0 := (grown_cell g3 hlt0 (by simp) 0).trans z0
    have r1 := (grown_cell g3 hlt0 (by simp) 1).trans z1
    have r2 := (grown_cell g3 hlt0 (by simp) 2).trans z2
    have r3 := (grown_cell g3 hlt0 (by simp) 3).trans z3
    have f0 := (grown_frozen g3 hlt0 (by simp) 0).trans (zf 0)
    have f1 := (grown_frozen g3 hlt0 (by simp) 1).trans (zf 1)
    have f2 := (grown_frozen g3 hlt0 (by simp) 2).trans (zf 2)
    have f3 := (grown_frozen g3 hlt0 (by simp) 3).trans (zf 3)
    obtain ⟨na, nn, nc, hNs⟩ := Us.shape3 hout.num
    subst hNs
    have HO := hide hout
    clear hcon hout g3 z0 z1 z2 z3 zf
    go_wp2_with fail
    refine bodyPost_ret (v := .agg #[.slice (some ⟨g, off, none⟩) l.length cap, .pointer (some ⟨R, 0, none⟩), .slice na nn nc, .slice none 0 0]) (by simp [results, Tryz.results50, go_sem, r0, r1, r2, r3]) rfl (Or.inl ⟨h2, _, _, rfl, ?_⟩)
    exact (unhide HO).up (unhide HG0) hs0 hg (grown4 _ _ _ _ _ _)
set_option maxRecDepth 100000 in
set_option maxHeartbeats 1000000 in
theorem ftake_tree (fb g : Nat) (v : Value) (l : List UInt8) (n : Nat) (C : Nat → Value) (w : World) (h : Vw w g v l) (hg : g < w.heap.size) (hF : Fc w fb C) (hC : C 0 = .int .i64 n) (hn : n ≤ 250) :
    Calls Tryz.prog 50 #[.pointer (some ⟨fb, 0, none⟩), .int .i64 1, v] w fun e w' => (8 * Wd n ≤ l.length ∧ ∃ R N b c p a, e = .returned (.agg #[v, .pointer (some ⟨R, 0, none⟩), N, .slice (some ⟨b, 0, none⟩) 8 c]) ∧ SecT w w' g R b N p a l n) ∨ (l.length < 8 * Wd n ∧ e = .panicked (gu 4) ∧ w.grownBy w' none) := by
  have G0 := World.grownBy_alloc w (.cells #[.slice none 0 0, .pointer none, .slice none 0 0, .slice none 0 0] 101) none
  have hz := cells4 w (.slice none 0 0) (.pointer none) (.slice none 0 0) (.slice none 0 0) 101
  generalize hW0 : w.alloc (.cells #[.slice none 0 0, .pointer none, .slice none 0 0, .slice none 0 0] 101) = w0 at G0 hz
  obtain ⟨hs0, z0, z1, z2, z3, zf⟩ := hz
  obtain ⟨off, cap, rfl, hlen, hcap, _⟩ := id h
  have hcon := takeTree_any g _ l n w0 (h.kept0 G0 hg) (by omega) hn
  have HG0 := hide G0
  have c0 := (hF.grown G0 (by simp)).cells 0 (by decide)
  rw [hC] at c0
  clear h G0 hF hC
  go_enter Tryz.func50, Tryz.ntmps50
  go_wp2_with fail
  clear hW0
  refine hcon.mono ?_
  rintro e w3 (⟨h2, R, N, b, c, p, a, rfl, hout⟩ | ⟨h2, rfl, g3⟩)
  case inr =>
    have HG := hide (grown_trans (unhide HG0) g3 (Or.inl rfl))
    clear hcon g3
    go_wp2_with fail
    exact ⟨rfl, Or.inr ⟨h2, rfl, unhide HG⟩⟩
  have g3 := hout.grown
  have hs3 := g3.size
  have hlt0 : w.heap.size < w0.heap.size := by omega
  have r0 := (grown_cell g3 hlt0 (by simp) 0).trans z0
  have r1 := (grown_cell g3 hlt0 (by simp) 1).trans z1
  have r2 := (grown_cell g3 hlt0 (by simp) 2).trans z2
  have r3 := (grown_cell g3 hlt0 (by simp) 3).trans z3
  have f0 := (grown_frozen g3 hlt0 (by simp) 0).trans (zf 0)
  have f1 := (grown_frozen g3 hlt0 (by simp) 1).trans (zf 1)
  have f2 := (grown_frozen g3 hlt0 (by simp) 2).trans (zf 2)
  have f3 := (grown_frozen g3 hlt0 (by simp) 3).trans (zf 3)
  obtain ⟨na, nn, nc, hNs⟩ := Us.shape3 hout.num
  subst hNs
  have HO := hide hout
  clear hcon hout g3 z0 z1 z2 z3 zf
  go_wp2_with fail
  refine bodyPost_ret (v := .agg #[.slice (some ⟨g, off, none⟩) l.length cap, .pointer (some ⟨R, 0, none⟩), .slice na nn nc, .slice (some ⟨b, 0, none⟩) 8 c]) (by simp [results, Tryz.results50, go_sem, r0, r1, r2, r3]) rfl (Or.inl ⟨h2, _, _, _, _, p, a, rfl, ?_⟩)
  exact (unhide HO).up (unhide HG0) hs0 hg (grown4 _ _ _ _ _ _)
set_option maxRecDepth 100000 in
set_option maxHeartbeats 1000000 in
theorem ftake_marks (fb g : Nat) (v : Value) (l : List UInt8) (n : Nat) (C : Nat → Value) (w : World) (h : Vw w g v l) (hg : g < w.heap.size) (hF : Fc w fb C) (hC : C 0 = .int .i64 n) (hn : n ≤ 250) :
    Calls Tryz.prog 50 #[.pointer (some ⟨fb, 0, none⟩), .int .i64 3, v] w fun e w' => (((n + 1) + 7) / 8 + 2 * (((n + 1) + 15) / 16) ≤ l.length ∧ ∃ R b p a, e = .returned (.agg #[v, .pointer (some ⟨R, 0, none⟩), .slice none 0 0, .slice (some ⟨b, 0, none⟩) 1 1]) ∧ SecM w w' g R b p a l (n + 1)) ∨ (l.length < ((n + 1) + 7) / 8 + 2 * (((n + 1) + 15) / 16) ∧ e = .panicked (gu 4) ∧ w.grownBy w' none) := by
  have G0 := World.grownBy_alloc w (.cells #[.slice none 0 0, .pointer none, .slice none 0 0, .slice none 0 0] 101) none
  have hz := cells4 w (.slice none 0 0) (.pointer none) (.slice none 0 0) (.slice none 0 0) 101
  generalize hW0 : w.alloc (.cells #[.slice none 0 0, .pointer none, .slice none 0 0, .slice none 0 0] 101) = w0 at G0 hz
  obtain ⟨hs0, z0, z1, z2, z3, zf⟩ := hz
  obtain ⟨off, cap, rfl, hlen, hcap, _⟩ := id h
  have hcon := takeMarks_any g _ l (n + 1) w0 (h.kept0 G0 hg) (by omega) (by omega)
  have HG0 := hide G0
  have c0 := (hF.grown G0 (by simp)).cells 0 (by decide)
  rw [hC] at c0
  clear h G0 hF hC
  go_enter Tryz.func50, Tryz.ntmps50
  go_wp2_with fail
  clear hW0
  refine hcon.mono ?_
  rintro e w3 (⟨h2, R, b, p, a, rfl, hout⟩ | ⟨h2, rfl, g3⟩)
  case inr =>
    have HG := hide (grown_trans (unhide HG0) g3 (Or.inl rfl))
    clear hcon g3
    go_wp2_with fail
    exact ⟨rfl, Or.inr ⟨h2, rfl, unhide HG⟩⟩
  have g3 := hout.grown
  have hs3 := g3.size
  have hlt0 : w.heap.size < w0.heap.size := by omega
  have r0 := (grown_cell g3 hlt0 (by simp) 0).trans z0
  have r1 := (grown_cell g3 hlt0 (by simp) 1).trans z1
  have r2 := (grown_cell g3 hlt0 (by simp) 2).trans z2
  have r3 := (grown_cell g3 hlt0 (by simp) 3).trans z3
  have f0 := (grown_frozen g3 hlt0 (by simp) 0).trans (zf 0)
  have f1 := (grown_frozen g3 hlt0 (by simp) 1).trans (zf 1)
  have f2 := (grown_frozen g3 hlt0 (by simp) 2).trans (zf 2)
  have f3 := (grown_frozen g3 hlt0 (by simp) 3).trans (zf 3)
  have HO := hide hout
  clear hcon hout g3 z0 z1 z2 z3 zf
  go_wp2_with fail
  refine bodyPost_ret (v := .agg #[.slice (some ⟨g, off, none⟩) l.length cap, .pointer (some ⟨R, 0, none⟩), .slice none 0 0, .slice (some ⟨b, 0, none⟩) 1 1]) (by simp [results, Tryz.results50, go_sem, r0, r1, r2, r3]) rfl (Or.inl ⟨h2, _, _, p, a, rfl, ?_⟩)
  exact (unhide HO).up (unhide HG0) hs0 hg (grown4 _ _ _ _ _ _)
end Go.Proofs.YthlincikgdblfaaGreat
