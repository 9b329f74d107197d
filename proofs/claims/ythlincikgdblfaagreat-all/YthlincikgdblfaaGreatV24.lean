import Derived.Test.YthlincikgdblfaaGreatV23
namespace Go.Proofs.YthlincikgdblfaaGreat
open Go.RowKit
set_option linter.unusedVariables false
set_option linter.unusedSimpArgs false

set_option maxRecDepth 100000 in
set_option maxHeartbeats 2000000 in
theorem frows_any (fb : Nat) (C : Nat → Value) (n r last : Nat) (Z F Q : List Nat) (N0 N1 N2 N4 : Value) (Bt ct Bm : Nat) (p a : Nat → Value) (P : Nat → List UInt8) (D : Nat → List Nat) (pm am : Value) (M : List UInt8) (Dm : List Nat) (w : World) (h : FIn w fb C n r last Z F Q N0 N1 N2 N4 Bt ct Bm p a P D pm am M Dm) (hn : n ≤ 250) :
    Calls Tryz.prog 54 #[.pointer (some ⟨fb, 0, none⟩)] w fun e w' => e = .returned (.pointer (some ⟨w.heap.size, 0, none⟩)) ∧ XOut w w' w.heap.size n r last Z F N4 p a P pm am M 8 := by
  have c0 := h.file.cells 0 (by decide)
  have c1 := h.file.cells 1 (by decide)
  have c14 := h.file.cells 14 (by decide)
  have c22 := h.file.cells 22 (by decide)
  have c27 := h.file.cells 27 (by decide)
  have c30 := h.file.cells 30 (by decide)
  rw [h.k0] at c0
  rw [h.k1] at c1
  rw [h.k14] at c14
  rw [h.k22] at c22
  rw [h.k27] at c27
  rw [h.k30] at c30
  obtain ⟨g0, cp0, e0, _, x0⟩ := h.u0.slice (by simp)
  have y0 := x0 0 (by simp)
  obtain ⟨g2, cp2, e2, _, x2⟩ := h.u2.slice (by rw [h.lf]; decide)
  rw [h.lf] at e2
  subst e0 e2
  simp only [List.length_cons, List.length_nil, List.getElem_cons_zero] at c14 y0
  have hlen : (by16 F).length = 256 := by rw [by16_length]; exact h.lf
  have hrange : w.rangeAt g2 0 (by16 F) := by
    intro j v hv
    obtain ⟨hj, he⟩ := List.getElem?_eq_some_iff.1 hv
    have hj2 : j < F.length := by rwa [by16_length] at hj
    rw [Nat.zero_add, x2 j hj2, ← he]
    simp [by16]
  have hsz : (Tryz.prog.info? 74).map (·.size) = some (by16 F).length := by rw [hlen]; kernel_rfl
  have b0 := h.marks.c0
  have b1 := h.marks.c1
  have b2 := h.marks.c2
  have b3 := h.marks.c3
  simp only [Nat.zero_add] at b0 b1 b2 b3
  obtain ⟨pa, pn, pcp, hpm⟩ := Bs.shape3 h.marks.packed
  obtain ⟨aa, an, acp, ham⟩ := Us.shape3 h.marks.ahead
  obtain ⟨qa, qn, qcp, hN4⟩ := Us.shape3 h.u4
  subst hpm ham hN4
  obtain ⟨n1, hn1⟩ : ∃ n1 : Nat, n1 = n + 1 := ⟨_, rfl⟩
  have hos := Rot.os_le M (n + 1)
  obtain ⟨om, hom⟩ : ∃ om : Nat, om = Rot.os M (n + 1) := ⟨_, rfl⟩
  rw [← hn1] at b2
  rw [← hom] at b3
  have hY := fold_put_list 43 (by16 F) 0 (((Tryz.zeroCells76.setIfInBounds 0 (.int .i64 (n : Int))).setIfInBounds 1 (.int .i64 (r : Int))).setIfInBounds 2 (.int .i64 (last : Int))) (by rw [hlen]; simp [zero_rows])
  generalize hYe : (List.foldl (fun cs (x : Value × Nat) => cs.setIfInBounds (43 + x.2) x.1) (((Tryz.zeroCells76.setIfInBounds 0 (.int .i64 (n : Int))).setIfInBounds 1 (.int .i64 (r : Int))).setIfInBounds 2 (.int .i64 (last : Int))) ((by16 F).zipIdx 0)) = Y at hY
  obtain ⟨hYs, hYg⟩ := hY
  have hYs2 : Y.size = 304 := by rw [hYs]; simp [zero_rows]
  have HYg := hide hYg
  clear hYs hYg
  have hbl := h.bl
  have HH := hide h
  have harr : ∀ w, (Instr.arrayAt 74 (.slice (some ⟨g2, 0, none⟩) 256 cp2)).run Tryz.prog w = .ok (.pointer (some ⟨g2, 0, none⟩)) w := fun w => run_arrayAt w 74 67 256 _ 256 cp2 Tryz.underlying74 (Nat.le_refl _)
  have hlw : IntKind.i64.wrap (last : Int) = (last : Int) := by rw [IntKind.wrap_i64]; omega
  have hund := Tryz.underlying74
  have hone : ∀ v ∈ by16 F, v.oneCell' = true := by16_one F
  have HN1 := hide hn1
  have HOM := hide hom
  clear h x0 x2 hos hn1 hom
  go_enter Tryz.func54, Tryz.ntmps54
  go_wp2_with fail
  go_region_held (fun w' => w'.cell? ⟨fb, 0, none⟩ = some (.int .i64 (n : Int)) ∧ w'.cell? ⟨fb, 1, none⟩ = some (.int .i64 (r : Int)) ∧ w'.cell? ⟨fb, 14, none⟩ = some (.slice (some ⟨g0, 0, none⟩) 1 cp0) ∧ w'.cell? ⟨fb, 22, none⟩ = some (.slice (some ⟨g2, 0, none⟩) 256 cp2) ∧ w'.cell? ⟨fb, 27, none⟩ = some (.slice (some ⟨Bm, 0, none⟩) 1 1) ∧ w'.cell? ⟨fb, 30, none⟩ = some (.slice qa qn qcp) ∧ w'.cell? ⟨g0, 0, none⟩ = some (.int .u16 (last : Int)) ∧ w'.cell? ⟨Bm, 0, none⟩ = some (.slice pa pn pcp) ∧ w'.cell? ⟨Bm, 1, none⟩ = some (.slice aa an acp) ∧ w'.cell? ⟨Bm, 2, none⟩ = some (.int .i64 (n1 : Int)) ∧ w'.cell? ⟨Bm, 3, none⟩ = some (.int .u16 (om : Int)) ∧ w'.rangeAt g2 0 (by16 F))
    (simp [*, World.cell?_alloc_some, World.rangeAt_drew, World.rangeAt_alloc]) (fail)
  have HX0 : Hid (XOut w (w.alloc (.cells (((((Y.setIfInBounds 299 (.slice pa pn pcp)).setIfInBounds 300 (.slice aa an acp)).setIfInBounds 301 (.int .i64 (n1 : Int))).setIfInBounds 302 (.int .u16 (om : Int))).setIfInBounds 303 (.slice qa qn qcp)) 76)) w.heap.size n r last Z F (.slice qa qn qcp) p a P (.slice pa pn pcp) (.slice aa an acp) M 0) := by
    have hYg := unhide HYg
    have zs := zero_rows
    have low : ∀ j, j < 299 → (((((Y.setIfInBounds 299 (.slice pa pn pcp)).setIfInBounds 300 (.slice aa an acp)).setIfInBounds 301 (.int .i64 (n1 : Int))).setIfInBounds 302 (.int .u16 (om : Int))).setIfInBounds 303 (.slice qa qn qcp))[j]? = Y[j]? := fun j hj => by
      rw [Array.getElem?_setIfInBounds_ne (by omega), Array.getElem?_setIfInBounds_ne (by omega), Array.getElem?_setIfInBounds_ne (by omega), Array.getElem?_setIfInBounds_ne (by omega), Array.getElem?_setIfInBounds_ne (by omega)]
    have hsz2 : (((((Y.setIfInBounds 299 (.slice pa pn pcp)).setIfInBounds 300 (.slice aa an acp)).setIfInBounds 301 (.int .i64 (n1 : Int))).setIfInBounds 302 (.int .u16 (om : Int))).setIfInBounds 303 (.slice qa qn qcp)).size = 304 := by simp [hYs2]
    refine ⟨?_, ?_, ?_, fun i hi => absurd hi (Nat.not_lt_zero _), ?_, ?_, ?_, ?_, ?_, ?_, ?_, fun j => frozen_alloc2 _ _ _ _, World.grownBy_alloc _ _ _⟩
    · rw [cell_alloc2, low 0 (by decide), hYg, if_neg (by omega), Array.getElem?_setIfInBounds_ne (by decide), Array.getElem?_setIfInBounds_ne (by decide), Array.getElem?_setIfInBounds_self_of_lt (by rw [zs]; decide)]
    · rw [cell_alloc2, low 1 (by decide), hYg, if_neg (by omega), Array.getElem?_setIfInBounds_ne (by decide), Array.getElem?_setIfInBounds_self_of_lt (by simp [zs])]
    · rw [cell_alloc2, low 2 (by decide), hYg, if_neg (by omega), Array.getElem?_setIfInBounds_self_of_lt (by simp [zs])]
    · intro c hc
      have hcF : c < F.length := by rw [by16_length] at hlen; omega
      rw [cell_alloc2, low _ (by omega), hYg, if_pos (by rw [hlen]; omega), show 43 + c - (43 + 0) = c by omega, List.getElem?_eq_getElem hcF]
      simp [by16, hcF]
    · rw [cell_alloc2, Array.getElem?_setIfInBounds_ne (by decide), Array.getElem?_setIfInBounds_ne (by decide), Array.getElem?_setIfInBounds_ne (by decide), Array.getElem?_setIfInBounds_ne (by decide), Array.getElem?_setIfInBounds_self_of_lt (by rw [hYs2]; decide)]
    · rw [cell_alloc2, Array.getElem?_setIfInBounds_ne (by decide), Array.getElem?_setIfInBounds_ne (by decide), Array.getElem?_setIfInBounds_ne (by decide), Array.getElem?_setIfInBounds_self_of_lt (by simp [hYs2])]
    · rw [cell_alloc2, Array.getElem?_setIfInBounds_ne (by decide), Array.getElem?_setIfInBounds_ne (by decide), Array.getElem?_setIfInBounds_self_of_lt (by simp [hYs2]), unhide HN1]
    · rw [cell_alloc2, Array.getElem?_setIfInBounds_ne (by decide), Array.getElem?_setIfInBounds_self_of_lt (by simp [hYs2]), unhide HOM]
    · rw [cell_alloc2, Array.getElem?_setIfInBounds_self_of_lt (by simp [hYs2])]
    · intro j hj
      rw [cell_alloc2, Array.getElem?_eq_getElem (by rw [hsz2]; exact hj)]
      rfl
  generalize hW1 : (w.alloc (.cells (((((Y.setIfInBounds 299 (.slice pa pn pcp)).setIfInBounds 300 (.slice aa an acp)).setIfInBounds 301 (.int .i64 (n1 : Int))).setIfInBounds 302 (.int .u16 (om : Int))).setIfInBounds 303 (.slice qa qn qcp)) 76)) = w1 at HX0
  have hW1d : (w.alloc (.cells (((((Y.setIfInBounds 299 (.slice pa pn pcp)).setIfInBounds 300 (.slice aa an acp)).setIfInBounds 301 (.int .i64 (n1 : Int))).setIfInBounds 302 (.int .u16 (om : Int))).setIfInBounds 303 (.slice qa qn qcp)) 76)).drew = w1.drew := by rw [hW1]
  go_wp2_with fail
  have HX1 := hide (unhide HX0).drew
  have e18 := (unhide HH).file.cells 18 (by decide)
  have e19 := (unhide HH).file.cells 19 (by decide)
  rw [(unhide HH).k18] at e18
  rw [(unhide HH).k19] at e19
  have hfl : fb < w.heap.size := World.block_lt_of_cell? w ⟨fb, 0, none⟩ c0
  obtain ⟨g1, cp1, hN1, _, x1⟩ := (unhide HH).u1.slice (by rw [(unhide HH).lz]; decide)
  rw [(unhide HH).lz] at hN1
  subst hN1
  clear hW1 hW1d HX0 c0 c1 c14 c22 c27 c30 y0 b0 b1 b2 b3 hrange hsz harr hund hone hYe hlw hbl
  go_loopw [51] (fun ix wr => ∃ k : Nat, k ≤ 8 ∧ ix = .int .i64 k ∧ XOut w wr w.heap.size n r last Z F (.slice qa qn qcp) p a P (.slice pa pn pcp) (.slice aa an acp) M k) (fun ix _ => 8 - (intOf ix).toNat)
  case atStart => exact ⟨0, by omega, rfl, unhide HX1⟩
  case round =>
    obtain ⟨k, hk, rfl, T⟩ := hrel
    clear HX1
    by_cases hlt : k < 8
    · have hlz : k < Z.length := by rw [(unhide HH).lz]; exact hlt
      have yk := x1 k hlz
      have hzb := (unhide HH).bz _ (List.getElem_mem hlz)
      have hget : (Z[k]?).getD 0 = Z[k]'hlz := by rw [List.getElem?_eq_getElem hlz]; rfl
      have hb := (unhide HH).bits k hlt
      have G := T.grown
      obtain ⟨ka, kn, kcp, hpk⟩ := Bs.shape3 hb.packed
      obtain ⟨la, ln, lcp, hak⟩ := Us.shape3 hb.ahead
      have q18 : wr.cell? ⟨fb, 18, none⟩ = some (.slice (some ⟨g1, 0, none⟩) 8 cp1) := G.cell e18 (by simp)
      have q19 : wr.cell? ⟨fb, 19, none⟩ = some (.slice (some ⟨Bt, 0, none⟩) 8 ct) := G.cell e19 (by simp)
      have qk := G.cell yk (by simp)
      have d0 := G.cell hb.c0 (by simp)
      have d1 := G.cell hb.c1 (by simp)
      have d2 := G.cell hb.c2 (by simp)
      have d3 := G.cell hb.c3 (by simp)
      rw [hpk] at d0
      rw [hak] at d1
      obtain ⟨t0, s0⟩ := Option.isSome_iff_exists.1 (T.some (3 + k * 5) (by omega))
      obtain ⟨t1, s1⟩ := Option.isSome_iff_exists.1 (T.some (3 + k * 5 + 1) (by omega))
      obtain ⟨t2, s2⟩ := Option.isSome_iff_exists.1 (T.some (3 + k * 5 + 2) (by omega))
      obtain ⟨t3, s3⟩ := Option.isSome_iff_exists.1 (T.some (3 + k * 5 + 3) (by omega))
      obtain ⟨t4, s4⟩ := Option.isSome_iff_exists.1 (T.some (3 + k * 5 + 4) (by omega))
      have f0 := T.free (3 + k * 5)
      have f1 := T.free (3 + k * 5 + 1)
      have f2 := T.free (3 + k * 5 + 2)
      have f3 := T.free (3 + k * 5 + 3)
      have f4 := T.free (3 + k * 5 + 4)
      have T2 := (T.step hlt (Nat.le_refl _)).drew
      rw [hget, hpk, hak] at T2
      have ho := Rot.os_le (P k) n
      generalize Rot.os (P k) n = ok at d3 T2 ho
      generalize Z[k]'hlz = z at qk hzb T2
      have HT2 := hide T2
      have hzw : IntKind.i64.wrap (z : Int) = (z : Int) := by rw [IntKind.wrap_i64]; omega
      have n1' : ¬ w.heap.size = fb := by omega
      have n2' : ¬ w.heap.size = g1 := by have := World.block_lt_of_cell? w _ yk; simp at this; omega
      have n3' : ¬ w.heap.size = Bt := by have := World.block_lt_of_cell? w _ hb.c0; simp at this; omega
      have HXX := hide x1
      clear T T2 hget hpk hak hb G x1 yk
      go_wp2_with fail
      go_region_held (fun w' => w'.cell? ⟨fb, 18, none⟩ = some (.slice (some ⟨g1, 0, none⟩) 8 cp1) ∧ w'.cell? ⟨fb, 19, none⟩ = some (.slice (some ⟨Bt, 0, none⟩) 8 ct) ∧ w'.cell? ⟨g1, k, none⟩ = some (.int .u16 (z : Int)) ∧ w'.cell? ⟨Bt, k * 4, none⟩ = some (.slice ka kn kcp) ∧ w'.cell? ⟨Bt, k * 4 + 1, none⟩ = some (.slice la ln lcp) ∧ w'.cell? ⟨Bt, k * 4 + 2, none⟩ = some (.int .i64 (n : Int)) ∧ w'.cell? ⟨Bt, k * 4 + 3, none⟩ = some (.int .u16 (ok : Int)))
        (simp [*, World.cell?_setCell_far]) (fail)
      all_goals
        go_wp2_with fail
        go_roundw
        case rel => exact ⟨k + 1, by omega, by go_num, unhide HT2⟩
        case measure => simp [intOf]; omega
    · have hk' : k = 8 := by omega
      subst hk'
      have HT := hide T
      clear T
      go_wp2_with fail
      go_ret
      exact ⟨rfl, unhide HT⟩
end Go.Proofs.YthlincikgdblfaaGreat
