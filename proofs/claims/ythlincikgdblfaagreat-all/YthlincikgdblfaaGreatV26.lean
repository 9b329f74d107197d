import Derived.Test.YthlincikgdblfaaGreatV25
namespace Go.Proofs.YthlincikgdblfaaGreat
open Go.RowKit
set_option linter.unusedVariables false
set_option linter.unusedSimpArgs false

/-- What a load that takes the bytes leaves. -/
structure RowsOut (w w' : World) (x : Nat) (s : List UInt8) : Prop where
  good : Good s
  rows : Xv w' x s (nn s) (rr s) (lastIn s) (Rot.numAt (dd s 2)) (mk s) (Rot.nums (dd s 4) (Rot.os (mk s) (nn s + 1)))
  fresh : w.heap.size ≤ x
  grown : w.grownBy w' none
  stays : ∀ w'', Stay w.heap.size w' w'' → Xv w'' x s (nn s) (rr s) (lastIn s) (Rot.numAt (dd s 2)) (mk s) (Rot.nums (dd s 4) (Rot.os (mk s) (nn s + 1)))
theorem nums_lt (l : List UInt8) (c : Nat) : ∀ q ∈ Rot.nums l c, q < 65536 := by
  intro q hq
  obtain ⟨i, _, rfl⟩ := List.mem_map.1 hq
  exact Rot.numAt_lt _ _
set_option maxRecDepth 100000 in
set_option maxHeartbeats 8000000 in
theorem rows_any2 (g : Nat) (v : Value) (s : List UInt8) (w : World) (h : Vw w g v s) (hg : g < w.heap.size) (hs : s.length ≤ 4000) :
    Calls Tryz.prog 29 #[v] w fun e w' => (∃ x, e = .returned (.pointer (some ⟨x, 0, none⟩)) ∧ RowsOut w w' x s) ∨ (e = .panicked (gu 4) ∧ ¬ Good s ∧ w.grownBy w' none) := by
  obtain ⟨off, cap, rfl, hlen, hcap, _⟩ := id h
  have G0 := World.grownBy_alloc w (.cells fileCells 104) none
  have hF0 := made_file w
  have hs0 : (w.alloc (.cells fileCells 104)).heap.size = w.heap.size + 1 := by simp
  generalize hW0 : w.alloc (.cells fileCells 104) = w0 at G0 hF0 hs0
  have hW0' := hW0
  unfold fileCells at hW0'
  have hcr := newReader_any (some ⟨g, off, none⟩) s.length cap w0
  have G1 := World.grownBy_alloc w0 (.cells #[.slice (some ⟨g, off, none⟩) s.length cap] 134) none
  obtain ⟨hs1, hR1⟩ := made_reader w0 g off s.length cap s (h.kept0 G0 hg) (by omega)
  generalize hW1 : w0.alloc (.cells #[.slice (some ⟨g, off, none⟩) s.length cap] 134) = w1 at hcr G1 hR1 hs1
  rw [hs0] at hR1 hcr hs1
  have hF1 := hF0.grown G1 (by simp)
  have hch := takeHead_any w.heap.size (w.heap.size + 1) g w.heap.size _ s C0 w1 hF1 hR1 (by omega) (by omega) (Nat.le_refl _) (by omega) hg (by omega) hs
  have HGW : Hid (w.grownBy w1 none) := grown_trans G0 G1 (Or.inl rfl)
  have HS1 := hide hs1
  clear h hF0 G0 G1 hR1 hF1 hW0 hW1 hs1
  go_enter Tryz.func29, Tryz.ntmps29
  go_wp2_with fail
  clear hW0'
  refine hcr.mono ?_
  rintro e w2 ⟨rfl, hw2⟩
  subst hw2
  clear hcr
  go_wp2_with fail
  refine hch.mono ?_
  rintro e w3 (⟨rfl, hout⟩ | ⟨rfl, hno, hbl⟩)
  case inr =>
    have HN : Hid (¬ Good s) := fun h => hno h.head
    have HG : Hid (w.grownBy w3 none) := below_back (unhide HGW) hbl
    clear hch hno hbl
    go_wp2_with fail
    exact ⟨rfl, Or.inr ⟨rfl, unhide HN, unhide HG⟩⟩
  obtain ⟨hok, hfile, hrd, hbl⟩ := hout
  have hct := takeTable_any w.heap.size (w.heap.size + 1) g w.heap.size (s.drop 12) _ w3 ⟨hrd, hfile, Below.refl _ _⟩ (by omega) (by omega) (Nat.le_refl _) (by omega) hg (Nat.le_trans (unhide HGW).size hbl.size)
  have HOK := hide hok
  have HB3 := hide hbl
  clear hch hfile hrd hbl hok
  go_wp2_with fail
  refine hct.mono ?_
  rintro e w4 (⟨rfl, h30, htab⟩ | ⟨rfl, hno, hbl⟩)
  case inr =>
    have HN : Hid (¬ Good s) := fun h => by have := h.table; unfold tb at this; omega
    have HG : Hid (w.grownBy w4 none) := below_back (unhide HGW) ((unhide HB3).trans hbl)
    clear hct hno hbl
    go_wp2_with fail
    exact ⟨rfl, Or.inr ⟨rfl, unhide HN, unhide HG⟩⟩
  have HSec : Hid (SecAt w2 w4 w.heap.size g s 0 (tabC (upd (upd C0 0 (.int .i64 (Rot.numAt s 2 : Nat))) 1 (.int .i64 (((s[6]?).getD 0).toNat : Nat))) (s.drop 12) 5)) := by
    refine ⟨⟨htab.file, htab.rdr, Ext.of_below ((unhide HB3).trans htab.below) (unhide HS1)⟩, rfl, rfl, ?_, ?_, fun h => absurd h (by omega), fun h => absurd h (by omega), fun h => absurd h (by omega), fun h => absurd h (by omega), fun h => absurd h (by omega)⟩
    · intro j hj
      unfold tabC sz tb
      rw [if_pos (by omega), show 2 + j - 2 = j by omega]
    · intro j hj
      unfold tabC cs tb
      rw [if_neg (by omega), if_pos (by omega), show 7 + j - 7 = j by omega]
  have HT30 : Hid (30 ≤ (tb s).length) := h30
  obtain ⟨hn250, hrate, hl12⟩ := (unhide HOK).n
  clear hct htab h30
  go_wp2_with fail
  go_loopw [15] (fun ix wr => ∃ k : Nat, ∃ C, k ≤ 5 ∧ ix = .int .i64 k ∧ SecAt w2 wr w.heap.size g s k C) (fun ix _ => 5 - (intOf ix).toNat)
  case atStart => exact ⟨0, _, by omega, rfl, unhide HSec⟩
  case round =>
    obtain ⟨k, C, hk, rfl, T⟩ := hrel
    clear HSec
    have hgw : g < wr.heap.size := by have := T.at5.ext.size; have := unhide HS1; omega
    by_cases hlt : k < 5
    · obtain ⟨u, hu⟩ := T.at5.rdr
      have hzk := T.cz k hlt
      have hszb : sz s k < 65536 := szAt_lt _ _
      have cz := T.at5.file.cells (2 + k) (by omega)
      rw [hzk] at cz
      by_cases hzl : sz s k ≤ (rs s k).length
      case neg =>
        have hcon := bytes_no (w.heap.size + 1) g u (rs s k) (sz s k) wr hu (by omega)
        have HN : Hid (¬ Good s) := by
          intro h
          have : k = 0 ∨ k = 1 ∨ k = 2 ∨ k = 3 ∨ k = 4 := by omega
          rcases this with rfl | rfl | rfl | rfl | rfl
          · exact hzl h.z0
          · exact hzl h.z1
          · exact hzl h.z2
          · exact hzl h.z3
          · exact hzl h.z4
        have HG : Hid (w.grownBy wr none) := Ext.back (unhide HGW) T.at5.ext
        clear T hu
        go_wp2_with fail
        refine hcon.mono ?_
        rintro e w5 ⟨rfl, rfl⟩
        go_wp2_with fail
        exact ⟨rfl, Or.inr ⟨rfl, unhide HN, unhide HG⟩⟩
      have hcon := bytes_yes (w.heap.size + 1) g u (rs s k) (sz s k) wr hu hzl
      have HT := hide T
      have HZL := hide hzl
      clear T hu hzk hzl
      go_wp2_with fail
      refine hcon.mono ?_
      rintro e w5 ⟨ud, rfl, hgot⟩
      clear hcon
      obtain ⟨A5, hvd⟩ := (unhide HT).at5.bytes hg hgw hgot
      have hg5 : g < w5.heap.size := by have := A5.ext.size; have := unhide HS1; omega
      have HE5 : Hid (Ext w.heap.size wr w5) := Ext.of (Adv.grown hgot.2) (Or.inr (Or.inr rfl))
      have HA5 := hide A5
      have HVD := hide hvd
      clear A5 hvd hgot
      have hk5 : k = 0 ∨ k = 1 ∨ k = 2 ∨ k = 3 ∨ k = 4 := by omega
      rcases hk5 with rfl | rfl | rfl | rfl | rfl
      · obtain ⟨dof, dn, dcap, hud⟩ := (unhide HVD).shape3
        subst hud
        have hft := ftake_num w.heap.size g (.slice (some ⟨g, dof, none⟩) dn dcap) (dd s 0) 0 1 w5 (unhide HVD) hg5 (by omega)
        go_wp2_with fail
        refine hft.mono ?_
        rintro e w6 (⟨hl, R, N, rfl, hsec⟩ | ⟨hl, rfl, g6⟩)
        case inr =>
          have HN : Hid (¬ Good s) := fun h => by have := h.l0; omega
          have HG : Hid (w.grownBy w6 none) := Ext.back (unhide HGW) ((unhide HA5).grown g6 hg5).ext
          clear hft g6 hl
          go_wp2_with fail
          exact ⟨rfl, Or.inr ⟨rfl, unhide HN, unhide HG⟩⟩
        have A6 := (unhide HA5).grown hsec.grown hg5
        have hg6 : g < w6.heap.size := Nat.lt_of_lt_of_le hg5 hsec.grown.size
        have hF5 : w.heap.size + 2 ≤ w5.heap.size := by have := (unhide HA5).ext.size; have := unhide HS1; omega
        have hRF : w.heap.size < R := by have := hsec.fresh; omega
        have x0 := A6.file.cells 12 (by decide)
        have x1 := A6.file.cells 13 (by decide)
        have x2 := A6.file.cells 14 (by decide)
        have x3 := A6.file.cells 15 (by decide)
        have y0 := A6.file.free 12
        have y1 := A6.file.free 13
        have y2 := A6.file.free 14
        have y3 := A6.file.free 15
        obtain ⟨na, nk, nc, hNs⟩ := Us.shape3 hsec.num
        subst hNs
        have A7 : At5 w2 ((((w6.setCell ⟨w.heap.size, 12, none⟩ (.slice (some ⟨g, dof, none⟩) dn dcap)).setCell ⟨w.heap.size, 13, none⟩ (.pointer (some ⟨R, 0, none⟩))).setCell ⟨w.heap.size, 14, none⟩ (.slice na nk nc)).setCell ⟨w.heap.size, 15, none⟩ (.slice none 0 0)) w.heap.size g (upd4 C 12 (.slice (some ⟨g, dof, none⟩) dn dcap) (.pointer (some ⟨R, 0, none⟩)) (.slice na nk nc) (.slice none 0 0)) (rs s 1) := (A6.store hg hg6 12 (by decide) _ _ _ _).1
        have G7 : w6.grownBy ((((w6.setCell ⟨w.heap.size, 12, none⟩ (.slice (some ⟨g, dof, none⟩) dn dcap)).setCell ⟨w.heap.size, 13, none⟩ (.pointer (some ⟨R, 0, none⟩))).setCell ⟨w.heap.size, 14, none⟩ (.slice na nk nc)).setCell ⟨w.heap.size, 15, none⟩ (.slice none 0 0)) (some w.heap.size) := (A6.store hg hg6 12 (by decide) _ _ _ _).2
        obtain ⟨ur, hur⟩ := hsec.rdr
        have hlk := lk_of A7 (by decide) (unhide HVD) hsec.grown G7 hur hRF hg hg5
        have E67 : Ext w.heap.size w6 ((((w6.setCell ⟨w.heap.size, 12, none⟩ (.slice (some ⟨g, dof, none⟩) dn dcap)).setCell ⟨w.heap.size, 13, none⟩ (.pointer (some ⟨R, 0, none⟩))).setCell ⟨w.heap.size, 14, none⟩ (.slice na nk nc)).setCell ⟨w.heap.size, 15, none⟩ (.slice none 0 0)) := Ext.of G7 (Or.inr (Or.inl rfl))
        have E7 : Ext w.heap.size wr ((((w6.setCell ⟨w.heap.size, 12, none⟩ (.slice (some ⟨g, dof, none⟩) dn dcap)).setCell ⟨w.heap.size, 13, none⟩ (.pointer (some ⟨R, 0, none⟩))).setCell ⟨w.heap.size, 14, none⟩ (.slice na nk nc)).setCell ⟨w.heap.size, 15, none⟩ (.slice none 0 0)) := (unhide HE5).trans ((Ext.of hsec.grown (Or.inl rfl)).trans E67)
        have HP := hide (E67.us (hsec.num.low hF5))
        have hcl := look_plain w.heap.size 12 g R (.slice (some ⟨g, dof, none⟩) dn dcap) ur (dd s 0) _ 0 (cs s 0) _ hlk (by omega)
        have cm : ((((w6.setCell ⟨w.heap.size, 12, none⟩ (.slice (some ⟨g, dof, none⟩) dn dcap)).setCell ⟨w.heap.size, 13, none⟩ (.pointer (some ⟨R, 0, none⟩))).setCell ⟨w.heap.size, 14, none⟩ (.slice na nk nc)).setCell ⟨w.heap.size, 15, none⟩ (.slice none 0 0)).cell? ⟨w.heap.size, 7, none⟩ = some (.int .u32 (cs s 0 : Nat)) := by
          have := A7.file.cells 7 (by decide)
          rw [upd4_low _ _ _ _ _ _ _ (by omega)] at this
          rw [this, ← (unhide HT).cm 0 (by decide)]
        have hg7 : g < ((((w6.setCell ⟨w.heap.size, 12, none⟩ (.slice (some ⟨g, dof, none⟩) dn dcap)).setCell ⟨w.heap.size, 13, none⟩ (.pointer (some ⟨R, 0, none⟩))).setCell ⟨w.heap.size, 14, none⟩ (.slice na nk nc)).setCell ⟨w.heap.size, 15, none⟩ (.slice none 0 0)).heap.size := Nat.lt_of_lt_of_le hg6 G7.size
        have HA7 := hide A7
        have HE7 := hide E7
        have HL := hide hl
        clear A6 A7 G7 E7 E67 hsec hl hft hlk hur
        go_wp2_with fail
        generalize ((((w6.setCell ⟨w.heap.size, 12, none⟩ (.slice (some ⟨g, dof, none⟩) dn dcap)).setCell ⟨w.heap.size, 13, none⟩ (.pointer (some ⟨R, 0, none⟩))).setCell ⟨w.heap.size, 14, none⟩ (.slice na nk nc)).setCell ⟨w.heap.size, 15, none⟩ (.slice none 0 0)) = w7 at HA7 HE7 HP cm hcl hg7 ⊢
        clear x0 x1 x2 x3 y0 y1 y2 y3
        by_cases hok : endOk (dd s 0) ((dd s 0).drop (2 * 1)) (cs s 0)
        · have hcl2 : Calls Tryz.prog 52 #[.pointer (some ⟨w.heap.size, 12, none⟩), .int .i64 0, .int .u32 (cs s 0 : Nat)] w7.drew fun e w' => e = .returned (.tuple #[]) ∧ w' = w7.drew := Calls.mono hcl (by
            rintro e w' ⟨(⟨h1, _⟩ | ⟨_, h2⟩), h3⟩
            · exact ⟨h1, h3⟩
            · exact absurd hok h2)
          have HOK2 := hide hok
          clear hcl hok
          go_region_with (first | (go_at_call 52; refine hcl2.mono ?_; rintro e w8 ⟨rfl, hw8'⟩; have HW8 := hide hw8'; clear hw8'))
          all_goals
            have hw8 := unhide HW8
            have g8 : w7.grownBy w8 none := by rw [hw8]; exact grown_drewN (World.grownBy.refl _ _) 1
            have E8 : Ext w.heap.size w7 w8 := Ext.of g8 (Or.inl rfl)
            have HSN : Hid (SecAt w2 w8 w.heap.size g s 1 (upd4 C 12 (.slice (some ⟨g, dof, none⟩) dn dcap) (.pointer (some ⟨R, 0, none⟩)) (.slice na nk nc) (.slice none 0 0))) := (unhide HT).next (by decide) ((unhide HA7).grown g8 hg7) ((unhide HE7).trans E8) (fun _ => ⟨E8.us (unhide HP), unhide HZL, unhide HL, unhide HOK2⟩) (fun e => absurd e (by decide)) (fun e => absurd e (by decide)) (fun e => absurd e (by decide)) (fun e => absurd e (by decide))
            clear hw8 HW8 g8 E8 HA7 HE7 HP HL HT HZL HOK2 hcl2
            go_wp2_with fail
            go_roundw
            case rel => exact ⟨1, _, by decide, rfl, unhide HSN⟩
            case measure => simp [intOf]
        · have hcl2 : Calls Tryz.prog 52 #[.pointer (some ⟨w.heap.size, 12, none⟩), .int .i64 0, .int .u32 (cs s 0 : Nat)] w7.drew fun e w' => e = .panicked (gu 4) ∧ w' = w7.drew := Calls.mono hcl (by
            rintro e w' ⟨(⟨_, h2⟩ | ⟨h1, _⟩), h3⟩
            · exact absurd h2 hok
            · exact ⟨h1, h3⟩)
          have HN : Hid (¬ Good s) := fun h => hok h.e0
          have HG : Hid (w.grownBy w7.drew none) := Ext.back (unhide HGW) (unhide HA7).drew.ext
          clear hcl hok HA7 HE7 HP HL HT HZL
          go_region_dies
          all_goals
            refine hcl2.mono ?_
            rintro e w8 ⟨rfl, hw8⟩
            simp only []
            exact ⟨rfl, Or.inr ⟨rfl, unhide HN, by rw [hw8]; exact unhide HG⟩⟩
      · obtain ⟨dof, dn, dcap, hud⟩ := (unhide HVD).shape3
        subst hud
        have hft := ftake_tree w.heap.size g (.slice (some ⟨g, dof, none⟩) dn dcap) (dd s 1) (nn s) C w5 (unhide HVD) hg5 (unhide HA5).file (unhide HT).c0 hn250
        go_wp2_with fail
        refine hft.mono ?_
        rintro e w6 (⟨hl, R, N, b, c, p, a, rfl, hsec⟩ | ⟨hl, rfl, g6⟩)
        case inr =>
          have HN : Hid (¬ Good s) := fun h => by have := h.l1; omega
          have HG : Hid (w.grownBy w6 none) := Ext.back (unhide HGW) ((unhide HA5).grown g6 hg5).ext
          clear hft g6 hl
          go_wp2_with fail
          exact ⟨rfl, Or.inr ⟨rfl, unhide HN, unhide HG⟩⟩
        have A6 := (unhide HA5).grown hsec.grown hg5
        have hg6 : g < w6.heap.size := Nat.lt_of_lt_of_le hg5 hsec.grown.size
        have hF5 : w.heap.size + 2 ≤ w5.heap.size := by have := (unhide HA5).ext.size; have := unhide HS1; omega
        have hRF : w.heap.size < R := by have := hsec.fresh; omega
        have x0 := A6.file.cells 16 (by decide)
        have x1 := A6.file.cells 17 (by decide)
        have x2 := A6.file.cells 18 (by decide)
        have x3 := A6.file.cells 19 (by decide)
        have y0 := A6.file.free 16
        have y1 := A6.file.free 17
        have y2 := A6.file.free 18
        have y3 := A6.file.free 19
        obtain ⟨na, nk, nc, hNs⟩ := Us.shape3 hsec.num
        subst hNs
        have A7 : At5 w2 ((((w6.setCell ⟨w.heap.size, 16, none⟩ (.slice (some ⟨g, dof, none⟩) dn dcap)).setCell ⟨w.heap.size, 17, none⟩ (.pointer (some ⟨R, 0, none⟩))).setCell ⟨w.heap.size, 18, none⟩ (.slice na nk nc)).setCell ⟨w.heap.size, 19, none⟩ (.slice (some ⟨b, 0, none⟩) 8 c)) w.heap.size g (upd4 C 16 (.slice (some ⟨g, dof, none⟩) dn dcap) (.pointer (some ⟨R, 0, none⟩)) (.slice na nk nc) (.slice (some ⟨b, 0, none⟩) 8 c)) (rs s 2) := (A6.store hg hg6 16 (by decide) _ _ _ _).1
        have G7 : w6.grownBy ((((w6.setCell ⟨w.heap.size, 16, none⟩ (.slice (some ⟨g, dof, none⟩) dn dcap)).setCell ⟨w.heap.size, 17, none⟩ (.pointer (some ⟨R, 0, none⟩))).setCell ⟨w.heap.size, 18, none⟩ (.slice na nk nc)).setCell ⟨w.heap.size, 19, none⟩ (.slice (some ⟨b, 0, none⟩) 8 c)) (some w.heap.size) := (A6.store hg hg6 16 (by decide) _ _ _ _).2
        obtain ⟨ur, hur⟩ := hsec.rdr
        have hlk := lk_of A7 (by decide) (unhide HVD) hsec.grown G7 hur hRF hg hg5
        have E67 : Ext w.heap.size w6 ((((w6.setCell ⟨w.heap.size, 16, none⟩ (.slice (some ⟨g, dof, none⟩) dn dcap)).setCell ⟨w.heap.size, 17, none⟩ (.pointer (some ⟨R, 0, none⟩))).setCell ⟨w.heap.size, 18, none⟩ (.slice na nk nc)).setCell ⟨w.heap.size, 19, none⟩ (.slice (some ⟨b, 0, none⟩) 8 c)) := Ext.of G7 (Or.inr (Or.inl rfl))
        have E7 : Ext w.heap.size wr ((((w6.setCell ⟨w.heap.size, 16, none⟩ (.slice (some ⟨g, dof, none⟩) dn dcap)).setCell ⟨w.heap.size, 17, none⟩ (.pointer (some ⟨R, 0, none⟩))).setCell ⟨w.heap.size, 18, none⟩ (.slice na nk nc)).setCell ⟨w.heap.size, 19, none⟩ (.slice (some ⟨b, 0, none⟩) 8 c)) := (unhide HE5).trans ((Ext.of hsec.grown (Or.inl rfl)).trans E67)
        have HP := hide (And.intro (fun i (hi : i < 8) => E67.bw (⟨hsec.bits i hi, (hsec.freshL i hi).1.mono hF5, (hsec.freshL i hi).2.low hF5, Nat.le_trans hF5 hsec.freshB⟩ : Bw w6 w.heap.size b (i * 4) (p i) (a i) (pc (dd s 1) (nn s) i) (dc (dd s 1) (nn s) i) (nn s) (oc (dd s 1) (nn s) i))) (E67.us (hsec.num.low hF5)))
        have hSv : Sv ((((w6.setCell ⟨w.heap.size, 16, none⟩ (.slice (some ⟨g, dof, none⟩) dn dcap)).setCell ⟨w.heap.size, 17, none⟩ (.pointer (some ⟨R, 0, none⟩))).setCell ⟨w.heap.size, 18, none⟩ (.slice na nk nc)).setCell ⟨w.heap.size, 19, none⟩ (.slice (some ⟨b, 0, none⟩) 8 c)).drew w.heap.size 16 8 b c p a (pc (dd s 1) (nn s)) (dc (dd s 1) (nn s)) (nn s) := by
          refine ⟨?_, fun i hi => ⟨((unhide HP).1 i hi).bits.drewN 1, ?_, ?_⟩⟩
          · have := A7.file.cells 19 (by decide)
            exact this
          · unfold pc
            have hle : (i + 1) * Wd (nn s) ≤ 8 * Wd (nn s) := Nat.mul_le_mul_right _ (by omega)
            rw [Nat.add_mul] at hle
            rw [List.length_take, List.length_drop, Nat.min_eq_left]
            unfold Wd at *
            omega
          · unfold dc
            rw [Rot.nums_len]
        have hcl := look_tree w.heap.size 16 g R (.slice (some ⟨g, dof, none⟩) dn dcap) ur (dd s 1) _ (cs s 1) 8 b c p a (pc (dd s 1) (nn s)) (dc (dd s 1) (nn s)) (nn s) (.slice na nk nc) (zerosTo (dd s 1) (nn s) 8) _ hlk hSv (by exact A7.file.cells 18 (by decide)) ((unhide HP).2.low (Nat.zero_le _)) (zerosTo_len _ _ _) (fun z hz => by obtain ⟨i, _, rfl⟩ := List.mem_map.1 hz; exact Rot.numAt_lt _ _) (by omega) (by decide)
        have cm : ((((w6.setCell ⟨w.heap.size, 16, none⟩ (.slice (some ⟨g, dof, none⟩) dn dcap)).setCell ⟨w.heap.size, 17, none⟩ (.pointer (some ⟨R, 0, none⟩))).setCell ⟨w.heap.size, 18, none⟩ (.slice na nk nc)).setCell ⟨w.heap.size, 19, none⟩ (.slice (some ⟨b, 0, none⟩) 8 c)).cell? ⟨w.heap.size, 8, none⟩ = some (.int .u32 (cs s 1 : Nat)) := by
          have := A7.file.cells 8 (by decide)
          rw [upd4_low _ _ _ _ _ _ _ (by omega)] at this
          rw [this, ← (unhide HT).cm 1 (by decide)]
        have hg7 : g < ((((w6.setCell ⟨w.heap.size, 16, none⟩ (.slice (some ⟨g, dof, none⟩) dn dcap)).setCell ⟨w.heap.size, 17, none⟩ (.pointer (some ⟨R, 0, none⟩))).setCell ⟨w.heap.size, 18, none⟩ (.slice na nk nc)).setCell ⟨w.heap.size, 19, none⟩ (.slice (some ⟨b, 0, none⟩) 8 c)).heap.size := Nat.lt_of_lt_of_le hg6 G7.size
        have HA7 := hide A7
        have HE7 := hide E7
        have HL := hide hl
        clear A6 A7 G7 E7 E67 hsec hl hft hlk hur
        go_wp2_with fail
        generalize ((((w6.setCell ⟨w.heap.size, 16, none⟩ (.slice (some ⟨g, dof, none⟩) dn dcap)).setCell ⟨w.heap.size, 17, none⟩ (.pointer (some ⟨R, 0, none⟩))).setCell ⟨w.heap.size, 18, none⟩ (.slice na nk nc)).setCell ⟨w.heap.size, 19, none⟩ (.slice (some ⟨b, 0, none⟩) 8 c)) = w7 at HA7 HE7 HP cm hcl hg7 ⊢
        clear x0 x1 x2 x3 y0 y1 y2 y3
        by_cases hok : zerosOk (zerosTo (dd s 1) (nn s) 8) (pc (dd s 1) (nn s)) (nn s) 8 ∧ bitsOk (pc (dd s 1) (nn s)) (dc (dd s 1) (nn s)) (nn s) 8 ∧ endOk (dd s 1) ((dd s 1).drop (8 * Wd (nn s))) (cs s 1)
        · have hcl2 : Calls Tryz.prog 52 #[.pointer (some ⟨w.heap.size, 16, none⟩), .int .i64 1, .int .u32 (cs s 1 : Nat)] w7.drew fun e w' => e = .returned (.tuple #[]) ∧ w7.drew.grownBy w' none := Calls.mono hcl (by
            rintro e w' ⟨(⟨h1, _⟩ | ⟨_, h2⟩), h3⟩
            · exact ⟨h1, h3⟩
            · exact absurd hok h2)
          have HOK2 := hide hok
          clear hcl hok
          go_region_with (first | (go_at_call 52; refine hcl2.mono ?_; rintro e w8 ⟨rfl, hw8'⟩; have HW8 := hide hw8'; clear hw8'))
          all_goals
            have hw8 := unhide HW8
            have g8 : w7.grownBy w8 none := ⟨hw8.os, hw8.tape, hw8.output, hw8.size, hw8.block⟩
            have E8 : Ext w.heap.size w7 w8 := Ext.of g8 (Or.inl rfl)
            have HSN : Hid (SecAt w2 w8 w.heap.size g s 2 (upd4 C 16 (.slice (some ⟨g, dof, none⟩) dn dcap) (.pointer (some ⟨R, 0, none⟩)) (.slice na nk nc) (.slice (some ⟨b, 0, none⟩) 8 c))) := (unhide HT).next (by decide) ((unhide HA7).grown g8 hg7) ((unhide HE7).trans E8) (fun e => absurd e (by decide)) (fun _ => ⟨⟨b, c, p, a, rfl, fun i hi => E8.bw ((unhide HP).1 i hi)⟩, E8.us (unhide HP).2, unhide HZL, unhide HL, unhide HOK2⟩) (fun e => absurd e (by decide)) (fun e => absurd e (by decide)) (fun e => absurd e (by decide))
            clear hw8 HW8 g8 E8 HA7 HE7 HP HL HT HZL HOK2 hcl2
            go_wp2_with fail
            go_roundw
            case rel => exact ⟨2, _, by decide, rfl, unhide HSN⟩
            case measure => simp [intOf]
        · have hcl2 : Calls Tryz.prog 52 #[.pointer (some ⟨w.heap.size, 16, none⟩), .int .i64 1, .int .u32 (cs s 1 : Nat)] w7.drew fun e w' => e = .panicked (gu 4) ∧ w7.drew.grownBy w' none := Calls.mono hcl (by
            rintro e w' ⟨(⟨_, h2⟩ | ⟨h1, _⟩), h3⟩
            · exact absurd h2 hok
            · exact ⟨h1, h3⟩)
          have HN : Hid (¬ Good s) := fun h => hok h.e1
          have HG : Hid (w.grownBy w7.drew none) := Ext.back (unhide HGW) (unhide HA7).drew.ext
          clear hcl hok HA7 HE7 HP HL HT HZL
          go_region_dies
          all_goals
            refine hcl2.mono ?_
            rintro e w8 ⟨rfl, hw8⟩
            simp only []
            exact ⟨rfl, Or.inr ⟨rfl, unhide HN, grown_trans (unhide HG) hw8 (Or.inl rfl)⟩⟩
      · obtain ⟨dof, dn, dcap, hud⟩ := (unhide HVD).shape3
        subst hud
        have hft := ftake_num w.heap.size g (.slice (some ⟨g, dof, none⟩) dn dcap) (dd s 2) 2 256 w5 (unhide HVD) hg5 (by omega)
        go_wp2_with fail
        refine hft.mono ?_
        rintro e w6 (⟨hl, R, N, rfl, hsec⟩ | ⟨hl, rfl, g6⟩)
        case inr =>
          have HN : Hid (¬ Good s) := fun h => by have := h.l2; omega
          have HG : Hid (w.grownBy w6 none) := Ext.back (unhide HGW) ((unhide HA5).grown g6 hg5).ext
          clear hft g6 hl
          go_wp2_with fail
          exact ⟨rfl, Or.inr ⟨rfl, unhide HN, unhide HG⟩⟩
        have A6 := (unhide HA5).grown hsec.grown hg5
        have hg6 : g < w6.heap.size := Nat.lt_of_lt_of_le hg5 hsec.grown.size
        have hF5 : w.heap.size + 2 ≤ w5.heap.size := by have := (unhide HA5).ext.size; have := unhide HS1; omega
        have hRF : w.heap.size < R := by have := hsec.fresh; omega
        have x0 := A6.file.cells 20 (by decide)
        have x1 := A6.file.cells 21 (by decide)
        have x2 := A6.file.cells 22 (by decide)
        have x3 := A6.file.cells 23 (by decide)
        have y0 := A6.file.free 20
        have y1 := A6.file.free 21
        have y2 := A6.file.free 22
        have y3 := A6.file.free 23
        obtain ⟨na, nk, nc, hNs⟩ := Us.shape3 hsec.num
        subst hNs
        have A7 : At5 w2 ((((w6.setCell ⟨w.heap.size, 20, none⟩ (.slice (some ⟨g, dof, none⟩) dn dcap)).setCell ⟨w.heap.size, 21, none⟩ (.pointer (some ⟨R, 0, none⟩))).setCell ⟨w.heap.size, 22, none⟩ (.slice na nk nc)).setCell ⟨w.heap.size, 23, none⟩ (.slice none 0 0)) w.heap.size g (upd4 C 20 (.slice (some ⟨g, dof, none⟩) dn dcap) (.pointer (some ⟨R, 0, none⟩)) (.slice na nk nc) (.slice none 0 0)) (rs s 3) := (A6.store hg hg6 20 (by decide) _ _ _ _).1
        have G7 : w6.grownBy ((((w6.setCell ⟨w.heap.size, 20, none⟩ (.slice (some ⟨g, dof, none⟩) dn dcap)).setCell ⟨w.heap.size, 21, none⟩ (.pointer (some ⟨R, 0, none⟩))).setCell ⟨w.heap.size, 22, none⟩ (.slice na nk nc)).setCell ⟨w.heap.size, 23, none⟩ (.slice none 0 0)) (some w.heap.size) := (A6.store hg hg6 20 (by decide) _ _ _ _).2
        obtain ⟨ur, hur⟩ := hsec.rdr
        have hlk := lk_of A7 (by decide) (unhide HVD) hsec.grown G7 hur hRF hg hg5
        have E67 : Ext w.heap.size w6 ((((w6.setCell ⟨w.heap.size, 20, none⟩ (.slice (some ⟨g, dof, none⟩) dn dcap)).setCell ⟨w.heap.size, 21, none⟩ (.pointer (some ⟨R, 0, none⟩))).setCell ⟨w.heap.size, 22, none⟩ (.slice na nk nc)).setCell ⟨w.heap.size, 23, none⟩ (.slice none 0 0)) := Ext.of G7 (Or.inr (Or.inl rfl))
        have E7 : Ext w.heap.size wr ((((w6.setCell ⟨w.heap.size, 20, none⟩ (.slice (some ⟨g, dof, none⟩) dn dcap)).setCell ⟨w.heap.size, 21, none⟩ (.pointer (some ⟨R, 0, none⟩))).setCell ⟨w.heap.size, 22, none⟩ (.slice na nk nc)).setCell ⟨w.heap.size, 23, none⟩ (.slice none 0 0)) := (unhide HE5).trans ((Ext.of hsec.grown (Or.inl rfl)).trans E67)
        have HP := hide (E67.us (hsec.num.low hF5))
        have hcl := look_plain w.heap.size 20 g R (.slice (some ⟨g, dof, none⟩) dn dcap) ur (dd s 2) _ 2 (cs s 2) _ hlk (by omega)
        have cm : ((((w6.setCell ⟨w.heap.size, 20, none⟩ (.slice (some ⟨g, dof, none⟩) dn dcap)).setCell ⟨w.heap.size, 21, none⟩ (.pointer (some ⟨R, 0, none⟩))).setCell ⟨w.heap.size, 22, none⟩ (.slice na nk nc)).setCell ⟨w.heap.size, 23, none⟩ (.slice none 0 0)).cell? ⟨w.heap.size, 9, none⟩ = some (.int .u32 (cs s 2 : Nat)) := by
          have := A7.file.cells 9 (by decide)
          rw [upd4_low _ _ _ _ _ _ _ (by omega)] at this
          rw [this, ← (unhide HT).cm 2 (by decide)]
        have hg7 : g < ((((w6.setCell ⟨w.heap.size, 20, none⟩ (.slice (some ⟨g, dof, none⟩) dn dcap)).setCell ⟨w.heap.size, 21, none⟩ (.pointer (some ⟨R, 0, none⟩))).setCell ⟨w.heap.size, 22, none⟩ (.slice na nk nc)).setCell ⟨w.heap.size, 23, none⟩ (.slice none 0 0)).heap.size := Nat.lt_of_lt_of_le hg6 G7.size
        have HA7 := hide A7
        have HE7 := hide E7
        have HL := hide hl
        clear A6 A7 G7 E7 E67 hsec hl hft hlk hur
        go_wp2_with fail
        generalize ((((w6.setCell ⟨w.heap.size, 20, none⟩ (.slice (some ⟨g, dof, none⟩) dn dcap)).setCell ⟨w.heap.size, 21, none⟩ (.pointer (some ⟨R, 0, none⟩))).setCell ⟨w.heap.size, 22, none⟩ (.slice na nk nc)).setCell ⟨w.heap.size, 23, none⟩ (.slice none 0 0)) = w7 at HA7 HE7 HP cm hcl hg7 ⊢
        clear x0 x1 x2 x3 y0 y1 y2 y3
        by_cases hok : endOk (dd s 2) ((dd s 2).drop (2 * 256)) (cs s 2)
        · have hcl2 : Calls Tryz.prog 52 #[.pointer (some ⟨w.heap.size, 20, none⟩), .int .i64 2, .int .u32 (cs s 2 : Nat)] w7.drew fun e w' => e = .returned (.tuple #[]) ∧ w' = w7.drew := Calls.mono hcl (by
            rintro e w' ⟨(⟨h1, _⟩ | ⟨_, h2⟩), h3⟩
            · exact ⟨h1, h3⟩
            · exact absurd hok h2)
          have HOK2 := hide hok
          clear hcl hok
          go_region_with (first | (go_at_call 52; refine hcl2.mono ?_; rintro e w8 ⟨rfl, hw8'⟩; have HW8 := hide hw8'; clear hw8'))
          all_goals
            have hw8 := unhide HW8
            have g8 : w7.grownBy w8 none := by rw [hw8]; exact grown_drewN (World.grownBy.refl _ _) 1
            have E8 : Ext w.heap.size w7 w8 := Ext.of g8 (Or.inl rfl)
            have HSN : Hid (SecAt w2 w8 w.heap.size g s 3 (upd4 C 20 (.slice (some ⟨g, dof, none⟩) dn dcap) (.pointer (some ⟨R, 0, none⟩)) (.slice na nk nc) (.slice none 0 0))) := (unhide HT).next (by decide) ((unhide HA7).grown g8 hg7) ((unhide HE7).trans E8) (fun e => absurd e (by decide)) (fun e => absurd e (by decide)) (fun _ => ⟨E8.us (unhide HP), unhide HZL, unhide HL, unhide HOK2⟩) (fun e => absurd e (by decide)) (fun e => absurd e (by decide))
            clear hw8 HW8 g8 E8 HA7 HE7 HP HL HT HZL HOK2 hcl2
            go_wp2_with fail
            go_roundw
            case rel => exact ⟨3, _, by decide, rfl, unhide HSN⟩
            case measure => simp [intOf]
        · have hcl2 : Calls Tryz.prog 52 #[.pointer (some ⟨w.heap.size, 20, none⟩), .int .i64 2, .int .u32 (cs s 2 : Nat)] w7.drew fun e w' => e = .panicked (gu 4) ∧ w' = w7.drew := Calls.mono hcl (by
            rintro e w' ⟨(⟨_, h2⟩ | ⟨h1, _⟩), h3⟩
            · exact absurd h2 hok
            · exact ⟨h1, h3⟩)
          have HN : Hid (¬ Good s) := fun h => hok h.e2
          have HG : Hid (w.grownBy w7.drew none) := Ext.back (unhide HGW) (unhide HA7).drew.ext
          clear hcl hok HA7 HE7 HP HL HT HZL
          go_region_dies
          all_goals
            refine hcl2.mono ?_
            rintro e w8 ⟨rfl, hw8⟩
            simp only []
            exact ⟨rfl, Or.inr ⟨rfl, unhide HN, by rw [hw8]; exact unhide HG⟩⟩
      · obtain ⟨dof, dn, dcap, hud⟩ := (unhide HVD).shape3
        subst hud
        have hft := ftake_marks w.heap.size g (.slice (some ⟨g, dof, none⟩) dn dcap) (dd s 3) (nn s) C w5 (unhide HVD) hg5 (unhide HA5).file (unhide HT).c0 hn250
        go_wp2_with fail
        refine hft.mono ?_
        rintro e w6 (⟨hl, R, b, p, a, rfl, hsec⟩ | ⟨hl, rfl, g6⟩)
        case inr =>
          have HN : Hid (¬ Good s) := fun h => by have := h.l3; omega
          have HG : Hid (w.grownBy w6 none) := Ext.back (unhide HGW) ((unhide HA5).grown g6 hg5).ext
          clear hft g6 hl
          go_wp2_with fail
          exact ⟨rfl, Or.inr ⟨rfl, unhide HN, unhide HG⟩⟩
        have A6 := (unhide HA5).grown hsec.grown hg5
        have hg6 : g < w6.heap.size := Nat.lt_of_lt_of_le hg5 hsec.grown.size
        have hF5 : w.heap.size + 2 ≤ w5.heap.size := by have := (unhide HA5).ext.size; have := unhide HS1; omega
        have hRF : w.heap.size < R := by have := hsec.fresh; omega
        have x0 := A6.file.cells 24 (by decide)
        have x1 := A6.file.cells 25 (by decide)
        have x2 := A6.file.cells 26 (by decide)
        have x3 := A6.file.cells 27 (by decide)
        have y0 := A6.file.free 24
        have y1 := A6.file.free 25
        have y2 := A6.file.free 26
        have y3 := A6.file.free 27
        have A7 : At5 w2 ((((w6.setCell ⟨w.heap.size, 24, none⟩ (.slice (some ⟨g, dof, none⟩) dn dcap)).setCell ⟨w.heap.size, 25, none⟩ (.pointer (some ⟨R, 0, none⟩))).setCell ⟨w.heap.size, 26, none⟩ (.slice none 0 0)).setCell ⟨w.heap.size, 27, none⟩ (.slice (some ⟨b, 0, none⟩) 1 1)) w.heap.size g (upd4 C 24 (.slice (some ⟨g, dof, none⟩) dn dcap) (.pointer (some ⟨R, 0, none⟩)) (.slice none 0 0) (.slice (some ⟨b, 0, none⟩) 1 1)) (rs s 4) := (A6.store hg hg6 24 (by decide) _ _ _ _).1
        have G7 : w6.grownBy ((((w6.setCell ⟨w.heap.size, 24, none⟩ (.slice (some ⟨g, dof, none⟩) dn dcap)).setCell ⟨w.heap.size, 25, none⟩ (.pointer (some ⟨R, 0, none⟩))).setCell ⟨w.heap.size, 26, none⟩ (.slice none 0 0)).setCell ⟨w.heap.size, 27, none⟩ (.slice (some ⟨b, 0, none⟩) 1 1)) (some w.heap.size) := (A6.store hg hg6 24 (by decide) _ _ _ _).2
        obtain ⟨ur, hur⟩ := hsec.rdr
        have hlk := lk_of A7 (by decide) (unhide HVD) hsec.grown G7 hur hRF hg hg5
        have E67 : Ext w.heap.size w6 ((((w6.setCell ⟨w.heap.size, 24, none⟩ (.slice (some ⟨g, dof, none⟩) dn dcap)).setCell ⟨w.heap.size, 25, none⟩ (.pointer (some ⟨R, 0, none⟩))).setCell ⟨w.heap.size, 26, none⟩ (.slice none 0 0)).setCell ⟨w.heap.size, 27, none⟩ (.slice (some ⟨b, 0, none⟩) 1 1)) := Ext.of G7 (Or.inr (Or.inl rfl))
        have E7 : Ext w.heap.size wr ((((w6.setCell ⟨w.heap.size, 24, none⟩ (.slice (some ⟨g, dof, none⟩) dn dcap)).setCell ⟨w.heap.size, 25, none⟩ (.pointer (some ⟨R, 0, none⟩))).setCell ⟨w.heap.size, 26, none⟩ (.slice none 0 0)).setCell ⟨w.heap.size, 27, none⟩ (.slice (some ⟨b, 0, none⟩) 1 1)) := (unhide HE5).trans ((Ext.of hsec.grown (Or.inl rfl)).trans E67)
        have HP := hide (E67.bw (⟨hsec.bits, hsec.freshP.mono hF5, hsec.freshA.low hF5, Nat.le_trans hF5 hsec.freshB⟩ : Bw w6 w.heap.size b 0 p a (mk s) (mkD s) (nn s + 1) (Rot.os (mk s) (nn s + 1))))
        have hSv : Sv ((((w6.setCell ⟨w.heap.size, 24, none⟩ (.slice (some ⟨g, dof, none⟩) dn dcap)).setCell ⟨w.heap.size, 25, none⟩ (.pointer (some ⟨R, 0, none⟩))).setCell ⟨w.heap.size, 26, none⟩ (.slice none 0 0)).setCell ⟨w.heap.size, 27, none⟩ (.slice (some ⟨b, 0, none⟩) 1 1)).drew w.heap.size 24 1 b 1 (fun _ => p) (fun _ => a) (fun _ => mk s) (fun _ => mkD s) (nn s + 1) := by
          refine ⟨?_, fun i hi => ?_⟩
          · have := A7.file.cells 27 (by decide)
            exact this
          · have hi0 : i = 0 := by omega
            subst hi0
            refine ⟨(unhide HP).bits.drewN 1, ?_, ?_⟩
            · unfold mk
              rw [List.length_take, Nat.min_eq_left]
              omega
            · unfold mkD
              rw [Rot.nums_len]
        have hcl := look_marks w.heap.size 24 g R (.slice (some ⟨g, dof, none⟩) dn dcap) ur (dd s 3) _ (cs s 3) 1 b 1 (fun _ => p) (fun _ => a) (fun _ => mk s) (fun _ => mkD s) (nn s + 1) _ hlk hSv (by omega) (by decide)
        have cm : ((((w6.setCell ⟨w.heap.size, 24, none⟩ (.slice (some ⟨g, dof, none⟩) dn dcap)).setCell ⟨w.heap.size, 25, none⟩ (.pointer (some ⟨R, 0, none⟩))).setCell ⟨w.heap.size, 26, none⟩ (.slice none 0 0)).setCell ⟨w.heap.size, 27, none⟩ (.slice (some ⟨b, 0, none⟩) 1 1)).cell? ⟨w.heap.size, 10, none⟩ = some (.int .u32 (cs s 3 : Nat)) := by
          have := A7.file.cells 10 (by decide)
          rw [upd4_low _ _ _ _ _ _ _ (by omega)] at this
          rw [this, ← (unhide HT).cm 3 (by decide)]
        have hg7 : g < ((((w6.setCell ⟨w.heap.size, 24, none⟩ (.slice (some ⟨g, dof, none⟩) dn dcap)).setCell ⟨w.heap.size, 25, none⟩ (.pointer (some ⟨R, 0, none⟩))).setCell ⟨w.heap.size, 26, none⟩ (.slice none 0 0)).setCell ⟨w.heap.size, 27, none⟩ (.slice (some ⟨b, 0, none⟩) 1 1)).heap.size := Nat.lt_of_lt_of_le hg6 G7.size
        have HA7 := hide A7
        have HE7 := hide E7
        have HL := hide hl
        clear A6 A7 G7 E7 E67 hsec hl hft hlk hur
        go_wp2_with fail
        generalize ((((w6.setCell ⟨w.heap.size, 24, none⟩ (.slice (some ⟨g, dof, none⟩) dn dcap)).setCell ⟨w.heap.size, 25, none⟩ (.pointer (some ⟨R, 0, none⟩))).setCell ⟨w.heap.size, 26, none⟩ (.slice none 0 0)).setCell ⟨w.heap.size, 27, none⟩ (.slice (some ⟨b, 0, none⟩) 1 1)) = w7 at HA7 HE7 HP cm hcl hg7 ⊢
        clear x0 x1 x2 x3 y0 y1 y2 y3
        by_cases hok : bitsOk (fun _ => mk s) (fun _ => mkD s) (nn s + 1) 1 ∧ endOk (dd s 3) ((dd s 3).drop ((nn s + 1 + 7) / 8 + 2 * ((nn s + 1 + 15) / 16))) (cs s 3)
        · have hcl2 : Calls Tryz.prog 52 #[.pointer (some ⟨w.heap.size, 24, none⟩), .int .i64 3, .int .u32 (cs s 3 : Nat)] w7.drew fun e w' => e = .returned (.tuple #[]) ∧ w7.drew.grownBy w' none := Calls.mono hcl (by
            rintro e w' ⟨(⟨h1, _⟩ | ⟨_, h2⟩), h3⟩
            · exact ⟨h1, h3⟩
            · exact absurd hok h2)
          have HOK2 := hide hok
          clear hcl hok
          go_region_with (first | (go_at_call 52; refine hcl2.mono ?_; rintro e w8 ⟨rfl, hw8'⟩; have HW8 := hide hw8'; clear hw8'))
          all_goals
            have hw8 := unhide HW8
            have g8 : w7.grownBy w8 none := ⟨hw8.os, hw8.tape, hw8.output, hw8.size, hw8.block⟩
            have E8 : Ext w.heap.size w7 w8 := Ext.of g8 (Or.inl rfl)
            have HSN : Hid (SecAt w2 w8 w.heap.size g s 4 (upd4 C 24 (.slice (some ⟨g, dof, none⟩) dn dcap) (.pointer (some ⟨R, 0, none⟩)) (.slice none 0 0) (.slice (some ⟨b, 0, none⟩) 1 1))) := (unhide HT).next (by decide) ((unhide HA7).grown g8 hg7) ((unhide HE7).trans E8) (fun e => absurd e (by decide)) (fun e => absurd e (by decide)) (fun e => absurd e (by decide)) (fun _ => ⟨⟨b, p, a, rfl, E8.bw (unhide HP)⟩, unhide HZL, unhide HL, unhide HOK2⟩) (fun e => absurd e (by decide))
            clear hw8 HW8 g8 E8 HA7 HE7 HP HL HT HZL HOK2 hcl2
            go_wp2_with fail
            go_roundw
            case rel => exact ⟨4, _, by decide, rfl, unhide HSN⟩
            case measure => simp [intOf]
        · have hcl2 : Calls Tryz.prog 52 #[.pointer (some ⟨w.heap.size, 24, none⟩), .int .i64 3, .int .u32 (cs s 3 : Nat)] w7.drew fun e w' => e = .panicked (gu 4) ∧ w7.drew.grownBy w' none := Calls.mono hcl (by
            rintro e w' ⟨(⟨_, h2⟩ | ⟨h1, _⟩), h3⟩
            · exact absurd h2 hok
            · exact ⟨h1, h3⟩)
          have HN : Hid (¬ Good s) := fun h => hok h.e3
          have HG : Hid (w.grownBy w7.drew none) := Ext.back (unhide HGW) (unhide HA7).drew.ext
          clear hcl hok HA7 HE7 HP HL HT HZL
          go_region_dies
          all_goals
            refine hcl2.mono ?_
            rintro e w8 ⟨rfl, hw8⟩
            simp only []
            exact ⟨rfl, Or.inr ⟨rfl, unhide HN, grown_trans (unhide HG) hw8 (Or.inl rfl)⟩⟩
      · obtain ⟨dof, dn, dcap, hud⟩ := (unhide HVD).shape3
        subst hud
        obtain ⟨⟨Bm, pm, am, hBm, hBw⟩, _⟩ := ((unhide HT).p3 (by decide)).ext (unhide HE5) rfl
        have hft := ftake_places w.heap.size g (.slice (some ⟨g, dof, none⟩) dn dcap) (dd s 4) (nn s) C Bm pm am (mk s) (mkD s) w5 (unhide HVD) hg5 (unhide HA5).file (unhide HT).c0 hBm hBw.bits hn250
        go_wp2_with fail
        refine hft.mono ?_
        rintro e w6 (⟨hl, R, N, rfl, hsec⟩ | ⟨hl, rfl, g6⟩)
        case inr =>
          have HN : Hid (¬ Good s) := fun h => by have := h.l4; omega
          have HG : Hid (w.grownBy w6 none) := Ext.back (unhide HGW) ((unhide HA5).grown g6 hg5).ext
          clear hft g6 hl
          go_wp2_with fail
          exact ⟨rfl, Or.inr ⟨rfl, unhide HN, unhide HG⟩⟩
        have A6 := (unhide HA5).grown hsec.grown hg5
        have hg6 : g < w6.heap.size := Nat.lt_of_lt_of_le hg5 hsec.grown.size
        have hF5 : w.heap.size + 2 ≤ w5.heap.size := by have := (unhide HA5).ext.size; have := unhide HS1; omega
        have hRF : w.heap.size < R := by have := hsec.fresh; omega
        have x0 := A6.file.cells 28 (by decide)
        have x1 := A6.file.cells 29 (by decide)
        have x2 := A6.file.cells 30 (by decide)
        have x3 := A6.file.cells 31 (by decide)
        have y0 := A6.file.free 28
        have y1 := A6.file.free 29
        have y2 := A6.file.free 30
        have y3 := A6.file.free 31
        obtain ⟨na, nk, nc, hNs⟩ := Us.shape3 hsec.num
        subst hNs
        have A7 : At5 w2 ((((w6.setCell ⟨w.heap.size, 28, none⟩ (.slice (some ⟨g, dof, none⟩) dn dcap)).setCell ⟨w.heap.size, 29, none⟩ (.pointer (some ⟨R, 0, none⟩))).setCell ⟨w.heap.size, 30, none⟩ (.slice na nk nc)).setCell ⟨w.heap.size, 31, none⟩ (.slice none 0 0)) w.heap.size g (upd4 C 28 (.slice (some ⟨g, dof, none⟩) dn dcap) (.pointer (some ⟨R, 0, none⟩)) (.slice na nk nc) (.slice none 0 0)) (rs s 5) := (A6.store hg hg6 28 (by decide) _ _ _ _).1
        have G7 : w6.grownBy ((((w6.setCell ⟨w.heap.size, 28, none⟩ (.slice (some ⟨g, dof, none⟩) dn dcap)).setCell ⟨w.heap.size, 29, none⟩ (.pointer (some ⟨R, 0, none⟩))).setCell ⟨w.heap.size, 30, none⟩ (.slice na nk nc)).setCell ⟨w.heap.size, 31, none⟩ (.slice none 0 0)) (some w.heap.size) := (A6.store hg hg6 28 (by decide) _ _ _ _).2
        obtain ⟨ur, hur⟩ := hsec.rdr
        have hlk := lk_of A7 (by decide) (unhide HVD) hsec.grown G7 hur hRF hg hg5
        have E67 : Ext w.heap.size w6 ((((w6.setCell ⟨w.heap.size, 28, none⟩ (.slice (some ⟨g, dof, none⟩) dn dcap)).setCell ⟨w.heap.size, 29, none⟩ (.pointer (some ⟨R, 0, none⟩))).setCell ⟨w.heap.size, 30, none⟩ (.slice na nk nc)).setCell ⟨w.heap.size, 31, none⟩ (.slice none 0 0)) := Ext.of G7 (Or.inr (Or.inl rfl))
        have E7 : Ext w.heap.size wr ((((w6.setCell ⟨w.heap.size, 28, none⟩ (.slice (some ⟨g, dof, none⟩) dn dcap)).setCell ⟨w.heap.size, 29, none⟩ (.pointer (some ⟨R, 0, none⟩))).setCell ⟨w.heap.size, 30, none⟩ (.slice na nk nc)).setCell ⟨w.heap.size, 31, none⟩ (.slice none 0 0)) := (unhide HE5).trans ((Ext.of hsec.grown (Or.inl rfl)).trans E67)
        have HP := hide (E67.us (hsec.num.low hF5))
        have hcl := look_plain w.heap.size 28 g R (.slice (some ⟨g, dof, none⟩) dn dcap) ur (dd s 4) _ 4 (cs s 4) _ hlk (by omega)
        have cm : ((((w6.setCell ⟨w.heap.size, 28, none⟩ (.slice (some ⟨g, dof, none⟩) dn dcap)).setCell ⟨w.heap.size, 29, none⟩ (.pointer (some ⟨R, 0, none⟩))).setCell ⟨w.heap.size, 30, none⟩ (.slice na nk nc)).setCell ⟨w.heap.size, 31, none⟩ (.slice none 0 0)).cell? ⟨w.heap.size, 11, none⟩ = some (.int .u32 (cs s 4 : Nat)) := by
          have := A7.file.cells 11 (by decide)
          rw [upd4_low _ _ _ _ _ _ _ (by omega)] at this
          rw [this, ← (unhide HT).cm 4 (by decide)]
        have hg7 : g < ((((w6.setCell ⟨w.heap.size, 28, none⟩ (.slice (some ⟨g, dof, none⟩) dn dcap)).setCell ⟨w.heap.size, 29, none⟩ (.pointer (some ⟨R, 0, none⟩))).setCell ⟨w.heap.size, 30, none⟩ (.slice na nk nc)).setCell ⟨w.heap.size, 31, none⟩ (.slice none 0 0)).heap.size := Nat.lt_of_lt_of_le hg6 G7.size
        have HA7 := hide A7
        have HE7 := hide E7
        have HL := hide hl
        clear A6 A7 G7 E7 E67 hsec hl hft hlk hur
        go_wp2_with fail
        generalize ((((w6.setCell ⟨w.heap.size, 28, none⟩ (.slice (some ⟨g, dof, none⟩) dn dcap)).setCell ⟨w.heap.size, 29, none⟩ (.pointer (some ⟨R, 0, none⟩))).setCell ⟨w.heap.size, 30, none⟩ (.slice na nk nc)).setCell ⟨w.heap.size, 31, none⟩ (.slice none 0 0)) = w7 at HA7 HE7 HP cm hcl hg7 ⊢
        clear x0 x1 x2 x3 y0 y1 y2 y3
        by_cases hok : endOk (dd s 4) ((dd s 4).drop (2 * Rot.os (mk s) (nn s + 1))) (cs s 4)
        · have hcl2 : Calls Tryz.prog 52 #[.pointer (some ⟨w.heap.size, 28, none⟩), .int .i64 4, .int .u32 (cs s 4 : Nat)] w7.drew fun e w' => e = .returned (.tuple #[]) ∧ w' = w7.drew := Calls.mono hcl (by
            rintro e w' ⟨(⟨h1, _⟩ | ⟨_, h2⟩), h3⟩
            · exact ⟨h1, h3⟩
            · exact absurd hok h2)
          have HOK2 := hide hok
          clear hcl hok
          go_region_with (first | (go_at_call 52; refine hcl2.mono ?_; rintro e w8 ⟨rfl, hw8'⟩; have HW8 := hide hw8'; clear hw8'))
          all_goals
            have hw8 := unhide HW8
            have g8 : w7.grownBy w8 none := by rw [hw8]; exact grown_drewN (World.grownBy.refl _ _) 1
            have E8 : Ext w.heap.size w7 w8 := Ext.of g8 (Or.inl rfl)
            have HSN : Hid (SecAt w2 w8 w.heap.size g s 5 (upd4 C 28 (.slice (some ⟨g, dof, none⟩) dn dcap) (.pointer (some ⟨R, 0, none⟩)) (.slice na nk nc) (.slice none 0 0))) := (unhide HT).next (by decide) ((unhide HA7).grown g8 hg7) ((unhide HE7).trans E8) (fun e => absurd e (by decide)) (fun e => absurd e (by decide)) (fun e => absurd e (by decide)) (fun e => absurd e (by decide)) (fun _ => ⟨E8.us (unhide HP), unhide HZL, unhide HL, unhide HOK2⟩)
            clear hw8 HW8 g8 E8 HA7 HE7 HP HL HT HZL HOK2 hcl2
            go_wp2_with fail
            go_roundw
            case rel => exact ⟨5, _, by decide, rfl, unhide HSN⟩
            case measure => simp [intOf]
        · have hcl2 : Calls Tryz.prog 52 #[.pointer (some ⟨w.heap.size, 28, none⟩), .int .i64 4, .int .u32 (cs s 4 : Nat)] w7.drew fun e w' => e = .panicked (gu 4) ∧ w' = w7.drew := Calls.mono hcl (by
            rintro e w' ⟨(⟨_, h2⟩ | ⟨h1, _⟩), h3⟩
            · exact absurd h2 hok
            · exact ⟨h1, h3⟩)
          have HN : Hid (¬ Good s) := fun h => hok h.e4
          have HG : Hid (w.grownBy w7.drew none) := Ext.back (unhide HGW) (unhide HA7).drew.ext
          clear hcl hok HA7 HE7 HP HL HT HZL
          go_region_dies
          all_goals
            refine hcl2.mono ?_
            rintro e w8 ⟨rfl, hw8⟩
            simp only []
            exact ⟨rfl, Or.inr ⟨rfl, unhide HN, by rw [hw8]; exact unhide HG⟩⟩
    · have hk5 : k = 5 := by omega
      subst hk5
      obtain ⟨u, hu⟩ := T.at5.rdr
      by_cases hfin : rs s 5 = []
      case neg =>
        have hcon := end_no (w.heap.size + 1) g u (rs s 5) wr hu (List.length_pos_iff.2 hfin)
        have HN : Hid (¬ Good s) := fun h => hfin h.fin
        have HG : Hid (w.grownBy wr none) := Ext.back (unhide HGW) T.at5.ext
        clear T hu hfin
        go_wp2_with fail
        refine hcon.mono ?_
        rintro e w5 ⟨rfl, rfl⟩
        go_wp2_with fail
        exact ⟨rfl, Or.inr ⟨rfl, unhide HN, unhide HG⟩⟩
      have hcon := end_yes (w.heap.size + 1) g u wr (by rw [hfin] at hu; exact hu)
      obtain ⟨u0, a0, b0, e0⟩ := T.p0 (by decide)
      obtain ⟨⟨Bt, ct, p, a, hBt, hbw⟩, u1, a1, b1, z1, k1, e1⟩ := T.p1 (by decide)
      obtain ⟨u2, a2, b2, e2⟩ := T.p2 (by decide)
      obtain ⟨⟨Bm, pm, am, hBm, hbm⟩, a3, b3, k3, e3⟩ := T.p3 (by decide)
      obtain ⟨u4, a4, b4, e4⟩ := T.p4 (by decide)
      have hFI : FIn wr w.heap.size C (nn s) (rr s) (lastIn s) (zerosTo (dd s 1) (nn s) 8) (Rot.nums (dd s 2) 256) (Rot.nums (dd s 4) (Rot.os (mk s) (nn s + 1))) (C 14) (C 18) (C 22) (C 30) Bt ct Bm p a (pc (dd s 1) (nn s)) (dc (dd s 1) (nn s)) pm am (mk s) (mkD s) :=
        ⟨T.at5.file, T.c0, T.c1, rfl, rfl, hBt, rfl, hBm, rfl, u0.low (Nat.zero_le _), u1.low (Nat.zero_le _), u2.low (Nat.zero_le _), u4.low (Nat.zero_le _), zerosTo_len _ _ _, Rot.nums_len _ _, (fun z hz => by obtain ⟨i, _, rfl⟩ := List.mem_map.1 hz; exact Rot.numAt_lt _ _), Rot.numAt_lt _ _, fun i hi => (hbw i hi).bits, hbm.bits⟩
      have hcf := frows_any w.heap.size C _ _ _ _ _ _ _ _ _ _ _ _ _ _ _ _ _ _ _ _ _ wr hFI hn250
      have hz0 := end_size a0 b0 e0.1
      have hz1 := end_size a1 b1 e1.1
      have HXV : Hid (∀ w', XOut wr w' wr.heap.size (nn s) (rr s) (lastIn s) (zerosTo (dd s 1) (nn s) 8) (Rot.nums (dd s 2) 256) (C 30) p a (pc (dd s 1) (nn s)) pm am (mk s) 8 → ∀ w'', Stay w.heap.size w' w'' → Xv w'' wr.heap.size s (nn s) (rr s) (lastIn s) (Rot.numAt (dd s 2)) (mk s) (Rot.nums (dd s 4) (Rot.os (mk s) (nn s + 1)))) := fun w' X w'' S => xv_of X hbw hbm u4 hz0 hz1 b1 z1 k1 k3 b3 (Ext.back (unhide HGW) T.at5.ext).size S
      have HG : Hid (w.grownBy wr none) := Ext.back (unhide HGW) T.at5.ext
      have HGOOD : Hid (firstOk (Rot.numAt (dd s 2)) s (nn s) → walkOk (Rot.colRead s 44 (nn s)) (nn s) (rr s) (lastIn s) (mk s) (Rot.nums (dd s 4) (Rot.os (mk s) (nn s + 1))) → Good s) := fun hf hw => ⟨unhide HOK, unhide HT30, a0, b0, e0, a1, b1, ⟨z1, k1, e1⟩, a2, b2, e2, a3, b3, ⟨k3, e3⟩, a4, b4, e4, hfin, hf, hw⟩
      clear T hu u0 a0 b0 e0 hbw u1 a1 b1 z1 k1 e1 u2 a2 b2 e2 hbm a3 b3 k3 e3 u4 a4 b4 e4 hFI hz0 hz1 hBt hBm hfin
      go_wp2_with fail
      refine hcon.mono ?_
      rintro e w5 ⟨rfl, hw5⟩
      subst hw5
      go_wp2_with fail
      refine hcf.mono ?_
      rintro e w6 ⟨rfl, hX⟩
      clear hcf hcon
      have HST6 := hide (unhide HXV w6 hX)
      have hxv := unhide HST6 w6 (Stay.refl _ _)
      have HG6 := hide (grown_trans (unhide HG) hX.grown (Or.inl rfl))
      have hcl := lookAtFirst_any w5.heap.size s _ _ _ _ _ _ w6 hxv hn250
      have HXV6 := hide hxv
      have hfr : w.heap.size ≤ w5.heap.size := (unhide HG).size
      clear hX hxv HXV HG
      go_wp2_with fail
      refine hcl.mono ?_
      rintro e w7 ⟨(⟨rfl, hok⟩ | ⟨rfl, hno⟩), j, hw7⟩
      case inr =>
        have HN : Hid (¬ Good s) := fun h => hno h.first
        have HG7 : Hid (w.grownBy w7 none) := by rw [hw7]; exact grown_drewN (unhide HG6) j
        clear hcl hno hw7
        go_wp2_with fail
        exact ⟨rfl, Or.inr ⟨rfl, unhide HN, unhide HG7⟩⟩
      have hxv7 : Xv w7 w5.heap.size s (nn s) (rr s) (lastIn s) (Rot.numAt (dd s 2)) (mk s) (Rot.nums (dd s 4) (Rot.os (mk s) (nn s + 1))) := by rw [hw7]; exact (unhide HXV6).drewN j
      have HG7 : Hid (w.grownBy w7 none) := by rw [hw7]; exact grown_drewN (unhide HG6) j
      have HST7 : Hid (∀ w'', Stay w.heap.size w7 w'' → Xv w'' w5.heap.size s (nn s) (rr s) (lastIn s) (Rot.numAt (dd s 2)) (mk s) (Rot.nums (dd s 4) (Rot.os (mk s) (nn s + 1)))) := fun w'' S => unhide HST6 w'' (by rw [hw7] at S; exact ⟨S.size, S.block⟩)
      have hcw := lookAtWalk_any w5.heap.size s _ _ _ _ _ _ w7 hxv7 hok (Rot.nums_len _ _) (nums_lt _ _) hn250 hrate (Rot.numAt_lt _ _)
      have HOK2 := hide hok
      have HX7 := hide hxv7
      clear hcl hok hw7 hxv7 HXV6 HG6 HST6
      go_wp2_with fail
      refine hcw.mono ?_
      rintro e w8 ⟨(⟨rfl, hok⟩ | ⟨rfl, hno⟩), j2, hw8⟩
      · have HR : Hid (RowsOut w w8 w5.heap.size s) := ⟨unhide HGOOD (unhide HOK2) hok, by rw [hw8]; exact (unhide HX7).drewN j2, hfr, by rw [hw8]; exact grown_drewN (unhide HG7) j2, fun w'' S => unhide HST7 w'' (by rw [hw8] at S; exact ⟨S.size, S.block⟩)⟩
        clear hcw hok hw8
        go_wp2_with fail
        go_ret
        exact Or.inl ⟨_, rfl, unhide HR⟩
      · have HN : Hid (¬ Good s) := fun h => hno h.walk
        have HG8 : Hid (w.grownBy w8 none) := by rw [hw8]; exact grown_drewN (unhide HG7) j2
        clear hcw hno hw8
        go_wp2_with fail
        exact ⟨rfl, Or.inr ⟨rfl, unhide HN, unhide HG8⟩⟩
end Go.Proofs.YthlincikgdblfaaGreat
