import Derived.Test.YthlincikgdblfaaGreatV18
import Derived.Deep.RegionLaw
import Derived.Deep.DeepCutAuto
namespace Go.Proofs.YthlincikgdblfaaGreat
open Go.RowKit
set_option linter.unusedVariables false

theorem Rdr.drewN {w : World} {b g : Nat} {v : Value} {l : List UInt8} (h : Rdr w b g v l) (j : Nat) : Rdr (w.drewN j) b g v l := ⟨h.cell, h.free, h.view.kept fun _ => rfl, h.ne⟩
theorem TreeAt.drewN {w W3 wr : World} {g : Nat} {v Nv Bb : Value} {l : List UInt8} {n kn kb : Nat} {rest : List UInt8} {p a : Nat → Value} (h : TreeAt w W3 wr g v Nv Bb l n kn kb rest p a) (j : Nat) : TreeAt w W3 (wr.drewN j) g v Nv Bb l n kn kb rest p a := by
  obtain ⟨u, hu⟩ := h.rdr
  exact ⟨⟨u, hu.drewN j⟩, h.s0, h.s1, h.s2, h.s3, h.f2, h.f3, h.nums, h.rows, h.lv, h.nb, below_drewN (k := j) h.below, h.gl⟩
theorem TreeAt.cellN {w W3 wr w1 : World} {g : Nat} {v Nv Bb : Value} {l : List UInt8} {n kn kb : Nat} {rest : List UInt8} {p a : Nat → Value} (h : TreeAt w W3 wr g v Nv Bb l n kn kb rest p a) (G : wr.grownBy w1 Nv.ownBlock) : w1.cell? ⟨w.heap.size + 2, 2, none⟩ = some Nv ∧ w1.frozen? ⟨w.heap.size + 2, 2, none⟩ = false := by
  have hls := h.ls
  have hne : Nv.ownBlock ≠ some (w.heap.size + 2) := fun e => by have := (World.ownsRow.lt h.nums _ e).1; omega
  exact ⟨(grown_cell G (by omega) hne 2).trans h.s2, (grown_frozen G (by omega) hne 2).trans h.f2⟩
theorem TreeAt.cellB {w W3 wr w1 : World} {g : Nat} {v Nv Bb : Value} {l : List UInt8} {n kn kb : Nat} {rest : List UInt8} {p a : Nat → Value} (h : TreeAt w W3 wr g v Nv Bb l n kn kb rest p a) (G : wr.grownBy w1 Bb.ownBlock) : w1.cell? ⟨w.heap.size + 2, 3, none⟩ = some Bb ∧ w1.frozen? ⟨w.heap.size + 2, 3, none⟩ = false := by
  have hls := h.ls
  have hne : Bb.ownBlock ≠ some (w.heap.size + 2) := fun e => by have := (World.ownsRow.lt h.rows _ e).1; omega
  exact ⟨(grown_cell G (by omega) hne 3).trans h.s3, (grown_frozen G (by omega) hne 3).trans h.f3⟩
theorem Bs.shape3 {w : World} {base : Nat} {v : Value} {l : List UInt8} (h : Bs w base v l) : ∃ a n c, v = .slice a n c := by
  obtain ⟨a, c, e⟩ := h.shape
  exact ⟨a, _, c, e⟩
theorem Us.shape3 {w : World} {base : Nat} {v : Value} {l : List Nat} (h : Us w base v l) : ∃ a n c, v = .slice a n c := by
  obtain ⟨a, c, e⟩ := h.shape
  exact ⟨a, _, c, e⟩
/-- What takeTree leaves. -/
structure SecT (w w' : World) (g R b : Nat) (N : Value) (p a : Nat → Value) (l : List UInt8) (n : Nat) : Prop where
  rdr : ∃ u, Rdr w' R g u (l.drop (8 * Wd n))
  num : Us w' w.heap.size N (zerosTo l n 8)
  bits : ∀ i, i < 8 → Bv w' b (i * 4) (p i) (a i) (pc l n i) (dc l n i) n (oc l n i)
  freshL : ∀ i, i < 8 → Bs w' w.heap.size (p i) (pc l n i) ∧ Us w' w.heap.size (a i) (dc l n i)
  freshB : w.heap.size ≤ b
  fresh : w.heap.size ≤ R
  grown : w.grownBy w' none
set_option maxRecDepth 100000 in
set_option maxHeartbeats 2000000 in
theorem takeTree_any (g : Nat) (v : Value) (l : List UInt8) (n : Nat) (w : World) (h : Vw w g v l) (hg : g < w.heap.size) (hn : n ≤ 250) :
    Calls Tryz.prog 81 #[v, .int .i64 n] w fun e w' => (8 * Wd n ≤ l.length ∧ ∃ R N b c p a, e = .returned (.agg #[v, .pointer (some ⟨R, 0, none⟩), N, .slice (some ⟨b, 0, none⟩) 8 c]) ∧ SecT w w' g R b N p a l n) ∨ (l.length < 8 * Wd n ∧ e = .panicked (gu 4) ∧ w.grownBy w' none) := by
  have HV := hide h
  obtain ⟨off, cap, rfl, hlen, hcap, _⟩ := h
  have G0 := World.grownBy_alloc w (.cells #[.slice none 0 0, .pointer none, .slice none 0 0, .slice none 0 0] 101) none
  have hz := cells4 w (.slice none 0 0) (.pointer none) (.slice none 0 0) (.slice none 0 0) 101
  generalize hW0 : w.alloc (.cells #[.slice none 0 0, .pointer none, .slice none 0 0, .slice none 0 0] 101) = w0 at G0 hz
  obtain ⟨hs0, z0, z1, z2, z3, zf⟩ := hz
  have hcr := newReader_any (some ⟨g, off, none⟩) l.length cap w0
  have G1 := World.grownBy_alloc w0 (.cells #[.slice (some ⟨g, off, none⟩) l.length cap] 134) none
  obtain ⟨hs1, hR1⟩ := made_reader w0 g off l.length cap l ((unhide HV).kept0 G0 hg) (by omega)
  generalize hW1 : w0.alloc (.cells #[.slice (some ⟨g, off, none⟩) l.length cap] 134) = w1 at hcr G1 hR1 hs1
  rw [hs0] at hR1 hcr hs1
  have G2 := World.grownBy_alloc w1 (.cells #[.slice (some ⟨g, off, none⟩) l.length cap, .pointer (some ⟨w.heap.size + 1, 0, none⟩), .slice none 0 0, .slice none 0 0] 101) none
  obtain ⟨hs2, q0, q1, q2, q3, qf⟩ := cells4 w1 (.slice (some ⟨g, off, none⟩) l.length cap) (.pointer (some ⟨w.heap.size + 1, 0, none⟩)) (.slice none 0 0) (.slice none 0 0) 101
  generalize hW2 : w1.alloc (.cells #[.slice (some ⟨g, off, none⟩) l.length cap, .pointer (some ⟨w.heap.size + 1, 0, none⟩), .slice none 0 0, .slice none 0 0] 101) = W3 at G2 hs2 q0 q1 q2 q3 qf
  have hs1' : w1.heap.size = w.heap.size + 2 := by omega
  rw [hs1'] at hs2 q0 q1 q2 q3 qf
  have HT0 : Hid (TreeAt w W3 W3 g (.slice (some ⟨g, off, none⟩) l.length cap) (.slice none 0 0) (.slice none 0 0) l n 0 0 (l.drop (0 * Wd n)) (fun _ => .nilIface) (fun _ => .nilIface)) := by
    refine ⟨⟨.slice (some ⟨g, off, none⟩) l.length cap, ?_⟩, q0, q1, q2, q3, qf 2, qf 3, World.ownsRow_nil _ _ _ _, World.ownsRow_nil _ _ _ _, fun i hi => absurd hi (Nat.not_lt_zero _), Apart.nil _, Below.refl _ _, hg⟩
    rw [Nat.zero_mul, List.drop_zero]
    exact hR1.grown G2 (by simp) (by simp) (by omega)
  have HG : Hid (w.grownBy W3 none) := grown_trans (grown_trans G0 G1 (Or.inl rfl)) G2 (Or.inl rfl)
  have HZ : Hid (∀ j y, w0.cell? ⟨w.heap.size, j, none⟩ = some y → W3.cell? ⟨w.heap.size, j, none⟩ = some y) := fun j y hy => by
    rw [grown_cell G2 (by omega) (by simp) j, grown_cell G1 (by omega) (by simp) j]
    exact hy
  have HF : Hid (∀ j, W3.frozen? ⟨w.heap.size, j, none⟩ = false) := fun j => by
    rw [grown_frozen G2 (by omega) (by simp) j, grown_frozen G1 (by omega) (by simp) j]
    exact zf j
  have r0 := unhide HZ 0 _ z0
  have r1 := unhide HZ 1 _ z1
  have r2 := unhide HZ 2 _ z2
  have r3 := unhide HZ 3 _ z3
  have HR : Hid (W3.cell? ⟨w.heap.size, 0, none⟩ = some (.slice none 0 0) ∧ W3.cell? ⟨w.heap.size, 1, none⟩ = some (.pointer none) ∧ W3.cell? ⟨w.heap.size, 2, none⟩ = some (.slice none 0 0) ∧ W3.cell? ⟨w.heap.size, 3, none⟩ = some (.slice none 0 0)) := ⟨r0, r1, r2, r3⟩
  clear r0 r1 r2 r3 z0 z1 z2 z3 zf q0 q1 q2 q3 qf hR1 G0 G1 G2 HZ
  have HW2 := hide hW2
  have HS1 := hide hs1'
  clear hW2 hs1 hs1'
  go_enter Tryz.func81, Tryz.ntmps81
  go_wp2_with fail
  clear hW0
  refine hcr.mono ?_
  rintro e w2 ⟨rfl, hw2⟩
  subst hw2
  clear hcr hW1
  go_wp2_with fail
  rw [unhide HS1, unhide HW2]
  clear HS1 HW2
  go_loopw [12] (fun i wr => ∃ k : Nat, ∃ Nv Bb p a, k ≤ 8 ∧ i = .int .i64 k ∧ k * Wd n ≤ l.length ∧ TreeAt w W3 wr g (.slice (some ⟨g, off, none⟩) l.length cap) Nv Bb l n k k (l.drop (k * Wd n)) p a) (fun i _ => 8 - (intOf i).toNat)
  case atStart => exact ⟨0, _, _, _, _, by omega, rfl, by omega, unhide HT0⟩
  case round =>
    obtain ⟨k, Nv, Bb, p, a, hk, rfl, hkl, T⟩ := hrel
    clear HT0
    by_cases hlt : k < 8
    · have s2 := T.s2
      have s3 := T.s3
      by_cases hl2 : 2 ≤ l.length - k * Wd n
      case neg =>
        obtain ⟨u, hu⟩ := T.rdr
        have hcon := num16_no (w.heap.size + 1) g u _ (wr.drewN 1) (hu.drewN 1) (by rw [List.length_drop]; omega)
        have hWl : l.length < 8 * Wd n := by
          have h1 : (k + 1) * Wd n ≤ 8 * Wd n := Nat.mul_le_mul_right _ (by omega)
          rw [Nat.add_mul] at h1
          unfold Wd at *
          omega
        have HB := hide T.below
        clear T hu
        go_wp2_with fail
        go_region_dies
        all_goals
          refine hcon.mono ?_
          rintro e w3 ⟨rfl, rfl⟩
          simp only []
          refine ⟨rfl, Or.inr ⟨hWl, rfl, ?_⟩⟩
          have hb := unhide HB
          exact grown_drewN (grown_of_below (⟨hb.os.trans (unhide HG).os, hb.tape.trans (unhide HG).tape, hb.output.trans (unhide HG).output, Nat.le_trans (unhide HG).size hb.size, fun i hi => (hb.block i (by omega)).trans ((unhide HG).block i hi (by simp))⟩ : Below w.heap.size w wr)) 1
      obtain ⟨x, y, hxy, hnum⟩ := drop_two (l := l.drop (k * Wd n)) (k := 0) (by rw [List.length_drop]; omega)
      rw [Nat.mul_zero, List.drop_zero] at hxy
      rw [show 2 * (0 + 1) = 2 by decide, List.drop_drop] at hxy
      have T1 := T.drewN 1
      rw [hxy] at T1
      obtain ⟨u, hu⟩ := T1.rdr
      have hcon := num16_yes (w.heap.size + 1) g u x y _ (wr.drewN 1) hu
      rw [hnum] at hcon
      have hzl : (zerosTo l n k).length < 1000000 := by rw [zerosTo_len]; omega
      have HU := hide hu
      have HT1 := hide T1
      have HZ : Hid (zerosTo l n k ++ [Rot.numAt (l.drop (k * Wd n)) 0] = zerosTo l n (k + 1)) := (zerosTo_succ l n k).symm
      have hzb := Rot.numAt_lt (l.drop (k * Wd n)) 0
      generalize Rot.numAt (l.drop (k * Wd n)) 0 = zz at hcon HZ hzb
      clear T T1 hu hxy hnum
      go_upto_region 5 with fail
      go_cut [] (fun wx => ∃ Nv', TreeAt w W3 wx g (.slice (some ⟨g, off, none⟩) l.length cap) Nv' Bb l n (k + 1) k (l.drop (k * Wd n + 2)) p a)
      case first =>
        go_region_law (first
          | (go_simp; refine hcon.mono ?_; rintro e w3 ⟨rfl, hadv⟩; have T2 := hide ((unhide HT1).read hadv.grown (hadv.rdr (unhide HU))); have t2 := (unhide T2).s2; have t3 : w.heap.size + 2 < w3.heap.size := (unhide T2).ls)
          | (refine step_app16 rfl (.tmp 15) (.tmp 18) rfl (w.heap.size + 3) _ (zerosTo l n k) rfl w3 zz rfl rfl (unhide T2).nums hzl (unhide T2).ls ?_; intro ga ca w4 O4 G4 A4; rw [unhide HZ] at O4; obtain ⟨d2, e2⟩ := (unhide T2).cellN G4; have T3 := hide ((unhide T2).num O4 G4 A4)))
        all_goals
          go_wp2_with fail
          go_meet
          exact ⟨_, unhide T3⟩
      case rest =>
        obtain ⟨Nv', T⟩ := hcut
        clear HT1 HU HZ hzl hcon
        have s3 := T.s3
        have T1 := T.drewN 1
        obtain ⟨u2, hu2⟩ := T1.rdr
        have hgc : g < (wc.drewN 1).heap.size := by have := T1.ls; omega
        have hcon := take_any (w.heap.size + 1) g u2 (l.drop (k * Wd n + 2)) n (wc.drewN 1) hu2 hgc (by omega)
        by_cases hl3 : (n + 7) / 8 + 2 * ((n + 15) / 16) ≤ (l.drop (k * Wd n + 2)).length
        case neg =>
          have hcon2 : Calls Tryz.prog 115 #[.pointer (some ⟨w.heap.size + 1, 0, none⟩), .int .i64 n] (wc.drewN 1) fun e w' => e = .panicked (gu 4) ∧ (wc.drewN 1).grownBy w' (some (w.heap.size + 1)) := hcon.mono (by
            rintro e w' (⟨hle, _⟩ | ⟨_, h1, h2⟩)
            · exact absurd hle hl3
            · exact ⟨h1, h2⟩)
          have hWl : l.length < 8 * Wd n := by
            have h1 : (k + 1) * Wd n ≤ 8 * Wd n := Nat.mul_le_mul_right _ (by omega)
            rw [Nat.add_mul] at h1
            rw [List.length_drop] at hl3
            unfold Wd at *
            omega
          have HB := hide T1.below
          clear T T1 hu2 hcon hl3
          go_wp2_with fail
          go_region_dies
          all_goals
            refine hcon2.mono ?_
            rintro e w3 ⟨rfl, g3⟩
            simp only []
            refine ⟨rfl, Or.inr ⟨hWl, rfl, ?_⟩⟩
            have hb := unhide HB
            exact grown_trans (grown_of_below (⟨hb.os.trans (unhide HG).os, hb.tape.trans (unhide HG).tape, hb.output.trans (unhide HG).output, Nat.le_trans (unhide HG).size hb.size, fun i hi => (hb.block i (by omega)).trans ((unhide HG).block i hi (by simp))⟩ : Below w.heap.size w (wc.drewN 1))) g3 (Or.inr ⟨_, rfl, by omega⟩)
        have hcon2 : Calls Tryz.prog 115 #[.pointer (some ⟨w.heap.size + 1, 0, none⟩), .int .i64 n] (wc.drewN 1) fun e w' => ∃ p0 a0, e = .returned (.agg #[p0, a0, .int .i64 n, .int .u16 (oc l n k : Nat)]) ∧ Hid (TakeOut (wc.drewN 1) w' (w.heap.size + 1) g n (l.drop (k * Wd n + 2)) p0 a0) := hcon.mono (by
          rintro e w' (⟨_, p0, a0, h1, h2⟩ | ⟨hbad, _⟩)
          · exact ⟨p0, a0, h1, h2⟩
          · omega)
        have hkl2 : (k + 1) * Wd n ≤ l.length := by
          rw [List.length_drop] at hl3
          rw [Nat.add_mul]
          unfold Wd at *
          omega
        have HDR : Hid ((l.drop (k * Wd n + 2)).drop ((n + 7) / 8 + 2 * ((n + 15) / 16)) = l.drop ((k + 1) * Wd n)) := by
          rw [List.drop_drop]
          congr 1
          rw [Nat.add_mul]
          unfold Wd
          omega
        have HLT : Hid (∀ j, Nv'.ownBlock = some j ∨ Bb.ownBlock = some j → j < (wc.drewN 1).heap.size) := by
          intro j hj
          rcases hj with hj | hj
          · exact (World.ownsRow.lt T1.nums j hj).2
          · exact (World.ownsRow.lt T1.rows j hj).2
        have HT1 := hide T1
        have hob : oc l n k ≤ 300 := Nat.le_trans (Rot.os_le _ _) (by omega)
        generalize hoc : oc l n k = ock at hcon2 hob
        have HOC := hide hoc
        clear T T1 hu2 hcon hl3 hoc
        go_wp2_with fail
        go_region_law (first
          | (go_simp; refine hcon2.mono ?_; rintro e w3 ⟨p0, a0, rfl, hout⟩; have T2 := hide ((unhide HT1).read (unhide hout).grown (unhide hout).rdr); obtain ⟨az, nz, cz, hsp⟩ := Bs.shape3 (unhide hout).packed; obtain ⟨aa, na, ca2, hsa⟩ := Us.shape3 (unhide hout).ahead; subst hsp hsa; have t2 := (unhide T2).s3; have t3 : w.heap.size + 2 < w3.heap.size := (unhide T2).ls)
          | (refine step_appBits rfl (.tmp 22) (.tmp 26) rfl (w.heap.size + 3) _ k (bitCells l n p a k) rfl w3 _ _ _ _ rfl rfl rfl rfl rfl rfl (unhide T2).rows (by omega) (unhide T2).ls ?_; intro ga ca w4 O4 G4 A4; obtain ⟨d2, e2⟩ := (unhide T2).cellB G4; rw [← unhide HOC] at O4; have T3 := hide ((unhide T2).bits (unhide HLT) (unhide HT1).ls (unhide hout).packed (unhide hout).ahead O4 G4 A4)))
        all_goals
          have T4 := unhide T3
          rw [unhide HDR] at T4
          have HT := hide T4
          clear T4 T3 T2 HLT HT1 HDR hcon2 O4 G4 A4 hout
          go_wp2_with fail
          go_roundw
          case rel => exact ⟨k + 1, _, _, _, _, by omega, by go_num, hkl2, unhide HT⟩
          case measure => simp [intOf]; omega
    · have hk8 : k = 8 := by omega
      subst hk8
      have hb := T.below
      have cRB : ∀ j, wr.cell? ⟨w.heap.size, j, none⟩ = W3.cell? ⟨w.heap.size, j, none⟩ := fun j => World.cell?_of_block (a := ⟨w.heap.size, j, none⟩) (hb.block w.heap.size (by omega))
      have fRB : ∀ j, wr.frozen? ⟨w.heap.size, j, none⟩ = W3.frozen? ⟨w.heap.size, j, none⟩ := fun j => World.frozen?_of_block (a := ⟨w.heap.size, j, none⟩) (hb.block w.heap.size (by omega))
      obtain ⟨y0, y1, y2, y3⟩ := unhide HR
      have r0 := (cRB 0).trans y0
      have r1 := (cRB 1).trans y1
      have r2 := (cRB 2).trans y2
      have r3 := (cRB 3).trans y3
      have f0 := (fRB 0).trans (unhide HF 0)
      have f1 := (fRB 1).trans (unhide HF 1)
      have f2 := (fRB 2).trans (unhide HF 2)
      have f3 := (fRB 3).trans (unhide HF 3)
      have s0 := T.s0
      have s1 := T.s1
      have s2 := T.s2
      have s3 := T.s3
      obtain ⟨bb, cb, hBb⟩ : ∃ bb cb, Bb = .slice (some ⟨bb, 0, none⟩) 8 cb := by
        rcases T.rows.2 with ⟨_, h8⟩ | ⟨g8, c8, _, h8, _⟩
        · omega
        · exact ⟨g8, c8, h8⟩
      subst hBb
      obtain ⟨az, nz, cz, hNv⟩ := Us.shape3 T.nums
      subst hNv
      have HT := hide T
      clear T hb cRB fRB y0 y1 y2 y3 HR HF
      go_wp2_with fail
      refine bodyPost_ret (v := .agg #[.slice (some ⟨g, off, none⟩) l.length cap, .pointer (some ⟨w.heap.size + 1, 0, none⟩), .slice az nz cz, .slice (some ⟨bb, 0, none⟩) 8 cb]) (by simp [results, Tryz.results81, go_sem, r0, r1, r2, r3]) rfl (Or.inl ⟨by omega, _, _, _, _, p, a, rfl, ?_⟩)
      have GE := grown4 wr w.heap.size (.slice (some ⟨g, off, none⟩) l.length cap) (.pointer (some ⟨w.heap.size + 1, 0, none⟩)) (.slice az nz cz) (.slice (some ⟨bb, 0, none⟩) 8 cb)
      have T := unhide HT
      have hls := T.ls
      obtain ⟨u, hu⟩ := T.rdr
      have hne : ∀ (u : Value), (∀ k, u.ownBlock = some k → w.heap.size + 3 ≤ k) → u.ownBlock = none ∨ u.ownBlock ≠ some w.heap.size := fun u hu => own_ne fun k hk e => by have := hu k hk; injection e with e; omega
      have lowU : ∀ {W : World} {x : Value} {d : List Nat}, Us W (w.heap.size + 3) x d → ∀ B, B ≤ w.heap.size + 3 → Us W B x d := fun h B hB => ⟨h.1, h.2.imp id fun ⟨g, cap, cur, a, b, c⟩ => ⟨g, cap, cur, a, by omega, c⟩⟩
      have hnum := World.ownsRow.kept T.nums GE (hne _ fun k hk => (World.ownsRow.lt T.nums k hk).1)
      have hrows := World.ownsRow.kept T.rows GE (hne _ fun k hk => (World.ownsRow.lt T.rows k hk).1)
      have hlv : ∀ i, i < 8 → Bs _ (w.heap.size + 3) (p i) (pc l n i) ∧ Us _ (w.heap.size + 3) (a i) (dc l n i) := fun i hi => ⟨(T.lv i hi).1.kept GE (hne _ fun k hk => ((T.lv i hi).1.lt hk).1), World.ownsRow.kept (T.lv i hi).2.1 GE (hne _ fun k hk => (World.ownsRow.lt (T.lv i hi).2.1 k hk).1)⟩
      refine ⟨⟨u, hu.grown GE (by intro e; injection e with e; omega) (by intro e; injection e with e; omega) (by omega)⟩, lowU hnum _ (by omega), ?_, fun i hi => ⟨(hlv i hi).1.mono (by omega), lowU (hlv i hi).2 _ (by omega)⟩, ?_, by omega, ?_⟩
      · intro i hi
        obtain ⟨b0, b1, b2, b3⟩ := bitCells_get l n p a 8 i hi
        have hc := fun j v hv => World.ownsRow.cells hrows (g := bb) rfl j v hv
        have e0 := hc _ _ b0
        have e1 := hc _ _ b1
        have e2 := hc _ _ b2
        have e3 := hc _ _ b3
        rw [addr_add] at e0 e1 e2 e3
        exact ⟨e0, e1, e2, e3, (hlv i hi).1.mono (Nat.zero_le _), lowU (hlv i hi).2 _ (Nat.zero_le _)⟩
      · have := (World.ownsRow.lt T.rows bb rfl).1
        omega
      · have hb := T.below
        exact grown_trans (grown_of_below (⟨hb.os.trans (unhide HG).os, hb.tape.trans (unhide HG).tape, hb.output.trans (unhide HG).output, Nat.le_trans (unhide HG).size hb.size, fun i hi => (hb.block i (by omega)).trans ((unhide HG).block i hi (by simp))⟩ : Below w.heap.size w wr)) GE (Or.inr ⟨_, rfl, Nat.le_refl _⟩)
end Go.Proofs.YthlincikgdblfaaGreat
