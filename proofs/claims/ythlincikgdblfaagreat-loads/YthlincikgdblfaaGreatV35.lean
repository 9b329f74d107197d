import Derived.Test.YthlincikgdblfaaGreatV34
import Derived.Deep.Cut
import Derived.Deep.DeepCutAuto
import Derived.Test.YthlincikgdblfaaGreatV30
import Derived.Test.YthlincikgdblfaaGreatV16
import Derived.Test.YthlincikgdblfaaGreatV09
import Derived.Test.YthlincikgdblfaaGreatV33
namespace Go.Proofs.YthlincikgdblfaaGreat
set_option linter.unusedVariables false
open Go.RowKit

/-- The owner writes over the list. -/
def overTo (l : List Int) (k : Nat) : List Int := (List.range l.length).map fun i => if i < k then 1 else l.getD i 0
theorem overTo_len (l : List Int) (k : Nat) : (overTo l k).length = l.length := by simp [overTo]
theorem overTo_zero (l : List Int) : overTo l 0 = l := by
  apply List.ext_getElem
  · simp [overTo]
  · intro i h1 h2
    simp [overTo, List.getD, h2]
theorem overTo_set (l : List Int) (k : Nat) (hk : k < l.length) : ((overTo l k).map (Value.int .i64)).set k (.int .i64 1) = (overTo l (k + 1)).map (Value.int .i64) := by
  apply List.ext_getElem
  · simp [overTo]
  · intro i h1 h2
    have hi : i < l.length := by simpa [overTo] using h2
    rw [List.getElem_set]
    by_cases e : k = i
    · subst e
      simp [overTo]
    · rw [if_neg e]
      simp only [overTo, List.getElem_map, List.getElem_range]
      by_cases h3 : i < k
      · rw [if_pos h3, if_pos (by omega)]
      · rw [if_neg h3, if_neg (by omega)]
theorem overTo_at (l : List Int) (k : Nat) (hk : k < l.length) : (overTo l k)[k]'(by rw [overTo_len]; exact hk) = l[k]'hk := by
  simp [overTo, List.getD, hk]
/-- Behind k of the list's places. -/
def LdV (w6 : World) (B gl cap N : Nat) (l : List Int) (ov iv : Value) (wr : World) : Prop := ∃ k : Nat, k ≤ N ∧ iv = .int .i64 (k : Int) ∧ ov = .bool true ∧ IsZ wr B (.slice (some ⟨gl, 0, none⟩) N cap) (overTo l k) ∧ w6.grownBy wr (some gl)
theorem LdV.mk {w6 : World} {B gl cap N : Nat} {l : List Int} {ov iv : Value} {wr : World} (k : Nat) (h1 : k ≤ N) (h2 : iv = .int .i64 (k : Int)) (h3 : ov = .bool true) (h4 : IsZ wr B (.slice (some ⟨gl, 0, none⟩) N cap) (overTo l k)) (h5 : w6.grownBy wr (some gl)) : LdV w6 B gl cap N l ov iv wr := ⟨k, h1, h2, h3, h4, h5⟩
set_option maxRecDepth 100000 in
set_option maxHeartbeats 4000000 in
theorem wload_any (g : Nat) (S : ByteArray) (sv : Value) (zs : List Int) (v : Value) (ps : List Pr) (w : World) (hW : Wv g w v ps) (hI : Ints w sv zs) (hnil : ∀ n c, sv = .slice none n c → c = 0) (hlow : ∀ a n c, sv = .slice (some a) n c → a.block < w.heap.size ∨ zs = []) (hz : zs.length * 8 ≤ 140737488351232) (hS : S.size ≤ 140737488351232) (hps : (ps.length + 1) * 16 ≤ 140737488355328) :
    Calls Tryz.prog 40 #[.pointer (some ⟨g, 0, none⟩), .string S, sv] w fun e w' => e = .returned (.bool true) ∧ ∃ v' ps', Wv g w' v' ps' ∧ ps'.length ≤ ps.length + 1 ∧ Up g v w w' := by
  have HW := hide hW
  have HI := hide hI
  have HL := hide hlow
  have HN := hide hnil
  obtain ⟨_, _, sa, sc, hsv, _⟩ := hI
  subst hsv
  clear hW hlow hnil
  generalize hn : zs.length = n at hz HI HL HN ⊢
  have HNn := hide hn
  clear hn
  go_enter Tryz.func40, Tryz.ntmps40
  go_wp2_with (at_builtin; refine wp_appS _ rfl (.tmp 17) (.tmp 18) rfl w.heap.size _ [] rfl (IsZ.nil _ _) (.slice sa n sc) zs rfl (unhide HI) (unhide HN) ?a2 ?a3 ?_)
  case a2 => rw [unhide HNn]; simp; omega
  case a3 => exact Nat.le_refl _
  intro v1 w1 I1 g1
  have g1' : w.grownBy w1 none := g1
  obtain ⟨x1, n1, c1, rfl, hn1⟩ := I1.shape
  have HB1 := hide (Below.of_grown g1')
  have hle1 := g1'.size
  have hv1 := fun k e => (World.ownsRow.lt I1 k e).1
  have HV1 := hide hv1
  have HC3 := hide (cells_many_new w1 [.int .i64 77, .int .i64 77, .int .i64 77] 3)
  have HI1 := hide (World.ownsRow.alloc I1 (.cells #[.int .i64 77, .int .i64 77, .int .i64 77] 3))
  clear g1 g1' hn1 I1 hv1
  go_wp2_with (at_builtin; refine wp_appZ _ rfl (.tmp 20) (.tmp 21) rfl w.heap.size _ zs rfl (unhide HI1) ⟨w1.heap.size, 0, none⟩ 3 3 [77, 77, 77] rfl rfl (unhide HC3) ?b2 ?b3 ?_)
  case b2 => rw [unhide HNn]; simp; omega
  case b3 => simp; omega
  intro v2 w2 I2 g2
  have hLL : (zs ++ [77, 77, 77]).length = n + 3 := by rw [List.length_append, unhide HNn]; rfl
  have HB2 : Hid (Below w.heap.size w w2) := Below.grown ((unhide HB1).alloc (unhide HB1).size _) g2 (by simp; omega) (unhide HV1)
  have h7 : ∀ i (hi : i < (zs ++ [77, 77, 77]).length), n ≤ i → (zs ++ [77, 77, 77])[i]'hi = 77 := by
    intro i hi hni
    rw [List.getElem_append_right (by rw [unhide HNn]; exact hni)]
    have hm := List.getElem_mem (l := [(77 : Int), 77, 77]) (n := i - zs.length) (by have := unhide HNn; simp at hi ⊢; omega)
    simp only [List.mem_cons, List.not_mem_nil, or_false, or_self] at hm
    exact hm
  have hzz : ∀ i (hi : i < (zs ++ [77, 77, 77]).length) (h2 : i < zs.length), (zs ++ [77, 77, 77])[i]'hi = zs[i]'h2 := fun i hi h2 => List.getElem_append_left h2
  generalize zs ++ [77, 77, 77] = LL at I2 hLL h7 hzz
  have HLL := hide hLL
  have H7 := hide h7
  have HZZ := hide hzz
  rcases I2.form with ⟨_, h0⟩ | ⟨gl, cap, rfl, hgl1, hgl2, hcap⟩
  · rw [h0] at hLL
    simp at hLL
  rw [hLL] at I2 hcap ⊢
  have hints : Ints w2 (.slice (some ⟨gl, 0, none⟩) n cap) zs := by
    refine ⟨(unhide HI).1, by have := unhide HNn; omega, some ⟨gl, 0, none⟩, cap, by rw [unhide HNn], Or.inr ⟨gl, 0, rfl, fun i hi => ?_⟩⟩
    have hi2 : i < LL.length := by have := unhide HNn; omega
    rw [Nat.zero_add, IsZ.cell (l := LL) I2 i hi2, unhide HZZ i hi2 hi]
  have hsrc := src_new w2 S (.slice (some ⟨gl, 0, none⟩) n cap) zs hints (fun a n c e => by cases e; exact hgl2)
  have hld := load_all w2.heap.size S _ zs _ hsrc (by omega) (fun a n c e => by cases e; simp; omega)
  have HZ4 := hide (World.ownsRow.alloc I2 (.cells #[.string S, .slice (some ⟨gl, 0, none⟩) n cap, .int .i64 0] 37))
  have HB4 : Hid (Below w.heap.size w (w2.alloc (.cells #[.string S, .slice (some ⟨gl, 0, none⟩) n cap, .int .i64 0] 37))) := (unhide HB2).alloc (unhide HB2).size _
  have hle2 : w.heap.size ≤ w2.heap.size := (unhide HB2).size
  clear I2 g2 hLL h7 hzz hints hsrc HB1 HV1 HC3 HI1 HB2
  go_wp2_with fail
  refine hld.mono ?_
  rintro e w5 ⟨x, k, en, p, rfl, hen, hLd, hS5, hG5, hx0, hx1⟩
  have hsz4 : (w2.alloc (.cells #[.string S, .slice (some ⟨gl, 0, none⟩) n cap, .int .i64 0] 37)).heap.size = w2.heap.size + 1 := by simp
  have HZ5 := hide (World.ownsRow.kept (unhide HZ4) hG5 (Or.inr (by simp [Value.ownBlock]; omega)))
  have HB5 : Hid (Below w.heap.size w w5) := (unhide HB4).grown hG5 (unhide HB4).size (fun k e => by injection e; omega)
  have hsz5 : w2.heap.size + 1 ≤ w5.heap.size := by have := hG5.size; omega
  rw [hsz4] at hx1
  have hrl := rload_any S (.slice sa n sc) zs w5 (by unfold maxLen; omega) ((unhide HI).below (unhide HB5) (unhide HL))
  have HS5 := hide hS5
  have HLd := hide hLd
  have HX := hide (And.intro hx0 hx1)
  clear hld hG5 hS5 HZ4 HB4 hLd hx0 hx1 hsz4
  go_wp2_with fail
  refine hrl.mono ?_
  rintro e w6 ⟨x', k', en', p', rfl, hLd', hRi, hG6⟩
  obtain ⟨ex, ek, ee⟩ := (unhide HLd).same hLd'
  subst ex ek ee
  have hS6 := (unhide HS5).grown hG6 (by simp) (fun _ _ _ _ => by simp)
  have s0 := hS6.c0
  have s1 := hS6.c1
  have s2 := hS6.c2
  have HF02 := hide (And.intro hS6.f0 hS6.f2)
  have HZ6 := hide (ownsRow_kept0 (unhide HZ5) hG6)
  have HB6 := hide (below_on (unhide HB5) hG6 (Nat.le_refl _))
  have HRi := hide hRi
  have HG6 := hide hG6
  have hsz6 := hG6.size
  clear hrl hLd' hRi hG6 hS6 HS5 HZ5
  go_wp2_with fail
  go_loopw [14, 15] (fun ov iv wr => LdV w6 w.heap.size gl cap (n + 3) LL ov iv wr) (fun _ iv _ => n + 3 - (intOf iv).toNat)
  case atStart => exact LdV.mk 0 (by omega) rfl rfl (by rw [overTo_zero]; exact unhide HZ6) (World.grownBy.refl _ _)
  case round =>
    obtain ⟨k2, hk2, rfl, rfl, Z, Gr⟩ := hrel
    have HBr : Hid (Below w.heap.size w wr) := (unhide HB6).grown Gr (unhide HB6).size (fun k e => by injection e; omega)
    by_cases hlt : k2 < n + 3
    · have hkL : k2 < LL.length := by rw [unhide HLL]; exact hlt
      have hcell := IsZ.cell Z k2 (by rw [overTo_len]; exact hkL)
      rw [overTo_at LL k2 hkL] at hcell
      have Z' : wr.ownsRow w.heap.size 3 1 (.slice (some ⟨gl, 0, none⟩) (n + 3) cap) (n + 3) ((overTo LL k2).map (Value.int .i64)) := by
        have h1 := Z
        unfold IsZ at h1
        rwa [overTo_len, unhide HLL] at h1
      have hf := World.ownsRow.frozenAt Z' k2
      have HST := hide (World.ownsRow.stored Z' k2 (.int .i64 1))
      have HSET := hide (overTo_set LL k2 hkL)
      have HGr := hide Gr
      clear Z Z' Gr
      by_cases hkn : k2 < n
      · have d1 : decide ((k2 : Int) < (n : Int)) = true := by simp; omega
        have hkz : k2 < zs.length := by rw [unhide HNn]; exact hkn
        have hIr := (unhide HI).below (unhide HBr) (unhide HL)
        obtain ⟨hzb, _, a', c', hv', hc'⟩ := hIr
        rcases hc' with hc' | ⟨b', off, ha', hc'⟩
        · rw [hc'] at hkz; simp at hkz
        cases hv'
        subst ha'
        have hck := hc' k2 hkz
        have hbz := hzb _ (List.getElem_mem hkz)
        rw [unhide HZZ k2 hkL hkz] at hcell
        generalize zs[k2]'hkz = zk at hcell hck hbz
        clear hc' hzb
        go_wp2_with fail
        go_roundw
        case rel =>
          have hs := unhide HST
          refine LdV.mk (k2 + 1) (by omega) (by go_num) (by simp) ?_ (grown_trans (unhide HGr) hs.2 (Or.inl rfl))
          unfold IsZ
          rw [overTo_len, unhide HLL, ← unhide HSET]
          exact hs.1
        case measure => first | (simp [intOf]; done) | (simp [intOf]; omega)
      · have d1 : decide ((k2 : Int) < (n : Int)) = false := by simp; omega
        rw [unhide H7 k2 hkL (by omega)] at hcell
        go_wp2_with fail
        go_roundw
        case rel =>
          have hs := unhide HST
          refine LdV.mk (k2 + 1) (by omega) (by go_num) (by simp) ?_ (grown_trans (unhide HGr) hs.2 (Or.inl rfl))
          unfold IsZ
          rw [overTo_len, unhide HLL, ← unhide HSET]
          exact hs.1
        case measure => first | (simp [intOf]; done) | (simp [intOf]; omega)
    · have hb6 : w2.heap.size < w6.heap.size := by omega
      have hnb : (some gl : Option Nat) ≠ some w2.heap.size := by intro e; injection e; omega
      have t0 := (grown_cell Gr hb6 hnb 0).trans s0
      have t2 := (grown_cell Gr hb6 hnb 2).trans s2
      have q0 := (grown_frozen Gr hb6 hnb 0).trans (unhide HF02).1
      have q2 := (grown_frozen Gr hb6 hnb 2).trans (unhide HF02).2
      have t3 : (wr.setCell ⟨w2.heap.size, 0, none⟩ (.string ⟨#[111, 118, 101, 114]⟩)).cell? ⟨w2.heap.size, 2, none⟩ = some (.int .i64 (k : Int)) := (World.cell?_setCell_other _ _ _ _ (by simp)).trans t2
      have q3 : (wr.setCell ⟨w2.heap.size, 0, none⟩ (.string ⟨#[111, 118, 101, 114]⟩)).frozen? ⟨w2.heap.size, 2, none⟩ = false := (World.frozen?_setCell _ _ _ _).trans q2
      have HGr := hide Gr
      clear Z Gr HZ6 HB6 HZZ H7 HLL
      have HB8 : Hid (Below w.heap.size w ((wr.setCell ⟨w2.heap.size, 0, none⟩ (.string ⟨#[111, 118, 101, 114]⟩)).setCell ⟨w2.heap.size, 2, none⟩ (.int .i64 0))) := ((unhide HBr).setCell hle2 _).setCell hle2 _
      have HBl8 : Hid (∀ i, i ≠ w2.heap.size → ((wr.setCell ⟨w2.heap.size, 0, none⟩ (.string ⟨#[111, 118, 101, 114]⟩)).setCell ⟨w2.heap.size, 2, none⟩ (.int .i64 0)).heap[i]? = wr.heap[i]?) := fun i hi => (heap_setCell_other _ ⟨w2.heap.size, 2, none⟩ i _ hi).trans (heap_setCell_other _ ⟨w2.heap.size, 0, none⟩ i _ hi)
      have hsz8 : ((wr.setCell ⟨w2.heap.size, 0, none⟩ (.string ⟨#[111, 118, 101, 114]⟩)).setCell ⟨w2.heap.size, 2, none⟩ (.int .i64 0)).heap.size = wr.heap.size := by simp
      have HSZ8 := hide hsz8
      go_upto_region 18 with fail
      clear t0 t2 q0 q2 t3 q3 s0 s1 s2 HBr hsz8
      generalize ((wr.setCell ⟨w2.heap.size, 0, none⟩ (.string ⟨#[111, 118, 101, 114]⟩)).setCell ⟨w2.heap.size, 2, none⟩ (.int .i64 0)) = w8 at HB8 HBl8 HSZ8 ⊢
      cases x with
      | none =>
        have hp0 := (unhide HX).1 rfl
        subst hp0
        have hp1 : p' = .pointer none := unhide HRi
        subst hp1
        go_wp2_with fail
        refine (num_any _ _ (by omega) (by omega)).mono ?_
        rintro e wa ⟨rfl, hw⟩
        replace hw := hw.symm
        subst hw
        go_wp2_with fail
        refine (num_any _ _ (by omega) (by omega)).mono ?_
        rintro e wa ⟨rfl, hw⟩
        replace hw := hw.symm
        subst hw
        go_wp2_with fail
        go_ret
        obtain ⟨h1, h2⟩ := (unhide HW).below (unhide HB8)
        exact ⟨rfl, v, ps, h1, by omega, h2⟩
      | some tr =>
        obtain ⟨tt, rr'⟩ := tr
        obtain ⟨q, hq, hidx⟩ := (unhide HX).2 tt rr' rfl
        subst hq
        obtain ⟨gy, hp1, hgy, y0, y1⟩ := unhide HRi
        subst hp1
        obtain ⟨h8, hU8⟩ := (unhide HW).below (unhide HB8)
        have hrl := h8.row_lt
        have hvl : ∀ i, v.ownBlock = some i → i < w.heap.size := fun i e => ((unhide HW).row_lt i e).2
        have hgw := (unhide HW).lt
        have hszr := (unhide HGr).size
        have hsz8 := unhide HSZ8
        have hblk : ∀ i, w2.heap.size + 1 ≤ i → i < w6.heap.size → w8.heap[i]? = w6.heap[i]? := fun i h1 h2 => (unhide HBl8 i (by omega)).trans ((unhide HGr).block i h2 (by intro e; injection e; omega))
        have hnk : ∀ i, w2.heap.size + 1 ≤ i → ¬ Kof g v i := by
          rintro i h1 (h2 | h2)
          · omega
          · have := hvl i h2; omega
        have hgy6 : gy < w6.heap.size := World.block_lt_of_cell? w6 ⟨gy, 0, none⟩ y0
        have HOK : Hid (PairOk (Kof g v) w8 ⟨q, gy, tt, rr'⟩) := by
          intro w'' H
          refine ⟨⟨w2.heap.size + 1, S.data.toList, hidx.stay ⟨by have := H.size; omega, fun i h1 h2 => ?_⟩⟩, ?_, ?_⟩
          · exact (H.block i (by omega) (hnk i h1)).trans ((hblk i h1 (by omega)).trans ((unhide HG6).block i h2 (by simp)))
          · exact H.cell (hnk gy (by omega)) ((World.cell?_of_block (hblk gy (by omega) hgy6)).trans y0)
          · exact H.cell (hnk gy (by omega)) ((World.cell?_of_block (hblk gy (by omega) hgy6)).trans y1)
        have z0 := h8.c0
        have H8 := hide h8
        have HU8 := hide hU8
        have hlg : g + 1 ≤ w8.heap.size := h8.lt
        clear h8 hU8 hidx y0 y1 hblk hnk hrl hvl hsz8 hszr HB8 HBl8 HX HRi HGr HG6 HLd HF02
        go_wp2_with fail
        refine (num_any _ _ (by omega) (by omega)).mono ?_
        rintro e wa ⟨rfl, hw⟩
        replace hw := hw.symm
        subst hw
        go_wp2_with fail
        refine (num_any _ _ (by omega) (by omega)).mono ?_
        rintro e wa ⟨rfl, hw⟩
        replace hw := hw.symm
        subst hw
        go_wp2_with (at_builtin; refine wp_appP w8 rfl (.tmp 116) (.tmp 120) rfl (g + 1) v ps ⟨q, gy, tt, rr'⟩ rfl (unhide H8).row rfl ?c1 ?c2 ?_)
        case c1 => exact hps
        case c2 => exact hlg
        intro v9 w9 R9 G9 hob
        obtain ⟨k1, k2', k3, k4⟩ := (unhide H8).snoc (unhide HOK) (by rw [List.length_append]; exact R9) G9 hob
        obtain ⟨x9, n9, c9, rfl⟩ := ownsRow_shape R9
        have HFIN := hide (And.intro k3 ((unhide HU8).trans k4))
        clear R9 G9 hob k3 k4 HOK H8 HU8
        go_wp2_with fail
        go_ret
        exact ⟨rfl, _, _, (unhide HFIN).1, by simp, (unhide HFIN).2⟩
end Go.Proofs.YthlincikgdblfaaGreat

namespace Go.Proofs.YthlincikgdblfaaGreat
set_option linter.unusedVariables false
open Go.RowKit

/-- The document's file of a text, or none. -/
theorem rb_any (s : ByteArray) (a : Int) (hs : s.size ≤ maxLen) : ∃ (x : ByteArray) (e : Int), x.size ≤ 2000 ∧ 0 ≤ e ∧ e ≤ 4 ∧ ∀ w, Calls Tryz.prog 38 #[.string s, .int .i64 a] w fun en w' => en = .returned (.tuple #[.string x, .int .i64 e]) ∧ Below w.heap.size w w' := by
  by_cases h : s.size ≤ 250 ∧ isRate a = true
  · obtain ⟨h1, h2⟩ := h
    obtain ⟨r, rfl⟩ : ∃ r : Nat, a = (r : Int) := by
      refine ⟨a.toNat, ?_⟩
      have : a = 1 ∨ a = 2 ∨ a = 4 ∨ a = 8 := by
        unfold isRate at h2
        simp at h2
        omega
      omega
    by_cases hex : ∃ rows, Rot.IsRows s.data.toList rows
    · obtain ⟨rows, hR⟩ := hex
      have hsz : (Sb (Rot.fileOf s.data.toList rows r)).size ≤ 2000 := by
        rw [Sb_size]
        exact (Rot.IsFile.size (⟨by simpa using h1, h2, rows, hR, rfl⟩ : Rot.IsFile (Rot.fileOf s.data.toList rows r) s.data.toList r)).2.2
      refine ⟨Sb (Rot.fileOf s.data.toList rows r), 0, hsz, by omega, by omega, fun w => ?_⟩
      refine (rbuild_yes s r w h1 h2).mono ?_
      rintro e w' ⟨rows', rfl, hR', g⟩
      rw [Rot.rows_unique hR' hR]
      exact ⟨rfl, Below.of_grown g⟩
    · refine ⟨⟨#[]⟩, 0, by decide, by omega, by omega, fun w => ?_⟩
      refine (rbuild_yes s r w h1 h2).mono ?_
      rintro e w' ⟨rows', _, hR', _⟩
      exact absurd ⟨rows', hR'⟩ hex
  · refine ⟨⟨#[]⟩, 1, by decide, by omega, by omega, fun w => ?_⟩
    refine (rbuild_no s a w hs h).mono ?_
    rintro e w' ⟨rfl, rfl⟩
    exact ⟨rfl, Below.refl _ _⟩
/-- What a step leaves. -/
def StepOut (g : Nat) (v : Value) (ps : List Pr) (w w' : World) : Prop := ∃ v' ps', Wv g w' v' ps' ∧ ps'.length ≤ ps.length + 1 ∧ Up g v w w'
theorem StepOut.below {g : Nat} {v : Value} {ps : List Pr} {w w' : World} (h : Wv g w v ps) (H : Below w.heap.size w w') : StepOut g v ps w w' := ⟨v, ps, (h.below H).1, by omega, (h.below H).2⟩
theorem StepOut.after {g : Nat} {v : Value} {ps : List Pr} {w w1 w' : World} (h : Wv g w v ps) (H : Below w.heap.size w w1) (k : ∃ v' ps', Wv g w' v' ps' ∧ ps'.length ≤ ps.length + 1 ∧ Up g v w1 w') : StepOut g v ps w w' := by
  obtain ⟨v', ps', k1, k2, k3⟩ := k
  exact ⟨v', ps', k1, k2, (h.below H).2.trans k3⟩
/-- A list of a step. -/
structure LOk (w : World) (lv : Value) (zs : List Int) : Prop where
  ints : Ints w lv zs
  nil : ∀ n c, lv = .slice none n c → c = 0
  low : ∀ a n c, lv = .slice (some a) n c → a.block < w.heap.size ∨ zs = []
  len : zs.length * 8 ≤ 140737488351232
theorem LOk.below {w w' : World} {lv : Value} {zs : List Int} {B : Nat} (h : LOk w lv zs) (H : Below B w w') (hB : w.heap.size ≤ B) : LOk w' lv zs := ⟨h.ints.below H (fun a n c e => (h.low a n c e).imp (fun h => by omega) id), h.nil, fun a n c e => (h.low a n c e).imp (fun h => by have := H.size; omega) id, h.len⟩
set_option maxRecDepth 100000 in
set_option maxHeartbeats 1000000 in
theorem step_load (s : ByteArray) (a k b : Int) (lv : Value) (zs : List Int) (g : Nat) (v : Value) (ps : List Pr) (w : World) (hW : Wv g w v ps) (hL : LOk w lv zs) (hs : s.size ≤ 140737488351232) (hps : (ps.length + 1) * 16 ≤ 140737488355328) :
    Calls Tryz.prog 24 #[.pointer (some ⟨g, 0, none⟩), .agg #[.int .i64 2, .int .i64 k, .string s, .int .i64 a, .int .i64 b, lv]] w fun en w' => en = .returned (.bool true) ∧ StepOut g v ps w w' := by
  obtain ⟨_, _, la, lc, hlv, _⟩ := hL.ints
  generalize zs.length = ln at hlv
  subst hlv
  have HB : Hid (Below w.heap.size w (w.alloc (.cells #[.int .i64 2, .int .i64 k, .string s, .int .i64 a, .int .i64 b, .slice la ln lc] 58))) := Below.alloc0 _
  have hL1 := hL.below (unhide HB) (Nat.le_refl _)
  have hcon := wload_any g s (.slice la ln lc) zs v ps _ ((hW.below (unhide HB)).1) hL1.ints hL1.nil hL1.low hL1.len hs hps
  have HW := hide hW
  clear hW hL hL1
  go_enter Tryz.func24, Tryz.ntmps24
  go_wp2_with fail
  refine hcon.mono ?_
  rintro en w2 ⟨rfl, hk⟩
  have HK := hide (StepOut.after (unhide HW) (unhide HB) hk)
  clear hcon hk HB
  go_wp2_with fail
  go_ret
  exact ⟨rfl, unhide HK⟩
set_option maxRecDepth 100000 in
set_option maxHeartbeats 1000000 in
theorem step_made (s : ByteArray) (a k b : Int) (lv : Value) (zs : List Int) (g : Nat) (v : Value) (ps : List Pr) (w : World) (hW : Wv g w v ps) (hL : LOk w lv zs) (hs : s.size ≤ maxLen) (hps : (ps.length + 1) * 16 ≤ 140737488355328) :
    Calls Tryz.prog 24 #[.pointer (some ⟨g, 0, none⟩), .agg #[.int .i64 3, .int .i64 k, .string s, .int .i64 a, .int .i64 b, lv]] w fun en w' => en = .returned (.bool true) ∧ StepOut g v ps w w' := by
  obtain ⟨_, _, la, lc, hlv, _⟩ := hL.ints
  generalize zs.length = ln at hlv
  subst hlv
  obtain ⟨x, e, hx, _, _, hR⟩ := rb_any s a hs
  have HR := hide hR
  have HW := hide hW
  have HL := hide hL
  clear hW hL hR
  go_enter Tryz.func24, Tryz.ntmps24
  go_wp2_with fail
  refine (unhide HR _).mono ?_
  rintro en w1 ⟨rfl, B1⟩
  have c5 : w1.cell? ⟨w.heap.size, 5, none⟩ = some (.slice la ln lc) := (B1.cell (by simp)).trans (cells_new8 w _ _ 5 (by simp))
  have HB1 : Hid (Below w.heap.size w w1) := (Below.alloc0 _).trans (B1.mono (by simp))
  have hL1 := (unhide HL).below (unhide HB1) (Nat.le_refl _)
  have hcon := wload_any g x (.slice la ln lc) zs v ps w1 (((unhide HW).below (unhide HB1)).1) hL1.ints hL1.nil hL1.low hL1.len (by omega) hps
  clear B1 HR hL1
  go_wp2_with fail
  refine hcon.mono ?_
  rintro en w2 ⟨rfl, hk⟩
  have HK := hide (StepOut.after (unhide HW) (unhide HB1) hk)
  clear hcon hk HB1
  go_wp2_with fail
  go_ret
  exact ⟨rfl, unhide HK⟩
set_option maxRecDepth 100000 in
set_option maxHeartbeats 1000000 in
theorem step_none (s : ByteArray) (a k b : Int) (lv : Value) (g : Nat) (v : Value) (ps : List Pr) (w : World) (hW : Wv g w v ps) :
    Calls Tryz.prog 24 #[.pointer (some ⟨g, 0, none⟩), .agg #[.int .i64 4, .int .i64 k, .string s, .int .i64 a, .int .i64 b, lv]] w fun en w' => en = .returned (.bool true) ∧ StepOut g v ps w w' := by
  have HW := hide hW
  clear hW
  go_enter Tryz.func24, Tryz.ntmps24
  go_wp2_with fail
  refine (load_nil _).mono ?_
  rintro en w1 ⟨rfl, G1⟩
  have HB1 : Hid (Below w.heap.size w w1) := below_on (Below.alloc0 _) G1 (Nat.le_refl _)
  clear G1
  go_wp2_with fail
  refine (num_any 1 _ (by omega) (by omega)).mono ?_
  rintro en w2 ⟨rfl, hw⟩
  replace hw := hw.symm
  subst hw
  go_wp2_with fail
  go_ret
  exact ⟨rfl, StepOut.below (unhide HW) (unhide HB1)⟩
end Go.Proofs.YthlincikgdblfaaGreat

namespace Go.Proofs.YthlincikgdblfaaGreat
set_option linter.unusedVariables false
namespace Rot

/-! The rows whose ends begin with something -/
theorem placeOf_mono {last i j : Nat} (h : i ≤ j) : placeOf last i ≤ placeOf last j := by
  unfold placeOf; split <;> split <;> omega
theorem placeOf_succ {last i j : Nat} (h : i < j) (hi : i ≠ last) : placeOf last i + 1 ≤ placeOf last j := by
  unfold placeOf; split <;> split <;> omega
theorem placeOf_all {n last i : Nat} (hl : last ≤ n) (hi : i ≤ n + 1) : placeOf last i ≤ n := by
  unfold placeOf; split <;> omega
def rank (col : List UInt8) (c : UInt8) (k : Nat) : Nat := (col.take k).countP fun x => x == c
theorem rank_mono (col : List UInt8) (c : UInt8) {i j : Nat} (h : i ≤ j) : rank col c i ≤ rank col c j := by
  unfold rank
  have e : col.take i = (col.take j).take i := by rw [List.take_take, Nat.min_eq_left h]
  rw [e]
  exact (List.take_sublist _ _).countP_le
theorem rank_succ {col : List UInt8} {c : UInt8} {k : Nat} (hk : k < col.length) (h : at' col k = c) : rank col c (k + 1) = rank col c k + 1 := by
  unfold rank
  rw [List.take_succ_eq_append_getElem hk, List.countP_append]
  have e : col[k] = c := by
    rw [← h]
    unfold at'
    rw [List.getElem?_eq_getElem hk]
    rfl
  simp [e]
theorem rank_le (col : List UInt8) (c : UInt8) (k : Nat) : rank col c k ≤ col.countP fun x => x == c := (List.take_sublist _ _).countP_le
theorem below_mono (col : List UInt8) {a b : Nat} (h : a ≤ b) : belowOf col a ≤ belowOf col b := by
  unfold belowOf
  rw [← List.countP_eq_length_filter, ← List.countP_eq_length_filter]
  have := List.countP_mono_left (l := col) (p := fun x : UInt8 => decide (x.toNat < a)) (q := fun x : UInt8 => decide (x.toNat < b)) (fun x _ hx => by simp at hx ⊢; omega)
  omega
theorem below_pos (col : List UInt8) (c : Nat) : 1 ≤ belowOf col c := by unfold belowOf; omega
/-- Where an end would stand that is c with the end of row i behind it. -/
def would (col : List UInt8) (last : Nat) (c : UInt8) (i : Nat) : Nat := belowOf col c.toNat + rank col c (placeOf last i)
theorem would_le (col : List UInt8) (last : Nat) (c : UInt8) (i : Nat) : would col last c i ≤ belowOf col (c.toNat + 1) := by
  unfold would
  rw [below_succ]
  have := rank_le col c (placeOf last i)
  omega
theorem would_all (col : List UInt8) (last : Nat) (c : UInt8) (i : Nat) : would col last c i ≤ col.length + 1 := by
  have := would_le col last c i
  have := below_le col (c.toNat + 1)
  omega
theorem would_mono (col : List UInt8) (last : Nat) (c : UInt8) {i j : Nat} (h : i ≤ j) : would col last c i ≤ would col last c j := by
  unfold would
  have := rank_mono col c (placeOf_mono (last := last) h)
  omega
/-- The rows from a on up to b, without it, are those whose ends begin with q. -/
def Begins (col : List UInt8) (last : Nat) (q : List UInt8) (a b : Nat) : Prop := a ≤ b ∧ b ≤ col.length + 1 ∧ ∀ i, i ≤ col.length → ((a ≤ i ∧ i < b) ↔ q <+: spell col last (metAt col last i))
theorem begins_nil (col : List UInt8) (last : Nat) : Begins col last [] 0 (col.length + 1) := ⟨by omega, by omega, fun i hi => ⟨fun _ => List.nil_prefix, fun _ => ⟨by omega, by omega⟩⟩⟩
theorem begins_cons {col : List UInt8} {last : Nat} (H : Whole col last) {q : List UInt8} {a b : Nat} (h : Begins col last q a b) (c : UInt8) : Begins col last (c :: q) (would col last c a) (would col last c b) := by
  obtain ⟨h1, h2, h3⟩ := h
  refine ⟨would_mono _ _ _ h1, would_all _ _ _ _, fun i hi => ?_⟩
  obtain ⟨m1, m2⟩ := metAt_le H hi
  have ba := below_pos col c.toNat
  cases hm : metAt col last i with
  | zero =>
    rw [hm] at m2
    have hi0 : i = 0 := m2.symm
    subst hi0
    constructor
    · rintro ⟨h, _⟩
      unfold would at h
      omega
    · intro h
      simp [spell] at h
  | succ k =>
    rw [hm] at m1 m2
    have hkn : k < col.length := by omega
    have hj := walk_le H k (by omega)
    have hne := H.on k hkn
    have hp := walk_place H hkn
    have hmj := metAt_walk H (k := k) (by omega)
    have e3 := h3 (walk col last k) hj
    rw [hmj] at e3
    have e1 : i = belowOf col (at' col (placeOf last (walk col last k))).toNat + rank col (at' col (placeOf last (walk col last k))) (placeOf last (walk col last k)) := by
      rw [← m2]
      exact back_first col last _ hp
    simp only [spell, List.cons_prefix_cons]
    generalize walk col last k = j at *
    have rs := rank_succ hp rfl
    have rl := rank_le col (at' col (placeOf last j)) (placeOf last j + 1)
    have bs := below_succ col (at' col (placeOf last j))
    constructor
    · rintro ⟨g1, g2⟩
      have hc : c = at' col (placeOf last j) := by
        apply UInt8.toNat_inj.1
        by_cases l1 : c.toNat < (at' col (placeOf last j)).toNat
        · have x1 := below_mono col (a := c.toNat + 1) (b := (at' col (placeOf last j)).toNat) l1
          have x2 := would_le col last c b
          omega
        · by_cases l2 : (at' col (placeOf last j)).toNat < c.toNat
          · have x1 := below_mono col (a := (at' col (placeOf last j)).toNat + 1) (b := c.toNat) l2
            unfold would at g1
            omega
          · omega
      refine ⟨hc, e3.1 ?_⟩
      subst hc
      unfold would at g1 g2
      constructor
      · by_cases l1 : a ≤ j
        · exact l1
        · have x1 := rank_mono col (at' col (placeOf last j)) (placeOf_succ (last := last) (i := j) (j := a) (by omega) hne)
          omega
      · by_cases l1 : j < b
        · exact l1
        · have x1 := rank_mono col (at' col (placeOf last j)) (placeOf_mono (last := last) (i := b) (j := j) (by omega))
          omega
    · rintro ⟨hc, g⟩
      subst hc
      obtain ⟨g1, g2⟩ := e3.2 g
      unfold would
      have x1 := rank_mono col (at' col (placeOf last j)) (placeOf_mono (last := last) g1)
      have x2 := rank_mono col (at' col (placeOf last j)) (placeOf_succ (last := last) g2 hne)
      constructor
      · omega
      · omega
theorem begins_none {col : List UInt8} {last : Nat} (H : Whole col last) {q : List UInt8} {a : Nat} (h : Begins col last q a a) (p : List UInt8) : Begins col last (p ++ q) a a := by
  obtain ⟨h1, h2, h3⟩ := h
  refine ⟨h1, h2, fun i hi => ⟨fun h => by omega, fun h => ?_⟩⟩
  exfalso
  obtain ⟨m1, m2⟩ := metAt_le H hi
  obtain ⟨z, hz⟩ := h
  have hl := congrArg List.length hz
  rw [spell_len] at hl
  simp only [List.length_append] at hl
  have e := congrArg (List.drop p.length) hz
  rw [List.append_assoc, List.drop_left, show p.length = metAt col last i - (metAt col last i - p.length) by omega, spell_drop _ _ _ _ (by omega)] at e
  have hj := walk_le H (metAt col last i - p.length) (by omega)
  have e3 := (h3 _ hj).2
  rw [metAt_walk H (by omega)] at e3
  have := e3 ⟨z, e⟩
  omega
/-- The places of rows, from row a on. -/
def placesAt (col : List UInt8) (last a m : Nat) : List Nat := (List.range m).map fun d => col.length - metAt col last (a + d)
theorem placesAt_len (col : List UInt8) (last a m : Nat) : (placesAt col last a m).length = m := by simp [placesAt]
theorem placesAt_succ (col : List UInt8) (last a m : Nat) : placesAt col last a (m + 1) = placesAt col last a m ++ [col.length - metAt col last (a + m)] := by
  unfold placesAt
  rw [List.range_succ, List.map_append]
  rfl
theorem stands_iff (t p : List UInt8) (i : Nat) : stands t p i = true ↔ p <+: t.drop i := by
  unfold stands
  rw [beq_iff_eq, List.prefix_iff_eq_take]
  exact eq_comm
theorem mem_places (t p : List UInt8) (y : Nat) : y ∈ placesIn t p ↔ y ≤ t.length ∧ p <+: t.drop y := by
  unfold placesIn
  rw [List.mem_filter, List.mem_range, stands_iff]
  constructor
  · rintro ⟨h1, h2⟩
    exact ⟨by omega, h2⟩
  · rintro ⟨h1, h2⟩
    have := h2.length_le
    rw [List.length_drop] at this
    exact ⟨by omega, h2⟩
theorem begins_perm {col : List UInt8} {last : Nat} (H : Whole col last) {p : List UInt8} {a b : Nat} (h : Begins col last p a b) : (placesAt col last a (b - a)).Perm (placesIn (spell col last col.length) p) := by
  obtain ⟨h1, h2, h3⟩ := h
  rw [List.perm_ext_iff_of_nodup]
  · intro y
    rw [mem_places, spell_len]
    unfold placesAt
    rw [List.mem_map]
    constructor
    · rintro ⟨d, hd, rfl⟩
      have hd := List.mem_range.1 hd
      refine ⟨by omega, ?_⟩
      rw [rowsBack_end H (by omega)]
      exact (h3 (a + d) (by omega)).1 ⟨by omega, by omega⟩
    · rintro ⟨hy, hp⟩
      have hw := walk_le H (col.length - y) (by omega)
      have hm := metAt_walk H (k := col.length - y) (by omega)
      have e : (spell col last col.length).drop y = spell col last (col.length - y) := by
        have := spell_drop col last col.length (col.length - y) (by omega)
        rwa [show col.length - (col.length - y) = y by omega] at this
      rw [e] at hp
      have h4 := h3 _ hw
      rw [hm] at h4
      obtain ⟨g1, g2⟩ := h4.2 hp
      refine ⟨walk col last (col.length - y) - a, List.mem_range.2 (by omega), ?_⟩
      rw [show a + (walk col last (col.length - y) - a) = walk col last (col.length - y) by omega, hm]
      omega
  · unfold placesAt
    rw [List.nodup_iff_pairwise_ne, List.pairwise_map]
    refine List.Pairwise.imp_of_mem ?_ List.nodup_range
    intro x y hx hy hxy he
    have hx := List.mem_range.1 hx
    have hy := List.mem_range.1 hy
    obtain ⟨x1, x2⟩ := metAt_le H (i := a + x) (by omega)
    obtain ⟨y1, y2⟩ := metAt_le H (i := a + y) (by omega)
    have : metAt col last (a + x) = metAt col last (a + y) := by omega
    rw [this, y2] at x2
    omega
  · unfold placesIn
    exact List.nodup_range.filter _
theorem begins_count {col : List UInt8} {last : Nat} (H : Whole col last) {p : List UInt8} {a b : Nat} (h : Begins col last p a b) : b - a = (placesIn (spell col last col.length) p).length := by
  have := (begins_perm H h).length_eq
  rwa [placesAt_len] at this
theorem places_sorted (t p : List UInt8) : (placesIn t p).Pairwise (· < ·) := by
  unfold placesIn
  exact List.pairwise_lt_range.filter _
/-- Sorted, they are the places where it stands. -/
theorem begins_sorted {col : List UInt8} {last : Nat} (H : Whole col last) {p : List UInt8} {a b : Nat} (h : Begins col last p a b) : ((placesAt col last a (b - a)).map fun (n : Nat) => (n : Int)).mergeSort (fun x y => decide (x ≤ y)) = (placesIn (spell col last col.length) p).map fun (n : Nat) => (n : Int) := by
  have hp := ((begins_perm H h).map fun (n : Nat) => (n : Int))
  have hs := List.pairwise_mergeSort (le := fun (x y : Int) => decide (x ≤ y)) (fun a b c h1 h2 => by simp at *; omega) (fun a b => by simp; omega) ((placesAt col last a (b - a)).map fun (n : Nat) => (n : Int))
  have hq := List.mergeSort_perm ((placesAt col last a (b - a)).map fun (n : Nat) => (n : Int)) (fun x y => decide (x ≤ y))
  refine List.Perm.eq_of_pairwise (le := fun x y : Int => decide (x ≤ y) = true) ?_ hs ?_ (hq.trans hp)
  · intro x y _ _ h1 h2
    simp at h1 h2
    omega
  · rw [List.pairwise_map]
    refine (places_sorted _ _).imp ?_
    intro x y hxy
    simp
    omega
end Rot
end Go.Proofs.YthlincikgdblfaaGreat

namespace Go.Proofs.YthlincikgdblfaaGreat
open Go.RowKit
set_option linter.unusedVariables false

/-- At which row an end would stand. -/
theorem wouldStand_any (x : Nat) (s : List UInt8) (n r last : Nat) (F : Nat → Nat) (M : List UInt8) (Q : List Nat) (c : UInt8) (i : Nat) (w : World) (h : Xv w x s n r last F M Q) (hF : firstOk F s n) (hn : n ≤ 250) (hl : last ≤ n) (hi : i ≤ n + 1) :
    Calls Tryz.prog 100 #[.pointer (some ⟨x, 0, none⟩), .int .u8 (c.toNat : Int), .int .i64 i] w fun e w' => e = .returned (.int .i64 (Rot.would (Rot.colRead s 44 n) last c i : Nat)) ∧ ∃ j, w' = w.drewN j := by
  have hcx : c.toNat < 256 := c.toNat_lt
  have hfc := (h.first _ hcx).1
  rw [hF _ hcx] at hfc
  have hbl := Rot.below_le (Rot.colRead s 44 n) c.toNat
  rw [Rot.colRead_len] at hbl
  have hic := fun jj => inColumn_any x last i (w.drewN jj) h.last (by omega) (by omega)
  have hcon := fun jj => ahead_any x 3 s 44 n (Rot.placeOf last i) c (w.drewN jj) (h.tree.drewN jj) (by omega) (Rot.placeOf_all hl hi)
  have hcount : ((Rot.colRead s 44 n).take (Rot.placeOf last i)).countP (fun x => x == c) ≤ 300 := by
    have := List.countP_le_length (p := fun x => x == c) (l := (Rot.colRead s 44 n).take (Rot.placeOf last i))
    rw [List.length_take, Rot.colRead_len] at this
    omega
  have HB : Hid (Rot.would (Rot.colRead s 44 n) last c i = Rot.belowOf (Rot.colRead s 44 n) c.toNat + ((Rot.colRead s 44 n).take (Rot.placeOf last i)).countP (fun x => x == c)) := rfl
  have hpl := Rot.placeOf_all hl hi
  generalize ((Rot.colRead s 44 n).take (Rot.placeOf last i)).countP (fun x => x == c) = cn at hcon hcount HB
  generalize Rot.belowOf (Rot.colRead s 44 n) c.toNat = bo at hfc hbl HB
  generalize Rot.would (Rot.colRead s 44 n) last c i = wd at HB ⊢
  generalize Rot.placeOf last i = pl at hcon hic hpl
  generalize c.toNat = cc at *
  clear h hF
  go_enter Tryz.func100, Tryz.ntmps100
  go_wp2_with fail
  go_quiet (first | (go_at_call 86; exact Calls.quiet_of (hcon _)) | (go_at_call 89; exact Calls.quiet_of_same (hic _)))
  go_wp2_with fail
  go_ret
  refine ⟨?_, _, rfl⟩
  rw [unhide HB]
  rfl
/-- Behind k bytes of p (from its end). -/
def BegV (col : List UInt8) (n last : Nat) (p : List UInt8) (w : World) (fv tv kv : Value) (wr : World) : Prop := ∃ a b k j : Nat, k ≤ p.length ∧ kv = .int .i64 ((k : Int) - 1) ∧ fv = .int .i64 (a : Int) ∧ tv = .int .i64 (b : Int) ∧ a ≤ b ∧ b ≤ n + 1 ∧ Hid (Rot.Begins col last (p.drop k) a b) ∧ Hid (wr = w.drewN j)
theorem BegV.mk {col : List UInt8} {n last : Nat} {p : List UInt8} {w wr : World} {fv tv kv : Value} (a b k j : Nat) (h1 : k ≤ p.length) (h2 : kv = .int .i64 ((k : Int) - 1)) (h3 : fv = .int .i64 (a : Int)) (h4 : tv = .int .i64 (b : Int)) (h5 : a ≤ b) (h6 : b ≤ n + 1) (h7 : Rot.Begins col last (p.drop k) a b) (h8 : wr = w.drewN j) : BegV col n last p w fv tv kv wr := ⟨a, b, k, j, h1, h2, h3, h4, h5, h6, h7, h8⟩
set_option maxRecDepth 100000 in
set_option maxHeartbeats 1000000 in
/-- The rows whose ends begin with p. -/
theorem beginningWith_any (x : Nat) (s : List UInt8) (n r last : Nat) (F : Nat → Nat) (M : List UInt8) (Q : List Nat) (p : ByteArray) (w : World) (h : Xv w x s n r last F M Q) (hF : firstOk F s n) (hW : Rot.Whole (Rot.colRead s 44 n) last) (hn : n ≤ 250) (hp : p.size ≤ maxLen) :
    Calls Tryz.prog 66 #[.pointer (some ⟨x, 0, none⟩), .string p] w fun e w' => ∃ a b : Nat, e = .returned (.tuple #[.int .i64 (a : Int), .int .i64 (b : Int)]) ∧ a ≤ b ∧ b ≤ n + 1 ∧ Rot.Begins (Rot.colRead s 44 n) last p.data.toList a b ∧ ∃ j, w' = w.drewN j := by
  unfold maxLen at hp
  have hcl := Rot.colRead_len s 44 n
  have clen := h.len
  have hll := hW.le
  rw [hcl] at hll
  have hpl : p.data.toList.length = p.size := by simp
  have HX := hide h
  have HF := hide hF
  have HWh := hide hW
  clear h hF hW
  have HB0 : Hid (Rot.Begins (Rot.colRead s 44 n) last (p.data.toList.drop p.size) 0 (n + 1)) := by
    rw [← hpl, List.drop_length]
    have := Rot.begins_nil (Rot.colRead s 44 n) last
    rwa [hcl] at this
  generalize hcol : Rot.colRead s 44 n = col at HWh HB0 hcl ⊢
  have HCol := hide hcol
  clear hcol
  have HCL := hide hcl
  clear hcl
  go_enter Tryz.func66, Tryz.ntmps66
  go_wp2_with fail
  go_quiet (fail)
  go_wp2_with fail
  go_loopw [4, 5, 6] (fun fv tv kv wr => BegV col n last p.data.toList w fv tv kv wr) (fun _ _ kv _ => (intOf kv + 1).toNat)
  case atStart => exact BegV.mk 0 (n + 1) p.size nq (by omega) (by go_num) rfl (by go_num) (by omega) (by omega) (unhide HB0) rfl
  case round =>
    obtain ⟨a, b, k, j, hk, rfl, rfl, rfl, hab, hbn, HB, HWr⟩ := hrel
    rw [hpl] at hk
    have HXr : Hid (Xv wr x s n r last F M Q) := by rw [unhide HWr]; exact (unhide HX).drewN j
    by_cases hk0 : k = 0
    · subst hk0
      have d1 : decide ((0 : Int) ≤ ((0 : Nat) : Int) - 1) = false := by simp
      have HE : Hid (Rot.Begins col last p.data.toList a b) := by have := unhide HB; rwa [List.drop_zero] at this
      clear HB HX HXr HB0
      go_wp2_with fail
      go_ret2
      exact ⟨a, b, rfl, hab, hbn, unhide HE, j, unhide HWr⟩
    obtain ⟨k', hk'⟩ : ∃ k', k = k' + 1 := ⟨k - 1, by omega⟩
    subst hk'
    have hkk : ((k' + 1 : Nat) : Int) - 1 = (k' : Int) := by omega
    rw [hkk]
    have d1 : decide ((0 : Int) ≤ (k' : Int)) = true := by simp
    by_cases hlt : a < b
    · have d2 : decide ((a : Int) < (b : Int)) = true := by simp; omega
      have hidx : k' < p.size := by omega
      have hws := fun (y : Nat) (hy : y ≤ n + 1) (jj : Nat) => wouldStand_any x s n r last F M Q (p[k']'hidx) y (wr.drewN jj) ((unhide HXr).drewN jj) (unhide HF) hn hll hy
      rw [unhide HCol] at hws
      have HE : Hid (Rot.Begins col last (p.data.toList.drop k') (Rot.would col last (p[k']'hidx) a) (Rot.would col last (p[k']'hidx) b)) := by
        have h1 := Rot.begins_cons (unhide HWh) (unhide HB) (p[k']'hidx)
        have e : p.data.toList.drop k' = (p[k']'hidx) :: p.data.toList.drop (k' + 1) := by
          rw [List.drop_eq_getElem_cons (by omega)]
          rfl
        rw [e]
        exact h1
      have hm := (unhide HE).1
      have hm2 := (unhide HE).2.1
      rw [unhide HCL] at hm2
      generalize Rot.would col last (p[k']'hidx) = W2 at hws HE hm hm2
      have han : a ≤ n + 1 := by omega
      clear HB HX HXr HB0 hkk
      go_wp2_with fail
      go_quiet ((go_at_call 100; exact Calls.quiet_of (hws _ (by assumption) _)))
      go_wp2_with fail
      go_roundw
      case rel => exact BegV.mk (W2 a) (W2 b) k' (j + nq) (by omega) (by go_num) rfl rfl hm hm2 (unhide HE) (by rw [unhide HWr]; exact World.drewN_drewN _ _ _)
      case measure => first | (simp [intOf]; done) | (simp [intOf]; omega)
    · have hae : a = b := by omega
      subst hae
      have d2 : decide ((a : Int) < (a : Int)) = false := by simp
      have HE : Hid (Rot.Begins col last p.data.toList a a) := by
        have := Rot.begins_none (unhide HWh) (unhide HB) (p.data.toList.take (k' + 1))
        rwa [List.take_append_drop] at this
      clear HB HX HXr HB0 hkk
      go_wp2_with fail
      go_ret2
      exact ⟨a, a, rfl, hab, hbn, unhide HE, j, unhide HWr⟩
end Go.Proofs.YthlincikgdblfaaGreat
