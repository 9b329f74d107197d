import Derived.Test.YthlincikgdblfaaGreatU03
import Derived.Test.YthlincikgdblfaaGreatShelf4
import Derived.Sort.OwnSortedInts
import Derived.Test.YthlincikgdblfaaGreatV09
import Derived.Test.YthlincikgdblfaaGreatU02
import Derived.Deep.RegionHeld
namespace Go.Proofs.YthlincikgdblfaaGreat
open Go.RowKit
set_option linter.unusedVariables false

/-- How often p stands in the text. -/
theorem xCount_any (x : Nat) (s : List UInt8) (n r last : Nat) (F : Nat → Nat) (M : List UInt8) (Q : List Nat) (p : ByteArray) (t : List UInt8) (w : World) (h : Xv w x s n r last F M Q) (hF : firstOk F s n) (hW : Rot.Whole (Rot.colRead s 44 n) last) (ht : t = Rot.spell (Rot.colRead s 44 n) last n) (hn : n ≤ 250) (hp : p.size ≤ maxLen) :
    Calls Tryz.prog 65 #[.pointer (some ⟨x, 0, none⟩), .string p] w fun e w' => e = .returned (.int .i64 ((Rot.placesIn t p.data.toList).length : Nat)) ∧ ∃ j, w' = w.drewN j := by
  have hcon := beginningWith_any x s n r last F M Q p w h hF hW hn hp
  have hcl := Rot.colRead_len s 44 n
  have HWh := hide hW
  have HT := hide ht
  have HCL := hide hcl
  clear h hF hW ht hcl
  go_enter Tryz.func65, Tryz.ntmps65
  go_wp2_with fail
  refine hcon.mono ?_
  rintro e w1 ⟨a, b, rfl, hab, hbn, hB, j, hw1⟩
  have HB := hide hB
  have HW1 := hide hw1
  clear hcon hB hw1
  go_wp2_with fail
  go_ret
  refine ⟨?_, j, unhide HW1⟩
  have hc := Rot.begins_count (unhide HWh) (unhide HB)
  rw [unhide HCL, ← unhide HT] at hc
  have e : (b : Int) - (a : Int) = (((Rot.placesIn t p.data.toList).length : Nat) : Int) := by omega
  rw [e]
  rfl
/-- A list of the call's own, with no room behind it. -/
def Lst (w : World) (B : Nat) (v : Value) (d : List Nat) : Prop := ∃ g cap full, v = .slice (some ⟨g, 0, none⟩) d.length d.length ∧ Is w B (.slice (some ⟨g, 0, none⟩) full.length cap) full ∧ full.take d.length = d
theorem wp_appN (w : World) {ops : Array Oper} {rest : List Oper} {o : Oper} {a : Act} {Q : Exit → Act → World → Prop} (hgd : o.guard = none) (s x : Operand)
    (ho : o.op = .call { callee := .builtin .append, args := #[s, x], argTypes := #[25, 25] })
    (B : Nat) (v : Value) (l : List Nat) (hs : a.eval s = v) (hown : Is w B v l) (hne : v ≠ .slice none 0 0) (ad : Addr) (c n : Nat) (m : List Nat) (hn : m.length = n) (hx : a.eval x = .slice (some ad) n c) (hm : ∀ j u, (byI m)[j]? = some u → w.cell? (ad.add j) = some u)
    (hl : l.length + m.length < 1000000) (hB : B ≤ w.heap.size)
    (h : ∀ v' w', Is w' B v' (l ++ m) → v' ≠ .slice none 0 0 → w.grownBy w' v.ownBlock → wpList Tryz.prog ops Q rest (a.put o.dst v') w') : wpList Tryz.prog ops Q (o :: rest) a w := by
  subst hn
  obtain ⟨i0, hi, hz0, hz1, hz2⟩ := info_parts infoI
  refine wpList_append_own_at w hgd s x 25 ho B 3 i0 (.int .i64 0) 1 8 Tryz.underlying25 hi hz0 hz1 hz2 rfl (by decide) v l.length (byI l) hs hown ad m.length c (byI m) hx (by rw [byI_length]; omega) hm (byI_one m) (by unfold maxLen; omega) (by omega) hB ?_
  intro v' w' h1 h2 h3 h4
  refine h v' w' ?_ (fun e => hne (h3.1 e).1) h2
  unfold Is; rw [byI_append, List.length_append]; exact h1
def LocV (col : List UInt8) (last a b : Nat) (w : World) (lv iv : Value) (wr : World) : Prop := ∃ d : Nat, a + d ≤ b ∧ iv = .int .i64 ((a + d : Nat) : Int) ∧ Is wr w.heap.size lv (Rot.placesAt col last a d) ∧ lv ≠ .slice none 0 0 ∧ w.grownBy wr none
theorem LocV.mk {col : List UInt8} {last a b : Nat} {w wr : World} {lv iv : Value} (d : Nat) (h1 : a + d ≤ b) (h2 : iv = .int .i64 ((a + d : Nat) : Int)) (h3 : Is wr w.heap.size lv (Rot.placesAt col last a d)) (h4 : lv ≠ .slice none 0 0) (h5 : w.grownBy wr none) : LocV col last a b w lv iv wr := ⟨d, h1, h2, h3, h4, h5⟩
set_option maxRecDepth 100000 in
set_option maxHeartbeats 1000000 in
theorem xLocate_any (x : Nat) (s : List UInt8) (n r last : Nat) (F : Nat → Nat) (M : List UInt8) (Q : List Nat) (p : ByteArray) (most : Nat) (t : List UInt8) (w : World) (h : ∀ w', w.grownBy w' none → Xv w' x s n r last F M Q) (hF : firstOk F s n) (hW : Rot.Whole (Rot.colRead s 44 n) last) (hk : walkOk (Rot.colRead s 44 n) n r last M Q) (hQ : Q.length = Rot.os M (n + 1)) (hQb : ∀ q ∈ Q, q < 65536) (ht : t = Rot.spell (Rot.colRead s 44 n) last n) (hn : n ≤ 250) (hr1 : 1 ≤ r) (hp : p.size ≤ maxLen) (hm : most ≤ 9223372036854775807) :
    Calls Tryz.prog 37 #[.pointer (some ⟨x, 0, none⟩), .string p, .int .i64 most] w fun e w' => ∃ v, e = .returned v ∧ Lst w' w.heap.size v ((Rot.placesIn t p.data.toList).take most) ∧ w.grownBy w' none := by
  obtain ⟨i0, hi, hz0, hz1, hz2⟩ := info_parts infoI
  have hcon := beginningWith_any x s n r last F M Q p w (h w (World.grownBy.refl _ _)) hF hW hn hp
  have hat := fun (i : Nat) (hi : i ≤ n) (w' : World) (g : w.grownBy w' none) => at_row x s n r last F M Q i w' (h w' g) hF hW hk hQ hQb hn hr1 hi
  have hcl := Rot.colRead_len s 44 n
  have HWh := hide hW
  have HT := hide ht
  have HAT := hide hat
  clear h hF hW hk hQ hQb ht hat
  generalize Rot.colRead s 44 n = col at HWh HT HAT hcl hcon
  have HCL := hide hcl
  clear hcl
  go_enter Tryz.func37, Tryz.ntmps37
  go_wp2_with fail
  refine hcon.mono ?_
  rintro e w1 ⟨a, b, rfl, hab, hbn, hB, j, hw1⟩
  have HB := hide hB
  have HG1 : Hid (w.grownBy w1 none) := by rw [hw1]; exact grown_drewN (World.grownBy.refl _ _) j
  have hsz1 : w1.heap.size = w.heap.size := by rw [hw1]; rfl
  clear hcon hB hw1
  obtain ⟨d, hd⟩ : ∃ d, b = a + d := ⟨b - a, by omega⟩
  have hbd : (b : Int) - (a : Int) = (d : Int) := by omega
  have HD := hide hd
  have hdn : d ≤ 300 := by omega
  clear hd
  go_wp2_with (at_make; refine wpList_make_own _ rfl _ _ 25 rfl w1.heap.size 3 i0 (.int .i64 0) 1 Tryz.underlying25 hi hz0 hz1 .i64 .i64 _ d rfl rfl rfl ?m1 ?m2 (Nat.le_refl _) ?_)
  case m1 => rw [hz2]; omega
  case m2 => unfold maxLen; omega
  intro w2 O2 G2
  have P0 : LocV col last a b w (.slice (some ⟨w.heap.size, 0, none⟩) 0 d) (.int .i64 (a : Int)) w2 := LocV.mk 0 (by omega) rfl O2 (by simp) (grown_trans (unhide HG1) G2 (Or.inl rfl))
  clear O2 G2
  go_wp2_with fail
  go_loopw [9, 10] (fun lv iv wr => LocV col last a b w lv iv wr) (fun _ iv _ => b - (intOf iv).toNat)
  case atStart => exact P0
  case round =>
    obtain ⟨k, hkb, rfl, L, hne, G⟩ := hrel
    clear P0
    have hsz := G.size
    by_cases hlt : a + k < b
    · have hca := unhide HAT (a + k) (by omega) wr G
      have HF2 := hide (Rot.placesAt_succ col last a k)
      rw [unhide HCL] at HF2
      have hpl : (Rot.placesAt col last a k).length = k := Rot.placesAt_len _ _ _ _
      have hdl : decide (((a + k : Nat) : Int) < (b : Int)) = true := by simp; omega
      generalize hmm : n - Rot.metAt col last (a + k) = pl at hca HF2
      have hpn : pl ≤ 250 := by omega
      clear hmm
      go_wp2_with fail
      refine hca.mono ?_
      rintro e w3 ⟨rfl, j3, hw3⟩
      have L3 : Is w3 w.heap.size u9 (Rot.placesAt col last a k) := by rw [hw3]; exact L
      have HG3 : Hid (w.grownBy w3 none) := by rw [hw3]; exact grown_drewN G j3
      have hsz3 : w.heap.size ≤ w3.heap.size := (unhide HG3).size
      clear hca hw3 L G
      go_wp2_with (at_builtin; refine wp_appN _ rfl (.tmp 28) (.tmp 32) rfl w.heap.size _ _ rfl (World.ownsRow.alloc L3 _) hne ⟨w3.heap.size, 0, none⟩ 1 1 [pl] rfl rfl (cell_one_new _ _ _) ?a2 ?a3 ?_)
      case a2 => simp only [List.length_singleton]; omega
      case a3 => simp; omega
      intro v1 w4 L4 ne4 g4
      have HL : Hid (Is w4 w.heap.size v1 (Rot.placesAt col last a (k + 1))) := by rw [unhide HF2]; exact L4
      have HG := hide (grown_trans (grown_alloc (unhide HG3) _) g4 (by
        cases e : u9.ownBlock with
        | none => exact Or.inl rfl
        | some j => exact Or.inr ⟨j, rfl, (World.ownsRow.lt L3 j e).1⟩))
      have HNE := hide ne4
      clear L4 g4 L3 HG3 ne4 hne
      go_wp2_with fail
      go_roundw
      case rel =>
        first | exact LocV.mk (k + 1) (by omega) (by go_num) (unhide HL) (unhide HNE) (unhide HG) | (repeat apply Exists.intro; refine ⟨?_, rfl⟩; exact LocV.mk (k + 1) (by omega) (by go_num) (unhide HL) (unhide HNE) (unhide HG))
      case measure => first | (simp [intOf]; done) | (simp [intOf]; omega)
    · have ek : k = d := by have := unhide HD; omega
      subst ek
      have hpl : (Rot.placesAt col last a k).length = k := Rot.placesAt_len _ _ _ _
      have hso := Rot.begins_sorted (unhide HWh) (unhide HB)
      have hpm := (Rot.begins_perm (unhide HWh) (unhide HB)).length_eq
      rw [show b - a = k by have := unhide HD; omega] at hso hpm
      rw [unhide HCL, ← unhide HT] at hso hpm
      rw [hpl] at hpm
      have hdl : decide (((a + k : Nat) : Int) < (b : Int)) = false := by simp; omega
      obtain ⟨L1, L2⟩ := L
      rcases L2 with ⟨h0, _⟩ | ⟨g, cap, cur, rfl, hgb, hg, hgn, hgm, hgc, hgt⟩
      · exact absurd h0 hne
      rw [hpl] at hgn hgt
      rw [hpl]
      have hzl : ((Rot.placesAt col last a k).map fun (n : Nat) => (n : Int)).length = k := by rw [List.length_map, hpl]
      have hH := holds_of_blockI (ss := (Rot.placesAt col last a k).map fun (n : Nat) => (n : Int)) hg (by rw [hzl]; rw [Nat.mul_one] at hgt; rw [hgt]; simp [byI])
      have hsort := Tryz.slices_Sort_int g 0 cap _ wr hH (Array.getElem?_eq_some_iff.1 hg).1 (by rw [hzl]; omega)
      rw [hzl, hso] at hsort
      have hown := fun (nn : Nat) (os : Array Obj) => ownsRow_sortedI (w := wr) (n := nn) (os := os) (ss := (Rot.placesAt col last a k).map fun (n : Nat) => (n : Int)) (ts := (Rot.placesIn t p.data.toList).map fun (n : Nat) => (n : Int)) (by rw [List.length_map, List.length_map, hpl]; exact hpm.symm) hgb hg (by rw [hzl]; exact hgn) hgm hgc
      rw [hzl] at hown
      have HO : Hid (∀ (nn : Nat) (os : Array Obj), Is (Sort.grow (Sort.putRow (Value.int .i64) (Sort.ahead wr nn) g 0 ((Rot.placesIn t p.data.toList).map fun (n : Nat) => (n : Int)).toArray) os) w.heap.size (.slice (some ⟨g, 0, none⟩) (Rot.placesIn t p.data.toList).length cap) (Rot.placesIn t p.data.toList)) := by
        intro nn os
        have := hown nn os
        unfold Is
        rw [hpm, List.map_map] at this
        exact this
      have HGr : Hid (∀ (nn : Nat) (os : Array Obj), w.grownBy (Sort.grow (Sort.putRow (Value.int .i64) (Sort.ahead wr nn) g 0 ((Rot.placesIn t p.data.toList).map fun (n : Nat) => (n : Int)).toArray) os) none) := fun nn os => grown_trans G (grownBy_sortedI (w := wr) (g := g) (n := nn) (os := os) _) (Or.inr ⟨g, rfl, hgb⟩)
      have hkl : k ≤ 251 := by have := unhide HD; omega
      clear hown hH hgt hgc hgm hg L1 hso hzl hne G HT HAT HB HWh
      generalize hpls : Rot.placesIn t p.data.toList = pls at hsort HO HGr hpm ⊢
      have HPM := hide hpm
      have HPL := hide hpls
      clear hpm hpls
      go_wp2_with fail
      refine hsort.mono ?_
      rintro e w5 ⟨rfl, nn, os, hw5⟩
      have I5 := unhide HO nn os
      have HG5 := hide (unhide HGr nn os)
      rw [← hw5] at I5 HG5
      have HI5 := hide I5
      clear hsort hw5 HO HGr I5
      obtain ⟨q, hq⟩ : ∃ q : Nat, q = min most k := ⟨_, rfl⟩
      have hqi : min (most : Int) (k : Int) = (q : Int) := by omega
      have hqk : q ≤ k := by omega
      have HQM := hide hq
      have hqm : q ≤ most := by omega
      clear hq
      go_wp2_with fail
      go_ret
      refine ⟨_, rfl, ?_, unhide HG5⟩
      rw [unhide HPL]
      have hl : (pls.take most).length = q := by rw [List.length_take, unhide HQM, unhide HPM]
      refine ⟨g, cap, pls, ?_, unhide HI5, ?_⟩
      · rw [hl]
        rfl
      · rw [hl]
        by_cases e : most ≤ pls.length
        · rw [unhide HQM, unhide HPM, Nat.min_eq_left e]
        · rw [unhide HQM, unhide HPM, List.take_of_length_le (by omega), List.take_of_length_le (by omega)]
theorem nums_len13 (l : List UInt8) (k : Nat) : (Rot.nums l k).length = k := by simp [Rot.nums]
theorem nums_lt13 (l : List UInt8) (k : Nat) : ∀ q ∈ Rot.nums l k, q < 65536 := by
  intro q hq
  simp only [Rot.nums, List.mem_map] at hq
  obtain ⟨i, _, rfl⟩ := hq
  unfold Rot.numAt
  have h1 : ((l[2 * i]?).getD 0).toNat < 256 := ((l[2 * i]?).getD 0).toNat_lt
  have h2 : ((l[2 * i + 1]?).getD 0).toNat < 256 := ((l[2 * i + 1]?).getD 0).toNat_lt
  omega
theorem count_nil (p : ByteArray) (w : World) : Calls Tryz.prog 36 #[.pointer none, .string p] w fun e w' => e = .returned (.int .i64 0) ∧ w' = w := by
  have hc := isNone_nil w
  go_enter Tryz.func36, Tryz.ntmps36
  go_wp2_with fail
  refine hc.mono ?_
  rintro e w2 ⟨rfl, hw2⟩
  subst hw2
  clear hc
  go_wp2_with fail
  go_ret
  exact ⟨rfl, rfl⟩
/-- COUNT, of an index. -/
theorem count_idx (B x : Nat) (s t : List UInt8) (r : Nat) (p : ByteArray) (w : World) (h : Idx B w x s t r) (hp : p.size ≤ maxLen) :
    Calls Tryz.prog 36 #[.pointer (some ⟨x, 0, none⟩), .string p] w fun e w' => e = .returned (.int .i64 ((Rot.placesIn t p.data.toList).length : Nat)) ∧ ∃ j, w' = w.drewN j := by
  obtain ⟨hf, _, y, _, hx⟩ := h
  obtain ⟨h1, h2, h3, _, h5⟩ := file_tells2 hf
  obtain ⟨c0, X⟩ := hx w (Stay.refl _ _)
  have hc := isNone_some x y w c0
  have hcon := xCount_any y s t.length r (lastIn s) _ _ _ p t w X h1 h2 h3 h5 hp
  generalize (Rot.placesIn t p.data.toList).length = c at hcon ⊢
  clear hx X h1 h2 h3
  go_enter Tryz.func36, Tryz.ntmps36
  go_wp2_with fail
  refine hc.mono ?_
  rintro e w2 ⟨rfl, hw2⟩
  subst hw2
  clear hc
  go_wp2_with fail
  refine hcon.mono ?_
  rintro e w3 ⟨rfl, j, hw3⟩
  have HW3 := hide hw3
  clear hcon hw3
  go_wp2_with fail
  go_ret
  exact ⟨rfl, j, unhide HW3⟩
/-- LOCATE, of an index. -/
theorem locate_yes (B x : Nat) (s t : List UInt8) (r : Nat) (p : ByteArray) (most : Nat) (w : World) (h : Idx B w x s t r) (hp : p.size ≤ maxLen) (hm : most ≤ 9223372036854775807) :
    Calls Tryz.prog 23 #[.pointer (some ⟨x, 0, none⟩), .string p, .int .i64 most] w fun e w' => ∃ v, e = .returned (.tuple #[v, .int .i64 0]) ∧ Lst w' w.heap.size v ((Rot.placesIn t p.data.toList).take most) ∧ w.grownBy w' none := by
  obtain ⟨hf, _, y, _, hx⟩ := h
  obtain ⟨h1, h2, h3, h4, h5⟩ := file_tells2 hf
  obtain ⟨c0, X⟩ := hx w (Stay.refl _ _)
  have hc := isNone_some x y w c0
  have hr1 : 1 ≤ r := (Rot.rate_le hf.2.1).1
  have hcon := xLocate_any y s t.length r (lastIn s) _ _ _ p most t w (fun w' g => (hx w' (Stay.of g (fun _ e => by simp at e))).2) h1 h2 h4 (nums_len13 _ _) (nums_lt13 _ _) h3 h5 hr1 hp hm
  have d : decide ((most : Int) < 0) = false := by simp
  generalize (Rot.placesIn t p.data.toList).take most = c at hcon ⊢
  clear hx X h1 h2 h3 h4
  go_enter Tryz.func23, Tryz.ntmps23
  go_wp2_with fail
  refine hc.mono ?_
  rintro e w2 ⟨rfl, hw2⟩
  subst hw2
  clear hc
  go_wp2_with fail
  refine hcon.mono ?_
  rintro e w3 ⟨v, rfl, hL, hG⟩
  have HL := hide hL
  have HG := hide hG
  obtain ⟨g, cap, full, rfl, _, _⟩ := hL
  clear hcon hG
  go_wp2_with fail
  go_ret2
  exact ⟨_, rfl, unhide HL, unhide HG⟩
theorem locate_no (B x : Nat) (s t : List UInt8) (r : Nat) (p : ByteArray) (most : Int) (w : World) (h : Idx B w x s t r) (hm : most < 0) :
    Calls Tryz.prog 23 #[.pointer (some ⟨x, 0, none⟩), .string p, .int .i64 most] w fun e w' => e = .returned (.tuple #[.slice none 0 0, .int .i64 1]) ∧ w' = w := by
  obtain ⟨hf, _, y, _, hx⟩ := h
  obtain ⟨c0, X⟩ := hx w (Stay.refl _ _)
  have hc := isNone_some x y w c0
  have d : decide (most < 0) = true := by simpa using hm
  clear hx X
  go_enter Tryz.func23, Tryz.ntmps23
  go_wp2_with fail
  refine hc.mono ?_
  rintro e w2 ⟨rfl, hw2⟩
  subst hw2
  clear hc
  go_wp2_with fail
  go_ret2
  exact ⟨rfl, rfl⟩
end Go.Proofs.YthlincikgdblfaaGreat

namespace Go.Proofs.YthlincikgdblfaaGreat
set_option linter.unusedVariables false
open Go.RowKit

theorem lpick_any (c : Int) (n : Nat) (w : World) (h1 : -9223372036854775808 ≤ c) (h2 : c ≤ 9223372036854775807) (hn : 1 ≤ n) (hn2 : n ≤ 4611686018427387904) :
    Calls Tryz.prog 41 #[.int .i64 c, .int .i64 n] w fun e w' => e = .returned (.int .i64 (pickOf c n : Int)) ∧ w' = w := by
  have hz : ((n : Int) == 0) = false := by simp; omega
  by_cases hc : c < 0
  · go_enter Tryz.func41, Tryz.ntmps41
    go_wp2
    go_ret
    refine ⟨ret_int ?_, rfl⟩
    unfold pickOf
    rw [if_pos hc, Int.natCast_emod, Int.toNat_of_nonneg (by omega), ← Int.neg_tmod, Int.tmod_eq_emod_of_nonneg (by omega)]
  · go_enter Tryz.func41, Tryz.ntmps41
    go_wp2
    go_ret
    refine ⟨ret_int ?_, rfl⟩
    unfold pickOf
    rw [if_neg (by omega), Int.natCast_emod, Int.toNat_of_nonneg (by omega)]
theorem Wv.shape {K0 : Nat → Prop} {g : Nat} {w : World} {v : Value} {ps : List Pr} (h : Wv K0 g w v ps) : ∃ va m vc, v = .slice va m vc ∧ m = ps.length ∧ (m = 0 ∨ ∃ gi, va = some ⟨gi, 0, none⟩ ∧ ∀ i (hi : i < ps.length), w.cell? ⟨gi, i * 2, none⟩ = some (.pointer (some ⟨(ps[i]'hi).p, 0, none⟩)) ∧ w.cell? ⟨gi, i * 2 + 1, none⟩ = some (.pointer (some ⟨(ps[i]'hi).g, 0, none⟩))) := by
  have hr := h.row
  rcases h.row.2 with ⟨h0, h1⟩ | ⟨gi, cap, cur, hv, _⟩
  · exact ⟨none, 0, 0, h0, h1.symm, Or.inl rfl⟩
  · refine ⟨_, _, _, hv, rfl, Or.inr ⟨gi, rfl, fun i hi => ?_⟩⟩
    have hc := prCells_at ps i hi
    have c0 := World.ownsRow.cells h.row (g := gi) (by rw [hv]; rfl) (i * 2) _ hc.1
    have c1 := World.ownsRow.cells h.row (g := gi) (by rw [hv]; rfl) (i * 2 + 1) _ hc.2
    rw [addr_add] at c0 c1
    exact ⟨c0, c1⟩
set_option maxRecDepth 100000 in
set_option maxHeartbeats 2000000 in
theorem step_ask (K0 : Nat → Prop) (s : ByteArray) (kd a k b : Int) (lv : Value) (g : Nat) (v : Value) (ps : List Pr) (w : World) (hW : Wv K0 g w v ps) (hk1 : kd ≠ 1) (hk2 : kd ≠ 2) (hk3 : kd ≠ 3) (hk4 : kd ≠ 4) (hk8 : kd ≠ 8) (hk : -9223372036854775808 ≤ k ∧ k ≤ 9223372036854775807) (hs : s.size ≤ 140737488351232) (hps : ps.length ≤ 4611686018427387904) :
    Calls Tryz.prog 24 #[.pointer (some ⟨g, 0, none⟩), .agg #[.int .i64 kd, .int .i64 k, .string s, .int .i64 a, .int .i64 b, lv]] w fun en w' => en = .returned (.bool true) ∧ StepOut K0 g v ps w w' := by
  have e1 : (kd == 1) = false := by simp; omega
  have e2 : (kd == 2) = false := by simp; omega
  have e3 : (kd == 3) = false := by simp; omega
  have e4 : (kd == 4) = false := by simp; omega
  have e8 : (kd == 8) = false := by simp; omega
  have HB0 : Hid (Below w.heap.size w (w.alloc (.cells #[.int .i64 kd, .int .i64 k, .string s, .int .i64 a, .int .i64 b, lv] 58))) := Below.alloc0 _
  obtain ⟨hW1, _⟩ := hW.below (unhide HB0)
  have HW := hide hW
  obtain ⟨va, m, vc, rfl, hm, hsh⟩ := hW1.shape
  have z0 := hW1.c0
  have HM := hide hm
  by_cases hm0 : m = 0
  · subst hm0
    clear hW1 hsh hm hW
    go_enter Tryz.func24, Tryz.ntmps24
    go_wp2_with fail
    go_ret
    exact ⟨rfl, StepOut.below (unhide HW) (unhide HB0)⟩
  rcases hsh with h0 | ⟨gi, rfl, hcells⟩
  · exact absurd h0 hm0
  have hpk := fun W => lpick_any k m W hk.1 hk.2 (by omega) (by omega)
  have hpl := pick_lt k m (by omega)
  generalize pickOf k m = i at hpk hpl
  have hip : i < ps.length := by omega
  obtain ⟨y0, y1⟩ := hcells i hip
  have hQ := hW1.ok _ (List.getElem_mem hip)
  generalize ps[i]'hip = q at y0 y1 hQ
  have HQ := hide hQ
  have hme : ((m : Int) == 0) = false := by simp; omega
  have o0 := cells_new8 w [.int .i64 kd, .int .i64 k, .string s, .int .i64 a, .int .i64 b, lv] 58 0 (by simp)
  have o1 := cells_new8 w [.int .i64 kd, .int .i64 k, .string s, .int .i64 a, .int .i64 b, lv] 58 1 (by simp)
  have o2 := cells_new8 w [.int .i64 kd, .int .i64 k, .string s, .int .i64 a, .int .i64 b, lv] 58 2 (by simp)
  have o3 := cells_new8 w [.int .i64 kd, .int .i64 k, .string s, .int .i64 a, .int .i64 b, lv] 58 3 (by simp)
  have o4 := cells_new8 w [.int .i64 kd, .int .i64 k, .string s, .int .i64 a, .int .i64 b, lv] 58 4 (by simp)
  have hsz1 : (w.alloc (.cells #[.int .i64 kd, .int .i64 k, .string s, .int .i64 a, .int .i64 b, lv] 58)).heap.size = w.heap.size + 1 := by simp
  have him : i < m := hpl
  clear hcells hQ hW1 hm hW hip
  go_enter Tryz.func24, Tryz.ntmps24
  go_upto_region 16 with fail
  generalize w.alloc (.cells #[.int .i64 kd, .int .i64 k, .string s, .int .i64 a, .int .i64 b, lv] 58) = w1 at z0 y0 y1 o0 o1 o2 o3 o4 HB0 HQ hsz1 ⊢
  have HSZ1 := hide hsz1
  simp only [List.getElem_cons_zero, List.getElem_cons_succ] at o0 o1 o2 o3 o4
  have y0a := (World.cell?_alloc_lt _ (.cells #[.pointer none, .pointer none] 87) _ (World.block_lt_of_cell? _ _ y0)).trans y0
  have y1a := (World.cell?_alloc_lt _ (.cells #[.pointer none, .pointer none] 87) _ (World.block_lt_of_cell? _ _ y1)).trans y1
  have z0a := (World.cell?_alloc_lt _ (.cells #[.pointer none, .pointer none] 87) _ (World.block_lt_of_cell? _ _ z0)).trans z0
  have o1a := (World.cell?_alloc_lt _ (.cells #[.pointer none, .pointer none] 87) _ (World.block_lt_of_cell? _ _ o1)).trans o1
  clear hsz1
  go_cut [13] (fun bv wx => ∃ pb, bv = .pointer (some ⟨pb, 0, none⟩) ∧ Below w1.heap.size w1 wx ∧ wx.cell? ⟨pb, 0, none⟩ = some (.pointer (some ⟨q.p, 0, none⟩)) ∧ wx.cell? ⟨pb, 1, none⟩ = some (.pointer (some ⟨q.g, 0, none⟩)))
  case first =>
    go_region_held (fun w' => w'.cell? ⟨g, 0, none⟩ = some (.slice (some ⟨gi, 0, none⟩) m vc) ∧ w'.cell? ⟨w.heap.size, 1, none⟩ = some (.int .i64 k) ∧ w'.cell? ⟨gi, i * 2, none⟩ = some (.pointer (some ⟨q.p, 0, none⟩)) ∧ w'.cell? ⟨gi, i * 2 + 1, none⟩ = some (.pointer (some ⟨q.g, 0, none⟩))) (simp [*, World.cell?_alloc_some]) (first | (go_at_call 41; refine (hpk _).mono ?_; rintro e w9 ⟨rfl, rfl⟩))
    all_goals
      go_wp2_with fail
      go_meet
      exact ⟨_, rfl, Below.drew (Below.alloc0 _), cells_new8 w1 [.pointer (some ⟨q.p, 0, none⟩), .pointer (some ⟨q.g, 0, none⟩)] _ 0 (by simp), cells_new8 w1 [.pointer (some ⟨q.p, 0, none⟩), .pointer (some ⟨q.g, 0, none⟩)] _ 1 (by simp)⟩
  case rest =>
  obtain ⟨pb, rfl, hBx, x0, x1⟩ := hcut
  have hlt1 : w.heap.size < w1.heap.size := by have := unhide HSZ1; omega
  have HB2 : Hid (Below w.heap.size w wc) := (unhide HB0).trans (hBx.mono (Nat.le_of_lt hlt1))
  have p0 := (hBx.cell (p := ⟨w.heap.size, 0, none⟩) hlt1).trans o0
  have p2 := (hBx.cell (p := ⟨w.heap.size, 2, none⟩) hlt1).trans o2
  have p3 := (hBx.cell (p := ⟨w.heap.size, 3, none⟩) hlt1).trans o3
  have p4 := (hBx.cell (p := ⟨w.heap.size, 4, none⟩) hlt1).trans o4
  obtain ⟨⟨B, sB, hidx⟩, r0, r1⟩ := unhide HQ wc (Keeps.below hBx)
  have hql : q.t.length ≤ 250 := hidx.1.1
  have hSq := Sb_size q.t
  have HX := hide hidx
  clear hBx o0 o1 o2 o3 o4 y0 y1 z0 HQ HB0 hpk hpl him hlt1 hidx
  by_cases h5 : kd = 5
  · subst h5
    have hlen := len_idx _ _ _ _ _ _ (unhide HX)
    have hrate := rate_idx _ _ _ _ _ _ (unhide HX)
    go_wp2_with fail
    refine hlen.mono ?_
    rintro en w3 ⟨rfl, hw⟩
    replace hw := hw.symm
    subst hw
    go_wp2_with fail
    refine hrate.mono ?_
    rintro en w3 ⟨rfl, hw⟩
    replace hw := hw.symm
    subst hw
    clear hlen hrate
    go_wp2_with fail
    go_ret
    exact ⟨by simp, StepOut.below (unhide HW) (unhide HB2)⟩
  have e5 : (kd == 5) = false := by simp; omega
  by_cases h6 : kd = 6
  · subst h6
    by_cases hr : 0 ≤ a ∧ a ≤ b ∧ b ≤ q.t.length
    · obtain ⟨A, rfl⟩ : ∃ A : Nat, a = (A : Int) := ⟨a.toNat, by omega⟩
      obtain ⟨C, rfl⟩ : ∃ C : Nat, b = (C : Int) := ⟨b.toNat, by omega⟩
      have hex := extract_yes _ _ _ _ _ A C wc (unhide HX) (by omega) (by omega)
      have hpc : Sb ((q.t.drop A).take (C - A)) = (Sb q.t).extract A C := by
        have := sb_piece (Sb q.t) A C
        rwa [Sb_toList] at this
      rw [hpc] at hex
      clear hpc
      go_wp2_with fail
      refine hex.mono ?_
      rintro en w3 ⟨rfl, G3⟩
      have x1' := cell_grown6 x1 G3
      have p3' := cell_grown6 p3 G3
      have p4' := cell_grown6 p4 G3
      have hrx := rextract_yes q.t q.g A C w3 (cell_grown6 r0 G3) hql (by omega) (by omega)
      have HB3 := hide (below_on (unhide HB2) G3 (Nat.le_refl _))
      generalize (Sb q.t).extract A C = pc at hrx ⊢
      clear hex G3 HB2 x0 x1 p0 p2 p3 p4 r0 r1
      go_wp2_with fail
      refine hrx.mono ?_
      rintro en w4 ⟨rfl, j4, hw4⟩
      have HB4 : Hid (Below w.heap.size w w4) := by rw [hw4]; exact below_drewN (unhide HB3)
      clear hrx hw4 HB3
      go_wp2_with fail
      refine (num_any 0 _ (by omega) (by omega)).mono ?_
      rintro en w5 ⟨rfl, hw⟩
      replace hw := hw.symm
      subst hw
      go_wp2_with fail
      refine (num_any 0 _ (by omega) (by omega)).mono ?_
      rintro en w5 ⟨rfl, hw⟩
      replace hw := hw.symm
      subst hw
      go_wp2_with fail
      go_ret
      exact ⟨by simp, StepOut.below (unhide HW) (unhide HB4)⟩
    · have hex := extract_no _ _ _ _ _ a b wc (unhide HX) hr
      have hrx := rextract_no q.t q.g a b wc r0 hql hr
      go_wp2_with fail
      refine hex.mono ?_
      rintro en w3 ⟨rfl, hw⟩
      replace hw := hw.symm
      subst hw
      go_wp2_with fail
      refine hrx.mono ?_
      rintro en w3 ⟨rfl, hw⟩
      replace hw := hw.symm
      subst hw
      clear hex hrx
      go_wp2_with fail
      refine (num_any 1 _ (by omega) (by omega)).mono ?_
      rintro en w5 ⟨rfl, hw⟩
      replace hw := hw.symm
      subst hw
      go_wp2_with fail
      refine (num_any 1 _ (by omega) (by omega)).mono ?_
      rintro en w5 ⟨rfl, hw⟩
      replace hw := hw.symm
      subst hw
      go_wp2_with fail
      go_ret
      exact ⟨by simp, StepOut.below (unhide HW) (unhide HB2)⟩
  have e6 : (kd == 6) = false := by simp; omega
  by_cases h7 : kd = 7
  · subst h7
    have hct := count_idx _ _ _ _ _ s wc (unhide HX) (by unfold maxLen; omega)
    go_wp2_with fail
    refine hct.mono ?_
    rintro en w3 ⟨rfl, j3, hw3⟩
    have G3 : wc.grownBy w3 none := by rw [hw3]; exact grown_drewN (World.grownBy.refl _ _) j3
    have x1' := cell_grown6 x1 G3
    have p2' := cell_grown6 p2 G3
    have hrc := rcount_any q.t s q.g w3 (cell_grown6 r0 G3) hql (by unfold maxLen; omega)
    have HB3 := hide (below_on (unhide HB2) G3 (Nat.le_refl _))
    generalize (Rot.placesIn q.t s.data.toList).length = c at hrc ⊢
    clear hct G3 HB2 x0 x1 p0 p2 p3 p4 r0 r1 hw3
    go_wp2_with fail
    refine hrc.mono ?_
    rintro en w4 ⟨rfl, G4⟩
    have HB4 := hide (below_on (unhide HB3) G4 (Nat.le_refl _))
    clear hrc G4 HB3
    go_wp2_with fail
    go_ret
    exact ⟨by simp, StepOut.below (unhide HW) (unhide HB4)⟩
  have e7 : (kd == 7) = false := by simp; omega
  go_wp2_with fail
  go_ret
  exact ⟨rfl, StepOut.below (unhide HW) (unhide HB2)⟩
end Go.Proofs.YthlincikgdblfaaGreat

namespace Go.Proofs.YthlincikgdblfaaGreat
set_option linter.unusedVariables false
open Go.RowKit

def SamV (w : World) (n : Nat) (i : Value) (wr : World) : Prop := ∃ k j : Nat, k ≤ n ∧ i = .int .i64 (k : Int) ∧ Hid (wr = w.drewN j)
theorem SamV.mk {w : World} {n : Nat} {i : Value} {wr : World} (k j : Nat) (h1 : k ≤ n) (h2 : i = .int .i64 (k : Int)) (h3 : wr = w.drewN j) : SamV w n i wr := ⟨k, j, h1, h2, h3⟩
set_option maxRecDepth 100000 in
set_option maxHeartbeats 1000000 in
/-- The same numbers. -/
theorem same_lists (av bv : Value) (zs : List Int) (w : World) (hA : Ints w av zs) (hB : Ints w bv zs) :
    Calls Tryz.prog 45 #[av, bv] w fun e w' => e = .returned (.bool true) ∧ ∃ j, w' = w.drewN j := by
  obtain ⟨hb, hl, a, c, rfl, hc⟩ := hA
  obtain ⟨_, _, a2, c2, rfl, hc2⟩ := hB
  have HB := hide hb
  have HC := hide hc
  have HC2 := hide hc2
  clear hb hc hc2
  generalize hn : zs.length = n at hl ⊢
  have HN := hide hn
  clear hn
  go_enter Tryz.func45, Tryz.ntmps45
  go_wp2_with fail
  go_loopw [5] (fun i wr => SamV w n i wr) (fun i _ => n - (intOf i).toNat)
  case atStart => exact SamV.mk 0 0 (by omega) rfl rfl
  case round =>
    obtain ⟨k, j, hk, rfl, HW⟩ := hrel
    by_cases hlt : k < n
    · have hkz : k < zs.length := by rw [unhide HN]; exact hlt
      rcases unhide HC with h0 | ⟨b, off, rfl, hc⟩
      · rw [h0] at hkz; simp at hkz
      rcases unhide HC2 with h0 | ⟨b2, off2, rfl, hc2⟩
      · rw [h0] at hkz; simp at hkz
      have q1 : wr.cell? ⟨b, off + k, none⟩ = some (.int .i64 (zs[k]'hkz)) := by rw [unhide HW]; exact hc k hkz
      have q2 : wr.cell? ⟨b2, off2 + k, none⟩ = some (.int .i64 (zs[k]'hkz)) := by rw [unhide HW]; exact hc2 k hkz
      generalize zs[k]'hkz = z at q1 q2
      clear hc hc2
      go_wp2_with fail
      go_quiet (fail)
      go_wp2_with fail
      go_roundw
      case rel => exact SamV.mk (k + 1) (j + nq) (by omega) (by go_num) (by rw [unhide HW]; exact World.drewN_drewN _ _ _)
      case measure => first | (simp [intOf]; done) | (simp [intOf]; omega)
    · go_wp2_with fail
      go_ret
      exact ⟨rfl, j, unhide HW⟩
/-- A list that its owner has written full. -/
def ListAt (w : World) (x : Value × Int) : Prop := ∃ a n c, x.1 = .slice a n c ∧ n ≤ 4611686018427387904 ∧ (n = 0 ∨ ∃ b off, a = some ⟨b, off, none⟩ ∧ ∀ j, j < n → w.cell? ⟨b, off + j, none⟩ = some (.int .i64 x.2))
def SureL (K : Nat → Prop) (w : World) (x : Value × Int) : Prop := ∀ w', Keeps K w w' → ListAt w' x
theorem SureL.step {K K' : Nat → Prop} {w w' : World} {x : Value × Int} (h : SureL K w x) (H : Keeps K w w') (hK : ∀ i, i < w.heap.size → K' i → K i) : SureL K' w' x := by
  intro w'' H'
  refine h w'' ⟨Nat.le_trans H.size H'.size, fun i hi hn => ?_⟩
  exact (H'.block i (Nat.lt_of_lt_of_le hi H.size) (fun hk => hn (hK i hi hk))).trans (H.block i hi hn)
def KL (lv mv : Value) (i : Nat) : Prop := lv.ownBlock = some i ∨ mv.ownBlock = some i
/-- THE WORLD OF A SCRIPT, with its lists. -/
structure Av (g : Nat) (w : World) (v : Value) (ps : List Pr) (lv mv : Value) (ls : List (Value × Int)) : Prop where
  wv : Wv (KL lv mv) g w v ps
  c1 : w.cell? ⟨g, 1, none⟩ = some lv
  c2 : w.cell? ⟨g, 2, none⟩ = some mv
  f1 : w.frozen? ⟨g, 1, none⟩ = false
  f2 : w.frozen? ⟨g, 2, none⟩ = false
  lrow : w.ownsRow (g + 1) 25 1 lv ls.length (ls.map (·.1))
  mrow : IsZ w (g + 1) mv (ls.map (·.2))
  each : ∀ x ∈ ls, SureL (Kof (KL lv mv) g v) w x
  apv : ∀ i, v.ownBlock = some i → ¬ KL lv mv i
  apl : ∀ i, lv.ownBlock = some i → mv.ownBlock ≠ some i
theorem ownsRow_keeps {K : Nat → Prop} {w w' : World} {base : Nat} {e : TypeId} {size : Nat} {v : Value} {n : Nat} {xs : List Value} (h : w.ownsRow base e size v n xs) (H : Keeps K w w') (hb : ∀ k, v.ownBlock = some k → ¬ K k) : w'.ownsRow base e size v n xs := by
  obtain ⟨h1, h2⟩ := h
  refine ⟨h1, ?_⟩
  rcases h2 with h2 | ⟨g, cap, cur, hv, hB, hg, hr⟩
  · exact Or.inl h2
  · exact Or.inr ⟨g, cap, cur, hv, hB, by rw [H.block g (Array.getElem?_eq_some_iff.1 hg).1 (hb g (by rw [hv]; rfl))]; exact hg, hr⟩
/-- A step that makes no list. -/
theorem Av.step {g : Nat} {w w' : World} {v : Value} {ps : List Pr} {lv mv : Value} {ls : List (Value × Int)} (h : Av g w v ps lv mv ls) (k : StepOut (KL lv mv) g v ps w w') : ∃ v' ps', Av g w' v' ps' lv mv ls ∧ ps'.length ≤ ps.length + 1 ∧ Below g w w' := by
  obtain ⟨v', ps', hW, hp, hv, U⟩ := k
  have hl : ∀ i, lv.ownBlock = some i → g + 1 ≤ i := fun i e => (World.ownsRow.lt h.lrow i e).1
  have hm : ∀ i, mv.ownBlock = some i → g + 1 ≤ i := fun i e => (World.ownsRow.lt h.mrow i e).1
  have nk : ∀ i, KL lv mv i → ¬ Kof noK g v i := by
    rintro i hi (h1 | h1 | h1)
    · rcases hi with hi | hi
      · have := hl i hi; omega
      · have := hm i hi; omega
    · exact h.apv i h1 hi
    · exact h1
  refine ⟨v', ps', ⟨hW, (U.cells 1 (by decide)).trans h.c1, (U.cells 2 (by decide)).trans h.c2, (U.free 1).trans h.f1, (U.free 2).trans h.f2, ownsRow_keeps h.lrow U.keeps (fun i e => nk i (Or.inl e)), ownsRow_keeps h.mrow U.keeps (fun i e => nk i (Or.inr e)), ?_, ?_, h.apl⟩, hp, U.below⟩
  · intro x hx
    refine (h.each x hx).step (U.keeps.mono (fun i h => h.imp id (fun h => h.imp id (fun h => absurd h id)))) (fun i hi hK => ?_)
    rcases hK with hK | hK | hK
    · exact Or.inl hK
    · rcases hv i hK with h1 | h1
      · exact Or.inr (Or.inl h1)
      · omega
    · exact Or.inr (Or.inr hK)
  · intro i e hK
    rcases hv i e with h1 | h1
    · exact h.apv i h1 hK
    · have := h.wv.kb i hK; omega
end Go.Proofs.YthlincikgdblfaaGreat
