import Derived.Test.YthlincikgdblfaaGreatFo01
import Derived.Test.YthlincikgdblfaaGreatShelf4
import Derived.Sort.OwnSortedInts
import Derived.Test.YthlincikgdblfaaGreatZ12
import Derived.Test.YthlincikgdblfaaGreatZ42
namespace Go.Proofs.YthlincikgdblfaaGreat
open Go.RowKit
set_option linter.unusedVariables false

/-- How often p stands in the text. -/
theorem xCount_any (x : Nat) (s : List UInt8) (n r last : Nat) (F : Nat → Nat) (M : List UInt8) (Q : List Nat) (p : ByteArray) (t : List UInt8) (w : World) (h : Xv w x s n r last F M Q) (hF : firstOk F s n) (hW : Rot.Whole (Rot.colRead s 44 n) last) (ht : t = Rot.spell (Rot.colRead s 44 n) last n) (hn : n ≤ 250) (hp : p.size ≤ maxLen) :
    Calls Tryz.prog 65 #[.pointer (some ⟨x, 0, none⟩), .string p] w fun e w' => e = .returned (.int .i64 ((Rot.placesIn t p.data.toList).length : Nat)) ∧ ∃ j, w' = w.drewN j := by
  have hcon := beginningWith_any x s n r last F M Q p w h hF hW hn hp
  have hcl := Rot.colRead_len s 44 n
  have HWh := hide hW
  have HT := hide ht
  have HCL := hide hcl
  clear h hF hW ht hcl
  go_enter Tryz.func65, Tryz.ntmps65
  go_wp2_with fail
  refine hcon.mono ?_
  rintro e w1 ⟨a, b, rfl, hab, hbn, hB, j, hw1⟩
  have HB := hide hB
  have HW1 := hide hw1
  clear hcon hB hw1
  go_wp2_with fail
  go_ret
  refine ⟨?_, j, unhide HW1⟩
  have hc := Rot.begins_count (unhide HWh) (unhide HB)
  rw [unhide HCL, ← unhide HT] at hc
  have e : (b : Int) - (a : Int) = (((Rot.placesIn t p.data.toList).length : Nat) : Int) := by omega
  rw [e]
  rfl
/-- A list of the call's own, with no room behind it. -/
def Lst (w : World) (B : Nat) (v : Value) (d : List Nat) : Prop := ∃ g cap full, v = .slice (some ⟨g, 0, none⟩) d.length d.length ∧ Is w B (.slice (some ⟨g, 0, none⟩) full.length cap) full ∧ full.take d.length = d
theorem wp_appN (w : World) {ops : Array Oper} {rest : List Oper} {o : Oper} {a : Act} {Q : Exit → Act → World → Prop} (hgd : o.guard = none) (s x : Operand)
    (ho : o.op = .call { callee := .builtin .append, args := #[s, x], argTypes := #[25, 25] })
    (B : Nat) (v : Value) (l : List Nat) (hs : a.eval s = v) (hown : Is w B v l) (hne : v ≠ .slice none 0 0) (ad : Addr) (c n : Nat) (m : List Nat) (hn : m.length = n) (hx : a.eval x = .slice (some ad) n c) (hm : ∀ j u, (byI m)[j]? = some u → w.cell? (ad.add j) = some u)
    (hl : l.length + m.length < 1000000) (hB : B ≤ w.heap.size)
    (h : ∀ v' w', Is w' B v' (l ++ m) → v' ≠ .slice none 0 0 → w.grownBy w' v.ownBlock → wpList Tryz.prog ops Q rest (a.put o.dst v') w') : wpList Tryz.prog ops Q (o :: rest) a w := by
  subst hn
  obtain ⟨i0, hi, hz0, hz1, hz2⟩ := info_parts infoI
  refine wpList_append_own_at w hgd s x 25 ho B 3 i0 (.int .i64 0) 1 8 Tryz.underlying25 hi hz0 hz1 hz2 rfl (by decide) v l.length (byI l) hs hown ad m.length c (byI m) hx (by rw [byI_length]; omega) hm (byI_one m) (by unfold maxLen; omega) (by omega) hB ?_
  intro v' w' h1 h2 h3 h4
  refine h v' w' ?_ (fun e => hne (h3.1 e).1) h2
  unfold Is; rw [byI_append, List.length_append]; exact h1
def LocV (col : List UInt8) (last a b : Nat) (w : World) (lv iv : Value) (wr : World) : Prop := ∃ d : Nat, a + d ≤ b ∧ iv = .int .i64 ((a + d : Nat) : Int) ∧ Is wr w.heap.size lv (Rot.placesAt col last a d) ∧ lv ≠ .slice none 0 0 ∧ w.grownBy wr none
theorem LocV.mk {col : List UInt8} {last a b : Nat} {w wr : World} {lv iv : Value} (d : Nat) (h1 : a + d ≤ b) (h2 : iv = .int .i64 ((a + d : Nat) : Int)) (h3 : Is wr w.heap.size lv (Rot.placesAt col last a d)) (h4 : lv ≠ .slice none 0 0) (h5 : w.grownBy wr none) : LocV col last a b w lv iv wr := ⟨d, h1, h2, h3, h4, h5⟩
set_option maxRecDepth 100000 in
set_option maxHeartbeats 1000000 in
theorem xLocate_any (x : Nat) (s : List UInt8) (n r last : Nat) (F : Nat → Nat) (M : List UInt8) (Q : List Nat) (p : ByteArray) (most : Nat) (t : List UInt8) (w : World) (h : ∀ w', w.grownBy w' none → Xv w' x s n r last F M Q) (hF : firstOk F s n) (hW : Rot.Whole (Rot.colRead s 44 n) last) (hk : walkOk (Rot.colRead s 44 n) n r last M Q) (hQ : Q.length = Rot.os M (n + 1)) (hQb : ∀ q ∈ Q, q < 65536) (ht : t = Rot.spell (Rot.colRead s 44 n) last n) (hn : n ≤ 250) (hr1 : 1 ≤ r) (hp : p.size ≤ maxLen) (hm : most ≤ 9223372036854775807) :
    Calls Tryz.prog 37 #[.pointer (some ⟨x, 0, none⟩), .string p, .int .i64 most] w fun e w' => ∃ v, e = .returned v ∧ Lst w' w.heap.size v ((Rot.placesIn t p.data.toList).take most) ∧ w.grownBy w' none := by
  obtain ⟨i0, hi, hz0, hz1, hz2⟩ := info_parts infoI
  have hcon := beginningWith_any x s n r last F M Q p w (h w (World.grownBy.refl _ _)) hF hW hn hp
  have hat := fun (i : Nat) (hi : i ≤ n) (w' : World) (g : w.grownBy w' none) => at_row x s n r last F M Q i w' (h w' g) hF hW hk hQ hQb hn hr1 hi
  have hcl := Rot.colRead_len s 44 n
  have HWh := hide hW
  have HT := hide ht
  have HAT := hide hat
  clear h hF hW hk hQ hQb ht hat
  generalize Rot.colRead s 44 n = col at HWh HT HAT hcl hcon
  have HCL := hide hcl
  clear hcl
  go_enter Tryz.func37, Tryz.ntmps37
  go_wp2_with fail
  refine hcon.mono ?_
  rintro e w1 ⟨a, b, rfl, hab, hbn, hB, j, hw1⟩
  have HB := hide hB
  have HG1 : Hid (w.grownBy w1 none) := by rw [hw1]; exact grown_drewN (World.grownBy.refl _ _) j
  have hsz1 : w1.heap.size = w.heap.size := by rw [hw1]; rfl
  clear hcon hB hw1
  obtain ⟨d, hd⟩ : ∃ d, b = a + d := ⟨b - a, by omega⟩
  have hbd : (b : Int) - (a : Int) = (d : Int) := by omega
  have HD := hide hd
  have hdn : d ≤ 300 := by omega
  clear hd
  go_wp2_with (at_make; refine wpList_make_own _ rfl _ _ 25 rfl w1.heap.size 3 i0 (.int .i64 0) 1 Tryz.underlying25 hi hz0 hz1 .i64 .i64 _ d rfl rfl rfl ?m1 ?m2 (Nat.le_refl _) ?_)
  case m1 => rw [hz2]; omega
  case m2 => unfold maxLen; omega
  intro w2 O2 G2
  have P0 : LocV col last a b w (.slice (some ⟨w.heap.size, 0, none⟩) 0 d) (.int .i64 (a : Int)) w2 := LocV.mk 0 (by omega) rfl O2 (by simp) (grown_trans (unhide HG1) G2 (Or.inl rfl))
  clear O2 G2
  go_wp2_with fail
  go_loopw [9, 10] (fun lv iv wr => LocV col last a b w lv iv wr) (fun _ iv _ => b - (intOf iv).toNat)
  case atStart => exact P0
  case round =>
    obtain ⟨k, hkb, rfl, L, hne, G⟩ := hrel
    clear P0
    have hsz := G.size
    by_cases hlt : a + k < b
    · have hca := unhide HAT (a + k) (by omega) wr G
      have HF2 := hide (Rot.placesAt_succ col last a k)
      rw [unhide HCL] at HF2
      have hpl : (Rot.placesAt col last a k).length = k := Rot.placesAt_len _ _ _ _
      have hdl : decide (((a + k : Nat) : Int) < (b : Int)) = true := by simp; omega
      generalize hmm : n - Rot.metAt col last (a + k) = pl at hca HF2
      have hpn : pl ≤ 250 := by omega
      clear hmm
      go_wp2_with fail
      refine hca.mono ?_
      rintro e w3 ⟨rfl, j3, hw3⟩
      have L3 : Is w3 w.heap.size u9 (Rot.placesAt col last a k) := by rw [hw3]; exact L
      have HG3 : Hid (w.grownBy w3 none) := by rw [hw3]; exact grown_drewN G j3
      have hsz3 : w.heap.size ≤ w3.heap.size := (unhide HG3).size
      clear hca hw3 L G
      go_wp2_with (at_builtin; refine wp_appN _ rfl (.tmp 28) (.tmp 32) rfl w.heap.size _ _ rfl (World.ownsRow.alloc L3 _) hne ⟨w3.heap.size, 0, none⟩ 1 1 [pl] rfl rfl (cell_one_new _ _ _) ?a2 ?a3 ?_)
      case a2 => simp only [List.length_singleton]; omega
      case a3 => simp; omega
      intro v1 w4 L4 ne4 g4
      have HL : Hid (Is w4 w.heap.size v1 (Rot.placesAt col last a (k + 1))) := by rw [unhide HF2]; exact L4
      have HG := hide (grown_trans (grown_alloc (unhide HG3) _) g4 (by
        cases e : u9.ownBlock with
        | none => exact Or.inl rfl
        | some j => exact Or.inr ⟨j, rfl, (World.ownsRow.lt L3 j e).1⟩))
      have HNE := hide ne4
      clear L4 g4 L3 HG3 ne4 hne
      go_wp2_with fail
      go_roundw
      case rel =>
        first | exact LocV.mk (k + 1) (by omega) (by go_num) (unhide HL) (unhide HNE) (unhide HG) | (repeat apply Exists.intro; refine ⟨?_, rfl⟩; exact LocV.mk (k + 1) (by omega) (by go_num) (unhide HL) (unhide HNE) (unhide HG))
      case measure => first | (simp [intOf]; done) | (simp [intOf]; omega)
    · have ek : k = d := by have := unhide HD; omega
      subst ek
      have hpl : (Rot.placesAt col last a k).length = k := Rot.placesAt_len _ _ _ _
      have hso := Rot.begins_sorted (unhide HWh) (unhide HB)
      have hpm := (Rot.begins_perm (unhide HWh) (unhide HB)).length_eq
      rw [show b - a = k by have := unhide HD; omega] at hso hpm
      rw [unhide HCL, ← unhide HT] at hso hpm
      rw [hpl] at hpm
      have hdl : decide (((a + k : Nat) : Int) < (b : Int)) = false := by simp; omega
      obtain ⟨L1, L2⟩ := L
      rcases L2 with ⟨h0, _⟩ | ⟨g, cap, cur, rfl, hgb, hg, hgn, hgm, hgc, hgt⟩
      · exact absurd h0 hne
      rw [hpl] at hgn hgt
      rw [hpl]
      have hzl : ((Rot.placesAt col last a k).map fun (n : Nat) => (n : Int)).length = k := by rw [List.length_map, hpl]
      have hH := holds_of_blockI (ss := (Rot.placesAt col last a k).map fun (n : Nat) => (n : Int)) hg (by rw [hzl]; rw [Nat.mul_one] at hgt; rw [hgt]; simp [byI])
      have hsort := Tryz.slices_Sort_int g 0 cap _ wr hH (Array.getElem?_eq_some_iff.1 hg).1 (by rw [hzl]; omega)
      rw [hzl, hso] at hsort
      have hown := fun (nn : Nat) (os : Array Obj) => ownsRow_sortedI (w := wr) (n := nn) (os := os) (ss := (Rot.placesAt col last a k).map fun (n : Nat) => (n : Int)) (ts := (Rot.placesIn t p.data.toList).map fun (n : Nat) => (n : Int)) (by rw [List.length_map, List.length_map, hpl]; exact hpm.symm) hgb hg (by rw [hzl]; exact hgn) hgm hgc
      rw [hzl] at hown
      have HO : Hid (∀ (nn : Nat) (os : Array Obj), Is (Sort.grow (Sort.putRow (Value.int .i64) (Sort.ahead wr nn) g 0 ((Rot.placesIn t p.data.toList).map fun (n : Nat) => (n : Int)).toArray) os) w.heap.size (.slice (some ⟨g, 0, none⟩) (Rot.placesIn t p.data.toList).length cap) (Rot.placesIn t p.data.toList)) := by
        intro nn os
        have := hown nn os
        unfold Is
        rw [hpm, List.map_map] at this
        exact this
      have HGr : Hid (∀ (nn : Nat) (os : Array Obj), w.grownBy (Sort.grow (Sort.putRow (Value.int .i64) (Sort.ahead wr nn) g 0 ((Rot.placesIn t p.data.toList).map fun (n : Nat) => (n : Int)).toArray) os) none) := fun nn os => grown_trans G (grownBy_sortedI (w := wr) (g := g) (n := nn) (os := os) _) (Or.inr ⟨g, rfl, hgb⟩)
      have hkl : k ≤ 251 := by have := unhide HD; omega
      clear hown hH hgt hgc hgm hg L1 hso hzl hne G HT HAT HB HWh
      generalize hpls : Rot.placesIn t p.data.toList = pls at hsort HO HGr hpm ⊢
      have HPM := hide hpm
      have HPL := hide hpls
      clear hpm hpls
      go_wp2_with fail
      refine hsort.mono ?_
      rintro e w5 ⟨rfl, nn, os, hw5⟩
      have I5 := unhide HO nn os
      have HG5 := hide (unhide HGr nn os)
      rw [← hw5] at I5 HG5
      have HI5 := hide I5
      clear hsort hw5 HO HGr I5
      obtain ⟨q, hq⟩ : ∃ q : Nat, q = min most k := ⟨_, rfl⟩
      have hqi : min (most : Int) (k : Int) = (q : Int) := by omega
      have hqk : q ≤ k := by omega
      have HQM := hide hq
      have hqm : q ≤ most := by omega
      clear hq
      go_wp2_with fail
      go_ret
      refine ⟨_, rfl, ?_, unhide HG5⟩
      rw [unhide HPL]
      have hl : (pls.take most).length = q := by rw [List.length_take, unhide HQM, unhide HPM]
      refine ⟨g, cap, pls, ?_, unhide HI5, ?_⟩
      · rw [hl]
        rfl
      · rw [hl]
        by_cases e : most ≤ pls.length
        · rw [unhide HQM, unhide HPM, Nat.min_eq_left e]
        · rw [unhide HQM, unhide HPM, List.take_of_length_le (by omega), List.take_of_length_le (by omega)]
theorem nums_len13 (l : List UInt8) (k : Nat) : (Rot.nums l k).length = k := by simp [Rot.nums]
theorem nums_lt13 (l : List UInt8) (k : Nat) : ∀ q ∈ Rot.nums l k, q < 65536 := by
  intro q hq
  simp only [Rot.nums, List.mem_map] at hq
  obtain ⟨i, _, rfl⟩ := hq
  unfold Rot.numAt
  have h1 : ((l[2 * i]?).getD 0).toNat < 256 := ((l[2 * i]?).getD 0).toNat_lt
  have h2 : ((l[2 * i + 1]?).getD 0).toNat < 256 := ((l[2 * i + 1]?).getD 0).toNat_lt
  omega
theorem count_nil (p : ByteArray) (w : World) : Calls Tryz.prog 36 #[.pointer none, .string p] w fun e w' => e = .returned (.int .i64 0) ∧ w' = w := by
  have hc := isNone_nil w
  go_enter Tryz.func36, Tryz.ntmps36
  go_wp2_with fail
  refine hc.mono ?_
  rintro e w2 ⟨rfl, hw2⟩
  subst hw2
  clear hc
  go_wp2_with fail
  go_ret
  exact ⟨rfl, rfl⟩
/-- COUNT, of an index. -/
theorem count_idx (B x : Nat) (s t : List UInt8) (r : Nat) (p : ByteArray) (w : World) (h : Idx B w x s t r) (hp : p.size ≤ maxLen) :
    Calls Tryz.prog 36 #[.pointer (some ⟨x, 0, none⟩), .string p] w fun e w' => e = .returned (.int .i64 ((Rot.placesIn t p.data.toList).length : Nat)) ∧ ∃ j, w' = w.drewN j := by
  obtain ⟨hf, _, y, _, hx⟩ := h
  obtain ⟨h1, h2, h3, _, h5⟩ := file_tells2 hf
  obtain ⟨c0, X⟩ := hx w (Stay.refl _ _)
  have hc := isNone_some x y w c0
  have hcon := xCount_any y s t.length r (lastIn s) _ _ _ p t w X h1 h2 h3 h5 hp
  generalize (Rot.placesIn t p.data.toList).length = c at hcon ⊢
  clear hx X h1 h2 h3
  go_enter Tryz.func36, Tryz.ntmps36
  go_wp2_with fail
  refine hc.mono ?_
  rintro e w2 ⟨rfl, hw2⟩
  subst hw2
  clear hc
  go_wp2_with fail
  refine hcon.mono ?_
  rintro e w3 ⟨rfl, j, hw3⟩
  have HW3 := hide hw3
  clear hcon hw3
  go_wp2_with fail
  go_ret
  exact ⟨rfl, j, unhide HW3⟩
/-- LOCATE, of an index. -/
theorem locate_yes (B x : Nat) (s t : List UInt8) (r : Nat) (p : ByteArray) (most : Nat) (w : World) (h : Idx B w x s t r) (hp : p.size ≤ maxLen) (hm : most ≤ 9223372036854775807) :
    Calls Tryz.prog 23 #[.pointer (some ⟨x, 0, none⟩), .string p, .int .i64 most] w fun e w' => ∃ v, e = .returned (.tuple #[v, .int .i64 0]) ∧ Lst w' w.heap.size v ((Rot.placesIn t p.data.toList).take most) ∧ w.grownBy w' none := by
  obtain ⟨hf, _, y, _, hx⟩ := h
  obtain ⟨h1, h2, h3, h4, h5⟩ := file_tells2 hf
  obtain ⟨c0, X⟩ := hx w (Stay.refl _ _)
  have hc := isNone_some x y w c0
  have hr1 : 1 ≤ r := (Rot.rate_le hf.2.1).1
  have hcon := xLocate_any y s t.length r (lastIn s) _ _ _ p most t w (fun w' g => (hx w' (Stay.of g (fun _ e => by simp at e))).2) h1 h2 h4 (nums_len13 _ _) (nums_lt13 _ _) h3 h5 hr1 hp hm
  have d : decide ((most : Int) < 0) = false := by simp
  generalize (Rot.placesIn t p.data.toList).take most = c at hcon ⊢
  clear hx X h1 h2 h3 h4
  go_enter Tryz.func23, Tryz.ntmps23
  go_wp2_with fail
  refine hc.mono ?_
  rintro e w2 ⟨rfl, hw2⟩
  subst hw2
  clear hc
  go_wp2_with fail
  refine hcon.mono ?_
  rintro e w3 ⟨v, rfl, hL, hG⟩
  have HL := hide hL
  have HG := hide hG
  obtain ⟨g, cap, full, rfl, _, _⟩ := hL
  clear hcon hG
  go_wp2_with fail
  go_ret2
  exact ⟨_, rfl, unhide HL, unhide HG⟩
theorem locate_no (B x : Nat) (s t : List UInt8) (r : Nat) (p : ByteArray) (most : Int) (w : World) (h : Idx B w x s t r) (hm : most < 0) :
    Calls Tryz.prog 23 #[.pointer (some ⟨x, 0, none⟩), .string p, .int .i64 most] w fun e w' => e = .returned (.tuple #[.slice none 0 0, .int .i64 1]) ∧ w' = w := by
  obtain ⟨hf, _, y, _, hx⟩ := h
  obtain ⟨c0, X⟩ := hx w (Stay.refl _ _)
  have hc := isNone_some x y w c0
  have d : decide (most < 0) = true := by simpa using hm
  clear hx X
  go_enter Tryz.func23, Tryz.ntmps23
  go_wp2_with fail
  refine hc.mono ?_
  rintro e w2 ⟨rfl, hw2⟩
  subst hw2
  clear hc
  go_wp2_with fail
  go_ret2
  exact ⟨rfl, rfl⟩
end Go.Proofs.YthlincikgdblfaaGreat

namespace Go.Proofs.YthlincikgdblfaaGreat
set_option linter.unusedVariables false
namespace Rot
theorem pl_at (f : Nat → Bool) (I : Nat) (hf : f I = true) : ∀ m, I < m → ((List.range m).filter f)[((List.range I).filter f).length]? = some I
  | 0, h => absurd h (Nat.not_lt_zero _)
  | m + 1, h => by
    rw [List.range_succ, List.filter_append]
    by_cases e : I = m
    · subst e
      rw [List.getElem?_append_right (Nat.le_refl _), Nat.sub_self]
      simp [hf]
    · have ih := pl_at f I hf m (by omega)
      rw [List.getElem?_append_left (List.getElem?_eq_some_iff.1 ih).1]
      exact ih
theorem pl_lt (f : Nat → Bool) (I : Nat) (hf : f I = true) (m : Nat) (h : I < m) : ((List.range I).filter f).length < ((List.range m).filter f).length := (List.getElem?_eq_some_iff.1 (pl_at f I hf m h)).1
theorem pl_succ (f : Nat → Bool) (I : Nat) : ((List.range (I + 1)).filter f).length = ((List.range I).filter f).length + if f I = true then 1 else 0 := by
  rw [List.range_succ, List.filter_append, List.length_append]
  by_cases h : f I = true
  · simp [h]
  · simp [h]
end Rot
open Go.RowKit
theorem Lst.cell {w : World} {B g n c : Nat} {d : List Nat} (h : Lst w B (.slice (some ⟨g, 0, none⟩) n c) d) (j : Nat) (hj : j < d.length) : w.cell? ⟨g, j, none⟩ = some (.int .i64 ((d[j]'hj : Nat) : Int)) := by
  obtain ⟨g', cap, full, hv, hI, ht⟩ := h
  cases hv
  have hjf : j < full.length := by
    have := congrArg List.length ht
    rw [List.length_take] at this
    omega
  have e : full[j]'hjf = d[j]'hj := by
    have : full[j]? = d[j]? := by rw [← ht, List.getElem?_take_of_lt hj]
    rw [List.getElem?_eq_getElem hjf, List.getElem?_eq_getElem hj] at this
    exact Option.some.inj this
  rw [Is.cell hI j hjf, e]
theorem extract_any (t : ByteArray) (i k : Nat) : (t.extract i (i + k)).toList = (t.data.toList.drop i).take k := by
  rw [ByteArray.toList_eq, ByteArray.data_extract]
  simp
/-- Behind I places of stands. -/
def StaV (f : Nat → Bool) (m : Nat) (w2 : World) (kv iv : Value) (wr : World) : Prop := ∃ I k : Nat, I ≤ m ∧ iv = .int .i64 (I : Int) ∧ kv = .int .i64 (k : Int) ∧ k ≤ I ∧ wr = w2 ∧ Hid (k = ((List.range I).filter f).length)
theorem StaV.mk {f : Nat → Bool} {m : Nat} {w2 wr : World} {kv iv : Value} (I k : Nat) (h1 : I ≤ m) (h2 : iv = .int .i64 (I : Int)) (h3 : kv = .int .i64 (k : Int)) (h4 : k ≤ I) (h5 : wr = w2) (h6 : k = ((List.range I).filter f).length) : StaV f m w2 kv iv wr := ⟨I, k, h1, h2, h3, h4, h5, h6⟩
set_option maxRecDepth 100000 in
set_option maxHeartbeats 1000000 in
theorem stands_any (B x : Nat) (s : List UInt8) (t : ByteArray) (r : Nat) (p : ByteArray) (most : Nat) (w : World) (h : Idx B w x s t.data.toList r) (hp : p.size ≤ 9223372036854775807) (hm : most ≤ 1000) :
    Calls Tryz.prog 22 #[.pointer (some ⟨x, 0, none⟩), .string t, .string p, .int .i64 most] w fun e w' => e = .returned (.bool true) ∧ w.grownBy w' none := by
  have htl : t.data.toList.length = t.size := by simp
  have hpl : p.data.toList.length = p.size := by simp
  have ht : t.size ≤ 250 := by have := h.1.1; omega
  have hcc := count_idx B x s _ r p w h (by unfold maxLen; omega)
  have HX := hide h
  have hPl : (Rot.placesIn t.data.toList p.data.toList).length ≤ 251 := by have := places_le t.data.toList p.data.toList; omega
  have HP : Hid (Rot.placesIn t.data.toList p.data.toList = (List.range (t.size + 1 - p.size)).filter (Rot.stands t.data.toList p.data.toList)) := by unfold Rot.placesIn; rw [htl, hpl]; exact rfl
  clear h
  go_enter Tryz.func22, Tryz.ntmps22
  go_wp2_with fail
  refine hcc.mono ?_
  rintro e w1 ⟨rfl, j, hw1⟩
  have HG1 : Hid (w.grownBy w1 none) := by rw [hw1]; exact grown_drewN (World.grownBy.refl _ _) j
  have hlo := locate_yes B x s _ r p most w1 ((unhide HX).grown (unhide HG1)) (by unfold maxLen; omega) (by omega)
  clear hcc hw1 HX
  generalize hpi : Rot.placesIn t.data.toList p.data.toList = PL at hlo hPl HP ⊢
  clear hpi
  go_wp2_with fail
  refine hlo.mono ?_
  rintro e w2 ⟨v, rfl, hL, hG2⟩
  have HG2 := hide (grown_trans (unhide HG1) hG2 (Or.inl rfl))
  have HL := hide hL
  obtain ⟨g, cap, full, rfl, _, _⟩ := hL
  clear hlo hG2 HG1
  have hll : (PL.take most).length = min most PL.length := List.length_take
  have hlc := fun j hj => Lst.cell (unhide HL) j hj
  generalize hcq : PL.take most = cl at hll hlc HL ⊢
  have HCQ := hide hcq
  generalize hlq : cl.length = L at hll ⊢
  have HLQ := hide hlq
  clear hcq hlq
  have hLb : L ≤ 1000 := by omega
  have HLC := hide hlc
  have HLL := hide hll
  clear hlc HL hll
  go_wp2_with fail
  go_loopw [12, 13] (fun kv iv wr => StaV (Rot.stands t.data.toList p.data.toList) (t.size + 1 - p.size) w2 kv iv wr) (fun _ iv _ => t.size + 1 - (intOf iv).toNat)
  case atStart => exact StaV.mk 0 0 (by omega) rfl rfl (by omega) rfl rfl
  case round =>
    obtain ⟨I, k, hI, rfl, rfl, hkI, hwr, HK⟩ := hrel
    subst hwr
    by_cases hlt : I + p.size ≤ t.size
    · have dl : decide ((I : Int) + (p.size : Int) ≤ (t.size : Int)) = true := by simp; omega
      have hbe : ((t.extract I (I + p.size)).toList == p.toList) = Rot.stands t.data.toList p.data.toList I := by
        rw [extract_any]
        unfold Rot.stands
        rw [hpl, ByteArray.toList_eq]
      have HS1 := hide (Rot.pl_succ (Rot.stands t.data.toList p.data.toList) I)
      have HAT := hide (fun hf => Rot.pl_at (Rot.stands t.data.toList p.data.toList) I hf (t.size + 1 - p.size) (by omega))
      cases hst : Rot.stands t.data.toList p.data.toList I with
      | false =>
        rw [hst] at hbe HS1
        have HK2 : Hid (k = ((List.range (I + 1)).filter (Rot.stands t.data.toList p.data.toList)).length) := by
          rw [unhide HS1, ← unhide HK]
          rfl
        clear hst HAT HS1 HK
        go_wp2_with fail
        go_roundw
        case rel => first | exact StaV.mk (I + 1) k (by omega) (by go_num) rfl (by omega) rfl (unhide HK2) | (repeat apply Exists.intro; refine ⟨?_, rfl⟩; exact StaV.mk (I + 1) k (by omega) (by go_num) rfl (by omega) rfl (unhide HK2))
        case measure => first | (simp [intOf]; done) | (simp [intOf]; omega)
      | true =>
        have hat := unhide HAT hst
        rw [hst] at hbe HS1
        have HK2 : Hid (k + 1 = ((List.range (I + 1)).filter (Rot.stands t.data.toList p.data.toList)).length) := by
          rw [unhide HS1, ← unhide HK]
          rfl
        rw [← unhide HK, ← unhide HP] at hat
        have hkl := (List.getElem?_eq_some_iff.1 hat).1
        by_cases hkm : k < most
        · have hkL : k < L := by rw [unhide HLL]; omega
          have hcell := unhide HLC k (by rw [unhide HLQ]; exact hkL)
          have hIv : cl[k]'(by rw [unhide HLQ]; exact hkL) = I := by
            have e : cl[k]? = PL[k]? := by rw [← unhide HCQ, List.getElem?_take_of_lt hkm]
            rw [hat, List.getElem?_eq_getElem (by rw [unhide HLQ]; exact hkL)] at e
            exact Option.some.inj e
          rw [hIv] at hcell
          have d1 : decide ((k : Int) < (most : Int)) = true := by simp; omega
          have d2 : decide ((L : Int) ≤ (k : Int)) = false := by simp; omega
          clear hst HAT HS1 HK hat hIv
          go_wp2_with fail
          go_roundw
          case rel => first | exact StaV.mk (I + 1) (k + 1) (by omega) (by go_num) (by go_num) (by omega) rfl (unhide HK2) | (repeat apply Exists.intro; refine ⟨?_, rfl⟩; exact StaV.mk (I + 1) (k + 1) (by omega) (by go_num) (by go_num) (by omega) rfl (unhide HK2))
          case measure => first | (simp [intOf]; done) | (simp [intOf]; omega)
        · have d1 : decide ((k : Int) < (most : Int)) = false := by simp; omega
          clear hst HAT HS1 HK hat
          go_wp2_with fail
          go_roundw
          case rel => first | exact StaV.mk (I + 1) (k + 1) (by omega) (by go_num) (by go_num) (by omega) rfl (unhide HK2) | (repeat apply Exists.intro; refine ⟨?_, rfl⟩; exact StaV.mk (I + 1) (k + 1) (by omega) (by go_num) (by go_num) (by omega) rfl (unhide HK2))
          case measure => first | (simp [intOf]; done) | (simp [intOf]; omega)
    · have dl : decide ((I : Int) + (p.size : Int) ≤ (t.size : Int)) = false := by simp; omega
      have eI : I = t.size + 1 - p.size := by omega
      have hk : k = PL.length := by rw [unhide HK, unhide HP, eI]
      have hkp : I + p.size ≤ 9223372036854775807 := by omega
      have hLk : L = min most k := by rw [unhide HLL, hk]
      have HKP := hide hk
      have hkk : ((PL.length : Int) == (k : Int)) = true := by simp [hk]
      clear HK HP HLC HCQ HLQ HLL eI hk
      by_cases hmk : most < k
      · have d1 : decide ((most : Int) < (k : Int)) = true := by simp; omega
        have hLm : ((L : Int) == (most : Int)) = true := by simp; omega
        clear hLk
        go_wp2_with fail
        go_ret
        exact ⟨rfl, unhide HG2⟩
      · have d1 : decide ((most : Int) < (k : Int)) = false := by simp; omega
        have hLm : ((L : Int) == (k : Int)) = true := by simp; omega
        clear hLk
        go_wp2_with fail
        go_ret
        exact ⟨rfl, unhide HG2⟩
set_option maxRecDepth 100000 in
set_option maxHeartbeats 2000000 in
theorem found_walk (a0 : ByteArray) (a1 : Int) (p2 : ByteArray) (a3 a4 a5 : Int) (h0 : a0.size ≤ maxLen) (h1 : -9223372036854775808 ≤ a1 ∧ a1 ≤ 9223372036854775807) (h2 : p2.size ≤ 140737488351232) (h3 : -9223372036854775808 ≤ a3 ∧ a3 ≤ 9223372036854775807) (h4 : -9223372036854775808 ≤ a4 ∧ a4 ≤ 9223372036854775807) (h5 : -9223372036854775808 ≤ a5 ∧ a5 ≤ 9223372036854775807) (w : World) :
    Calls Tryz.prog 9 #[.string a0, .int .i64 a1, .string p2, .int .i64 a3, .int .i64 a4, .int .i64 a5] w fun e w' => e = .returned (.bool true) ∧ Below w.heap.size w w' := by
  have hcs := cut_size a0
  have hr := isRate_rateOf a1
  have K0 := hide (fun W => cut_any a0 W h0)
  have K1 := hide (fun W => krate_any a1 W h1.1 h1.2)
  have K2 := hide (fun W => built_any (cutOf a0) (rateOf a1) W hcs hr)
  generalize cutOf a0 = t at *
  generalize rateOf a1 = r at *
  have htl : t.data.toList.length = t.size := by simp
  have ha := pick_lt a3 (t.size + 1) (by omega)
  have KA : Hid (∀ W, Calls Tryz.prog 19 #[.int .i64 a3, .int .i64 ((t.size : Int) + 1)] W fun e w' => e = .returned (.int .i64 (pickOf a3 (t.size + 1) : Int)) ∧ w' = W) := hide (fun W => kpick_any a3 (t.size + 1) W h3.1 h3.2 (by omega) (by omega))
  generalize pickOf a3 (t.size + 1) = A at ha KA
  have hq := pick_lt a4 (t.size - A + 1) (by omega)
  have KB : Hid (∀ W, Calls Tryz.prog 19 #[.int .i64 a4, .int .i64 ((t.size : Int) - (A : Int) + 1)] W fun e w' => e = .returned (.int .i64 (pickOf a4 (t.size - A + 1) : Int)) ∧ w' = W) := by
    intro W
    have e : ((t.size : Int) - (A : Int) + 1) = ((t.size - A + 1 : Nat) : Int) := by omega
    rw [e]
    exact kpick_any a4 (t.size - A + 1) W h4.1 h4.2 (by omega) (by omega)
  generalize pickOf a4 (t.size - A + 1) = q at hq KB
  have hM := pick_lt a5 300 (by decide)
  have KM := hide (fun W => kpick_any a5 300 W h5.1 h5.2 (by decide) (by decide))
  generalize pickOf a5 300 = M at hM KM
  have HR := hide hr
  clear hr h0 h1 h3 h4 h5
  go_enter Tryz.func9, Tryz.ntmps9
  go_wp2_with fail
  refine (unhide K0 _).mono ?_
  rintro e w1 ⟨rfl, hw⟩
  replace hw := hw.symm
  subst hw
  go_wp2_with fail
  refine (unhide K1 _).mono ?_
  rintro e w1 ⟨rfl, hw⟩
  replace hw := hw.symm
  subst hw
  go_wp2_with fail
  refine (unhide K2 _).mono ?_
  rintro e w1 ⟨rows, hR, rfl, hB⟩
  have hf := built_file hcs (unhide HR) hR
  generalize (⟨(Rot.fileOf t.data.toList rows r).toArray⟩ : ByteArray) = S at hf ⊢
  have hsrc := src_new w1 S _ _ (ints_nil w1) (fun a n c e => by cases e)
  have hld := load_file w1.heap.size S _ _ t.data.toList r _ hsrc (fun a n c e => by cases e) hf (by simp)
  have HB : Hid (Below w.heap.size w (w1.alloc (.cells #[.string S, .slice none 0 0, .int .i64 0] 37))) := hB.alloc hB.size _
  have hle1 : w.heap.size ≤ w1.heap.size := hB.size
  clear hR hf hB hsrc K0 K1 K2
  go_wp2_with fail
  refine hld.mono ?_
  rintro e w2 ⟨p, k, rfl, hS2, hG2, hidx⟩
  have HB2 : Hid (Below w.heap.size w w2) := (unhide HB).grown hG2 (unhide HB).size (fun k e => by injection e; omega)
  have HX2 := hide hidx
  clear hld hS2 hG2 hidx HB
  go_wp2_with fail
  refine (unhide KA _).mono ?_
  rintro e w3 ⟨rfl, hw⟩
  replace hw := hw.symm
  subst hw
  go_wp2_with fail
  refine (unhide KB _).mono ?_
  rintro e w3 ⟨rfl, hw⟩
  replace hw := hw.symm
  subst hw
  go_wp2_with fail
  refine (unhide KM _).mono ?_
  rintro e w3 ⟨rfl, hw⟩
  replace hw := hw.symm
  subst hw
  have hst := stands_any _ p _ t r p2 M w2 (unhide HX2) (by omega) (by omega)
  go_wp2_with fail
  refine hst.mono ?_
  rintro e w3 ⟨rfl, hG⟩
  have HX3 := hide ((unhide HX2).grown hG)
  have HB3 := hide (below_on (unhide HB2) hG (Nat.le_refl _))
  clear hst hG HX2 HB2
  have hxs : (t.extract A (A + q)).size ≤ 250 := by rw [ByteArray.size_extract]; omega
  have hst := stands_any _ p _ t r (t.extract A (A + q)) M (w3.drewN 1) ((unhide HX3).grown (grown_drewN (World.grownBy.refl _ _) 1)) (by omega) (by omega)
  go_wp2_with fail
  go_cut [21] (fun sv wx => sv = .bool true ∧ (w3.drewN 1).grownBy wx none)
  case first =>
    go_region_with (first
      | (go_at_call 19; refine (unhide KM _).mono ?_; rintro e w9 ⟨rfl, rfl⟩)
      | (go_at_call 22; refine hst.mono ?_; rintro e w9 ⟨rfl, hG⟩))
    all_goals
      go_wp2_with fail
      go_meet
      exact ⟨rfl, hG⟩
  case rest =>
  obtain ⟨rfl, hG⟩ := hcut
  have HX4 := hide ((unhide HX3).grown (grown_trans (grown_drewN (World.grownBy.refl w3 none) 1) hG (Or.inl rfl)))
  have HB4 := hide (below_on (unhide HB3) (grown_trans (grown_drewN (World.grownBy.refl w3 none) 1) hG (Or.inl rfl)) (Nat.le_refl _))
  clear hst hG HX3 HB3
  have hst := stands_any _ p _ t r (t.extract A (A + q) ++ p2) 300 wc (unhide HX4) (by rw [ByteArray.size_append]; omega) (by omega)
  go_wp2_with fail
  refine hst.mono ?_
  rintro e w5 ⟨rfl, hG⟩
  have HX5 := hide ((unhide HX4).grown hG)
  have HB5 := hide (below_on (unhide HB4) hG (Nat.le_refl _))
  clear hst hG HX4 HB4
  go_wp2_with fail
  refine (unhide KM _).mono ?_
  rintro e w6 ⟨rfl, hw⟩
  replace hw := hw.symm
  subst hw
  have hst := stands_any _ p _ t r p2 M w5 (unhide HX5) (by omega) (by omega)
  go_wp2_with fail
  refine hst.mono ?_
  rintro e w6 ⟨rfl, hG⟩
  have HX6 := hide ((unhide HX5).grown hG)
  have HB6 := hide (below_on (unhide HB5) hG (Nat.le_refl _))
  clear hst hG HX5 HB5
  have hst := stands_any _ p _ t r ⟨#[]⟩ 300 w6 (unhide HX6) (by decide) (by omega)
  go_wp2_with fail
  refine hst.mono ?_
  rintro e w7 ⟨rfl, hG⟩
  have HX7 := hide ((unhide HX6).grown hG)
  have HB7 := hide (below_on (unhide HB6) hG (Nat.le_refl _))
  clear hst hG HX6 HB6
  have hlo := locate_no _ p _ _ r p2 (-1) w7 (unhide HX7) (by decide)
  go_wp2_with fail
  refine hlo.mono ?_
  rintro e w8 ⟨rfl, hw⟩
  subst hw
  clear hlo
  go_wp2_with fail
  go_ret
  exact ⟨rfl, unhide HB7⟩
end Go.Proofs.YthlincikgdblfaaGreat

namespace Go.Proofs.YthlincikgdblfaaGreat.found
open Go.ChangeShapes Go.WideShapes Go.ChangeAt Go.RowKit
open Go.ChangeMaps (open_string shut_string)
set_option linter.unusedVariables false

set_option maxRecDepth 100000 in
theorem lifted (os : Os) (started : os.Started) (H : Type) (enc : TypeId × Value → H) :
    ReturnsInHanded {} Tryz.checked os 9 .any (Rows.foundSpec.pre6 enc Tryz.prog Tryz.f9 Rows.foundRow.domain false) (Rows.foundSpec.post enc Tryz.prog Tryz.f9 false true false false) := by
  refine returnsInHanded_of_change_sized (C := Tryz.checked) own0 started (by kernel_rfl) Tryz.func9
    (ChangeSpec.witness6 (enc := enc) (C := Tryz.checked) false ⟨#[], #[.string ByteArray.empty, .int .i64 0, .string ByteArray.empty, .int .i64 0, .int .i64 0, .int .i64 0], []⟩ 8 (by kernel_rfl) (by kernel_rfl) (by kernel_rfl) (by kernel_rfl)) ?_
  intro W base args ds gs before hval0 hW hcnd hsz0 _
  have hval : ∀ (j : Nat) t v, Tryz.f9.params[j]? = some t → args[j]? = some v → Value.okWide Tryz.prog W .any base t v := hval0
  have hsz : (DataW.weightsEach Tryz.prog (Tryz.f9.params.toList ++ Rows.foundSpec.plain.varTypes Tryz.prog) (ds ++ gs)).all (· ≤ reachBytes) = true := hsz0
  have hW' := hW
  obtain ⟨p, q, hA0, hV, rfl, hfz, hnd⟩ := hW
  have hA : DataW.TrodAll enc Tryz.prog W 0 (fun _ => true) true Tryz.f9.params.toList args.toList ds p := hA0
  rw [Tryz.params9] at hA hval hsz
  obtain ⟨v0, vs0, d0, ds0, p0, q0, hargs, rfl, rfl, h0, r0⟩ := trodAll_cons hA
  obtain ⟨v1, vs1, d1, ds1, p1, q1, rfl, rfl, rfl, h1, r1⟩ := trodAll_cons r0
  obtain ⟨v2, vs2, d2, ds2, p2, q2, rfl, rfl, rfl, h2, r2⟩ := trodAll_cons r1
  obtain ⟨v3, vs3, d3, ds3, p3, q3, rfl, rfl, rfl, h3, r3⟩ := trodAll_cons r2
  obtain ⟨v4, vs4, d4, ds4, p4, q4, rfl, rfl, rfl, h4, r4⟩ := trodAll_cons r3
  obtain ⟨v5, vs5, d5, ds5, p5, q5, rfl, rfl, rfl, h5, r5⟩ := trodAll_cons r4
  obtain ⟨rfl, rfl, rfl⟩ := trodAll_nil r5
  obtain rfl : args = #[v0, v1, v2, v3, v4, v5] := by cases args; simp_all
  obtain ⟨rfl, rfl⟩ := trodVars_none hV
  obtain ⟨a0, rfl, rfl, rfl, w0⟩ := open_string Tryz.underlying9 (hval 0 9 v0 rfl rfl) h0
  obtain ⟨a1, rfl, rfl, rfl, w1⟩ := open_int Tryz.underlying3 (hval 1 3 v1 rfl rfl) h1
  obtain ⟨a2, rfl, rfl, rfl, w2⟩ := open_string Tryz.underlying9 (hval 2 9 v2 rfl rfl) h2
  obtain ⟨a3, rfl, rfl, rfl, w3⟩ := open_int Tryz.underlying3 (hval 3 3 v3 rfl rfl) h3
  obtain ⟨a4, rfl, rfl, rfl, w4⟩ := open_int Tryz.underlying3 (hval 4 3 v4 rfl rfl) h4
  obtain ⟨a5, rfl, rfl, rfl, w5⟩ := open_int Tryz.underlying3 (hval 5 3 v5 rfl rfl) h5
  have hb0 : a0.size ≤ 140737488351232 := by
    have := sized_string hsz (j := 0) (t := 9) rfl rfl
    have e : a0.data.toList.length = a0.size := by simp
    simp only [reachBytes] at this
    omega
  have hb2 : a2.size ≤ 140737488351232 := by
    have := sized_string hsz (j := 2) (t := 9) rfl rfl
    have e : a2.data.toList.length = a2.size := by simp
    simp only [reachBytes] at this
    omega
  clear hA0 hval0 hsz hsz0
  refine (found_walk a0 a1 a2 a3 a4 a5 w0 (bounds_i64 w1) hb2 (bounds_i64 w3) (bounds_i64 w4) (bounds_i64 w5) W).mono fun e W' ⟨he, bel⟩ => ?_
  subst he
  exact ⟨_, rfl, _, _, _, [], _, [], hW', trodAll_mk1 (shut_bool Tryz.underlying4 _), (trodAll_cons_mk (shut_string Tryz.underlying9 w0) (trodAll_cons_mk (shut_int Tryz.underlying3 w1) (trodAll_cons_mk (shut_string Tryz.underlying9 w2) (trodAll_cons_mk (shut_int Tryz.underlying3 w3) (trodAll_cons_mk (shut_int Tryz.underlying3 w4) (trodAll_cons_mk (shut_int Tryz.underlying3 w5) trodAll_mk0)))))), rfl, bel.frame _, fun h => by cases h⟩

theorem over : Rows.foundRow.holds Tryz.pinned (OpenSpec.ofChange Rows.foundSpec) :=
  OpenClaim.holds_of_wide 9 Tryz.f9 rfl rfl rfl rfl rfl rfl rfl ⟨rfl, rfl, rfl, rfl, rfl⟩ rfl rfl rfl rfl rfl (by kernel_rfl) Tryz.func9 (by kernel_rfl)
    (of_decide_eq_true (by kernel_rfl)) (by unfold Func.isWrapper; first | (rw [if_pos (by decide +kernel)]; kernel_rfl) | (rw [if_neg (by decide +kernel)]; exact ⟨rfl, rfl⟩))
    (fun os started H enc _ => lifted os started H enc)
end Go.Proofs.YthlincikgdblfaaGreat.found
namespace Go.Proofs.YthlincikgdblfaaGreat
theorem found_holds : Rows.FoundSaid := found.over
#print axioms found_holds
end Go.Proofs.YthlincikgdblfaaGreat
