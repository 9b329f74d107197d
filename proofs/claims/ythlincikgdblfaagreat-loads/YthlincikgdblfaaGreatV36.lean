import Derived.Test.YthlincikgdblfaaGreatV35
import Derived.Test.YthlincikgdblfaaGreatShelf4
import Derived.Sort.OwnSortedInts
import Derived.Test.YthlincikgdblfaaGreatV09
import Derived.Deep.RegionHeld
import Derived.Test.YthlincikgdblfaaGreatV30
namespace Go.Proofs.YthlincikgdblfaaGreat
open Go.RowKit
set_option linter.unusedVariables false

/-- Behind some steps back of at. -/
def AtRowV (col : List UInt8) (n last k0 : Nat) (w : World) (rv sv : Value) (wr : World) : Prop := ∃ k R j : Nat, k0 + k ≤ n ∧ rv = .int .i64 (R : Int) ∧ sv = .int .i64 (k : Int) ∧ R ≤ n ∧ Hid (R = Rot.walk col last (k0 + k)) ∧ Hid (wr = w.drewN j)
theorem AtRowV.mk {col : List UInt8} {n last k0 : Nat} {w wr : World} {rv sv : Value} (k R j : Nat) (h1 : k0 + k ≤ n) (h2 : rv = .int .i64 (R : Int)) (h3 : sv = .int .i64 (k : Int)) (h4 : R ≤ n) (h5 : R = Rot.walk col last (k0 + k)) (h6 : wr = w.drewN j) : AtRowV col n last k0 w rv sv wr := ⟨k, R, j, h1, h2, h3, h4, h5, h6⟩
set_option maxRecDepth 100000 in
set_option maxHeartbeats 1000000 in
/-- Where a row is at. -/
theorem at_row (x : Nat) (s : List UInt8) (n r last : Nat) (F : Nat → Nat) (M : List UInt8) (Q : List Nat) (i : Nat) (w : World) (h : Xv w x s n r last F M Q) (hF : firstOk F s n) (hW : Rot.Whole (Rot.colRead s 44 n) last) (hk : walkOk (Rot.colRead s 44 n) n r last M Q) (hQ : Q.length = Rot.os M (n + 1)) (hQb : ∀ q ∈ Q, q < 65536) (hn : n ≤ 250) (hr1 : 1 ≤ r) (hi : i ≤ n) :
    Calls Tryz.prog 67 #[.pointer (some ⟨x, 0, none⟩), .int .i64 i] w fun e w' => e = .returned (.int .i64 ((n - Rot.metAt (Rot.colRead s 44 n) last i : Nat) : Int)) ∧ ∃ j, w' = w.drewN j := by
  have hcl := Rot.colRead_len s 44 n
  have hll := hW.le
  rw [hcl] at hll
  have hQl : Q.length ≤ 300 := by rw [hQ]; have := Rot.os_le M (n + 1); omega
  obtain ⟨m1, m2⟩ := Rot.metAt_le hW (i := i) (by rw [hcl]; exact hi)
  rw [hcl] at m1
  have HX := hide h
  have HF := hide hF
  have HWh := hide hW
  have HK := hide hk
  have HQ := hide hQ
  have HQb := hide hQb
  clear h hF hW hk hQ hQb
  generalize hcol : Rot.colRead s 44 n = col at HWh HK hcl m1 m2 ⊢
  have HCol := hide hcol
  have HCL := hide hcl
  clear hcol hcl
  generalize Rot.metAt col last i = k0 at m1 m2 ⊢
  have HM2 := hide m2
  clear m2
  go_enter Tryz.func67, Tryz.ntmps67
  go_wp2_with fail
  go_loopw [1, 5] (fun rv sv wr => AtRowV col n last k0 w rv sv wr) (fun _ sv _ => n - k0 - (intOf sv).toNat)
  case atStart => exact AtRowV.mk 0 i 0 (by omega) rfl rfl hi (by rw [Nat.add_zero]; exact (unhide HM2).symm) rfl
  case round =>
    obtain ⟨k, R, j, hkn, rfl, rfl, hR, HR, HWr⟩ := hrel
    have HXr : Hid (Xv wr x s n r last F M Q) := by rw [unhide HWr]; exact (unhide HX).drewN j
    have HMK : Hid (markOk M Q r R (n - (k0 + k))) := by
      have hk := unhide HK
      by_cases e : k0 + k = n
      · have := hk.2.2
        rw [← e, ← unhide HR] at this
        rw [e, Nat.sub_self]
        exact this
      · have := (hk.2.1 (k0 + k) (by omega)).2
        rwa [← unhide HR] at this
    obtain ⟨p, a, D, hB, hD⟩ := (unhide HXr).marks
    have hPl := hD.1
    have hcb := bit_any x 299 p a M D (n + 1) _ R wr hB (by omega) (by omega)
    by_cases hbit : Rot.bitAt M 0 R = 1
    · have hco := fun j => ones_any x 299 p a M D (n + 1) R (wr.drewN j) (hB.drewN j) (by omega) (fun _ => hD) (by omega)
      have hlt : Rot.os M R < Q.length := by rw [unhide HQ]; exact os_bit_lt (by omega) hbit
      obtain ⟨v, hv, hU⟩ := (unhide HXr).places
      obtain ⟨g, cap, rfl, hcap, hcell⟩ := hU.slice (by omega)
      have cq := hcell _ hlt
      have hqv := (unhide HMK).2 hbit
      rw [List.getElem?_eq_getElem hlt] at hqv
      simp only [Option.getD_some] at hqv
      rw [hqv] at cq
      have hob := Rot.os_le M R
      rw [hbit] at hcb
      have hbe : ((1 : Nat) == 1) = true := rfl
      rw [hbe] at hcb
      obtain ⟨m, hm⟩ : ∃ m, n = k0 + k + m := ⟨n - (k0 + k), by omega⟩
      have em : n - (k0 + k) = m := by omega
      rw [em] at cq
      have HE : Hid (n - k0 = m + k) := hide (by omega)
      generalize Rot.os M R = o at hco hlt cq hob
      clear hB hD hcell hU hqv hPl HMK HXr HX HK HR hbit em
      go_wp2_with fail
      refine hcb.mono ?_
      rintro e w1 ⟨rfl, hw1⟩
      subst hw1
      clear hcb
      go_wp2_with fail
      go_quiet ((go_at_call 83; exact Calls.quiet_of (hco _)))
      go_wp2_with fail
      go_ret
      refine ⟨?_, j + nq, by rw [unhide HWr]; exact World.drewN_drewN _ _ _⟩
      rw [unhide HE]
      rfl
    · have hb0 : Rot.bitAt M 0 R = 0 := by have := Rot.bitAt_lt M 0 R; omega
      have hne : k0 + k ≠ n := by
        intro e
        have := (unhide HMK).1
        rw [e, Nat.sub_self, hb0] at this
        simp [Rot.isMarked] at this
      have hrl : R ≠ last := by rw [unhide HR]; exact (unhide HWh).on _ (by rw [unhide HCL]; omega)
      rw [hb0] at hcb
      have hbe : ((0 : Nat) == 1) = false := rfl
      rw [hbe] at hcb
      have hbk := rowsBack_any x s n r last F M Q R wr (unhide HXr) (unhide HF) hn hll hR hrl
      rw [unhide HCol] at hbk
      have hplt : Rot.placeOf last R < col.length := by rw [unhide HCL]; exact Rot.placeOf_lt hll hR hrl
      have hbn : Rot.back col last R ≤ n := by
        have := Rot.lower_bound hplt
        rw [unhide HCL] at this
        unfold Rot.back
        omega
      have HR2 : Hid (Rot.back col last R = Rot.walk col last (k0 + (k + 1))) := by rw [unhide HR]; exact rfl
      generalize Rot.back col last R = R2 at hbk hbn HR2
      generalize (Rot.at' col (Rot.placeOf last R)).toNat = cc at hbk
      clear hB hD hPl HMK HXr HX HK HR hbit hb0 hplt hrl
      go_wp2_with fail
      refine hcb.mono ?_
      rintro e w1 ⟨rfl, hw1⟩
      subst hw1
      clear hcb
      go_wp2_with fail
      refine hbk.mono ?_
      rintro e w2 ⟨rfl, j2, hw2⟩
      have HW2 := hide hw2
      clear hbk hw2
      go_wp2_with fail
      go_roundw
      case rel => exact AtRowV.mk (k + 1) R2 (j + j2) (by omega) rfl (by go_num) hbn (unhide HR2) (by rw [unhide HW2, unhide HWr]; exact World.drewN_drewN _ _ _)
      case measure => simp [intOf]; omega
end Go.Proofs.YthlincikgdblfaaGreat

namespace Go.Proofs.YthlincikgdblfaaGreat
open Go.RowKit
set_option linter.unusedVariables false

/-- How often p stands in the text. -/
theorem xCount_any (x : Nat) (s : List UInt8) (n r last : Nat) (F : Nat → Nat) (M : List UInt8) (Q : List Nat) (p : ByteArray) (t : List UInt8) (w : World) (h : Xv w x s n r last F M Q) (hF : firstOk F s n) (hW : Rot.Whole (Rot.colRead s 44 n) last) (ht : t = Rot.spell (Rot.colRead s 44 n) last n) (hn : n ≤ 250) (hp : p.size ≤ maxLen) :
    Calls Tryz.prog 65 #[.pointer (some ⟨x, 0, none⟩), .string p] w fun e w' => e = .returned (.int .i64 ((Rot.placesIn t p.data.toList).length : Nat)) ∧ ∃ j, w' = w.drewN j := by
  have hcon := beginningWith_any x s n r last F M Q p w h hF hW hn hp
  have hcl := Rot.colRead_len s 44 n
  have HWh := hide hW
  have HT := hide ht
  have HCL := hide hcl
  clear h hF hW ht hcl
  go_enter Tryz.func65, Tryz.ntmps65
  go_wp2_with fail
  refine hcon.mono ?_
  rintro e w1 ⟨a, b, rfl, hab, hbn, hB, j, hw1⟩
  have HB := hide hB
  have HW1 := hide hw1
  clear hcon hB hw1
  go_wp2_with fail
  go_ret
  refine ⟨?_, j, unhide HW1⟩
  have hc := Rot.begins_count (unhide HWh) (unhide HB)
  rw [unhide HCL, ← unhide HT] at hc
  have e : (b : Int) - (a : Int) = (((Rot.placesIn t p.data.toList).length : Nat) : Int) := by omega
  rw [e]
  rfl
/-- A list of the call's own, with no room behind it. -/
def Lst (w : World) (B : Nat) (v : Value) (d : List Nat) : Prop := ∃ g cap full, v = .slice (some ⟨g, 0, none⟩) d.length d.length ∧ Is w B (.slice (some ⟨g, 0, none⟩) full.length cap) full ∧ full.take d.length = d
theorem wp_appN (w : World) {ops : Array Oper} {rest : List Oper} {o : Oper} {a : Act} {Q : Exit → Act → World → Prop} (hgd : o.guard = none) (s x : Operand)
    (ho : o.op = .call { callee := .builtin .append, args := #[s, x], argTypes := #[25, 25] })
    (B : Nat) (v : Value) (l : List Nat) (hs : a.eval s = v) (hown : Is w B v l) (hne : v ≠ .slice none 0 0) (ad : Addr) (c n : Nat) (m : List Nat) (hn : m.length = n) (hx : a.eval x = .slice (some ad) n c) (hm : ∀ j u, (byI m)[j]? = some u → w.cell? (ad.add j) = some u)
    (hl : l.length + m.length < 1000000) (hB : B ≤ w.heap.size)
    (h : ∀ v' w', Is w' B v' (l ++ m) → v' ≠ .slice none 0 0 → w.grownBy w' v.ownBlock → wpList Tryz.prog ops Q rest (a.put o.dst v') w') : wpList Tryz.prog ops Q (o :: rest) a w := by
  subst hn
  obtain ⟨i0, hi, hz0, hz1, hz2⟩ := info_parts infoI
  refine wpList_append_own_at w hgd s x 25 ho B 3 i0 (.int .i64 0) 1 8 Tryz.underlying25 hi hz0 hz1 hz2 rfl (by decide) v l.length (byI l) hs hown ad m.length c (byI m) hx (by rw [byI_length]; omega) hm (byI_one m) (by unfold maxLen; omega) (by omega) hB ?_
  intro v' w' h1 h2 h3 h4
  refine h v' w' ?_ (fun e => hne (h3.1 e).1) h2
  unfold Is; rw [byI_append, List.length_append]; exact h1
def LocV (col : List UInt8) (last a b : Nat) (w : World) (lv iv : Value) (wr : World) : Prop := ∃ d : Nat, a + d ≤ b ∧ iv = .int .i64 ((a + d : Nat) : Int) ∧ Is wr w.heap.size lv (Rot.placesAt col last a d) ∧ lv ≠ .slice none 0 0 ∧ w.grownBy wr none
theorem LocV.mk {col : List UInt8} {last a b : Nat} {w wr : World} {lv iv : Value} (d : Nat) (h1 : a + d ≤ b) (h2 : iv = .int .i64 ((a + d : Nat) : Int)) (h3 : Is wr w.heap.size lv (Rot.placesAt col last a d)) (h4 : lv ≠ .slice none 0 0) (h5 : w.grownBy wr none) : LocV col last a b w lv iv wr := ⟨d, h1, h2, h3, h4, h5⟩
set_option maxRecDepth 100000 in
set_option maxHeartbeats 1000000 in
theorem xLocate_any (x : Nat) (s : List UInt8) (n r last : Nat) (F : Nat → Nat) (M : List UInt8) (Q : List Nat) (p : ByteArray) (most : Nat) (t : List UInt8) (w : World) (h : ∀ w', w.grownBy w' none → Xv w' x s n r last F M Q) (hF : firstOk F s n) (hW : Rot.Whole (Rot.colRead s 44 n) last) (hk : walkOk (Rot.colRead s 44 n) n r last M Q) (hQ : Q.length = Rot.os M (n + 1)) (hQb : ∀ q ∈ Q, q < 65536) (ht : t = Rot.spell (Rot.colRead s 44 n) last n) (hn : n ≤ 250) (hr1 : 1 ≤ r) (hp : p.size ≤ maxLen) (hm : most ≤ 9223372036854775807) :
    Calls Tryz.prog 37 #[.pointer (some ⟨x, 0, none⟩), .string p, .int .i64 most] w fun e w' => ∃ v, e = .returned v ∧ Lst w' w.heap.size v ((Rot.placesIn t p.data.toList).take most) ∧ w.grownBy w' none := by
  obtain ⟨i0, hi, hz0, hz1, hz2⟩ := info_parts infoI
  have hcon := beginningWith_any x s n r last F M Q p w (h w (World.grownBy.refl _ _)) hF hW hn hp
  have hat := fun (i : Nat) (hi : i ≤ n) (w' : World) (g : w.grownBy w' none) => at_row x s n r last F M Q i w' (h w' g) hF hW hk hQ hQb hn hr1 hi
  have hcl := Rot.colRead_len s 44 n
  have HWh := hide hW
  have HT := hide ht
  have HAT := hide hat
  clear h hF hW hk hQ hQb ht hat
  generalize Rot.colRead s 44 n = col at HWh HT HAT hcl hcon
  have HCL := hide hcl
  clear hcl
  go_enter Tryz.func37, Tryz.ntmps37
  go_wp2_with fail
  refine hcon.mono ?_
  rintro e w1 ⟨a, b, rfl, hab, hbn, hB, j, hw1⟩
  have HB := hide hB
  have HG1 : Hid (w.grownBy w1 none) := by rw [hw1]; exact grown_drewN (World.grownBy.refl _ _) j
  have hsz1 : w1.heap.size = w.heap.size := by rw [hw1]; rfl
  clear hcon hB hw1
  obtain ⟨d, hd⟩ : ∃ d, b = a + d := ⟨b - a, by omega⟩
  have hbd : (b : Int) - (a : Int) = (d : Int) := by omega
  have HD := hide hd
  have hdn : d ≤ 300 := by omega
  clear hd
  go_wp2_with (at_make; refine wpList_make_own _ rfl _ _ 25 rfl w1.heap.size 3 i0 (.int .i64 0) 1 Tryz.underlying25 hi hz0 hz1 .i64 .i64 _ d rfl rfl rfl ?m1 ?m2 (Nat.le_refl _) ?_)
  case m1 => rw [hz2]; omega
  case m2 => unfold maxLen; omega
  intro w2 O2 G2
  have P0 : LocV col last a b w (.slice (some ⟨w.heap.size, 0, none⟩) 0 d) (.int .i64 (a : Int)) w2 := LocV.mk 0 (by omega) rfl O2 (by simp) (grown_trans (unhide HG1) G2 (Or.inl rfl))
  clear O2 G2
  go_wp2_with fail
  go_loopw [9, 10] (fun lv iv wr => LocV col last a b w lv iv wr) (fun _ iv _ => b - (intOf iv).toNat)
  case atStart => exact P0
  case round =>
    obtain ⟨k, hkb, rfl, L, hne, G⟩ := hrel
    clear P0
    have hsz := G.size
    by_cases hlt : a + k < b
    · have hca := unhide HAT (a + k) (by omega) wr G
      have HF2 := hide (Rot.placesAt_succ col last a k)
      rw [unhide HCL] at HF2
      have hpl : (Rot.placesAt col last a k).length = k := Rot.placesAt_len _ _ _ _
      have hdl : decide (((a + k : Nat) : Int) < (b : Int)) = true := by simp; omega
      generalize hmm : n - Rot.metAt col last (a + k) = pl at hca HF2
      have hpn : pl ≤ 250 := by omega
      clear hmm
      go_wp2_with fail
      refine hca.mono ?_
      rintro e w3 ⟨rfl, j3, hw3⟩
      have L3 : Is w3 w.heap.size u9 (Rot.placesAt col last a k) := by rw [hw3]; exact L
      have HG3 : Hid (w.grownBy w3 none) := by rw [hw3]; exact grown_drewN G j3
      have hsz3 : w.heap.size ≤ w3.heap.size := (unhide HG3).size
      clear hca hw3 L G
      go_wp2_with (at_builtin; refine wp_appN _ rfl (.tmp 28) (.tmp 32) rfl w.heap.size _ _ rfl (World.ownsRow.alloc L3 _) hne ⟨w3.heap.size, 0, none⟩ 1 1 [pl] rfl rfl (cell_one_new _ _ _) ?a2 ?a3 ?_)
      case a2 => simp only [List.length_singleton]; omega
      case a3 => simp; omega
      intro v1 w4 L4 ne4 g4
      have HL : Hid (Is w4 w.heap.size v1 (Rot.placesAt col last a (k + 1))) := by rw [unhide HF2]; exact L4
      have HG := hide (grown_trans (grown_alloc (unhide HG3) _) g4 (by
        cases e : u9.ownBlock with
        | none => exact Or.inl rfl
        | some j => exact Or.inr ⟨j, rfl, (World.ownsRow.lt L3 j e).1⟩))
      have HNE := hide ne4
      clear L4 g4 L3 HG3 ne4 hne
      go_wp2_with fail
      go_roundw
      case rel =>
        first | exact LocV.mk (k + 1) (by omega) (by go_num) (unhide HL) (unhide HNE) (unhide HG) | (repeat apply Exists.intro; refine ⟨?_, rfl⟩; exact LocV.mk (k + 1) (by omega) (by go_num) (unhide HL) (unhide HNE) (unhide HG))
      case measure => first | (simp [intOf]; done) | (simp [intOf]; omega)
    · have ek : k = d := by have := unhide HD; omega
      subst ek
      have hpl : (Rot.placesAt col last a k).length = k := Rot.placesAt_len _ _ _ _
      have hso := Rot.begins_sorted (unhide HWh) (unhide HB)
      have hpm := (Rot.begins_perm (unhide HWh) (unhide HB)).length_eq
      rw [show b - a = k by have := unhide HD; omega] at hso hpm
      rw [unhide HCL, ← unhide HT] at hso hpm
      rw [hpl] at hpm
      have hdl : decide (((a + k : Nat) : Int) < (b : Int)) = false := by simp; omega
      obtain ⟨L1, L2⟩ := L
      rcases L2 with ⟨h0, _⟩ | ⟨g, cap, cur, rfl, hgb, hg, hgn, hgm, hgc, hgt⟩
      · exact absurd h0 hne
      rw [hpl] at hgn hgt
      rw [hpl]
      have hzl : ((Rot.placesAt col last a k).map fun (n : Nat) => (n : Int)).length = k := by rw [List.length_map, hpl]
      have hH := holds_of_blockI (ss := (Rot.placesAt col last a k).map fun (n : Nat) => (n : Int)) hg (by rw [hzl]; rw [Nat.mul_one] at hgt; rw [hgt]; simp [byI])
      have hsort := Tryz.slices_Sort_int g 0 cap _ wr hH (Array.getElem?_eq_some_iff.1 hg).1 (by rw [hzl]; omega)
      rw [hzl, hso] at hsort
      have hown := fun (nn : Nat) (os : Array Obj) => ownsRow_sortedI (w := wr) (n := nn) (os := os) (ss := (Rot.placesAt col last a k).map fun (n : Nat) => (n : Int)) (ts := (Rot.placesIn t p.data.toList).map fun (n : Nat) => (n : Int)) (by rw [List.length_map, List.length_map, hpl]; exact hpm.symm) hgb hg (by rw [hzl]; exact hgn) hgm hgc
      rw [hzl] at hown
      have HO : Hid (∀ (nn : Nat) (os : Array Obj), Is (Sort.grow (Sort.putRow (Value.int .i64) (Sort.ahead wr nn) g 0 ((Rot.placesIn t p.data.toList).map fun (n : Nat) => (n : Int)).toArray) os) w.heap.size (.slice (some ⟨g, 0, none⟩) (Rot.placesIn t p.data.toList).length cap) (Rot.placesIn t p.data.toList)) := by
        intro nn os
        have := hown nn os
        unfold Is
        rw [hpm, List.map_map] at this
        exact this
      have HGr : Hid (∀ (nn : Nat) (os : Array Obj), w.grownBy (Sort.grow (Sort.putRow (Value.int .i64) (Sort.ahead wr nn) g 0 ((Rot.placesIn t p.data.toList).map fun (n : Nat) => (n : Int)).toArray) os) none) := fun nn os => grown_trans G (grownBy_sortedI (w := wr) (g := g) (n := nn) (os := os) _) (Or.inr ⟨g, rfl, hgb⟩)
      have hkl : k ≤ 251 := by have := unhide HD; omega
      clear hown hH hgt hgc hgm hg L1 hso hzl hne G HT HAT HB HWh
      generalize hpls : Rot.placesIn t p.data.toList = pls at hsort HO HGr hpm ⊢
      have HPM := hide hpm
      have HPL := hide hpls
      clear hpm hpls
      go_wp2_with fail
      refine hsort.mono ?_
      rintro e w5 ⟨rfl, nn, os, hw5⟩
      have I5 := unhide HO nn os
      have HG5 := hide (unhide HGr nn os)
      rw [← hw5] at I5 HG5
      have HI5 := hide I5
      clear hsort hw5 HO HGr I5
      obtain ⟨q, hq⟩ : ∃ q : Nat, q = min most k := ⟨_, rfl⟩
      have hqi : min (most : Int) (k : Int) = (q : Int) := by omega
      have hqk : q ≤ k := by omega
      have HQM := hide hq
      have hqm : q ≤ most := by omega
      clear hq
      go_wp2_with fail
      go_ret
      refine ⟨_, rfl, ?_, unhide HG5⟩
      rw [unhide HPL]
      have hl : (pls.take most).length = q := by rw [List.length_take, unhide HQM, unhide HPM]
      refine ⟨g, cap, pls, ?_, unhide HI5, ?_⟩
      · rw [hl]
        rfl
      · rw [hl]
        by_cases e : most ≤ pls.length
        · rw [unhide HQM, unhide HPM, Nat.min_eq_left e]
        · rw [unhide HQM, unhide HPM, List.take_of_length_le (by omega), List.take_of_length_le (by omega)]
theorem nums_len13 (l : List UInt8) (k : Nat) : (Rot.nums l k).length = k := by simp [Rot.nums]
theorem nums_lt13 (l : List UInt8) (k : Nat) : ∀ q ∈ Rot.nums l k, q < 65536 := by
  intro q hq
  simp only [Rot.nums, List.mem_map] at hq
  obtain ⟨i, _, rfl⟩ := hq
  unfold Rot.numAt
  have h1 : ((l[2 * i]?).getD 0).toNat < 256 := ((l[2 * i]?).getD 0).toNat_lt
  have h2 : ((l[2 * i + 1]?).getD 0).toNat < 256 := ((l[2 * i + 1]?).getD 0).toNat_lt
  omega
theorem count_nil (p : ByteArray) (w : World) : Calls Tryz.prog 36 #[.pointer none, .string p] w fun e w' => e = .returned (.int .i64 0) ∧ w' = w := by
  have hc := isNone_nil w
  go_enter Tryz.func36, Tryz.ntmps36
  go_wp2_with fail
  refine hc.mono ?_
  rintro e w2 ⟨rfl, hw2⟩
  subst hw2
  clear hc
  go_wp2_with fail
  go_ret
  exact ⟨rfl, rfl⟩
/-- COUNT, of an index. -/
theorem count_idx (B x : Nat) (s t : List UInt8) (r : Nat) (p : ByteArray) (w : World) (h : Idx B w x s t r) (hp : p.size ≤ maxLen) :
    Calls Tryz.prog 36 #[.pointer (some ⟨x, 0, none⟩), .string p] w fun e w' => e = .returned (.int .i64 ((Rot.placesIn t p.data.toList).length : Nat)) ∧ ∃ j, w' = w.drewN j := by
  obtain ⟨hf, _, y, _, hx⟩ := h
  obtain ⟨h1, h2, h3, _, h5⟩ := file_tells2 hf
  obtain ⟨c0, X⟩ := hx w (Stay.refl _ _)
  have hc := isNone_some x y w c0
  have hcon := xCount_any y s t.length r (lastIn s) _ _ _ p t w X h1 h2 h3 h5 hp
  generalize (Rot.placesIn t p.data.toList).length = c at hcon ⊢
  clear hx X h1 h2 h3
  go_enter Tryz.func36, Tryz.ntmps36
  go_wp2_with fail
  refine hc.mono ?_
  rintro e w2 ⟨rfl, hw2⟩
  subst hw2
  clear hc
  go_wp2_with fail
  refine hcon.mono ?_
  rintro e w3 ⟨rfl, j, hw3⟩
  have HW3 := hide hw3
  clear hcon hw3
  go_wp2_with fail
  go_ret
  exact ⟨rfl, j, unhide HW3⟩
/-- LOCATE, of an index. -/
theorem locate_yes (B x : Nat) (s t : List UInt8) (r : Nat) (p : ByteArray) (most : Nat) (w : World) (h : Idx B w x s t r) (hp : p.size ≤ maxLen) (hm : most ≤ 9223372036854775807) :
    Calls Tryz.prog 23 #[.pointer (some ⟨x, 0, none⟩), .string p, .int .i64 most] w fun e w' => ∃ v, e = .returned (.tuple #[v, .int .i64 0]) ∧ Lst w' w.heap.size v ((Rot.placesIn t p.data.toList).take most) ∧ w.grownBy w' none := by
  obtain ⟨hf, _, y, _, hx⟩ := h
  obtain ⟨h1, h2, h3, h4, h5⟩ := file_tells2 hf
  obtain ⟨c0, X⟩ := hx w (Stay.refl _ _)
  have hc := isNone_some x y w c0
  have hr1 : 1 ≤ r := (Rot.rate_le hf.2.1).1
  have hcon := xLocate_any y s t.length r (lastIn s) _ _ _ p most t w (fun w' g => (hx w' (Stay.of g (fun _ e => by simp at e))).2) h1 h2 h4 (nums_len13 _ _) (nums_lt13 _ _) h3 h5 hr1 hp hm
  have d : decide ((most : Int) < 0) = false := by simp
  generalize (Rot.placesIn t p.data.toList).take most = c at hcon ⊢
  clear hx X h1 h2 h3 h4
  go_enter Tryz.func23, Tryz.ntmps23
  go_wp2_with fail
  refine hc.mono ?_
  rintro e w2 ⟨rfl, hw2⟩
  subst hw2
  clear hc
  go_wp2_with fail
  refine hcon.mono ?_
  rintro e w3 ⟨v, rfl, hL, hG⟩
  have HL := hide hL
  have HG := hide hG
  obtain ⟨g, cap, full, rfl, _, _⟩ := hL
  clear hcon hG
  go_wp2_with fail
  go_ret2
  exact ⟨_, rfl, unhide HL, unhide HG⟩
theorem locate_no (B x : Nat) (s t : List UInt8) (r : Nat) (p : ByteArray) (most : Int) (w : World) (h : Idx B w x s t r) (hm : most < 0) :
    Calls Tryz.prog 23 #[.pointer (some ⟨x, 0, none⟩), .string p, .int .i64 most] w fun e w' => e = .returned (.tuple #[.slice none 0 0, .int .i64 1]) ∧ w' = w := by
  obtain ⟨hf, _, y, _, hx⟩ := h
  obtain ⟨c0, X⟩ := hx w (Stay.refl _ _)
  have hc := isNone_some x y w c0
  have d : decide (most < 0) = true := by simpa using hm
  clear hx X
  go_enter Tryz.func23, Tryz.ntmps23
  go_wp2_with fail
  refine hc.mono ?_
  rintro e w2 ⟨rfl, hw2⟩
  subst hw2
  clear hc
  go_wp2_with fail
  go_ret2
  exact ⟨rfl, rfl⟩
end Go.Proofs.YthlincikgdblfaaGreat

namespace Go.Proofs.YthlincikgdblfaaGreat
set_option linter.unusedVariables false
open Go.RowKit

theorem lpick_any (c : Int) (n : Nat) (w : World) (h1 : -9223372036854775808 ≤ c) (h2 : c ≤ 9223372036854775807) (hn : 1 ≤ n) (hn2 : n ≤ 4611686018427387904) :
    Calls Tryz.prog 41 #[.int .i64 c, .int .i64 n] w fun e w' => e = .returned (.int .i64 (pickOf c n : Int)) ∧ w' = w := by
  have hz : ((n : Int) == 0) = false := by simp; omega
  by_cases hc : c < 0
  · go_enter Tryz.func41, Tryz.ntmps41
    go_wp2
    go_ret
    refine ⟨ret_int ?_, rfl⟩
    unfold pickOf
    rw [if_pos hc, Int.natCast_emod, Int.toNat_of_nonneg (by omega), ← Int.neg_tmod, Int.tmod_eq_emod_of_nonneg (by omega)]
  · go_enter Tryz.func41, Tryz.ntmps41
    go_wp2
    go_ret
    refine ⟨ret_int ?_, rfl⟩
    unfold pickOf
    rw [if_neg (by omega), Int.natCast_emod, Int.toNat_of_nonneg (by omega)]
theorem Wv.shape {g : Nat} {w : World} {v : Value} {ps : List Pr} (h : Wv g w v ps) : ∃ va m vc, v = .slice va m vc ∧ m = ps.length ∧ (m = 0 ∨ ∃ gi, va = some ⟨gi, 0, none⟩ ∧ ∀ i (hi : i < ps.length), w.cell? ⟨gi, i * 2, none⟩ = some (.pointer (some ⟨(ps[i]'hi).p, 0, none⟩)) ∧ w.cell? ⟨gi, i * 2 + 1, none⟩ = some (.pointer (some ⟨(ps[i]'hi).g, 0, none⟩))) := by
  have hr := h.row
  rcases h.row.2 with ⟨h0, h1⟩ | ⟨gi, cap, cur, hv, _⟩
  · exact ⟨none, 0, 0, h0, h1.symm, Or.inl rfl⟩
  · refine ⟨_, _, _, hv, rfl, Or.inr ⟨gi, rfl, fun i hi => ?_⟩⟩
    have hc := prCells_at ps i hi
    have c0 := World.ownsRow.cells h.row (g := gi) (by rw [hv]; rfl) (i * 2) _ hc.1
    have c1 := World.ownsRow.cells h.row (g := gi) (by rw [hv]; rfl) (i * 2 + 1) _ hc.2
    rw [addr_add] at c0 c1
    exact ⟨c0, c1⟩
set_option maxRecDepth 100000 in
set_option maxHeartbeats 2000000 in
theorem step_ask (s : ByteArray) (kd a k b : Int) (lv : Value) (g : Nat) (v : Value) (ps : List Pr) (w : World) (hW : Wv g w v ps) (hk1 : kd ≠ 1) (hk2 : kd ≠ 2) (hk3 : kd ≠ 3) (hk4 : kd ≠ 4) (hk8 : kd ≠ 8) (hk : -9223372036854775808 ≤ k ∧ k ≤ 9223372036854775807) (hs : s.size ≤ 140737488351232) (hps : ps.length ≤ 4611686018427387904) :
    Calls Tryz.prog 24 #[.pointer (some ⟨g, 0, none⟩), .agg #[.int .i64 kd, .int .i64 k, .string s, .int .i64 a, .int .i64 b, lv]] w fun en w' => en = .returned (.bool true) ∧ StepOut g v ps w w' := by
  have e1 : (kd == 1) = false := by simp; omega
  have e2 : (kd == 2) = false := by simp; omega
  have e3 : (kd == 3) = false := by simp; omega
  have e4 : (kd == 4) = false := by simp; omega
  have e8 : (kd == 8) = false := by simp; omega
  have HB0 : Hid (Below w.heap.size w (w.alloc (.cells #[.int .i64 kd, .int .i64 k, .string s, .int .i64 a, .int .i64 b, lv] 58))) := Below.alloc0 _
  obtain ⟨hW1, _⟩ := hW.below (unhide HB0)
  have HW := hide hW
  obtain ⟨va, m, vc, rfl, hm, hsh⟩ := hW1.shape
  have z0 := hW1.c0
  have HM := hide hm
  by_cases hm0 : m = 0
  · subst hm0
    clear hW1 hsh hm hW
    go_enter Tryz.func24, Tryz.ntmps24
    go_wp2_with fail
    go_ret
    exact ⟨rfl, StepOut.below (unhide HW) (unhide HB0)⟩
  rcases hsh with h0 | ⟨gi, rfl, hcells⟩
  · exact absurd h0 hm0
  have hpk := fun W => lpick_any k m W hk.1 hk.2 (by omega) (by omega)
  have hpl := pick_lt k m (by omega)
  generalize pickOf k m = i at hpk hpl
  have hip : i < ps.length := by omega
  obtain ⟨y0, y1⟩ := hcells i hip
  have hQ := hW1.ok _ (List.getElem_mem hip)
  generalize ps[i]'hip = q at y0 y1 hQ
  have HQ := hide hQ
  have hme : ((m : Int) == 0) = false := by simp; omega
  have o0 := cells_new8 w [.int .i64 kd, .int .i64 k, .string s, .int .i64 a, .int .i64 b, lv] 58 0 (by simp)
  have o1 := cells_new8 w [.int .i64 kd, .int .i64 k, .string s, .int .i64 a, .int .i64 b, lv] 58 1 (by simp)
  have o2 := cells_new8 w [.int .i64 kd, .int .i64 k, .string s, .int .i64 a, .int .i64 b, lv] 58 2 (by simp)
  have o3 := cells_new8 w [.int .i64 kd, .int .i64 k, .string s, .int .i64 a, .int .i64 b, lv] 58 3 (by simp)
  have o4 := cells_new8 w [.int .i64 kd, .int .i64 k, .string s, .int .i64 a, .int .i64 b, lv] 58 4 (by simp)
  have hsz1 : (w.alloc (.cells #[.int .i64 kd, .int .i64 k, .string s, .int .i64 a, .int .i64 b, lv] 58)).heap.size = w.heap.size + 1 := by simp
  have him : i < m := hpl
  clear hcells hQ hW1 hm hW hip
  go_enter Tryz.func24, Tryz.ntmps24
  go_upto_region 16 with fail
  generalize w.alloc (.cells #[.int .i64 kd, .int .i64 k, .string s, .int .i64 a, .int .i64 b, lv] 58) = w1 at z0 y0 y1 o0 o1 o2 o3 o4 HB0 HQ hsz1 ⊢
  have HSZ1 := hide hsz1
  simp only [List.getElem_cons_zero, List.getElem_cons_succ] at o0 o1 o2 o3 o4
  have y0a := (World.cell?_alloc_lt _ (.cells #[.pointer none, .pointer none] 87) _ (World.block_lt_of_cell? _ _ y0)).trans y0
  have y1a := (World.cell?_alloc_lt _ (.cells #[.pointer none, .pointer none] 87) _ (World.block_lt_of_cell? _ _ y1)).trans y1
  have z0a := (World.cell?_alloc_lt _ (.cells #[.pointer none, .pointer none] 87) _ (World.block_lt_of_cell? _ _ z0)).trans z0
  have o1a := (World.cell?_alloc_lt _ (.cells #[.pointer none, .pointer none] 87) _ (World.block_lt_of_cell? _ _ o1)).trans o1
  clear hsz1
  go_cut [13] (fun bv wx => ∃ pb, bv = .pointer (some ⟨pb, 0, none⟩) ∧ Below w1.heap.size w1 wx ∧ wx.cell? ⟨pb, 0, none⟩ = some (.pointer (some ⟨q.p, 0, none⟩)) ∧ wx.cell? ⟨pb, 1, none⟩ = some (.pointer (some ⟨q.g, 0, none⟩)))
  case first =>
    go_region_held (fun w' => w'.cell? ⟨g, 0, none⟩ = some (.slice (some ⟨gi, 0, none⟩) m vc) ∧ w'.cell? ⟨w.heap.size, 1, none⟩ = some (.int .i64 k) ∧ w'.cell? ⟨gi, i * 2, none⟩ = some (.pointer (some ⟨q.p, 0, none⟩)) ∧ w'.cell? ⟨gi, i * 2 + 1, none⟩ = some (.pointer (some ⟨q.g, 0, none⟩))) (simp [*, World.cell?_alloc_some]) (first | (go_at_call 41; refine (hpk _).mono ?_; rintro e w9 ⟨rfl, rfl⟩))
    all_goals
      go_wp2_with fail
      go_meet
      exact ⟨_, rfl, Below.drew (Below.alloc0 _), cells_new8 w1 [.pointer (some ⟨q.p, 0, none⟩), .pointer (some ⟨q.g, 0, none⟩)] _ 0 (by simp), cells_new8 w1 [.pointer (some ⟨q.p, 0, none⟩), .pointer (some ⟨q.g, 0, none⟩)] _ 1 (by simp)⟩
  case rest =>
  obtain ⟨pb, rfl, hBx, x0, x1⟩ := hcut
  have hlt1 : w.heap.size < w1.heap.size := by have := unhide HSZ1; omega
  have HB2 : Hid (Below w.heap.size w wc) := (unhide HB0).trans (hBx.mono (Nat.le_of_lt hlt1))
  have p0 := (hBx.cell (p := ⟨w.heap.size, 0, none⟩) hlt1).trans o0
  have p2 := (hBx.cell (p := ⟨w.heap.size, 2, none⟩) hlt1).trans o2
  have p3 := (hBx.cell (p := ⟨w.heap.size, 3, none⟩) hlt1).trans o3
  have p4 := (hBx.cell (p := ⟨w.heap.size, 4, none⟩) hlt1).trans o4
  obtain ⟨⟨B, sB, hidx⟩, r0, r1⟩ := unhide HQ wc (Keeps.below hBx)
  have hql : q.t.length ≤ 250 := hidx.1.1
  have hSq := Sb_size q.t
  have HX := hide hidx
  clear hBx o0 o1 o2 o3 o4 y0 y1 z0 HQ HB0 hpk hpl him hlt1 hidx
  by_cases h5 : kd = 5
  · subst h5
    have hlen := len_idx _ _ _ _ _ _ (unhide HX)
    have hrate := rate_idx _ _ _ _ _ _ (unhide HX)
    go_wp2_with fail
    refine hlen.mono ?_
    rintro en w3 ⟨rfl, hw⟩
    replace hw := hw.symm
    subst hw
    go_wp2_with fail
    refine hrate.mono ?_
    rintro en w3 ⟨rfl, hw⟩
    replace hw := hw.symm
    subst hw
    clear hlen hrate
    go_wp2_with fail
    go_ret
    exact ⟨by simp, StepOut.below (unhide HW) (unhide HB2)⟩
  have e5 : (kd == 5) = false := by simp; omega
  by_cases h6 : kd = 6
  · subst h6
    by_cases hr : 0 ≤ a ∧ a ≤ b ∧ b ≤ q.t.length
    · obtain ⟨A, rfl⟩ : ∃ A : Nat, a = (A : Int) := ⟨a.toNat, by omega⟩
      obtain ⟨C, rfl⟩ : ∃ C : Nat, b = (C : Int) := ⟨b.toNat, by omega⟩
      have hex := extract_yes _ _ _ _ _ A C wc (unhide HX) (by omega) (by omega)
      have hpc : Sb ((q.t.drop A).take (C - A)) = (Sb q.t).extract A C := by
        have := sb_piece (Sb q.t) A C
        rwa [Sb_toList] at this
      rw [hpc] at hex
      clear hpc
      go_wp2_with fail
      refine hex.mono ?_
      rintro en w3 ⟨rfl, G3⟩
      have x1' := cell_grown6 x1 G3
      have p3' := cell_grown6 p3 G3
      have p4' := cell_grown6 p4 G3
      have hrx := rextract_yes q.t q.g A C w3 (cell_grown6 r0 G3) hql (by omega) (by omega)
      have HB3 := hide (below_on (unhide HB2) G3 (Nat.le_refl _))
      generalize (Sb q.t).extract A C = pc at hrx ⊢
      clear hex G3 HB2 x0 x1 p0 p2 p3 p4 r0 r1
      go_wp2_with fail
      refine hrx.mono ?_
      rintro en w4 ⟨rfl, j4, hw4⟩
      have HB4 : Hid (Below w.heap.size w w4) := by rw [hw4]; exact below_drewN (unhide HB3)
      clear hrx hw4 HB3
      go_wp2_with fail
      refine (num_any 0 _ (by omega) (by omega)).mono ?_
      rintro en w5 ⟨rfl, hw⟩
      replace hw := hw.symm
      subst hw
      go_wp2_with fail
      refine (num_any 0 _ (by omega) (by omega)).mono ?_
      rintro en w5 ⟨rfl, hw⟩
      replace hw := hw.symm
      subst hw
      go_wp2_with fail
      go_ret
      exact ⟨by simp, StepOut.below (unhide HW) (unhide HB4)⟩
    · have hex := extract_no _ _ _ _ _ a b wc (unhide HX) hr
      have hrx := rextract_no q.t q.g a b wc r0 hql hr
      go_wp2_with fail
      refine hex.mono ?_
      rintro en w3 ⟨rfl, hw⟩
      replace hw := hw.symm
      subst hw
      go_wp2_with fail
      refine hrx.mono ?_
      rintro en w3 ⟨rfl, hw⟩
      replace hw := hw.symm
      subst hw
      clear hex hrx
      go_wp2_with fail
      refine (num_any 1 _ (by omega) (by omega)).mono ?_
      rintro en w5 ⟨rfl, hw⟩
      replace hw := hw.symm
      subst hw
      go_wp2_with fail
      refine (num_any 1 _ (by omega) (by omega)).mono ?_
      rintro en w5 ⟨rfl, hw⟩
      replace hw := hw.symm
      subst hw
      go_wp2_with fail
      go_ret
      exact ⟨by simp, StepOut.below (unhide HW) (unhide HB2)⟩
  have e6 : (kd == 6) = false := by simp; omega
  by_cases h7 : kd = 7
  · subst h7
    have hct := count_idx _ _ _ _ _ s wc (unhide HX) (by unfold maxLen; omega)
    go_wp2_with fail
    refine hct.mono ?_
    rintro en w3 ⟨rfl, j3, hw3⟩
    have G3 : wc.grownBy w3 none := by rw [hw3]; exact grown_drewN (World.grownBy.refl _ _) j3
    have x1' := cell_grown6 x1 G3
    have p2' := cell_grown6 p2 G3
    have hrc := rcount_any q.t s q.g w3 (cell_grown6 r0 G3) hql (by unfold maxLen; omega)
    have HB3 := hide (below_on (unhide HB2) G3 (Nat.le_refl _))
    generalize (Rot.placesIn q.t s.data.toList).length = c at hrc ⊢
    clear hct G3 HB2 x0 x1 p0 p2 p3 p4 r0 r1 hw3
    go_wp2_with fail
    refine hrc.mono ?_
    rintro en w4 ⟨rfl, G4⟩
    have HB4 := hide (below_on (unhide HB3) G4 (Nat.le_refl _))
    clear hrc G4 HB3
    go_wp2_with fail
    go_ret
    exact ⟨by simp, StepOut.below (unhide HW) (unhide HB4)⟩
  have e7 : (kd == 7) = false := by simp; omega
  go_wp2_with fail
  go_ret
  exact ⟨rfl, StepOut.below (unhide HW) (unhide HB2)⟩
end Go.Proofs.YthlincikgdblfaaGreat

namespace Go.Proofs.YthlincikgdblfaaGreat
set_option linter.unusedVariables false
open Go.RowKit

theorem step_upto (s : ByteArray) (kd a k b : Int) (lv : Value) (zs : List Int) (g : Nat) (v : Value) (ps : List Pr) (w : World) (hW : Wv g w v ps) (hk8 : kd ≠ 8) (hk : -9223372036854775808 ≤ k ∧ k ≤ 9223372036854775807) (hL : LOk w lv zs) (hs : s.size ≤ 140737488351232) (hps : (ps.length + 1) * 16 ≤ 140737488355328) :
    Calls Tryz.prog 24 #[.pointer (some ⟨g, 0, none⟩), .agg #[.int .i64 kd, .int .i64 k, .string s, .int .i64 a, .int .i64 b, lv]] w fun en w' => en = .returned (.bool true) ∧ StepOut g v ps w w' := by
  by_cases h1 : kd = 1
  · subst h1
    obtain ⟨x, e, h0, h4, hB, hR⟩ := same_any s a (by unfold maxLen; omega)
    refine (step_build x s e a k b lv g h0 h4 hB hR w).mono ?_
    rintro en w' ⟨h1, h2⟩
    exact ⟨h1, StepOut.below hW h2⟩
  by_cases h2 : kd = 2
  · subst h2
    exact step_load s a k b lv zs g v ps w hW hL hs hps
  by_cases h3 : kd = 3
  · subst h3
    exact step_made s a k b lv zs g v ps w hW hL (by unfold maxLen; omega) hps
  by_cases h4 : kd = 4
  · subst h4
    exact step_none s a k b lv g v ps w hW
  exact step_ask s kd a k b lv g v ps w hW h1 h2 h3 h4 hk8 hk hs (by omega)
/-- Step i of a script that may load. -/
def IsOp2 (w : World) (b off i : Nat) : Prop := ∃ (kd x : Int) (s : ByteArray) (a y : Int) (lv : Value) (zs : List Int), (-9223372036854775808 ≤ kd ∧ kd ≤ 9223372036854775807) ∧ (-9223372036854775808 ≤ x ∧ x ≤ 9223372036854775807) ∧ (-9223372036854775808 ≤ a ∧ a ≤ 9223372036854775807) ∧ s.size ≤ 140737488351232 ∧ LOk w lv zs ∧
  w.cell? ⟨b, off + i * 6, none⟩ = some (.int .i64 kd) ∧ w.cell? ⟨b, off + i * 6 + 1, none⟩ = some (.int .i64 x) ∧ w.cell? ⟨b, off + i * 6 + 2, none⟩ = some (.string s) ∧ w.cell? ⟨b, off + i * 6 + 3, none⟩ = some (.int .i64 a) ∧ w.cell? ⟨b, off + i * 6 + 4, none⟩ = some (.int .i64 y) ∧ w.cell? ⟨b, off + i * 6 + 5, none⟩ = some lv
def IsScript2 (w : World) (a : Option Addr) (len : Nat) : Prop := len = 0 ∨ ∃ b off, a = some ⟨b, off, none⟩ ∧ len * 72 ≤ 140737488351232 ∧ ∀ i, i < len → IsOp2 w b off i
/-- Behind k steps. -/
def PlW (w : World) (len : Nat) (ok i : Value) (wr : World) : Prop := ∃ (k : Nat) (v : Value) (ps : List Pr), k ≤ len ∧ ok = .bool true ∧ i = .int .i64 (k : Int) ∧ Below w.heap.size w wr ∧ Wv w.heap.size wr v ps ∧ ps.length ≤ k + 2 ∧ wr.cell? ⟨w.heap.size, 1, none⟩ = some (.slice none 0 0)
theorem PlW.mk {w : World} {len : Nat} {ok i : Value} {wr : World} (k : Nat) (v : Value) (ps : List Pr) (h1 : k ≤ len) (h2 : ok = .bool true) (h3 : i = .int .i64 (k : Int)) (h4 : Below w.heap.size w wr) (h5 : Wv w.heap.size wr v ps) (h6 : ps.length ≤ k + 2) (h7 : wr.cell? ⟨w.heap.size, 1, none⟩ = some (.slice none 0 0)) : PlW w len ok i wr := ⟨k, v, ps, h1, h2, h3, h4, h5, h6, h7⟩
theorem lok_nil (w : World) : LOk w (.slice none 0 0) [] := ⟨ints_nil w, fun n c e => (by cases e; rfl), fun a n c e => (by cases e), by simp⟩
/-- The world of a script, just made. -/
theorem Wv.new (w : World) (ty : TypeId) : Wv w.heap.size (w.alloc (.cells #[.slice none 0 0, .slice none 0 0, .slice none 0 0] ty)) (.slice none 0 0) [] := by
  refine ⟨cells_new8 w [.slice none 0 0, .slice none 0 0, .slice none 0 0] ty 0 (by simp), ?_, World.ownsRow_nil _ _ _ _, fun q hq => by cases hq⟩
  go_simp
set_option maxRecDepth 100000 in
set_option maxHeartbeats 2000000 in
theorem played6 (a0 : Option Addr) (len cap : Nat) (w : World) (hA : IsScript2 w a0 len) :
    Calls Tryz.prog 11 #[.slice a0 len cap, .int .i64 6] w fun e w' => e = .returned (.bool true) ∧ Below w.heap.size w w' := by
  have hlen : len * 72 ≤ 140737488351232 := by
    rcases hA with rfl | ⟨_, _, _, h, _⟩
    · omega
    · exact h
  have HA := hide hA
  have W0 := Wv.new w 55
  have l0 := cells_new8 w [.slice none 0 0, .slice none 0 0, .slice none 0 0] 55 1 (by simp)
  simp only [List.getElem_cons_zero, List.getElem_cons_succ] at l0
  have HB0 : Hid (Below w.heap.size w (w.alloc (.cells #[.slice none 0 0, .slice none 0 0, .slice none 0 0] 55))) := Below.alloc0 _
  have hst := step_upto ⟨#[97, 98, 97]⟩ 1 2 0 0 (.slice none 0 0) [] w.heap.size _ [] _ W0 (by decide) (by decide) (lok_nil _) (by decide) (by simp)
  have HL0 := hide l0
  clear hA W0 l0
  go_enter Tryz.func11, Tryz.ntmps11
  go_wp2_with fail
  refine hst.mono ?_
  rintro e w1 ⟨rfl, v1, ps1, W1, hp1, U1⟩
  have l1 := (U1.cells 1 (by decide)).trans (unhide HL0)
  have HB1 := hide ((unhide HB0).trans U1.below)
  have hst2 := step_upto ⟨#[97, 98, 97]⟩ 3 2 0 0 (.slice none 0 0) [] w.heap.size v1 ps1 w1 W1 (by decide) (by decide) (lok_nil _) (by decide) (by simp at hp1; omega)
  simp only [List.length_nil] at hp1
  have HU1 := hide U1
  clear hst HB0 HL0 U1 W1
  go_wp2_with fail
  refine hst2.mono ?_
  rintro e w2 ⟨rfl, v2, ps2, W2, hp2, U2⟩
  have l2 := (U2.cells 1 (by decide)).trans l1
  have P0 : PlW w len (.bool true) (.int .i64 0) w2 := PlW.mk 0 v2 ps2 (by omega) rfl rfl ((unhide HB1).trans U2.below) W2 (by omega) l2
  clear hst2 U2 W2 l1 l2 HB1
  go_wp2_with fail
  go_loopw [6, 7] (fun ok i wr => PlW w len ok i wr) (fun _ i _ => len - (intOf i).toNat)
  case atStart => exact P0
  case round =>
    obtain ⟨k, v, ps, hk, rfl, rfl, B2, W, hps, c1⟩ := hrel
    clear P0
    by_cases hlt : k < len
    · rcases unhide HA with h0 | ⟨b, off, rfl, _, hop⟩
      · omega
      obtain ⟨kd, x, s, a, y, lv, zs, hkb, hxb, hab, hs, hL, q0, q1, q2, q3, q4, q5⟩ := hop k hlt
      have hb : b < w.heap.size := World.block_lt_of_cell? w _ q0
      have q0 := (B2.cell (p := ⟨b, off + k * 6, none⟩) hb).trans q0
      have q1 := (B2.cell (p := ⟨b, off + k * 6 + 1, none⟩) hb).trans q1
      have q2 := (B2.cell (p := ⟨b, off + k * 6 + 2, none⟩) hb).trans q2
      have q3 := (B2.cell (p := ⟨b, off + k * 6 + 3, none⟩) hb).trans q3
      have q4 := (B2.cell (p := ⟨b, off + k * 6 + 4, none⟩) hb).trans q4
      have q5 := (B2.cell (p := ⟨b, off + k * 6 + 5, none⟩) hb).trans q5
      have hL2 := hL.below B2 (Nat.le_refl _)
      have HB2 := hide B2
      have HW := hide W
      obtain ⟨kk1, kk2⟩ := hkb
      clear hop B2 hL
      by_cases hkd : kd ≤ 6
      · have HST := hide (step_upto s kd a x y lv zs w.heap.size v ps wr W (by omega) hxb hL2 hs (by omega))
        have hdk : decide (kd ≤ 6) = true := by simpa using hkd
        clear W hL2
        go_wp2_with fail
        refine (unhide HST).mono ?_
        rintro e w3 ⟨rfl, v3, ps3, W3, hp3, U3⟩
        have d1 := (U3.cells 1 (by decide)).trans c1
        have HB3 := hide ((unhide HB2).trans U3.below)
        have HW3 := hide W3
        clear HST c1 q0 q1 q2 q3 q4 q5 HB2 U3 W3 HW
        go_wp2_with fail
        refine (looks_any w.heap.size _ d1).mono ?_
        rintro e w4 ⟨rfl, hw4⟩
        replace hw4 := hw4.symm
        subst hw4
        go_wp2_with fail
        go_roundw
        case rel =>
          first | exact PlW.mk (k + 1) v3 ps3 (by omega) rfl (by go_num) (unhide HB3) (unhide HW3) (by omega) d1 | (repeat apply Exists.intro; refine ⟨?_, rfl⟩; exact PlW.mk (k + 1) v3 ps3 (by omega) rfl (by go_num) (unhide HB3) (unhide HW3) (by omega) d1)
        case measure => simp [intOf]; omega
      · have hdk : decide (kd ≤ 6) = false := by simpa using hkd
        clear W hL2
        go_wp2_with fail
        refine (looks_any w.heap.size _ c1).mono ?_
        rintro e w4 ⟨rfl, hw4⟩
        replace hw4 := hw4.symm
        subst hw4
        clear q0 q1 q2 q3 q4 q5
        go_wp2_with fail
        go_roundw
        case rel =>
          first | exact PlW.mk (k + 1) v ps (by omega) rfl (by go_num) (unhide HB2) (unhide HW) (by omega) c1 | (repeat apply Exists.intro; refine ⟨?_, rfl⟩; exact PlW.mk (k + 1) v ps (by omega) rfl (by go_num) (unhide HB2) (unhide HW) (by omega) c1)
        case measure => simp [intOf]; omega
    · have ek : k = len := by omega
      subst ek
      have HB2 := hide B2
      clear B2 W
      go_wp2_with fail
      go_ret
      exact ⟨rfl, unhide HB2⟩
theorem loads_walk (a0 : Option Addr) (len cap : Nat) (w : World) (hA : IsScript2 w a0 len) :
    Calls Tryz.prog 4 #[.slice a0 len cap] w fun e w' => e = .returned (.bool true) ∧ Below w.heap.size w w' := by
  go_enter Tryz.func4, Tryz.ntmps4
  go_wp2_with fail
  refine (played6 a0 len cap w hA).mono ?_
  rintro e w1 ⟨rfl, B1⟩
  go_wp2_with fail
  go_ret
  exact ⟨rfl, B1⟩
end Go.Proofs.YthlincikgdblfaaGreat
