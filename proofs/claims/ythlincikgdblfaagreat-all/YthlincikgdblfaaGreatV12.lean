import Derived.Test.YthlincikgdblfaaGreatV11
import Derived.Test.YthlincikgdblfaaGreatV02
import Derived.Test.YthlincikgdblfaaGreatV08
import Derived.Test.YthlincikgdblfaaGreatV05
namespace Go.Proofs.YthlincikgdblfaaGreat
open Go.RowKit
set_option linter.unusedVariables false
namespace Rot
/-- The numbers that stand one behind the other. -/
def numAt (l : List UInt8) (i : Nat) : Nat := ((l[2 * i]?).getD 0).toNat + 256 * ((l[2 * i + 1]?).getD 0).toNat
def nums (l : List UInt8) (c : Nat) : List Nat := (List.range c).map (numAt l)
theorem nums_len (l : List UInt8) (c : Nat) : (nums l c).length = c := by simp [nums]
theorem nums_get (l : List UInt8) (c i : Nat) (hi : i < (nums l c).length) : (nums l c)[i]'hi = numAt l i := by simp [nums]
theorem numAt_lt (l : List UInt8) (i : Nat) : numAt l i < 65536 := by
  have h1 := ((l[2 * i]?).getD 0).toNat_lt
  have h2 := ((l[2 * i + 1]?).getD 0).toNat_lt
  unfold numAt
  omega
theorem le16_num (a b : UInt8) : le16 (a.toNat + 256 * b.toNat) = [a, b] := by
  have ha : a.toNat < 256 := a.toNat_lt
  have hb : b.toNat < 256 := b.toNat_lt
  unfold le16
  have e1 : UInt8.ofNat (a.toNat + 256 * b.toNat) = a := by
    apply UInt8.toNat_inj.1
    simp
  have e2 : UInt8.ofNat ((a.toNat + 256 * b.toNat) / 256) = b := by
    apply UInt8.toNat_inj.1
    simp
    omega
  rw [e1, e2]
theorem nums_bytes (l : List UInt8) : ∀ c, 2 * c ≤ l.length → (nums l c).flatMap le16 = l.take (2 * c)
  | 0, _ => by simp [nums]
  | c + 1, h => by
    have ih := nums_bytes l c (by omega)
    unfold nums at ih ⊢
    rw [List.range_succ, List.map_append, List.flatMap_append, ih]
    simp only [List.map_cons, List.map_nil, List.flatMap_cons, List.flatMap_nil, List.append_nil]
    unfold numAt
    rw [le16_num, List.getElem?_eq_getElem (by omega), List.getElem?_eq_getElem (by omega)]
    have e : 2 * (c + 1) = 2 * c + 1 + 1 := by omega
    rw [e, List.take_succ_eq_append_getElem (by omega), List.take_succ_eq_append_getElem (by omega)]
    simp only [Option.getD_some, List.append_assoc, List.cons_append, List.nil_append]
end Rot
/-- A reader has gone on: it has l to read. -/
def Adv (w w' : World) (b g : Nat) (l : List UInt8) : Prop := ∃ v', Vw w g v' l ∧ w' = w.setCell ⟨b, 0, none⟩ v'
theorem Adv.rdr {w w' : World} {b g : Nat} {v : Value} {l l' : List UInt8} (h : Rdr w b g v l) (k : Adv w w' b g l') : ∃ v', Rdr w' b g v' l' := by
  obtain ⟨v', hv, rfl⟩ := k
  exact ⟨v', h.set hv⟩
theorem Adv.grown {w w' : World} {b g : Nat} {l : List UInt8} (k : Adv w w' b g l) : w.grownBy w' (some b) := by
  obtain ⟨v', hv, rfl⟩ := k
  exact grown_setCell _ _ _ _
theorem num8_yes (b g : Nat) (v : Value) (a : UInt8) (l : List UInt8) (w : World) (h : Rdr w b g v (a :: l)) :
    Calls Tryz.prog 78 #[.pointer (some ⟨b, 0, none⟩)] w fun e w' => e = .returned (.int .u8 ((a.toNat : Nat) : Int)) ∧ Adv w w' b g l := by
  have HB := hide (bytes_yes b g v (a :: l) 1 w h (by simp))
  go_enter Tryz.func78, Tryz.ntmps78
  go_wp2_with fail
  refine (width8 _).mono ?_
  rintro e w0 ⟨rfl, hw0⟩
  subst hw0
  go_wp2_with fail
  refine (unhide HB).mono ?_
  rintro e w1 ⟨u, rfl, hu, v', hv', rfl⟩
  have HR := hide (read8_any g u a [] (w0.setCell ⟨b, 0, none⟩ v') (hu.setCell h.ne))
  go_wp2_with fail
  refine (unhide HR).mono ?_
  rintro e w2 ⟨rfl, hw2⟩
  subst hw2
  go_wp2_with fail
  go_ret
  exact ⟨rfl, v', hv', rfl⟩
theorem num8_no (b g : Nat) (v : Value) (l : List UInt8) (w : World) (h : Rdr w b g v l) (hl : l.length < 1) :
    Calls Tryz.prog 78 #[.pointer (some ⟨b, 0, none⟩)] w fun e w' => e = .panicked (gu 4) ∧ w' = w := by
  have HB := hide (bytes_no b g v l 1 w h hl)
  go_enter Tryz.func78, Tryz.ntmps78
  go_wp2_with fail
  refine (width8 _).mono ?_
  rintro e w0 ⟨rfl, hw0⟩
  subst hw0
  go_wp2_with fail
  refine (unhide HB).mono ?_
  rintro e w1 ⟨rfl, rfl⟩
  go_wp2_with fail
  exact ⟨rfl, rfl, rfl⟩
theorem num16_yes (b g : Nat) (v : Value) (a c : UInt8) (l : List UInt8) (w : World) (h : Rdr w b g v (a :: c :: l)) :
    Calls Tryz.prog 77 #[.pointer (some ⟨b, 0, none⟩)] w fun e w' => e = .returned (.int .u16 ((a.toNat + 256 * c.toNat : Nat) : Int)) ∧ Adv w w' b g l := by
  have HB := hide (bytes_yes b g v (a :: c :: l) 2 w h (by simp))
  go_enter Tryz.func77, Tryz.ntmps77
  go_wp2_with fail
  refine (width16 _).mono ?_
  rintro e w0 ⟨rfl, hw0⟩
  subst hw0
  go_wp2_with fail
  refine (unhide HB).mono ?_
  rintro e w1 ⟨u, rfl, hu, v', hv', rfl⟩
  have HR := hide (read16_any g u a c [] (w0.setCell ⟨b, 0, none⟩ v') (hu.setCell h.ne))
  go_wp2_with fail
  refine (unhide HR).mono ?_
  rintro e w2 ⟨rfl, hw2⟩
  subst hw2
  go_wp2_with fail
  go_ret
  exact ⟨rfl, v', hv', rfl⟩
theorem num16_no (b g : Nat) (v : Value) (l : List UInt8) (w : World) (h : Rdr w b g v l) (hl : l.length < 2) :
    Calls Tryz.prog 77 #[.pointer (some ⟨b, 0, none⟩)] w fun e w' => e = .panicked (gu 4) ∧ w' = w := by
  have HB := hide (bytes_no b g v l 2 w h hl)
  go_enter Tryz.func77, Tryz.ntmps77
  go_wp2_with fail
  refine (width16 _).mono ?_
  rintro e w0 ⟨rfl, hw0⟩
  subst hw0
  go_wp2_with fail
  refine (unhide HB).mono ?_
  rintro e w1 ⟨rfl, rfl⟩
  go_wp2_with fail
  exact ⟨rfl, rfl, rfl⟩
theorem num32_yes (b g : Nat) (v : Value) (a c d f : UInt8) (l : List UInt8) (w : World) (h : Rdr w b g v (a :: c :: d :: f :: l)) :
    Calls Tryz.prog 79 #[.pointer (some ⟨b, 0, none⟩)] w fun e w' => e = .returned (.int .u32 ((a.toNat + 256 * c.toNat + 65536 * d.toNat + 16777216 * f.toNat : Nat) : Int)) ∧ Adv w w' b g l := by
  have HB := hide (bytes_yes b g v (a :: c :: d :: f :: l) 4 w h (by simp))
  go_enter Tryz.func79, Tryz.ntmps79
  go_wp2_with fail
  refine (width32 _).mono ?_
  rintro e w0 ⟨rfl, hw0⟩
  subst hw0
  go_wp2_with fail
  refine (unhide HB).mono ?_
  rintro e w1 ⟨u, rfl, hu, v', hv', rfl⟩
  have HR := hide (read32_any g u a c d f [] (w0.setCell ⟨b, 0, none⟩ v') (hu.setCell h.ne))
  go_wp2_with fail
  refine (unhide HR).mono ?_
  rintro e w2 ⟨rfl, hw2⟩
  subst hw2
  go_wp2_with fail
  go_ret
  exact ⟨rfl, v', hv', rfl⟩
theorem num32_no (b g : Nat) (v : Value) (l : List UInt8) (w : World) (h : Rdr w b g v l) (hl : l.length < 4) :
    Calls Tryz.prog 79 #[.pointer (some ⟨b, 0, none⟩)] w fun e w' => e = .panicked (gu 4) ∧ w' = w := by
  have HB := hide (bytes_no b g v l 4 w h hl)
  go_enter Tryz.func79, Tryz.ntmps79
  go_wp2_with fail
  refine (width32 _).mono ?_
  rintro e w0 ⟨rfl, hw0⟩
  subst hw0
  go_wp2_with fail
  refine (unhide HB).mono ?_
  rintro e w1 ⟨rfl, rfl⟩
  go_wp2_with fail
  exact ⟨rfl, rfl, rfl⟩

theorem by16_length (d : List Nat) : (by16 d).length = d.length := by simp [by16]
/-- So many numbers laid, the rest still zero. -/
def laid (l : List UInt8) (c k : Nat) : List Nat := (List.range c).map fun i => if i < k then Rot.numAt l i else 0
theorem laid_len (l : List UInt8) (c k : Nat) : (laid l c k).length = c := by simp [laid]
theorem laid_zero (l : List UInt8) (c : Nat) : by16 (laid l c 0) = List.replicate c (.int .u16 0) := by
  apply List.ext_getElem
  · simp [by16, laid]
  · intro i h1 h2
    simp [by16, laid]
theorem laid_all (l : List UInt8) (c : Nat) : laid l c c = Rot.nums l c := by
  unfold laid Rot.nums
  apply List.map_congr_left
  intro i hi
  rw [if_pos (List.mem_range.1 hi)]
theorem laid_set (l : List UInt8) (c k : Nat) (hk : k < c) : (by16 (laid l c k)).set k (.int .u16 (Rot.numAt l k : Int)) = by16 (laid l c (k + 1)) := by
  apply List.ext_getElem
  · simp [by16, laid]
  · intro i h1 h2
    have hi : i < c := by simpa [by16, laid] using h2
    rw [List.getElem_set]
    by_cases e : k = i
    · subst e
      simp [by16, laid]
    · rw [if_neg e]
      simp only [by16, laid, List.getElem_map, List.getElem_range]
      by_cases h3 : i < k
      · rw [if_pos h3, if_pos (by omega)]
      · rw [if_neg h3, if_neg (by omega)]
theorem drop_two {l : List UInt8} {k : Nat} (h : 2 * k + 1 < l.length) : ∃ a b : UInt8, l.drop (2 * k) = a :: b :: l.drop (2 * (k + 1)) ∧ a.toNat + 256 * b.toNat = Rot.numAt l k := by
  refine ⟨l[2 * k]'(by omega), l[2 * k + 1]'h, ?_, ?_⟩
  · rw [List.drop_eq_getElem_cons (by omega), List.drop_eq_getElem_cons h, show 2 * k + 1 + 1 = 2 * (k + 1) by omega]
  · unfold Rot.numAt
    rw [List.getElem?_eq_getElem (by omega), List.getElem?_eq_getElem h]
    rfl
/-- Behind k numbers. -/
structure NumsAt (w wr : World) (b g N c k : Nat) (l : List UInt8) : Prop where
  rdr : ∃ v, Rdr wr b g v (l.drop (2 * k))
  row : wr.ownsRow N 67 1 (.slice (some ⟨N, 0, none⟩) c c) c (by16 (laid l c k))
  grown : w.grownBy wr (some b)
/-- What Numbers leaves. -/
structure NumsOut (w w' : World) (b g c : Nat) (l : List UInt8) : Prop where
  rdr : ∃ v, Rdr w' b g v (l.drop (2 * c))
  row : Us w' w.heap.size (.slice (some ⟨w.heap.size, 0, none⟩) c c) (Rot.nums l c)
  grown : w.grownBy w' (some b)
set_option maxHeartbeats 1000000 in
theorem nums_any (b g : Nat) (v : Value) (l : List UInt8) (c : Nat) (w : World) (h : Rdr w b g v l) (hg : g < w.heap.size) (hc2 : c ≤ 1000) :
    Calls Tryz.prog 114 #[.pointer (some ⟨b, 0, none⟩), .int .i64 c] w fun e w' => (2 * c ≤ l.length ∧ e = .returned (.slice (some ⟨w.heap.size, 0, none⟩) c c) ∧ NumsOut w w' b g c l) ∨ (l.length < 2 * c ∧ e = .panicked (gu 4) ∧ w.grownBy w' (some b)) := by
  obtain ⟨i0, hi, hz0, hz1, hz2⟩ := info_parts info16
  have HB := hide h
  have hbl := h.lt
  clear h
  go_enter Tryz.func114, Tryz.ntmps114
  go_wp2_with (at_make; refine wpList_make_full _ rfl _ _ 66 rfl w.heap.size 67 i0 (.int .u16 0) 1 Tryz.underlying66 hi hz0 hz1 .i64 .i64 _ _ c rfl rfl ?l1 ?l2 ?m1 ?m2 ?m3 ?_)
  case l1 => omega
  case l2 => omega
  case m1 => rw [hz2]; omega
  case m2 => unfold maxLen; omega
  case m3 => exact Nat.le_refl _
  intro w0 O0 G0
  have N0 : NumsAt w w0 b g w.heap.size c 0 l := by
    refine ⟨⟨v, ?_⟩, ?_, grown_weak G0 _⟩
    · exact (unhide HB).grown G0 (by simp) (by simp) hg
    · rw [laid_zero]
      rw [toList_madeCells_one] at O0
      simpa using O0
  clear O0 G0 HB
  go_wp2_with fail
  go_loopw [11] (fun i wr => ∃ k : Nat, k ≤ c ∧ 2 * k ≤ l.length ∧ i = .int .i64 k ∧ NumsAt w wr b g w.heap.size c k l) (fun i _ => c - (intOf i).toNat)
  case atStart => exact ⟨0, Nat.zero_le _, by omega, rfl, N0⟩
  case round =>
    obtain ⟨k, hk, hk2, rfl, hN⟩ := hrel
    clear N0
    obtain ⟨⟨u, hr⟩, hrow, hgr⟩ := hN
    by_cases hlt : k < c
    · by_cases hen : 2 * k + 1 < l.length
      case neg =>
        have hcon := num16_no b g u _ wr hr (by rw [List.length_drop]; omega)
        have HG := hide hgr
        clear hr hrow hgr
        go_wp2_with fail
        refine hcon.mono ?_
        rintro e w2 ⟨rfl, rfl⟩
        clear hcon
        go_wp2_with fail
        exact ⟨rfl, Or.inr ⟨by omega, rfl, unhide HG⟩⟩
      obtain ⟨x, y, hxy, hnum⟩ := drop_two (l := l) (k := k) hen
      rw [hxy] at hr
      have hcon := num16_yes b g u x y _ wr hr
      rw [hnum] at hcon
      have HR := hide hr
      have HW := hide hrow
      have HG := hide hgr
      clear hr hrow hgr hxy hnum
      go_wp2_with fail
      refine hcon.mono ?_
      rintro e w2 ⟨rfl, hadv⟩
      clear hcon
      obtain ⟨v2, hr2⟩ := hadv.rdr (unhide HR)
      have hgr2 := hadv.grown
      have hrow2 : w2.ownsRow w.heap.size 67 1 (.slice (some ⟨w.heap.size, 0, none⟩) c c) c (by16 (laid l c k)) := World.ownsRow.kept (unhide HW) hgr2 (Or.inr (by intro e; simp [Value.ownBlock] at e; omega))
      have hcell := World.ownsRow.cells hrow2 (g := w.heap.size) rfl k (.int .u16 (((laid l c k)[k]'(by rw [laid_len]; exact hlt) : Nat) : Int)) (by simp [by16, laid_len, hlt])
      rw [addr_add] at hcell
      have hf := World.ownsRow.frozenAt hrow2 k
      have HS := hide (World.ownsRow.stored hrow2 k (.int .u16 (Rot.numAt l k : Int)))
      have HR2 := hide hr2
      have HG2 := hide hgr2
      generalize (((laid l c k)[k]'(by rw [laid_len]; exact hlt) : Nat) : Int) = zz at hcell
      clear hrow2 hr2 hgr2 hadv HR HW
      go_wp2_with fail
      go_roundw
      case rel =>
        have hs := unhide HS
        have hlt2 : w.heap.size < w2.heap.size := World.block_lt_of_cell? w2 ⟨w.heap.size, k, none⟩ hcell
        refine ⟨k + 1, by omega, by omega, by go_num, ⟨_, (unhide HR2).grown hs.2 (by intro e; cases e; omega) (by intro e; cases e; omega) (by omega)⟩, ?_, ?_⟩
        · rw [← laid_set _ _ _ hlt]
          exact hs.1
        · exact grown_trans (grown_trans (unhide HG) (unhide HG2) (Or.inl rfl)) hs.2 (Or.inr ⟨_, rfl, Nat.le_refl _⟩)
      case measure => simp [intOf]; omega
    · have hk' : k = c := by omega
      subst hk'
      have HR := hide hr
      have HW := hide hrow
      have HG := hide hgr
      clear hr hrow hgr
      go_wp2_with fail
      go_ret
      refine Or.inl ⟨hk2, rfl, ⟨_, unhide HR⟩, ?_, unhide HG⟩
      have := unhide HW
      rw [laid_all] at this
      unfold Us
      rw [Rot.nums_len]
      exact this
end Go.Proofs.YthlincikgdblfaaGreat

namespace Go.Proofs.YthlincikgdblfaaGreat
set_option linter.unusedVariables false
namespace Rot

theorem pow_byte (k : Nat) (hk : k < 8) : (UInt8.ofNat (2 ^ k)).toNat = 2 ^ k := by
  rw [UInt8.toNat_ofNat']
  match k, hk with
  | 0, _ => rfl
  | 1, _ => rfl
  | 2, _ => rfl
  | 3, _ => rfl
  | 4, _ => rfl
  | 5, _ => rfl
  | 6, _ => rfl
  | 7, _ => rfl

/-- The packed bytes hold the bits, and nothing behind them. -/
theorem packed_bit_aux : ∀ (n : Nat) (l : List Bool), l.length = n → ∀ k, (((rowOf l).packed[k / 8]?).getD 0).toNat.testBit (k % 8) = (l[k]?).getD false := by
  intro n
  induction n with
  | zero =>
    intro l hl k
    obtain rfl := List.eq_nil_of_length_eq_zero hl
    simp [rowOf, Row.none]
  | succ n ihn =>
    intro l0 hl0 k
    rcases List.eq_nil_or_concat l0 with rfl | ⟨l, b, rfl⟩
    · simp at hl0
    rw [List.concat_eq_append] at hl0 ⊢
    have ih := ihn l (by simpa using hl0)
    have f := row_fits l
    have c := row_count l
    have hpl := f.packed
    rw [c] at hpl
    rw [rowOf_snoc]
    simp only [Row.add, addBit]
    rw [c]
    generalize (rowOf l).packed = q at ih hpl
    have p1 : ∀ j : Nat, (((if l.length % 8 = 0 then q ++ [0] else q : List UInt8)[j]?).getD 0 : UInt8) = (q[j]?).getD 0 := by
      intro j
      by_cases h8 : l.length % 8 = 0
      · rw [if_pos h8]
        by_cases hj : j < q.length
        · rw [List.getElem?_append_left hj]
        · rw [List.getElem?_append_right (by omega), List.getElem?_eq_none (l := q) (by omega)]
          by_cases hj0 : j - q.length = 0
          · rw [hj0]; rfl
          · rw [List.getElem?_eq_none (by simp; omega)]
      · rw [if_neg h8]
    have p1l : l.length / 8 < (if l.length % 8 = 0 then q ++ [0] else q).length := by
      by_cases h8 : l.length % 8 = 0
      · rw [if_pos h8, List.length_append, hpl]; simp; omega
      · rw [if_neg h8, hpl]; omega
    generalize (if l.length % 8 = 0 then q ++ [0] else q) = p at p1 p1l
    cases b with
    | false =>
      simp only [Bool.false_eq_true, if_false]
      rw [p1, ih]
      by_cases hk : k < l.length
      · rw [List.getElem?_append_left hk]
      · rw [List.getElem?_append_right (by omega), List.getElem?_eq_none (l := l) (by omega)]
        by_cases hk0 : k - l.length = 0
        · rw [hk0]; rfl
        · rw [List.getElem?_eq_none (by simp; omega)]
    | true =>
      simp only [if_true]
      rw [p1, List.getElem?_set]
      by_cases hkn : l.length / 8 = k / 8
      · rw [if_pos hkn, if_pos p1l]
        simp only [Option.getD_some]
        rw [UInt8.toNat_or, Nat.testBit_or, pow_byte _ (Nat.mod_lt _ (by decide)), Nat.testBit_two_pow, hkn, ih]
        by_cases hk : k < l.length
        · have : ¬ l.length % 8 = k % 8 := by omega
          rw [List.getElem?_append_left hk]
          simp [this]
        · by_cases hk0 : k = l.length
          · subst hk0
            rw [List.getElem?_append_right (Nat.le_refl _)]
            simp
          · have : ¬ l.length % 8 = k % 8 := by omega
            rw [List.getElem?_append_right (by omega), List.getElem?_eq_none (l := l) (by omega), List.getElem?_eq_none (l := [true]) (by simp; omega)]
            simp [this]
      · rw [if_neg hkn, p1, ih]
        by_cases hk : k < l.length
        · rw [List.getElem?_append_left hk]
        · have hk0 : ¬ k = l.length := by intro e; subst e; exact hkn rfl
          rw [List.getElem?_append_right (by omega), List.getElem?_eq_none (l := l) (by omega), List.getElem?_eq_none (l := [true]) (by simp; omega)]

theorem packed_bit (l : List Bool) (k : Nat) : (((rowOf l).packed[k / 8]?).getD 0).toNat.testBit (k % 8) = (l[k]?).getD false := packed_bit_aux _ l rfl k

theorem bits_inj {a b : List Bool} (hl : a.length = b.length) (h : bitsOf a = bitsOf b) : a = b := by
  unfold bitsOf Row.bytes at h
  have e : (rowOf a).packed = (rowOf b).packed := (List.append_inj h (by rw [(row_fits a).packed, (row_fits b).packed, row_count, row_count, hl])).1
  apply List.ext_getElem?
  intro k
  by_cases hk : k < a.length
  · have hk2 : k < b.length := by omega
    have h1 := packed_bit a k
    have h2 := packed_bit b k
    rw [e, h2, List.getElem?_eq_getElem hk, List.getElem?_eq_getElem hk2] at h1
    rw [List.getElem?_eq_getElem hk, List.getElem?_eq_getElem hk2]
    simp only [Option.getD_some] at h1
    rw [h1]
  · rw [List.getElem?_eq_none (by omega), List.getElem?_eq_none (by omega)]

theorem level_inj (m : UInt8) {a b : List UInt8} (hl : a.length = b.length) (h : levelOf m a = levelOf m b) : (a.map fun c => !(c &&& m == 0)) = (b.map fun c => !(c &&& m == 0)) := by
  unfold levelOf at h
  exact bits_inj (by simp [hl]) (List.append_inj h rfl).2

/-- Parted by a bit, each side in its order. -/
def partOf {α : Type} (l : List (Bool × α)) : List α := (l.filter fun x => !x.1).map (·.2) ++ (l.filter fun x => x.1).map (·.2)
theorem part_inj2 {α : Type} : ∀ (l l' : List (Bool × α)), l.map (·.1) = l'.map (·.1) → (l.filter fun x => !x.1).map (·.2) = (l'.filter fun x => !x.1).map (·.2) → (l.filter fun x => x.1).map (·.2) = (l'.filter fun x => x.1).map (·.2) → l = l'
  | [], [], _, _, _ => rfl
  | [], _ :: _, h, _, _ => by simp at h
  | _ :: _, [], h, _, _ => by simp at h
  | (b, x) :: l, (b', x') :: l', h, h1, h2 => by
    have ih := part_inj2 l l'
    simp only [List.map_cons, List.cons.injEq] at h
    obtain ⟨rfl, h⟩ := h
    cases b with
    | true =>
      simp at h1 h2
      rw [h2.1, ih h (by simpa using h1) (by simpa using h2.2)]
    | false =>
      simp at h1 h2
      rw [h1.1, ih h (by simpa using h1.2) (by simpa using h2)]
theorem part_inj {α : Type} {l l' : List (Bool × α)} (h : l.map (·.1) = l'.map (·.1)) (hp : partOf l = partOf l') : l = l' := by
  unfold partOf at hp
  have hlen : ((l.filter fun x => !x.1).map (·.2)).length = ((l'.filter fun x => !x.1).map (·.2)).length := by
    have : ∀ q : List (Bool × α), ((q.filter fun x => !x.1).map (·.2)).length = ((q.map (·.1)).filter fun b => !b).length := by
      intro q
      induction q with
      | nil => rfl
      | cons a q ih => rcases a with ⟨b, x⟩; cases b <;> simpa using ih
    rw [this, this, h]
  obtain ⟨h1, h2⟩ := List.append_inj hp hlen
  exact part_inj2 l l' h h1 h2

theorem next_part {β : Type} (g : UInt8 → β) (m : UInt8) (a : List UInt8) : (nextOf m a).map g = partOf (a.map fun c => (!(c &&& m == 0), g c)) := by
  unfold nextOf zerosOf onesOf partOf
  rw [List.map_append]
  congr 1
  · induction a with
    | nil => rfl
    | cons c a ih => cases h : (c &&& m == 0) <;> simp [h] <;> simpa using ih
  · induction a with
    | nil => rfl
    | cons c a ih => cases h : (c &&& m == 0) <;> simp [h] <;> simpa using ih

/-- The low bits of a byte, by one bit more. -/
theorem low_step (k : Nat) (hk : k < 8) (c d : UInt8) (h1 : (!(c &&& UInt8.ofNat (2 ^ (7 - k)) == 0)) = !(d &&& UInt8.ofNat (2 ^ (7 - k)) == 0)) (h2 : c.toNat % 2 ^ (7 - k) = d.toNat % 2 ^ (7 - k)) : c.toNat % 2 ^ (8 - k) = d.toNat % 2 ^ (8 - k) := by
  have hb : ∀ c : UInt8, (!(c &&& UInt8.ofNat (2 ^ (7 - k)) == 0)) = c.toNat.testBit (7 - k) := by
    intro c
    have e : (c &&& UInt8.ofNat (2 ^ (7 - k)) == 0) = ((c &&& UInt8.ofNat (2 ^ (7 - k))).toNat == 0) := by
      rw [Bool.eq_iff_iff, beq_iff_eq, beq_iff_eq]
      constructor
      · intro h; rw [h]; rfl
      · intro h; exact UInt8.toNat_inj.1 h
    rw [e, UInt8.toNat_and, pow_byte _ (by omega)]
    generalize c.toNat = x
    generalize 7 - k = i
    cases hx : x.testBit i with
    | true =>
      have h1 : (x &&& 2 ^ i).testBit i = true := by rw [Nat.testBit_and, hx, Nat.testBit_two_pow]; simp
      have h0 : x &&& 2 ^ i ≠ 0 := by
        intro e0
        rw [e0] at h1
        simp at h1
      simp [h0]
    | false =>
      have h0 : x &&& 2 ^ i = 0 := by
        apply Nat.eq_of_testBit_eq
        intro j
        rw [Nat.testBit_and, Nat.testBit_two_pow]
        by_cases hj : i = j
        · subst hj; simp [hx]
        · simp [hj]
      simp [h0]
  rw [hb, hb] at h1
  have e8 : 8 - k = (7 - k) + 1 := by omega
  rw [e8]
  apply Nat.eq_of_testBit_eq
  intro i
  have hmod : ∀ x : Nat, ∀ i, (x % 2 ^ (7 - k)).testBit i = (decide (i < 7 - k) && x.testBit i) := fun x i => Nat.testBit_mod_two_pow x _ i
  rw [Nat.testBit_mod_two_pow, Nat.testBit_mod_two_pow]
  by_cases hi : i < 7 - k
  · have a1 := hmod c.toNat i
    have a2 := hmod d.toNat i
    rw [h2, a2] at a1
    simp only [hi, decide_true, Bool.true_and] at a1
    rw [a1]
  · by_cases hi2 : i = 7 - k
    · subst hi2; rw [h1]
    · have : ¬ i < 7 - k + 1 := by omega
      simp [this]

theorem tree_parts {a b : List UInt8} (hl : a.length = b.length) : ∀ k, (treeTo a k).1 = (treeTo b k).1 → ∀ j, j < k → levelOf (UInt8.ofNat (2 ^ (7 - j))) (treeTo a j).2 = levelOf (UInt8.ofNat (2 ^ (7 - j))) (treeTo b j).2 := by
  intro k
  induction k with
  | zero => intro _ j hj; omega
  | succ k ih =>
    intro h j hj
    simp only [treeTo] at h
    have hlen : (treeTo a k).1.length = (treeTo b k).1.length := by rw [(tree_len a k).2, (tree_len b k).2, hl]
    obtain ⟨h1, h2⟩ := List.append_inj h hlen
    by_cases hjk : j = k
    · subst hjk; exact h2
    · exact ih h1 j (by omega)

theorem mod_one (A B : List UInt8) (h : A.length = B.length) : (A.map fun c => c.toNat % 2 ^ 0) = (B.map fun c => c.toNat % 2 ^ 0) := by
  apply List.ext_getElem?
  intro j
  simp only [Nat.pow_zero, Nat.mod_one, List.getElem?_map]
  by_cases hj : j < A.length
  · rw [List.getElem?_eq_getElem hj, List.getElem?_eq_getElem (by omega)]
    rfl
  · rw [List.getElem?_eq_none (by omega), List.getElem?_eq_none (by omega)]

theorem tree_inj {a b : List UInt8} (hl : a.length = b.length) (h : treeOf a = treeOf b) : a = b := by
  have hp := tree_parts hl 8 h
  have key : ∀ i, i ≤ 8 → ((treeTo a (8 - i)).2.map fun c => c.toNat % 2 ^ i) = ((treeTo b (8 - i)).2.map fun c => c.toNat % 2 ^ i) := by
    intro i
    induction i with
    | zero =>
      intro _
      exact mod_one _ _ (by rw [(tree_len a _).1, (tree_len b _).1, hl])
    | succ i ih =>
      intro hi
      have ih' := ih (by omega)
      have e1 : 8 - i = (8 - (i + 1)) + 1 := by omega
      have hk : 8 - (i + 1) < 8 := by omega
      have hlev := hp (8 - (i + 1)) hk
      rw [e1] at ih'
      generalize hkk : 8 - (i + 1) = k at ih' hlev hk
      have hi7 : i = 7 - k := by omega
      subst hi7
      simp only [treeTo] at ih'
      rw [next_part, next_part] at ih'
      have hL : (treeTo a k).2.length = (treeTo b k).2.length := by rw [(tree_len a k).1, (tree_len b k).1, hl]
      have hbits := level_inj _ hL hlev
      have hpair := part_inj (by rw [List.map_map, List.map_map]; exact hbits) ih'
      apply List.ext_getElem?
      intro j
      rw [List.getElem?_map, List.getElem?_map]
      by_cases hj : j < (treeTo a k).2.length
      · have hj2 : j < (treeTo b k).2.length := by omega
        rw [List.getElem?_eq_getElem hj, List.getElem?_eq_getElem hj2]
        have hx : (((treeTo a k).2.map fun c => (!(c &&& UInt8.ofNat (2 ^ (7 - k)) == 0), c.toNat % 2 ^ (7 - k))))[j]? = (((treeTo b k).2.map fun c => (!(c &&& UInt8.ofNat (2 ^ (7 - k)) == 0), c.toNat % 2 ^ (7 - k))))[j]? := by rw [hpair]
        rw [List.getElem?_map, List.getElem?_map, List.getElem?_eq_getElem hj, List.getElem?_eq_getElem hj2] at hx
        simp only [Option.map_some, Option.some.injEq, Prod.mk.injEq] at hx
        simp only [Option.map_some, Option.some.injEq]
        have := low_step k hk _ _ hx.1 hx.2
        rw [show 7 - k + 1 = 8 - k by omega]
        exact this
      · rw [List.getElem?_eq_none (by omega), List.getElem?_eq_none (by omega)]
  have h8 := key 8 (Nat.le_refl _)
  simp only [Nat.sub_self, treeTo] at h8
  apply List.ext_getElem?
  intro j
  by_cases hj : j < a.length
  · have hj2 : j < b.length := by omega
    have hx : (a.map fun c => c.toNat % 2 ^ 8)[j]? = (b.map fun c => c.toNat % 2 ^ 8)[j]? := by rw [h8]
    rw [List.getElem?_map, List.getElem?_map, List.getElem?_eq_getElem hj, List.getElem?_eq_getElem hj2] at hx
    simp only [Option.map_some, Option.some.injEq] at hx
    rw [List.getElem?_eq_getElem hj, List.getElem?_eq_getElem hj2]
    have c1 := (a[j]).toNat_lt
    have c2 := (b[j]).toNat_lt
    congr 1
    apply UInt8.toNat_inj.1
    omega
  · rw [List.getElem?_eq_none (by omega), List.getElem?_eq_none (by omega)]
end Rot
end Go.Proofs.YthlincikgdblfaaGreat

namespace Go.Proofs.YthlincikgdblfaaGreat
open Go.RowKit
set_option linter.unusedVariables false

def Bo (w : World) (base : Nat) (v : Value) (l : List Bool) : Prop := w.ownsRow base 4 1 v l.length (l.map Value.bool)
theorem Bo.form {w : World} {base : Nat} {v : Value} {l : List Bool} (h : Bo w base v l) : (v = .slice none 0 0 ∧ l = []) ∨ ∃ g cap, v = .slice (some ⟨g, 0, none⟩) l.length cap ∧ base ≤ g ∧ g < w.heap.size ∧ l.length ≤ cap := by
  rcases h.2 with ⟨hv, hn⟩ | ⟨g, cap, cur, hv, hb, hg, hc, _⟩
  · exact Or.inl ⟨hv, List.eq_nil_of_length_eq_zero hn⟩
  · exact Or.inr ⟨g, cap, hv, hb, (Array.getElem?_eq_some_iff.1 hg).1, hc⟩
theorem Bo.cell {w : World} {base : Nat} {l : List Bool} {g n cap : Nat} (h : Bo w base (.slice (some ⟨g, 0, none⟩) n cap) l) (j : Nat) (hj : j < l.length) : w.cell? ⟨g, j, none⟩ = some (.bool (l[j]'hj)) := by
  have := World.ownsRow.cells h (g := g) rfl j (.bool (l[j]'hj)) (by simp [hj])
  rw [addr_add] at this
  exact this

/-- The j-th packed byte. -/
def pbyte (l : List Bool) (j : Nat) : UInt8 := ((Rot.rowOf l).packed[j]?).getD 0
theorem pbyte_bit (l : List Bool) (j k : Nat) (hk : k < 8) : (pbyte l j).toNat.testBit k = (l[8 * j + k]?).getD false := by
  have := Rot.packed_bit l (8 * j + k)
  rw [show (8 * j + k) / 8 = j by omega, show (8 * j + k) % 8 = k by omega] at this
  exact this
theorem pbyte_step (l : List Bool) (j k : Nat) (hk : k < 8) : (pbyte l j).toNat % 2 ^ (k + 1) = (pbyte l j).toNat % 2 ^ k + if (l[8 * j + k]?).getD false then 2 ^ k else 0 := by
  have hb := pbyte_bit l j k hk
  rw [Nat.testBit_eq_decide_div_mod_eq] at hb
  rw [Nat.pow_succ, Nat.mod_mul]
  have hlt2 : (pbyte l j).toNat / 2 ^ k % 2 < 2 := Nat.mod_lt _ (by decide)
  generalize (pbyte l j).toNat / 2 ^ k % 2 = d at hb hlt2 ⊢
  generalize hd2 : 2 ^ k = p
  cases hg : (l[8 * j + k]?).getD false with
  | true =>
    rw [hg] at hb
    have : d = 1 := by simpa using hb
    subst this
    simp
  | false =>
    rw [hg] at hb
    have h1 : d ≠ 1 := by simpa using hb
    have : d = 0 := by omega
    subst this
    simp
theorem pbyte_end (l : List Bool) (j k : Nat) (h : 8 ≤ k ∨ l.length ≤ 8 * j + k) : (pbyte l j).toNat % 2 ^ k = (pbyte l j).toNat := by
  apply Nat.mod_eq_of_lt
  rcases h with h | h
  · exact Nat.lt_of_lt_of_le (pbyte l j).toNat_lt (Nat.pow_le_pow_right (by decide) h)
  · apply Nat.lt_pow_two_of_testBit
    intro i hi
    by_cases h8 : i < 8
    · rw [pbyte_bit l j i h8, List.getElem?_eq_none (by omega)]
      rfl
    · exact Nat.testBit_lt_two_pow (Nat.lt_of_lt_of_le (pbyte l j).toNat_lt (Nat.pow_le_pow_right (by decide) (by omega : 8 ≤ i)))
theorem packed_take (l : List Bool) (j : Nat) (hj : j < (Rot.rowOf l).packed.length) : (Rot.rowOf l).packed.take (j + 1) = (Rot.rowOf l).packed.take j ++ [pbyte l j] := by
  rw [List.take_succ_eq_append_getElem hj]
  unfold pbyte
  rw [List.getElem?_eq_getElem hj]
  rfl
theorem conv_one (x : Int) (b : UInt8) (hx : x = (b.toNat : Int)) : ∀ w : World, (convert 45 9 (.slice (some ⟨w.heap.size, 0, none⟩) 1 1)).run Tryz.prog (w.alloc (.cells #[.int .u8 x] 5)) = .ok (.string (Sb [b])) (w.alloc (.cells #[.int .u8 x] 5)) := by
  intro w
  subst hx
  exact conv_lit w [b] _ rfl (by simp)

/-- Within a byte: q bits are laid. -/
def InByte (l : List Bool) (j q p bv : Nat) : Prop := p = 2 ^ q ∧ bv = (pbyte l j).toNat % 2 ^ q
def InByteV (l : List Bool) (j : Nat) (b v k : Value) : Prop := ∃ q p bv : Nat, q ≤ 8 ∧ 8 * j + q ≤ l.length ∧ k = .int .i64 ((8 * j + q : Nat) : Int) ∧ v = .int .i64 (p : Int) ∧ b = .int .i64 (bv : Int) ∧ InByte l j q p bv
theorem InByteV.mk {l : List Bool} {j : Nat} {b v k : Value} (q p bv : Nat) (h1 : q ≤ 8) (h2 : 8 * j + q ≤ l.length) (h3 : k = .int .i64 ((8 * j + q : Nat) : Int)) (h4 : v = .int .i64 (p : Int)) (h5 : b = .int .i64 (bv : Int)) (h6 : InByte l j q p bv) : InByteV l j b v k := ⟨q, p, bv, h1, h2, h3, h4, h5, h6⟩
/-- Within the directory: q bits are passed. -/
def InDir (l : List Bool) (q on : Nat) (o : Value) : Prop := on = (Rot.rowOf (l.take q)).ones ∧ o = .string (Sb ((Rot.rowOf l).packed ++ (Rot.rowOf (l.take q)).ahead.flatMap Rot.le16))

def InDirV (l : List Bool) (o n k : Value) : Prop := ∃ q on : Nat, q ≤ l.length ∧ k = .int .i64 (q : Int) ∧ n = .int .i64 (on : Int) ∧ InDir l q on o
theorem InDirV.mk {l : List Bool} {o n k : Value} (q on : Nat) (h1 : q ≤ l.length) (h2 : k = .int .i64 (q : Int)) (h3 : n = .int .i64 (on : Int)) (h4 : InDir l q on o) : InDirV l o n k := ⟨q, on, h1, h2, h3, h4⟩

set_option maxRecDepth 100000 in
set_option maxHeartbeats 1000000 in
theorem rbits_any (B : Nat) (v : Value) (l : List Bool) (w : World) (h : Bo w B v l) (hl : l.length < 1000) :
    Calls Tryz.prog 107 #[v] w fun e w' => e = .returned (.string (Sb (Rot.bitsOf l))) ∧ w.grownBy w' none := by
  rcases h.form with ⟨rfl, rfl⟩ | ⟨g, cap, rfl, hg1, hg2, hg3⟩
  · go_enter Tryz.func107, Tryz.ntmps107
    go_wp2_with fail
    refine wp_loop_rounds 1 ?_
    rw [rounds_succ]
    go_wp2_with fail
    refine wp_loop_rounds 1 ?_
    rw [rounds_succ]
    go_wp2_with fail
    go_ret
    exact ⟨rfl, World.grownBy.refl _ _⟩
  · have HU := hide h
    have hpl : (Rot.rowOf l).packed.length = (l.length + 7) / 8 := by rw [(row_fits l).packed, row_count]
    clear h
    go_enter Tryz.func107, Tryz.ntmps107
    go_wp2_with fail
    go_loopw [3, 4, 5, 6, 7] (fun o i _b _v _k wr => ∃ j : Nat, j ≤ (l.length + 7) / 8 ∧ i = .int .i64 ((8 * j : Nat) : Int) ∧ o = .string (Sb ((Rot.rowOf l).packed.take j)) ∧ w.grownBy wr none) (fun _ i _ _ _ _ => l.length + 8 - (intOf i).toNat)
    case atStart => exact ⟨0, Nat.zero_le _, rfl, rfl, World.grownBy.refl _ _⟩
    case round =>
      obtain ⟨j, hj, rfl, rfl, G⟩ := hrel
      by_cases hlt : 8 * j < l.length
      · have HG := hide G
        obtain ⟨wo, hwo⟩ : ∃ wo : World, wo = wr := ⟨_, rfl⟩
        rw [← hwo] at HG G ⊢
        clear hwo
        have hc := Bo.cell (ownsRow_kept0 (unhide HU) G)
        have HC := hide hc
        clear hc G
        go_wp2_with fail
        go_loop [5, 6, 7] (fun b v k => InByteV l j b v k) (fun _ _ k => 8 * j + 9 - (intOf k).toNat)
        case atStart => exact InByteV.mk 0 1 0 (by omega) (by omega) rfl rfl rfl ⟨rfl, by rw [Nat.pow_zero, Nat.mod_one]⟩
        case round =>
          obtain ⟨q, p, bv, hq, hq2, rfl, rfl, rfl, hp, hbv⟩ := hrel
          have hp2 : p ≤ 256 := by rw [hp]; exact Nat.pow_le_pow_right (by decide) hq
          have hb2 : bv ≤ 255 := by
            rw [hbv]
            have := (pbyte l j).toNat_lt
            exact Nat.le_trans (Nat.mod_le _ _) (by omega)
          by_cases hin : q < 8 ∧ 8 * j + q < l.length
          · obtain ⟨q8, ql⟩ := hin
            have hck := unhide HC (8 * j + q) ql
            have HST := hide (pbyte_step l j q q8)
            have HP := hide hp
            have HBV := hide hbv
            have HQ := hide (List.getElem?_eq_getElem ql)
            cases hbit : l[8 * j + q]'ql with
            | true =>
              rw [hbit] at hck
              have HBIT := hide hbit
              clear hp hbv hbit
              go_wp2
              go_round
              case rel =>
                have hI : InByte l j (q + 1) (2 * p) (bv + p) := by
                  refine ⟨by rw [unhide HP, Nat.pow_succ]; omega, ?_⟩
                  rw [unhide HST, unhide HQ, unhide HBIT, unhide HBV, unhide HP]
                  rfl
                first | exact InByteV.mk (q + 1) (2 * p) (bv + p) (by omega) (by omega) (by go_num) (by go_num) (by go_num) hI | (refine ⟨_, _, _, ?_, rfl, rfl, rfl⟩; exact InByteV.mk (q + 1) (2 * p) (bv + p) (by omega) (by omega) (by go_num) (by go_num) (by go_num) hI)
              case measure => simp [intOf]; omega
            | false =>
              rw [hbit] at hck
              have HBIT := hide hbit
              clear hp hbv hbit
              go_wp2
              go_round
              case rel =>
                have hI : InByte l j (q + 1) (2 * p) (bv) := by
                  refine ⟨by rw [unhide HP, Nat.pow_succ]; omega, ?_⟩
                  rw [unhide HST, unhide HQ, unhide HBIT, unhide HBV]
                  rfl
                first | exact InByteV.mk (q + 1) (2 * p) bv (by omega) (by omega) (by go_num) (by go_num) (by go_num) hI | (refine ⟨_, _, _, ?_, rfl, rfl, rfl⟩; exact InByteV.mk (q + 1) (2 * p) bv (by omega) (by omega) (by go_num) (by go_num) (by go_num) hI)
              case measure => simp [intOf]; omega
          · have hend : bv = (pbyte l j).toNat := by
              rw [hbv]
              exact pbyte_end l j q (by omega)
            have hcv := conv_one (bv : Int) (pbyte l j) (by rw [hend])
            have HA := hide (Sb_append ((Rot.rowOf l).packed.take j) [pbyte l j])
            have HPT := hide (packed_take l j (by omega))
            have z1 : (Sb ((Rot.rowOf l).packed.take j)).size ≤ 1000 := Sb_le (by rw [List.length_take]; omega)
            have z2 : (Sb [pbyte l j]).size ≤ 1000 := Sb_le (by simp)
            clear hp hbv hend hpl
            have HG2 := hide (fun o : Obj => grown_alloc (unhide HG) o)
            by_cases h8 : q < 8
            · have hle : l.length ≤ 8 * j + q := by omega
              go_wp2_with fail
              go_roundw
              case rel => exact ⟨j + 1, by omega, by go_num, by rw [unhide HPT, ← unhide HA], unhide HG2 _⟩
              case measure => simp [intOf]; omega
            · have hle : 8 ≤ q := by omega
              go_wp2_with fail
              go_roundw
              case rel => exact ⟨j + 1, by omega, by go_num, by rw [unhide HPT, ← unhide HA], unhide HG2 _⟩
              case measure => simp [intOf]; omega
      · have hjj : j = (l.length + 7) / 8 := by omega
        have e : (Rot.rowOf l).packed.take j = (Rot.rowOf l).packed := List.take_of_length_le (by omega)
        rw [e]
        clear e hjj
        go_wp2_with fail
        go_loopw [3, 8, 9] (fun o n k wr2 => InDirV l o n k ∧ w.grownBy wr2 none) (fun _ _ k _ => l.length - (intOf k).toNat)
        case atStart => exact ⟨InDirV.mk 0 0 (Nat.zero_le _) rfl rfl ⟨rfl, by simp [Rot.rowOf, Rot.Row.none]⟩, G⟩
        case round =>
          obtain ⟨⟨q, on, hq, rfl, rfl, ⟨hon, rfl⟩⟩, G2⟩ := hrel
          have hfit := row_fits (l.take q)
          have hcnt := row_count (l.take q)
          rw [List.length_take] at hcnt
          have hon2 : on ≤ 1000 := by rw [hon]; have := hfit.ones; omega
          by_cases hlt2 : q < l.length
          · have hck := Bo.cell (ownsRow_kept0 (unhide HU) G2) q hlt2
            have hcnt2 : (Rot.rowOf (l.take q)).count = q := by omega
            have hsn : Rot.rowOf (l.take (q + 1)) = (Rot.rowOf (l.take q)).add (l[q]'hlt2) := by
              rw [List.take_succ_eq_append_getElem hlt2, rowOf_snoc]
            have hal := hfit.ahead
            have hzs : ((Rot.rowOf l).packed ++ (Rot.rowOf (l.take q)).ahead.flatMap Rot.le16).length ≤ 1000 := by
              rw [List.length_append, flat_len, hpl, hal]
              omega
            have z1 := Sb_le hzs
            have z2 := Sb_two on
            have HSN := hide hsn
            have HON := hide hon
            have HCN := hide hcnt2
            clear hon hcnt hcnt2 hfit hsn hal hzs hpl
            generalize hD : (Rot.rowOf (l.take q)) = R at z1 HSN HON HCN
            clear hD
            by_cases h16 : q % 16 = 0
            · have t16 : ((q : Int) % 16 == 0) = true := by simp; omega
              have H16 := hide h16
              have HA := hide (Sb_append ((Rot.rowOf l).packed ++ R.ahead.flatMap Rot.le16) (Rot.le16 on))
              clear h16
              go_wp2_with fail
              refine (two_any on _ (by omega)).mono ?_
              rintro e w3 ⟨rfl, G3⟩
              have hck3 : w3.cell? ⟨g, q, none⟩ = some (.bool (l[q]'hlt2)) := G3.cell hck (by simp)
              have HG3 := hide (grown_trans G2 G3 (Or.inl rfl))
              clear hck G2 G3
              cases hbit : l[q]'hlt2 with
              | true =>
                rw [hbit] at hck3 HSN
                clear hbit
                go_wp2_with fail
                go_roundw
                case rel =>
                  have hI : ∀ X : Value, X = .string (Sb ((Rot.rowOf l).packed ++ (Rot.rowOf (l.take (q + 1))).ahead.flatMap Rot.le16)) → InDir l (q + 1) (on + 1) X := by
                    intro X hX
                    refine ⟨?_, hX⟩
                    rw [unhide HSN, unhide HON]; rfl
                  repeat apply Exists.intro
                  refine ⟨?_, rfl⟩
                  refine ⟨InDirV.mk (q + 1) (on + 1) (by omega) (by go_num) (by go_num) (hI _ ?_), unhide HG3⟩
                  rw [unhide HSN, unhide HA]; simp only [Rot.Row.add, Rot.addAhead, unhide HCN, unhide H16, if_true, List.flatMap_append]; simp [unhide HON]
                case measure => simp [intOf]; omega
              | false =>
                rw [hbit] at hck3 HSN
                clear hbit
                go_wp2_with fail
                go_roundw
                case rel =>
                  have hI : ∀ X : Value, X = .string (Sb ((Rot.rowOf l).packed ++ (Rot.rowOf (l.take (q + 1))).ahead.flatMap Rot.le16)) → InDir l (q + 1) (on) X := by
                    intro X hX
                    refine ⟨?_, hX⟩
                    rw [unhide HSN, unhide HON]; rfl
                  repeat apply Exists.intro
                  refine ⟨?_, rfl⟩
                  refine ⟨InDirV.mk (q + 1) (on) (by omega) (by go_num) (by go_num) (hI _ ?_), unhide HG3⟩
                  rw [unhide HSN, unhide HA]; simp only [Rot.Row.add, Rot.addAhead, unhide HCN, unhide H16, if_true, List.flatMap_append]; simp [unhide HON]
                case measure => simp [intOf]; omega
            · have t16 : ((q : Int) % 16 == 0) = false := by simp; omega
              have H16 := hide h16
              have HG3 := hide G2
              clear h16 G2
              cases hbit : l[q]'hlt2 with
              | true =>
                rw [hbit] at hck HSN
                clear hbit
                go_wp2_with fail
                go_roundw
                case rel =>
                  have hI : ∀ X : Value, X = .string (Sb ((Rot.rowOf l).packed ++ (Rot.rowOf (l.take (q + 1))).ahead.flatMap Rot.le16)) → InDir l (q + 1) (on + 1) X := by
                    intro X hX
                    refine ⟨?_, hX⟩
                    rw [unhide HSN, unhide HON]; rfl
                  first | exact ⟨InDirV.mk (q + 1) (on + 1) (by omega) (by go_num) (by go_num) (hI _ (by rw [unhide HSN]; simp only [Rot.Row.add, Rot.addAhead, unhide HCN, unhide H16, if_false])), unhide HG3⟩ | ((repeat apply Exists.intro); exact ⟨⟨InDirV.mk (q + 1) (on + 1) (by omega) (by go_num) (by go_num) (hI _ (by rw [unhide HSN]; simp only [Rot.Row.add, Rot.addAhead, unhide HCN, unhide H16, if_false])), unhide HG3⟩, rfl⟩)
                case measure => simp [intOf]; omega
              | false =>
                rw [hbit] at hck HSN
                clear hbit
                go_wp2_with fail
                go_roundw
                case rel =>
                  have hI : ∀ X : Value, X = .string (Sb ((Rot.rowOf l).packed ++ (Rot.rowOf (l.take (q + 1))).ahead.flatMap Rot.le16)) → InDir l (q + 1) (on) X := by
                    intro X hX
                    refine ⟨?_, hX⟩
                    rw [unhide HSN, unhide HON]; rfl
                  first | exact ⟨InDirV.mk (q + 1) (on) (by omega) (by go_num) (by go_num) (hI _ (by rw [unhide HSN]; simp only [Rot.Row.add, Rot.addAhead, unhide HCN, unhide H16, if_false])), unhide HG3⟩ | ((repeat apply Exists.intro); exact ⟨⟨InDirV.mk (q + 1) (on) (by omega) (by go_num) (by go_num) (hI _ (by rw [unhide HSN]; simp only [Rot.Row.add, Rot.addAhead, unhide HCN, unhide H16, if_false])), unhide HG3⟩, rfl⟩)
                case measure => simp [intOf]; omega
          · have e : l.take q = l := List.take_of_length_le (by omega)
            rw [e]
            have HG2 := hide G2
            clear G2 hon hfit hcnt e
            go_wp2_with fail
            go_ret
            exact ⟨rfl, unhide HG2⟩
end Go.Proofs.YthlincikgdblfaaGreat

namespace Go.Proofs.YthlincikgdblfaaGreat
open Go.RowKit
set_option linter.unusedVariables false

theorem infoB : (Tryz.prog.info? 4).map (fun i => (i.zero, i.size, i.bytes)) = some (some (.bool false), 1, 1) := by kernel_rfl
theorem bo_one (l : List Bool) : ∀ u ∈ l.map Value.bool, u.oneCell' = true := by
  intro u hu
  simp only [List.mem_map] at hu
  obtain ⟨b, _, rfl⟩ := hu
  rfl
/-- APPEND OF ONE BOOL, which lies in a new block. -/
theorem wp_appBo (w : World) {ops : Array Oper} {rest : List Oper} {o : Oper} {a : Act} {Q : Exit → Act → World → Prop} (hgd : o.guard = none) (s x : Operand)
    (ho : o.op = .call { callee := .builtin .append, args := #[s, x], argTypes := #[154, 154] })
    (B : Nat) (v : Value) (l : List Bool) (hs : a.eval s = v) (W : World) (b : Bool) (hw : w = W.alloc (.cells #[.bool b] 4)) (hx : a.eval x = .slice (some ⟨W.heap.size, 0, none⟩) 1 1) (hown : Bo W B v l)
    (hl : l.length < 1000000) (hB : B ≤ W.heap.size)
    (h : ∀ v' w', Bo w' B v' (l ++ [b]) → W.grownBy w' v.ownBlock → wpList Tryz.prog ops Q rest (a.put o.dst v') w') : wpList Tryz.prog ops Q (o :: rest) a w := by
  subst hw
  obtain ⟨i0, hi, hz0, hz1, hz2⟩ := info_parts infoB
  refine wpList_append_own_at _ hgd s x 154 ho B 4 i0 (.bool false) 1 1 Tryz.underlying154 hi hz0 hz1 hz2 rfl (by decide) v l.length (l.map Value.bool) hs (World.ownsRow.alloc hown _) ⟨W.heap.size, 0, none⟩ 1 1 ([b].map Value.bool) hx rfl (cell_one_new _ _ _) (bo_one [b]) (by unfold maxLen; omega) (by omega) (by simp; omega) ?_
  intro v' w' h1 h2 h3 h4
  refine h v' w' ?_ (grown_trans (World.grownBy_alloc W _ _) h2 (Or.inl rfl))
  unfold Bo; rw [List.map_append, List.length_append]; exact h1
theorem Bo.fresh {w wr w1 : World} {u : Value} {l : List Bool} (A : Bo wr w.heap.size u l) (G : w.grownBy wr none) (g : wr.grownBy w1 u.ownBlock) : w.grownBy w1 none :=
  grown_trans G g (by
    cases eo : u.ownBlock with
    | none => exact Or.inl rfl
    | some j => exact Or.inr ⟨j, rfl, (World.ownsRow.lt A j eo).1⟩)
theorem extract_one (s : ByteArray) (k : Nat) (hk : k < s.size) : s.extract k (k + 1) = Sb [s[k]'hk] := by
  apply ByteArray.ext
  simp [Sb]
  apply Array.ext'
  rw [Array.toList_extract]
  simp only [List.extract_eq_take_drop, Nat.add_sub_cancel_left]
  rw [List.drop_eq_getElem_cons (by simpa using hk)]
  simp
  rfl
theorem bit_test (i : Nat) (hi : i < 8) (c : UInt8) : ((c.toNat : Int) / ((2 ^ i : Nat) : Int) % 2 == 1) = !(c &&& UInt8.ofNat (2 ^ i) == 0) := by
  have hb : (!(c &&& UInt8.ofNat (2 ^ i) == 0)) = c.toNat.testBit i := by
    have e : (c &&& UInt8.ofNat (2 ^ i) == 0) = ((c &&& UInt8.ofNat (2 ^ i)).toNat == 0) := by
      rw [Bool.eq_iff_iff, beq_iff_eq, beq_iff_eq]
      constructor
      · intro h; rw [h]; rfl
      · intro h; exact UInt8.toNat_inj.1 h
    rw [e, UInt8.toNat_and, Rot.pow_byte _ hi]
    generalize c.toNat = x
    cases hx : x.testBit i with
    | true =>
      have h1 : (x &&& 2 ^ i).testBit i = true := by rw [Nat.testBit_and, hx, Nat.testBit_two_pow]; simp
      have h0 : x &&& 2 ^ i ≠ 0 := by
        intro e0
        rw [e0] at h1
        simp at h1
      simp [h0]
    | false =>
      have h0 : x &&& 2 ^ i = 0 := by
        apply Nat.eq_of_testBit_eq
        intro j
        rw [Nat.testBit_and, Nat.testBit_two_pow]
        by_cases hj : i = j
        · subst hj; simp [hx]
        · simp [hj]
      simp [h0]
  rw [hb, Nat.testBit_eq_decide_div_mod_eq, Bool.eq_iff_iff, beq_iff_eq, decide_eq_true_iff]
  rw [← Int.natCast_ediv]
  omega

/-- Behind k bytes of a level. -/
def LevV (w : World) (s : ByteArray) (m : UInt8) (lv no yes i : Value) (wr : World) : Prop := ∃ k : Nat, k ≤ s.size ∧ i = .int .i64 (k : Int) ∧ Bo wr w.heap.size lv ((s.data.toList.take k).map fun c => !(c &&& m == 0)) ∧ no = .string (Sb (Rot.zerosOf m (s.data.toList.take k))) ∧ yes = .string (Sb (Rot.onesOf m (s.data.toList.take k))) ∧ w.grownBy wr none
theorem LevV.mk {w : World} {s : ByteArray} {m : UInt8} {lv no yes i : Value} {wr : World} (k : Nat) (h1 : k ≤ s.size) (h2 : i = .int .i64 (k : Int)) (h3 : Bo wr w.heap.size lv ((s.data.toList.take k).map fun c => !(c &&& m == 0))) (h4 : no = .string (Sb (Rot.zerosOf m (s.data.toList.take k)))) (h5 : yes = .string (Sb (Rot.onesOf m (s.data.toList.take k)))) (h6 : w.grownBy wr none) : LevV w s m lv no yes i wr := ⟨k, h1, h2, h3, h4, h5, h6⟩

set_option maxRecDepth 100000 in
set_option maxHeartbeats 1000000 in
theorem rlevel_any (s : ByteArray) (i v : Nat) (m : UInt8) (w : World) (hi : i < 8) (hv : v = 2 ^ i) (hm : m = UInt8.ofNat v) (hs : s.size ≤ 250) :
    Calls Tryz.prog 105 #[.string s, .int .i64 v] w fun e w' => e = .returned (.tuple #[.string (Sb (Rot.levelOf m s.data.toList)), .string (Sb (Rot.nextOf m s.data.toList))]) ∧ w.grownBy w' none := by
  have hv2 : v ≤ 256 := by
    have h8 : 2 ^ i ≤ 2 ^ 8 := Nat.pow_le_pow_right (by decide) (by omega)
    rw [hv]; exact h8
  have hv1 : 1 ≤ v := by rw [hv]; exact Nat.two_pow_pos _
  have hv0 : ((v : Int) == 0) = false := by simp; omega
  have HT : Hid (∀ c : UInt8, ((c.toNat : Int) / (v : Int) % 2 == 1) = !(c &&& m == 0)) := by
    intro c
    rw [hm, hv]
    exact bit_test i hi c
  clear hv hm
  have hl : s.data.toList.length = s.size := by simp
  go_enter Tryz.func105, Tryz.ntmps105
  go_wp2_with fail
  go_loopw [6, 7, 8, 9, 10] (fun lv no yes i _one wr => LevV w s m lv no yes i wr) (fun _ _ _ i _ _ => s.size - (intOf i).toNat)
  case atStart => exact LevV.mk 0 (Nat.zero_le _) rfl (World.ownsRow_nil _ _ _ _) rfl rfl (World.grownBy.refl _ _)
  case round =>
    obtain ⟨k, hk, rfl, L, rfl, rfl, G⟩ := hrel
    have zl := zeros_len m (s.data.toList.take k)
    have ol := ones_len m (s.data.toList.take k)
    rw [List.length_take] at zl ol
    have z1 : (Sb (Rot.zerosOf m (s.data.toList.take k))).size ≤ 1000 := Sb_le (by omega)
    have z2 : (Sb (Rot.onesOf m (s.data.toList.take k))).size ≤ 1000 := Sb_le (by omega)
    by_cases hlt : k < s.size
    · have htest := unhide HT (s[k]'hlt)
      have hbt := (s[k]'hlt).toNat_lt
      obtain ⟨q, hq⟩ : ∃ q : Nat, q = (s[k]'hlt).toNat / v := ⟨_, rfl⟩
      have hqi : ((s[k]'hlt).toNat : Int) / (v : Int) = (q : Int) := by rw [hq, Int.natCast_ediv]
      have hq2 : q ≤ 255 := by
        have := Nat.div_le_self (s[k]'hlt).toNat v
        omega
      rw [hqi] at htest
      clear hq
      have hsz := G.size
      have HM := hide (map_snoc (fun c : UInt8 => !(c &&& m == 0)) s.data.toList k (by omega))
      have HZ := hide (take_filter_snoc (fun c : UInt8 => c &&& m == 0) s.data.toList k (by omega))
      have HO := hide (take_filter_snoc (fun c : UInt8 => !(c &&& m == 0)) s.data.toList k (by omega))
      have HK : Hid (∀ h, s.data.toList[k]'h = s[k]'hlt) := fun _ => rfl
      have hex := extract_one s k hlt
      have hll : ((s.data.toList.take k).map fun c => !(c &&& m == 0)).length < 1000000 := by rw [List.length_map, List.length_take]; omega
      have z3 : (Sb [s[k]'hlt]).size ≤ 1 := Sb_le (by simp)
      clear zl ol
      cases hb : ((s[k]'hlt) &&& m == 0) with
      | true =>
        rw [hb] at htest
        simp only [Bool.not_true] at htest
        have HBB := hide hb
        clear hb
        have HA := hide (Sb_append (Rot.zerosOf m (s.data.toList.take k)) [s[k]'hlt])
        go_wp2_with (at_builtin; refine wp_appBo _ rfl (.tmp 25) (.tmp 27) rfl w.heap.size _ ((s.data.toList.take k).map fun c => !(c &&& m == 0)) rfl wr false rfl rfl L hll hsz ?_)
        intro v1 w1 L1 g1
        have HG1 := hide (L.fresh G g1)
        have HL1 := hide L1
        clear L G L1 g1
        go_wp2_with fail
        go_roundw
        case rel =>
          have q1 : Bo w1 w.heap.size v1 ((s.data.toList.take (k + 1)).map fun c => !(c &&& m == 0)) := by
            rw [unhide HM, unhide HK, unhide HBB]
            have hh := unhide HL1
            try rw [← List.map_take] at hh
            exact hh
          have q2 : Rot.zerosOf m (s.data.toList.take (k + 1)) = Rot.zerosOf m (s.data.toList.take k) ++ [s[k]'hlt] := by
            unfold Rot.zerosOf
            rw [unhide HZ, unhide HK, unhide HBB]; rfl
          have q3 : Rot.onesOf m (s.data.toList.take (k + 1)) = Rot.onesOf m (s.data.toList.take k) := by
            unfold Rot.onesOf
            rw [unhide HO, unhide HK, unhide HBB]; simp
          first | exact LevV.mk (k + 1) (by omega) (by go_num) q1 (by rw [q2, ← unhide HA]) (by rw [q3]) (unhide HG1) | (repeat apply Exists.intro; refine ⟨?_, rfl⟩; exact LevV.mk (k + 1) (by omega) (by go_num) q1 (by rw [q2, ← unhide HA]) (by rw [q3]) (unhide HG1))
        case measure => simp [intOf]; omega
      | false =>
        rw [hb] at htest
        simp only [Bool.not_false] at htest
        have HBB := hide hb
        clear hb
        have HA := hide (Sb_append (Rot.onesOf m (s.data.toList.take k)) [s[k]'hlt])
        go_wp2_with (at_builtin; refine wp_appBo _ rfl (.tmp 25) (.tmp 27) rfl w.heap.size _ ((s.data.toList.take k).map fun c => !(c &&& m == 0)) rfl wr true rfl rfl L hll hsz ?_)
        intro v1 w1 L1 g1
        have HG1 := hide (L.fresh G g1)
        have HL1 := hide L1
        clear L G L1 g1
        go_wp2_with fail
        go_roundw
        case rel =>
          have q1 : Bo w1 w.heap.size v1 ((s.data.toList.take (k + 1)).map fun c => !(c &&& m == 0)) := by
            rw [unhide HM, unhide HK, unhide HBB]
            have hh := unhide HL1
            try rw [← List.map_take] at hh
            exact hh
          have q2 : Rot.onesOf m (s.data.toList.take (k + 1)) = Rot.onesOf m (s.data.toList.take k) ++ [s[k]'hlt] := by
            unfold Rot.onesOf
            rw [unhide HO, unhide HK, unhide HBB]; rfl
          have q3 : Rot.zerosOf m (s.data.toList.take (k + 1)) = Rot.zerosOf m (s.data.toList.take k) := by
            unfold Rot.zerosOf
            rw [unhide HZ, unhide HK, unhide HBB]; simp
          first | exact LevV.mk (k + 1) (by omega) (by go_num) q1 (by rw [q3]) (by rw [q2, ← unhide HA]) (unhide HG1) | (repeat apply Exists.intro; refine ⟨?_, rfl⟩; exact LevV.mk (k + 1) (by omega) (by go_num) q1 (by rw [q3]) (by rw [q2, ← unhide HA]) (unhide HG1))
        case measure => simp [intOf]; omega
    · have e : s.data.toList.take k = s.data.toList := List.take_of_length_le (by omega)
      rw [e] at L z1 z2 ⊢
      have zl2 := zeros_len m s.data.toList
      have HL := hide L
      have HG := hide G
      have zsz := Sb_size (Rot.zerosOf m s.data.toList)
      clear e L G zl ol
      generalize hZ : Rot.zerosOf m s.data.toList = Z at z1 zl2 zsz ⊢
      generalize hO : Rot.onesOf m s.data.toList = O at z2 ⊢
      have HZ := hide hZ
      have HO := hide hO
      clear hZ hO
      go_wp2_with fail
      refine (two_any Z.length _ (by omega)).mono ?_
      rintro e w1 ⟨rfl, G1⟩
      have L1 := ownsRow_kept0 (unhide HL) G1
      have HG1 := hide (grown_trans (unhide HG) G1 (Or.inl rfl))
      clear G1 HL HG
      go_wp2_with fail
      refine (rbits_any w.heap.size _ (s.data.toList.map fun c => !(c &&& m == 0)) _ L1 (by rw [List.length_map]; omega)).mono ?_
      rintro e w2 ⟨rfl, G2⟩
      have HG2 := hide (grown_trans (unhide HG1) G2 (Or.inl rfl))
      have z4 := Sb_two Z.length
      have z5 : (Sb (Rot.bitsOf (s.data.toList.map fun c => !(c &&& m == 0)))).size ≤ 1000 := Sb_le (by rw [bits_len, List.length_map]; omega)
      have HE1 := hide (Sb_append (Rot.le16 Z.length) (Rot.bitsOf (s.data.toList.map fun c => !(c &&& m == 0))))
      have HE2 := hide (Sb_append Z O)
      clear G2 HG1 L1
      generalize hbb : Rot.bitsOf (s.data.toList.map fun c => !(c &&& m == 0)) = BB at z5 HE1 ⊢
      have HBB := hide hbb
      clear hbb
      go_wp2_with fail
      go_ret2
      refine ⟨?_, unhide HG2⟩
      unfold Rot.levelOf Rot.nextOf
      rw [unhide HZ, unhide HO, unhide HBB, ← unhide HE1, ← unhide HE2]
      rfl
end Go.Proofs.YthlincikgdblfaaGreat
